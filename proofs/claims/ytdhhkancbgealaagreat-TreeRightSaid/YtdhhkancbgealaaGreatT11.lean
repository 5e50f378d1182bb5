import Derived.Test.YtdhhkancbgealaaGreatT10
section
namespace Go.Proofs.YtdhhkancbgealaaGreat
open Go.RowKit
open Lx
set_option linter.unusedVariables false
set_option linter.unusedSimpArgs false
set_option maxRecDepth 100000
theorem Cl.up {w w' : World} {A : Option Addr} {xs : List Value} (h : Cl w w.heap.size A xs) (hb : Below w.heap.size w w') : Cl w' w'.heap.size A xs := (h.below hb).mono hb.size
theorem cl_nil_of {w : World} {B : Nat} {l : List Int} (h : Cl w B none (vals l)) : l = [] := by
 by_cases hl : l = []
 ·exact hl
 ·obtain ⟨b, o, e, _⟩ := h.ex (by simpa [vals] using hl)
  cases e
set_option maxHeartbeats 800000 in
theorem cloneC_any (A : Option Addr) (n c : Nat) (l : List Int) (w : World) (hl : l.length = n) (hL : Cl w w.heap.size A (vals l)) (hn : n ≤ 1099511627776) :
  Calls Tryz.prog 50 #[.slice A n c] w fun e w' => ∃ A' c', e = .returned (.slice A' n c') ∧ w'.ownsRow w.heap.size 3 1 (.slice A' n c') n (vals l) ∧ Below w.heap.size w w' := by
 cases A with
 | none =>
  obtain rfl := cl_nil_of hL
  obtain rfl : n = 0 := by simpa using hl.symm
  refine (clone_nil 0 c w).mono ?_
  rintro e w' ⟨rfl, rfl⟩
  exact ⟨none, 0, rfl, World.ownsRow_nil _ _ _ _, Below.refl _ _⟩
 | some a =>
  by_cases h0 : l = []
  ·subst h0
   obtain rfl : n = 0 := by simpa using hl.symm
   refine (clone_zero a c w).mono ?_
   rintro e w' ⟨v, rfl, ho, _, hb⟩
   obtain ⟨A', c', rfl⟩ := own_form ho
   exact ⟨A', c', rfl, ho, hb⟩
  ·obtain ⟨b, o, e, hlt, hc⟩ := hL.ex (by simpa [vals] using h0)
   cases e
   refine (clone_some b o n c l w (by omega) (by omega) (fun j hj => ?_)).mono ?_
   ·refine hc j _ ?_
    simp [vals, List.getD, List.getElem?_eq_getElem hj]
   ·rintro e w' ⟨v, rfl, ho, _, hb⟩
    obtain ⟨A', c', rfl⟩ := own_form ho
    refine ⟨A', c', rfl, ?_, hb⟩
    rw [List.take_of_length_le (by omega)] at ho
    exact ho
theorem cloneT_any (A : Option Addr) (n c : Nat) (l : List Int) (w : World) (hl : l.length = n) (hL : Lie w 3 A (vals l)) (hn : n ≤ 1099511627776) :
  Calls Tryz.prog 50 #[.slice A n c] w fun e w' => ∃ A' c', e = .returned (.slice A' n c') ∧ w'.ownsRow w.heap.size 3 1 (.slice A' n c') n (vals l) ∧ Below w.heap.size w w' := cloneC_any A n c l w hl hL.cl hn
theorem compact_short (z : List Int) (hs : z.Pairwise (· ≤ ·)) : (Go.Lib.compact z).length < z.length ↔ ¬ z.Nodup := by
 constructor
 ·intro h hn
  have : Go.Lib.compact z = z := Go.Lib.compact_all z (fun j hj => by
   by_cases h0 : j = 0
   ·subst h0; exact Go.Lib.keeps_lt_one _ 0 (by omega)
   ·refine Go.Lib.keeps_pos ?_
    have h1 := List.pairwise_iff_getElem.1 hn (j - 1) j (by omega) hj (by omega)
    simp only [List.getElem!_toArray, List.getElem!_eq_getElem?_getD, List.getElem?_eq_getElem hj, List.getElem?_eq_getElem (show j - 1 < z.length by omega), Option.getD_some]
    exact fun e => h1 e.symm)
  rw [this] at h; omega
 ·intro hn
  by_cases hc : (Go.Lib.compact z).length < z.length
  ·exact hc
  ·exfalso
   apply hn
   have hk : ∀ j, j < z.length → Go.Lib.keeps z.toArray j = true := by
    have hl : (Go.Lib.compact z).length = ((List.range z.length).filter (Go.Lib.keeps z.toArray)).length := by simp [Go.Lib.compact, Go.Lib.compactUpTo]
    have h2 : ((List.range z.length).filter (Go.Lib.keeps z.toArray)).length = (List.range z.length).length := by
     have := List.length_filter_le (Go.Lib.keeps z.toArray) (List.range z.length)
     simp only [List.length_range] at this ⊢; omega
    intro j hj
    exact List.length_filter_eq_length_iff.1 h2 j (List.mem_range.2 hj)
   have hst : ∀ j (hj : j + 1 < z.length), z[j] < z[j + 1] := by
    intro j hj
    have h1 := List.pairwise_iff_getElem.1 hs j (j + 1) (by omega) hj (by omega)
    have h2 := hk (j + 1) hj
    unfold Go.Lib.keeps at h2
    have h3 := of_decide_eq_true h2
    rcases h3 with h3 | h3
    ·omega
    ·simp only [List.getElem!_toArray, List.getElem!_eq_getElem?_getD, List.getElem?_eq_getElem hj, Nat.add_sub_cancel, List.getElem?_eq_getElem (show j < z.length by omega), Option.getD_some] at h3
     have : z[j] ≠ z[j + 1] := fun e => h3 e.symm
     omega
   refine List.pairwise_iff_getElem.2 fun i j hi hj hij => ?_
   have h1 : z[i] < z[j] := by
    have h4 : j = i + 1 + (j - i - 1) := by omega
    generalize j - i - 1 = d at h4
    subst h4
    clear hij
    induction d with
    | zero => exact hst i hj
    | succ d ih => exact Int.lt_trans (ih (by omega)) (hst (i + 1 + d) (by omega))
   omega
theorem sorted_ints (l : List Int) : (l.mergeSort fun x y => decide (x ≤ y)).Pairwise (· ≤ ·) := by
 have := List.pairwise_mergeSort (le := fun x y : Int => decide (x ≤ y)) (fun a b c h1 h2 => by simp at *; omega) (fun a b => by simp; omega) l
 exact this.imp (fun h => by simpa using h)
theorem twice_iff (l : List Int) : (Go.Lib.compact (l.mergeSort fun x y => decide (x ≤ y))).length < l.length ↔ ¬ l.Nodup := by
 have h := compact_short _ (sorted_ints l)
 rw [List.length_mergeSort] at h
 rw [h, (List.mergeSort_perm l _).nodup_iff]
set_option maxHeartbeats 1600000 in
theorem twiceC_any (A : Option Addr) (n c : Nat) (l : List Int) (w : World) (hl : l.length = n) (hL : Cl w w.heap.size A (vals l)) (hn : n ≤ 1000000) :
  Calls Tryz.prog 81 #[.slice A n c] w fun e w' => e = .returned (.bool (decide (¬ l.Nodup))) ∧ Below w.heap.size w w' := by
 have HT := Lib.hid (twice_iff l)
 have HCL := Lib.hid (cloneC_any A n c l w hl hL (by omega))
 have HL := Lib.hid hl
 obtain ⟨Q, hQ⟩ : ∃ Q : Bool, decide (¬ l.Nodup) = Q := ⟨_, rfl⟩
 rw [hQ]
 have HQ := Lib.hid hQ
 clear hL hl hQ
 go_enter Tryz.func81, Tryz.ntmps81
 go_wp2_with fail
 refine HCL.out.mono ?_
 rintro e w1 ⟨A1, c1, rfl, ho, hb⟩
 have HB := Lib.hid hb
 by_cases h0 : n = 0
 ·subst h0
  have hq : Q = false := by
   rw [← HQ.out]
   have : l = [] := List.eq_nil_of_length_eq_zero HL.out
   subst this; rfl
  subst hq
  clear ho hb
  go_wp2_with fail
  refine (sort_none A1 c1 w1).mono ?_
  rintro e w2 ⟨rfl, rfl⟩
  go_wp2_with fail
  refine (compact_none A1 c1 w2).mono ?_
  rintro e w3 ⟨rfl, rfl⟩
  go_wp2_with fail
  go_ret
  exact ⟨rfl, HB.out⟩
 ·rcases own_shape ho with ⟨_, e, _⟩ | ⟨b, cap, e, h1, h2, h3, h4⟩
  ·exact absurd e h0
  simp only [Value.slice.injEq, true_and] at e
  obtain ⟨rfl, rfl⟩ := e
  have hv : vals l = l.toArray.toList.map (Value.int .i64) := by simp [vals]
  rw [hv] at ho
  have hs := sort_ints b 0 c1 l w1 (holds_own _ ho) h4 (by rw [HL.out]; omega)
  rw [HL.out] at hs
  have HS := Lib.hid hs
  have HO := Lib.hid ho
  clear hs ho hb hv
  go_wp2_with fail
  refine HS.out.mono ?_
  rintro e w2 ⟨rfl, m, os, hw2⟩
  obtain ⟨Z, hZ⟩ : ∃ Z, (l.mergeSort fun x y => decide (x ≤ y)) = Z := ⟨_, rfl⟩
  rw [hZ] at HT hw2
  have hZl : Z.length = n := by rw [← hZ, List.length_mergeSort]; exact HL.out
  obtain ⟨ho2, hg2⟩ := put_own (Value.int .i64) HO.out Z.toArray (by simpa using hZl) m os
  rw [← hw2] at ho2 hg2
  have hc := compact_ints b 0 c1 Z w2 (holds_own _ ho2) (by omega) (by omega)
  rw [hZl] at hc
  have HC := Lib.hid hc
  have HO2 := Lib.hid ho2
  have HB2 := Lib.hid (HB.out.grown hg2 HB.out.size (fun k hk => by injection hk with hk; omega))
  have hcn : (Go.Lib.compact Z).length ≤ n := by
   have : (Go.Lib.compact Z).length ≤ Z.length := by
    unfold Go.Lib.compact Go.Lib.compactUpTo
    rw [List.length_map]
    have := List.length_filter_le (Go.Lib.keeps Z.toArray) (List.range Z.length)
    rw [List.length_range] at this
    exact this
   omega
  have HTF := Lib.hid (show ((Go.Lib.compact Z).length < n ↔ ¬ l.Nodup) by have := HT.out; rw [HL.out] at this; exact this)
  clear hw2 hZ ho2 hg2 hc HS HT
  go_wp2_with fail
  refine HC.out.mono ?_
  rintro e w3 ⟨rfl, q, hw3⟩
  obtain ⟨K, hK⟩ : ∃ K, (Go.Lib.compact Z).length = K := ⟨_, rfl⟩
  obtain ⟨_, hg3⟩ := put_own (Value.int .i64) HO2.out (Go.Lib.compact Z ++ List.replicate (n - (Go.Lib.compact Z).length) 0).toArray (by simp; omega) q #[]
  rw [Sort.grow_empty, ← hw3] at hg3
  have HB3 := Lib.hid (HB2.out.grown hg3 HB2.out.size (fun k hk => by injection hk with hk; omega))
  rw [hK] at HTF hcn ⊢
  clear hw3 hg3 hK HC
  by_cases hlt : K < n
  ·have hq : Q = true := by rw [← HQ.out]; exact decide_eq_true (HTF.out.1 hlt)
   subst hq
   have hki : (K : Int) < (n : Int) := by omega
   go_wp2_with fail
   go_ret
   exact ⟨rfl, HB3.out⟩
  ·have hq : Q = false := by rw [← HQ.out]; exact decide_eq_false (fun h => hlt (HTF.out.2 h))
   subst hq
   have hki : ¬ (K : Int) < (n : Int) := by omega
   go_wp2_with fail
   go_ret
   exact ⟨rfl, HB3.out⟩
end Go.Proofs.YtdhhkancbgealaaGreat
end
section
namespace Go.Proofs.YtdhhkancbgealaaGreat
open Go.RowKit
open Lx
set_option linter.unusedVariables false
set_option linter.unusedSimpArgs false
set_option maxRecDepth 100000
def Sl.no : Sl := ⟨Tr.none_, none, 0⟩
def slAt (S : List Sl) (i : Int) : Sl := if 0 ≤ i then (S[i.toNat]?).getD Sl.no else Sl.no
theorem slAt_x (S : List Sl) (i : Int) : (slAt S i).x = Tr.at_ (nds S) i := by
 unfold slAt Tr.at_ nds
 split
 ·rw [List.getElem?_map]
  cases S[i.toNat]? <;> rfl
 ·rfl
theorem slAt_out {S : List Sl} {i : Int} (h : Tr.has (nds S) i = false) : slAt S i = Sl.no := by
 have := Tr.has_false h
 rw [nds_len] at this
 unfold slAt; split
 ·rw [List.getElem?_eq_none (by omega)]; rfl
 ·rfl
theorem slAt_mem {S : List Sl} {i : Int} (h : Tr.has (nds S) i = true) : ∃ s, S[i.toNat]? = some s ∧ slAt S i = s ∧ 0 ≤ i := by
 have := Tr.has_true h
 rw [nds_len] at this
 have hlt : i.toNat < S.length := by omega
 exact ⟨S[i.toNat], List.getElem?_eq_getElem hlt, by unfold slAt; rw [if_pos this.1, List.getElem?_eq_getElem hlt]; rfl, this.1⟩
structure TreeIs (w : World) (B tg g mb : Nat) (l m : Int) (S : List Sl) : Prop where
 ex : ∃ v, At w tg 93 #[.pointer (some ⟨g, 0, none⟩)] ∧ ArN w B g mb v S
 low : B ≤ tg ∧ B ≤ g ∧ B ≤ mb
 meter : At w mb 87 #[.int .i64 l, .int .i64 (costS S), .int .i64 m]
 kids : ∀ s ∈ S, Lie w 3 s.A (vals s.x.kids)
 room : costS S ≤ l ∧ l ≤ 1099511627776
 len : ∀ s ∈ S, s.x.kids.length ≤ 1000000
section
variable {w w' : World} {B tg g mb : Nat} {l m : Int} {S : List Sl}
theorem TreeIs.at_ (h : TreeIs w B tg g mb l m S) : At w tg 93 #[.pointer (some ⟨g, 0, none⟩)] := by obtain ⟨v, h1, _⟩ := h.ex; exact h1
theorem TreeIs.below (h : TreeIs w B tg g mb l m S) (hb : Below w.heap.size w w') : TreeIs w' B tg g mb l m S := by
 obtain ⟨v, h1, h2⟩ := h.ex
 exact ⟨⟨v, h1.below hb h1.lt, h2.below hb⟩, h.low, h.meter.below hb h.meter.lt, fun s hs => (h.kids s hs).below hb, h.room, h.len⟩
theorem TreeIs.drew (h : TreeIs w B tg g mb l m S) : TreeIs w.drew B tg g mb l m S := by
 obtain ⟨v, h1, h2⟩ := h.ex
 exact ⟨⟨v, h1.drew, h2.drew⟩, h.low, h.meter.drew, fun s hs => (h.kids s hs).drew, h.room, h.len⟩
theorem stay_spares {t : TypeId} {ts : List TypeId} (hs : Spares ts w w') (ht : t ∉ ts) : Stay t w w' := fun b cs hb => hb.spares hs ht
def treeT : List TypeId := [93, 128, 139, 87, 3]
theorem TreeIs.spares {ts : List TypeId} (h : TreeIs w B tg g mb l m S) (hs : Spares ts w w') (ht : ∀ t ∈ treeT, t ∉ ts) : TreeIs w' B tg g mb l m S := by
 obtain ⟨v, h1, h2⟩ := h.ex
 have t0 := ht _ (by simp [treeT] : 93 ∈ treeT)
 have t1 := ht _ (by simp [treeT] : 128 ∈ treeT)
 have t2 := ht _ (by simp [treeT] : 139 ∈ treeT)
 have t3 := ht _ (by simp [treeT] : 87 ∈ treeT)
 have t4 := ht _ (by simp [treeT] : 3 ∈ treeT)
 exact ⟨⟨v, h1.spares hs t0, h2.spares hs t1 t2⟩, h.low, h.meter.spares hs t3, fun s hk => (h.kids s hk).stay (stay_spares hs t4), h.room, h.len⟩
theorem TreeIs.kid (h : TreeIs w B tg g mb l m S) (i : Int) : Lie w 3 (slAt S i).A (vals (slAt S i).x.kids) ∧ (slAt S i).x.kids.length ≤ 1000000 := by
 cases hh : Tr.has (nds S) i with
 | true =>
  obtain ⟨s, h1, h2, _⟩ := slAt_mem hh
  rw [h2]; exact ⟨h.kids s (List.mem_of_getElem? h1), h.len s (List.mem_of_getElem? h1)⟩
 | false => rw [slAt_out hh]; exact ⟨Lie.nil _ _ _, by decide⟩
end
set_option maxHeartbeats 800000 in
theorem tnew_any (mb : Nat) (B : Nat) (l m : Int) (w : World) (hM : At w mb 87 #[.int .i64 l, .int .i64 0, .int .i64 m]) (hl : 0 ≤ l ∧ l ≤ 1099511627776) (hB : B ≤ w.heap.size) (hBm : B ≤ mb) :
  Calls Tryz.prog 11 #[.pointer (some ⟨mb, 0, none⟩)] w fun e w' => ∃ tg g, e = .returned (.pointer (some ⟨tg, 0, none⟩)) ∧ TreeIs w' B tg g mb l m [] ∧ w.heap.size ≤ tg ∧ Below w.heap.size w w' := by
 have HM := Lib.hid hM
 clear hM
 go_enter Tryz.func11, Tryz.ntmps11
 go_wp2_with fail
 refine (newN_any mb w).mono ?_
 rintro e w1 ⟨rfl, hw1⟩
 have hA : ArN w1 B w.heap.size mb (.slice none 0 0) [] := by
  rw [← hw1]
  exact ⟨At.new w _ _, World.ownsRow_nil _ _ _ _, by decide⟩
 have hb : Below w.heap.size w w1 := by rw [← hw1]; exact (Below.refl w.heap.size w).alloc (Nat.le_refl _) _
 have hs : w1.heap.size = w.heap.size + 1 := by rw [← hw1]; simp
 have HSZ := Lib.hid hs
 have HA := Lib.hid hA
 have HB := Lib.hid hb
 clear hw1 hA hb hs
 go_wp2_with fail
 go_ret
 have hs := HSZ.out
 have hb2 := (Below.refl w1.heap.size w1).alloc (Nat.le_refl _) (.cells #[.pointer (some ⟨w.heap.size, 0, none⟩)] 93)
 refine ⟨w1.heap.size, w.heap.size, rfl, ⟨⟨_, At.new w1 _ _, HA.out.below hb2⟩, ⟨by omega, by omega, hBm⟩, (HM.out.below HB.out HM.out.lt).below hb2 (by have := HM.out.lt; omega), by simp, ⟨hl.1, hl.2⟩, by simp⟩, by omega, HB.out.alloc (by omega) _⟩
theorem node_six (x : Tr.Nd) (k : Value) : (ndC x k) = [.bool x.leaf, .bool x.under, .int .i64 x.rule, .int .i64 x.sym, .int .i64 x.tok.t, .int .i64 x.tok.a, .int .i64 x.tok.b, k] := rfl
set_option maxHeartbeats 1600000 in
theorem thas_any (i : Int) (w : World) (B tg g mb : Nat) (l m : Int) (S : List Sl) (h : TreeIs w B tg g mb l m S) :
  Calls Tryz.prog 73 #[.pointer (some ⟨tg, 0, none⟩), .int .i64 i] w fun e w' => e = .returned (.bool (Tr.has (nds S) i)) ∧ Below w.heap.size w w' := by
 obtain ⟨v, h1, h2⟩ := h.ex
 have c0 := h1.cell 0
 simp at c0
 have HAT : ∃ x kv b, (Calls Tryz.prog 72 #[.pointer (some ⟨g, 0, none⟩), .int .i64 i] w fun e w' => e = .returned (.tuple #[.agg (ndC x kv).toArray, .bool b]) ∧ Below w.heap.size w w') ∧ b = Tr.has (nds S) i ∧ ∃ sa kn sc, kv = .slice sa kn sc := by
  cases hh : Tr.has (nds S) i with
  | true =>
   obtain ⟨s, q1, q2, q3⟩ := slAt_mem hh
   have hi : (i.toNat : Int) = i := by omega
   have := atN_in i.toNat s w B g mb v S h2 q1
   rw [hi] at this
   exact ⟨s.x, s.kv, true, this, rfl, _, _, _, rfl⟩
  | false => exact ⟨_, _, false, atN_out i w B g mb v S h2 hh, rfl, _, _, _, rfl⟩
 obtain ⟨x, kv, b, hc, hb, sa, kn, sc, rfl⟩ := HAT
 rw [← hb]
 rw [node_six] at hc
 obtain ⟨x0, x1, x2, x3, ⟨x4, x5, x6⟩, x7⟩ := x
 have HC := Lib.hid hc
 clear h h1 h2 hb hc
 go_enter Tryz.func73, Tryz.ntmps73
 go_wp2_with fail
 refine HC.out.mono ?_
 rintro e w1 ⟨rfl, hb1⟩
 have HB := Lib.hid hb1
 have hs1 := hb1.size
 clear hb1 HC
 go_wp2_with fail
 go_ret
 exact ⟨rfl, HB.out.alloc hs1 _⟩
set_option maxHeartbeats 3200000 in
theorem tat_any (i : Int) (w : World) (B tg g mb : Nat) (l m : Int) (S : List Sl) (h : TreeIs w B tg g mb l m S) :
  Calls Tryz.prog 49 #[.pointer (some ⟨tg, 0, none⟩), .int .i64 i] w fun e w' => e = .returned (.agg (slAt S i).nd.toArray) ∧ Below w.heap.size w w' := by
 obtain ⟨W, hW⟩ : ∃ W, w.alloc (.cells #[.bool false, .bool false, .int .i64 0, .int .i64 0, .int .i64 0, .int .i64 0, .int .i64 0, .slice none 0 0] 91) = W := ⟨_, rfl⟩
 have hbW : Below w.heap.size w W := by rw [← hW]; exact (Below.refl w.heap.size w).alloc (Nat.le_refl _) _
 have hR : At W w.heap.size 91 #[.bool false, .bool false, .int .i64 0, .int .i64 0, .int .i64 0, .int .i64 0, .int .i64 0, .slice none 0 0] := by rw [← hW]; exact At.new _ _ _
 obtain ⟨v, h1, h2⟩ := h.ex
 have c0 := h1.cell 0
 have htl := h1.lt
 simp at c0
 have h2W := h2.below hbW
 have hRl := hR.lt
 cases hh : Tr.has (nds S) i with
 | true =>
  obtain ⟨s, q1, q2, q3⟩ := slAt_mem hh
  have hi : (i.toNat : Int) = i := by omega
  have hc := atN_in i.toNat s W B g mb v S h2W q1
  rw [hi] at hc
  rw [q2]
  have HLIT := Lib.hid (show s.nd = [.bool s.x.leaf, .bool s.x.under, .int .i64 s.x.rule, .int .i64 s.x.sym, .int .i64 s.x.tok.t, .int .i64 s.x.tok.a, .int .i64 s.x.tok.b, .slice s.A s.x.kids.length s.c] from rfl)
  rw [HLIT.out] at hc ⊢
  obtain ⟨⟨x0, x1, x2, x3, ⟨x4, x5, x6⟩, x7⟩, sa, sc⟩ := s
  dsimp only at hc ⊢
  generalize x7.length = kn at hc ⊢
  have HC := Lib.hid hc
  have HW := Lib.hid hW
  have HR := Lib.hid hR
  have HBW := Lib.hid hbW
  clear h h1 h2 h2W hc hh q1 q2 q3 hi hbW hW hR HLIT
  go_enter Tryz.func49, Tryz.ntmps49
  go_wp2_with fail
  rw [HW.out]
  refine HC.out.mono ?_
  rintro e w1 ⟨rfl, hb1⟩
  have HB1 := Lib.hid (HBW.out.trans (hb1.mono HBW.out.size))
  have HR1 := Lib.hid ((HR.out.below hb1 hRl).alloc (.cells #[.bool x0, .bool x1, .int .i64 x2, .int .i64 x3, .int .i64 x4, .int .i64 x5, .int .i64 x6, .slice sa kn sc] 91))
  clear hb1 HC
  go_wp2_with (refine wpList_store_at rfl _ _ _ rfl rfl w.heap.size _ _ [_, _, _, _, _, _, _, _] rfl rfl HR1.out 8 sizeNode rfl rfl rfl ?_; intro w3 hA3 hg3)
  refine bodyPost_ret (results_cell_row rfl _ _ w.heap.size _ _ (0, 0) _ rfl hA3 Tryz.underlying91 rfl sizeNode) rfl ⟨rfl, below_grown (HB1.out.alloc HB1.out.size _) hg3 (by simp; exact Nat.le_succ_of_le HB1.out.size) (Nat.le_refl _)⟩
 | false =>
  have hc := atN_out i W B g mb v S h2W hh
  rw [slAt_out hh]
  rw [node_six] at hc
  dsimp only [Tr.Tok.zero] at hc
  have HC := Lib.hid hc
  have HW := Lib.hid hW
  have HR := Lib.hid hR
  have HBW := Lib.hid hbW
  clear h h1 h2 h2W hc hh hbW hW hR
  go_enter Tryz.func49, Tryz.ntmps49
  go_wp2_with fail
  rw [HW.out]
  refine HC.out.mono ?_
  rintro e w1 ⟨rfl, hb1⟩
  have HB1 := Lib.hid (HBW.out.trans (hb1.mono HBW.out.size))
  have HR1 := Lib.hid ((HR.out.below hb1 hRl).alloc (.cells #[.bool false, .bool false, .int .i64 0, .int .i64 0, .int .i64 0, .int .i64 0, .int .i64 0, .slice none 0 0] 91))
  clear hb1 HC
  go_wp2_with (refine wpList_store_at rfl _ _ _ rfl rfl w.heap.size _ _ [_, _, _, _, _, _, _, _] rfl rfl HR1.out 8 sizeNode rfl rfl rfl ?_; intro w3 hA3 hg3)
  refine bodyPost_ret (results_cell_row rfl _ _ w.heap.size _ _ (0, 0) _ rfl hA3 Tryz.underlying91 rfl sizeNode) rfl ⟨rfl, below_grown (HB1.out.alloc HB1.out.size _) hg3 (by simp; exact Nat.le_succ_of_le HB1.out.size) (Nat.le_refl _)⟩
theorem tat_parts (i : Int) (w : World) (B tg g mb : Nat) (l m : Int) (S : List Sl) (h : TreeIs w B tg g mb l m S) :
  Calls Tryz.prog 49 #[.pointer (some ⟨tg, 0, none⟩), .int .i64 i] w fun e w' => e = .returned (.agg #[.bool (Tr.at_ (nds S) i).leaf, .bool (Tr.at_ (nds S) i).under, .int .i64 (Tr.at_ (nds S) i).rule, .int .i64 (Tr.at_ (nds S) i).sym, .int .i64 (Tr.at_ (nds S) i).tok.t, .int .i64 (Tr.at_ (nds S) i).tok.a, .int .i64 (Tr.at_ (nds S) i).tok.b, .slice (slAt S i).A (Tr.at_ (nds S) i).kids.length (slAt S i).c]) ∧ Below w.heap.size w w' := by
 rw [← slAt_x]
 exact tat_any i w B tg g mb l m S h
set_option maxHeartbeats 800000 in
theorem tlen_any (w : World) (B tg g mb : Nat) (l m : Int) (S : List Sl) (h : TreeIs w B tg g mb l m S) :
  Calls Tryz.prog 15 #[.pointer (some ⟨tg, 0, none⟩)] w fun e w' => e = .returned (.int .i64 ((nds S).length : Int)) ∧ w = w' := by
 obtain ⟨v, h1, h2⟩ := h.ex
 have c0 := h1.cell 0
 simp at c0
 rw [nds_len]
 have HC := Lib.hid (lenN_any w B g mb v S h2)
 clear h h1 h2
 go_enter Tryz.func15, Tryz.ntmps15
 go_wp2_with fail
 refine HC.out.mono ?_
 rintro e w1 ⟨rfl, rfl⟩
 go_wp2_with fail
 go_ret
 exact ⟨rfl, rfl⟩
set_option maxHeartbeats 800000 in
theorem tcells_any (w : World) (B tg g mb : Nat) (l m : Int) (S : List Sl) (h : TreeIs w B tg g mb l m S) :
  Calls Tryz.prog 16 #[.pointer (some ⟨tg, 0, none⟩)] w fun e w' => e = .returned (.int .i64 (Tr.cost (nds S))) ∧ w = w' := by
 obtain ⟨v, h1, h2⟩ := h.ex
 have c0 := h1.cell 0
 simp at c0
 have HC := Lib.hid (cellsN_any w B g mb v S h2)
 rw [show costS S = Tr.cost (nds S) from rfl] at HC
 clear h h1 h2
 go_enter Tryz.func16, Tryz.ntmps16
 go_wp2_with fail
 refine HC.out.mono ?_
 rintro e w1 ⟨rfl, rfl⟩
 go_wp2_with fail
 go_ret
 exact ⟨rfl, rfl⟩
theorem nfield_leaf (a0 a1 : Bool) (a2 a3 a4 a5 a6 : Int) (a7 : Option Addr) (n a8 : Nat) (w : World) : (Instr.field 91 (.agg #[.bool a0, .bool a1, .int .i64 a2, .int .i64 a3, .int .i64 a4, .int .i64 a5, .int .i64 a6, .slice a7 n a8]) 0).run Tryz.prog w = .ok (.bool a0) w := by kernel_rfl
theorem nfield_under (a0 a1 : Bool) (a2 a3 a4 a5 a6 : Int) (a7 : Option Addr) (n a8 : Nat) (w : World) : (Instr.field 91 (.agg #[.bool a0, .bool a1, .int .i64 a2, .int .i64 a3, .int .i64 a4, .int .i64 a5, .int .i64 a6, .slice a7 n a8]) 1).run Tryz.prog w = .ok (.bool a1) w := by kernel_rfl
theorem nfield_rule (a0 a1 : Bool) (a2 a3 a4 a5 a6 : Int) (a7 : Option Addr) (n a8 : Nat) (w : World) : (Instr.field 91 (.agg #[.bool a0, .bool a1, .int .i64 a2, .int .i64 a3, .int .i64 a4, .int .i64 a5, .int .i64 a6, .slice a7 n a8]) 2).run Tryz.prog w = .ok (.int .i64 a2) w := by kernel_rfl
theorem nfield_sym (a0 a1 : Bool) (a2 a3 a4 a5 a6 : Int) (a7 : Option Addr) (n a8 : Nat) (w : World) : (Instr.field 91 (.agg #[.bool a0, .bool a1, .int .i64 a2, .int .i64 a3, .int .i64 a4, .int .i64 a5, .int .i64 a6, .slice a7 n a8]) 3).run Tryz.prog w = .ok (.int .i64 a3) w := by kernel_rfl
theorem nfield_kids (a0 a1 : Bool) (a2 a3 a4 a5 a6 : Int) (a7 : Option Addr) (n a8 : Nat) (w : World) : (Instr.field 91 (.agg #[.bool a0, .bool a1, .int .i64 a2, .int .i64 a3, .int .i64 a4, .int .i64 a5, .int .i64 a6, .slice a7 n a8]) 5).run Tryz.prog w = .ok (.slice a7 n a8) w := by kernel_rfl
section
variable (i : Int) (w : World) (B tg g mb : Nat) (l m : Int) (S : List Sl) (h : TreeIs w B tg g mb l m S)
include h
set_option maxHeartbeats 800000 in
theorem tsym_any : Calls Tryz.prog 20 #[.pointer (some ⟨tg, 0, none⟩), .int .i64 i] w fun e w' => e = .returned (.int .i64 (Tr.at_ (nds S) i).sym) ∧ Below w.heap.size w w' := by
 have HC := Lib.hid (tat_parts i w B tg g mb l m S h)
 clear h
 have hfd := nfield_sym
 go_enter Tryz.func20, Tryz.ntmps20
 go_wp2_with fail
 refine HC.out.mono ?_
 rintro e w1 ⟨rfl, hb⟩
 go_wp2_with fail
 go_ret
 exact ⟨rfl, hb⟩
set_option maxHeartbeats 800000 in
theorem trule_any : Calls Tryz.prog 21 #[.pointer (some ⟨tg, 0, none⟩), .int .i64 i] w fun e w' => e = .returned (.int .i64 (Tr.at_ (nds S) i).rule) ∧ Below w.heap.size w w' := by
 have HC := Lib.hid (tat_parts i w B tg g mb l m S h)
 clear h
 have hfd := nfield_rule
 go_enter Tryz.func21, Tryz.ntmps21
 go_wp2_with fail
 refine HC.out.mono ?_
 rintro e w1 ⟨rfl, hb⟩
 go_wp2_with fail
 go_ret
 exact ⟨rfl, hb⟩
set_option maxHeartbeats 800000 in
theorem tleaf_any : Calls Tryz.prog 23 #[.pointer (some ⟨tg, 0, none⟩), .int .i64 i] w fun e w' => e = .returned (.bool (Tr.at_ (nds S) i).leaf) ∧ Below w.heap.size w w' := by
 have HC := Lib.hid (tat_parts i w B tg g mb l m S h)
 clear h
 have hfd := nfield_leaf
 go_enter Tryz.func23, Tryz.ntmps23
 go_wp2_with fail
 refine HC.out.mono ?_
 rintro e w1 ⟨rfl, hb⟩
 go_wp2_with fail
 go_ret
 exact ⟨rfl, hb⟩
set_option maxHeartbeats 1600000 in
theorem tkids_any : Calls Tryz.prog 25 #[.pointer (some ⟨tg, 0, none⟩), .int .i64 i] w fun e w' => ∃ A c, e = .returned (.slice A (Tr.at_ (nds S) i).kids.length c) ∧ w'.ownsRow w.heap.size 3 1 (.slice A (Tr.at_ (nds S) i).kids.length c) (Tr.at_ (nds S) i).kids.length (vals (Tr.at_ (nds S) i).kids) ∧ Below w.heap.size w w' := by
 obtain ⟨k1, k2⟩ := h.kid i
 rw [slAt_x] at k1 k2
 have HC := Lib.hid (tat_parts i w B tg g mb l m S h)
 have HK := Lib.hid k1
 have HN := Lib.hid k2
 clear h k1 k2
 have hfd := nfield_kids
 go_enter Tryz.func25, Tryz.ntmps25
 go_wp2_with fail
 refine HC.out.mono ?_
 rintro e w1 ⟨rfl, hb⟩
 have HB := Lib.hid hb
 have HCL := Lib.hid (cloneT_any _ _ (slAt S i).c _ w1 rfl (HK.out.below hb) (by have := HN.out; omega))
 clear hb
 go_wp2_with fail
 refine HCL.out.mono ?_
 rintro e w2 ⟨A', c', rfl, ho, hb2⟩
 have HO := Lib.hid (own_base ho HB.out.size)
 have HB2 := Lib.hid (HB.out.trans (hb2.mono HB.out.size))
 clear ho hb2
 go_wp2_with fail
 go_ret
 exact ⟨A', c', rfl, HO.out, HB2.out⟩
end
end Go.Proofs.YtdhhkancbgealaaGreat
end
