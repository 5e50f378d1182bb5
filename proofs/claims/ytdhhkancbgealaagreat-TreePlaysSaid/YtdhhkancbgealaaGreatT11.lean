import Derived.Test.YtdhhkancbgealaaGreatT10
namespace Go.Proofs.YtdhhkancbgealaaGreat
open Go.RowKit
open Lx
set_option linter.unusedVariables false
set_option linter.unusedSimpArgs false
set_option maxRecDepth 100000
theorem Cl.up {w w' : World} {A : Option Addr} {xs : List Value} (h : Cl w w.heap.size A xs) (hb : Below w.heap.size w w') : Cl w' w'.heap.size A xs := (h.below hb).mono hb.size
theorem cl_nil_of {w : World} {B : Nat} {l : List Int} (h : Cl w B none (vals l)) : l = [] := by
 by_cases hl : l = []
 ·exact hl
 ·obtain ⟨b, o, e, _⟩ := h.ex (by simpa [vals] using hl)
  cases e
set_option maxHeartbeats 800000 in
theorem cloneC_any (A : Option Addr) (n c : Nat) (l : List Int) (w : World) (hl : l.length = n) (hL : Cl w w.heap.size A (vals l)) (hn : n ≤ 1099511627776) :
  Calls Tryz.prog 50 #[.slice A n c] w fun e w' => ∃ A' c', e = .returned (.slice A' n c') ∧ w'.ownsRow w.heap.size 3 1 (.slice A' n c') n (vals l) ∧ Below w.heap.size w w' := by
 cases A with
 | none =>
  obtain rfl := cl_nil_of hL
  obtain rfl : n = 0 := by simpa using hl.symm
  refine (clone_nil 0 c w).mono ?_
  rintro e w' ⟨rfl, rfl⟩
  exact ⟨none, 0, rfl, World.ownsRow_nil _ _ _ _, Below.refl _ _⟩
 | some a =>
  by_cases h0 : l = []
  ·subst h0
   obtain rfl : n = 0 := by simpa using hl.symm
   refine (clone_zero a c w).mono ?_
   rintro e w' ⟨v, rfl, ho, _, hb⟩
   obtain ⟨A', c', rfl⟩ := own_form ho
   exact ⟨A', c', rfl, ho, hb⟩
  ·obtain ⟨b, o, e, hlt, hc⟩ := hL.ex (by simpa [vals] using h0)
   cases e
   refine (clone_some b o n c l w (by omega) (by omega) (fun j hj => ?_)).mono ?_
   ·refine hc j _ ?_
    simp [vals, List.getD, List.getElem?_eq_getElem hj]
   ·rintro e w' ⟨v, rfl, ho, _, hb⟩
    obtain ⟨A', c', rfl⟩ := own_form ho
    refine ⟨A', c', rfl, ?_, hb⟩
    rw [List.take_of_length_le (by omega)] at ho
    exact ho
theorem cloneT_any (A : Option Addr) (n c : Nat) (l : List Int) (w : World) (hl : l.length = n) (hL : Lie w 3 A (vals l)) (hn : n ≤ 1099511627776) :
  Calls Tryz.prog 50 #[.slice A n c] w fun e w' => ∃ A' c', e = .returned (.slice A' n c') ∧ w'.ownsRow w.heap.size 3 1 (.slice A' n c') n (vals l) ∧ Below w.heap.size w w' := cloneC_any A n c l w hl hL.cl hn
theorem compact_short (z : List Int) (hs : z.Pairwise (· ≤ ·)) : (Go.Lib.compact z).length < z.length ↔ ¬ z.Nodup := by
 constructor
 ·intro h hn
  have : Go.Lib.compact z = z := Go.Lib.compact_all z (fun j hj => by
   by_cases h0 : j = 0
   ·subst h0; exact Go.Lib.keeps_lt_one _ 0 (by omega)
   ·refine Go.Lib.keeps_pos ?_
    have h1 := List.pairwise_iff_getElem.1 hn (j - 1) j (by omega) hj (by omega)
    simp only [List.getElem!_toArray, List.getElem!_eq_getElem?_getD, List.getElem?_eq_getElem hj, List.getElem?_eq_getElem (show j - 1 < z.length by omega), Option.getD_some]
    exact fun e => h1 e.symm)
  rw [this] at h; omega
 ·intro hn
  by_cases hc : (Go.Lib.compact z).length < z.length
  ·exact hc
  ·exfalso
   apply hn
   have hk : ∀ j, j < z.length → Go.Lib.keeps z.toArray j = true := by
    have hl : (Go.Lib.compact z).length = ((List.range z.length).filter (Go.Lib.keeps z.toArray)).length := by simp [Go.Lib.compact, Go.Lib.compactUpTo]
    have h2 : ((List.range z.length).filter (Go.Lib.keeps z.toArray)).length = (List.range z.length).length := by
     have := List.length_filter_le (Go.Lib.keeps z.toArray) (List.range z.length)
     simp only [List.length_range] at this ⊢; omega
    intro j hj
    exact List.length_filter_eq_length_iff.1 h2 j (List.mem_range.2 hj)
   have hst : ∀ j (hj : j + 1 < z.length), z[j] < z[j + 1] := by
    intro j hj
    have h1 := List.pairwise_iff_getElem.1 hs j (j + 1) (by omega) hj (by omega)
    have h2 := hk (j + 1) hj
    unfold Go.Lib.keeps at h2
    have h3 := of_decide_eq_true h2
    rcases h3 with h3 | h3
    ·omega
    ·simp only [List.getElem!_toArray, List.getElem!_eq_getElem?_getD, List.getElem?_eq_getElem hj, Nat.add_sub_cancel, List.getElem?_eq_getElem (show j < z.length by omega), Option.getD_some] at h3
     have : z[j] ≠ z[j + 1] := fun e => h3 e.symm
     omega
   refine List.pairwise_iff_getElem.2 fun i j hi hj hij => ?_
   have h1 : z[i] < z[j] := by
    have h4 : j = i + 1 + (j - i - 1) := by omega
    generalize j - i - 1 = d at h4
    subst h4
    clear hij
    induction d with
    | zero => exact hst i hj
    | succ d ih => exact Int.lt_trans (ih (by omega)) (hst (i + 1 + d) (by omega))
   omega
theorem sorted_ints (l : List Int) : (l.mergeSort fun x y => decide (x ≤ y)).Pairwise (· ≤ ·) := by
 have := List.pairwise_mergeSort (le := fun x y : Int => decide (x ≤ y)) (fun a b c h1 h2 => by simp at *; omega) (fun a b => by simp; omega) l
 exact this.imp (fun h => by simpa using h)
theorem twice_iff (l : List Int) : (Go.Lib.compact (l.mergeSort fun x y => decide (x ≤ y))).length < l.length ↔ ¬ l.Nodup := by
 have h := compact_short _ (sorted_ints l)
 rw [List.length_mergeSort] at h
 rw [h, (List.mergeSort_perm l _).nodup_iff]
set_option maxHeartbeats 1600000 in
theorem twiceC_any (A : Option Addr) (n c : Nat) (l : List Int) (w : World) (hl : l.length = n) (hL : Cl w w.heap.size A (vals l)) (hn : n ≤ 1000000) :
  Calls Tryz.prog 81 #[.slice A n c] w fun e w' => e = .returned (.bool (decide (¬ l.Nodup))) ∧ Below w.heap.size w w' := by
 have HT := Lib.hid (twice_iff l)
 have HCL := Lib.hid (cloneC_any A n c l w hl hL (by omega))
 have HL := Lib.hid hl
 obtain ⟨Q, hQ⟩ : ∃ Q : Bool, decide (¬ l.Nodup) = Q := ⟨_, rfl⟩
 rw [hQ]
 have HQ := Lib.hid hQ
 clear hL hl hQ
 go_enter Tryz.func81, Tryz.ntmps81
 go_wp2_with fail
 refine HCL.out.mono ?_
 rintro e w1 ⟨A1, c1, rfl, ho, hb⟩
 have HB := Lib.hid hb
 by_cases h0 : n = 0
 ·subst h0
  have hq : Q = false := by
   rw [← HQ.out]
   have : l = [] := List.eq_nil_of_length_eq_zero HL.out
   subst this; rfl
  subst hq
  clear ho hb
  go_wp2_with fail
  refine (sort_none A1 c1 w1).mono ?_
  rintro e w2 ⟨rfl, rfl⟩
  go_wp2_with fail
  refine (compact_none A1 c1 w2).mono ?_
  rintro e w3 ⟨rfl, rfl⟩
  go_wp2_with fail
  go_ret
  exact ⟨rfl, HB.out⟩
 ·rcases own_shape ho with ⟨_, e, _⟩ | ⟨b, cap, e, h1, h2, h3, h4⟩
  ·exact absurd e h0
  simp only [Value.slice.injEq, true_and] at e
  obtain ⟨rfl, rfl⟩ := e
  have hv : vals l = l.toArray.toList.map (Value.int .i64) := by simp [vals]
  rw [hv] at ho
  have hs := sort_ints b 0 c1 l w1 (holds_own _ ho) h4 (by rw [HL.out]; omega)
  rw [HL.out] at hs
  have HS := Lib.hid hs
  have HO := Lib.hid ho
  clear hs ho hb hv
  go_wp2_with fail
  refine HS.out.mono ?_
  rintro e w2 ⟨rfl, m, os, hw2⟩
  obtain ⟨Z, hZ⟩ : ∃ Z, (l.mergeSort fun x y => decide (x ≤ y)) = Z := ⟨_, rfl⟩
  rw [hZ] at HT hw2
  have hZl : Z.length = n := by rw [← hZ, List.length_mergeSort]; exact HL.out
  obtain ⟨ho2, hg2⟩ := put_own (Value.int .i64) HO.out Z.toArray (by simpa using hZl) m os
  rw [← hw2] at ho2 hg2
  have hc := compact_ints b 0 c1 Z w2 (holds_own _ ho2) (by omega) (by omega)
  rw [hZl] at hc
  have HC := Lib.hid hc
  have HO2 := Lib.hid ho2
  have HB2 := Lib.hid (HB.out.grown hg2 HB.out.size (fun k hk => by injection hk with hk; omega))
  have hcn : (Go.Lib.compact Z).length ≤ n := by
   have : (Go.Lib.compact Z).length ≤ Z.length := by
    unfold Go.Lib.compact Go.Lib.compactUpTo
    rw [List.length_map]
    have := List.length_filter_le (Go.Lib.keeps Z.toArray) (List.range Z.length)
    rw [List.length_range] at this
    exact this
   omega
  have HTF := Lib.hid (show ((Go.Lib.compact Z).length < n ↔ ¬ l.Nodup) by have := HT.out; rw [HL.out] at this; exact this)
  clear hw2 hZ ho2 hg2 hc HS HT
  go_wp2_with fail
  refine HC.out.mono ?_
  rintro e w3 ⟨rfl, q, hw3⟩
  obtain ⟨K, hK⟩ : ∃ K, (Go.Lib.compact Z).length = K := ⟨_, rfl⟩
  obtain ⟨_, hg3⟩ := put_own (Value.int .i64) HO2.out (Go.Lib.compact Z ++ List.replicate (n - (Go.Lib.compact Z).length) 0).toArray (by simp; omega) q #[]
  rw [Sort.grow_empty, ← hw3] at hg3
  have HB3 := Lib.hid (HB2.out.grown hg3 HB2.out.size (fun k hk => by injection hk with hk; omega))
  rw [hK] at HTF hcn ⊢
  clear hw3 hg3 hK HC
  by_cases hlt : K < n
  ·have hq : Q = true := by rw [← HQ.out]; exact decide_eq_true (HTF.out.1 hlt)
   subst hq
   have hki : (K : Int) < (n : Int) := by omega
   go_wp2_with fail
   go_ret
   exact ⟨rfl, HB3.out⟩
  ·have hq : Q = false := by rw [← HQ.out]; exact decide_eq_false (fun h => hlt (HTF.out.2 h))
   subst hq
   have hki : ¬ (K : Int) < (n : Int) := by omega
   go_wp2_with fail
   go_ret
   exact ⟨rfl, HB3.out⟩
end Go.Proofs.YtdhhkancbgealaaGreat
