import Derived.Test.YtdlplmbdkjkeiaaDoorDgW
import Derived.Deep.QuietTactic
namespace Go.Proofs.YtdlplmbdkjkeiaaDoor
set_option maxRecDepth 100000
open Go.RowKit Go.Sort
set_option linter.unusedVariables false
set_option linter.unusedSimpArgs false
namespace Dg
def lpb (G : Nat → List Int) (P : List Nat) : Bool := decide (1 < P.length) || (G (P.headD 0)).contains ((P.headD 0 : Nat) : Int)
def lps (G : Nat → List Int) (ps : List (List Nat)) : List Nat := (ps.filter (lpb G)).flatten
theorem sub_flat {α : Type} {l l' : List (List α)} (h : l.Sublist l') : l.flatten.Sublist l'.flatten := by
 induction h with
 | slnil => exact List.Sublist.refl _
 | cons a _ ih => rw [List.flatten_cons]; exact ih.trans (List.sublist_append_right _ _)
 | cons_cons a _ ih => rw [List.flatten_cons, List.flatten_cons]; exact List.Sublist.append (List.Sublist.refl _) ih
theorem lps_sub (G : Nat → List Int) (ps : List (List Nat)) : (lps G ps).Sublist ps.flatten := sub_flat List.filter_sublist
theorem R.first {G : Nat → List Int} {n x y : Nat} (h : R G n x y) (hne : x ≠ y) : ∃ t, E G n x t ∧ R G n t y := by
 cases h with
 | refl => exact absurd rfl hne
 | step e k => exact ⟨_, e, k⟩
theorem two {P : List Nat} {x y : Nat} (hx : x ∈ P) (hy : y ∈ P) (hne : x ≠ y) : 1 < P.length := by
 match P, hx, hy with
 | [a], hx, hy => simp at hx hy; omega
 | _ :: _ :: _, _, _ => simp
theorem other {P : List Nat} {x : Nat} (hn : P.Nodup) (hx : x ∈ P) (h : 1 < P.length) : ∃ y ∈ P, x ≠ y := by
 match P, h with
 | a :: b :: t, _ =>
  rw [List.nodup_cons] at hn
  by_cases he : x = a
  ·subst he
   exact ⟨b, by simp, fun e => hn.1 (by simp [e])⟩
  ·exact ⟨a, by simp, he⟩
theorem lps_mem {G : Nat → List Int} {n : Nat} {ps : List (List Nat)} (h : Parted G n ps) (x : Nat) (hx : x < n) : x ∈ lps G ps ↔ ∃ t, E G n x t ∧ R G n t x := by
 simp only [lps, List.mem_flatten, List.mem_filter]
 constructor
 ·rintro ⟨P, ⟨hP, hl⟩, hxP⟩
  by_cases h1 : 1 < P.length
  ·obtain ⟨y, hy, hne⟩ := other (h.each_nodup hP) hxP h1
   obtain ⟨t, ht, hr⟩ := ((h.one P hP).2 x hxP y hy).first hne
   exact ⟨t, ht, hr.trans ((h.one P hP).2 y hy x hxP)⟩
  ·have hPx : P = [x] := by
    match P, hxP, h1 with
    | [a], hx, _ => simp at hx; rw [hx]
    | _ :: _ :: _, _, h1 => simp at h1
   subst hPx
   simp only [lpb, List.headD_cons, List.length_singleton, Nat.lt_irrefl, decide_false, Bool.false_or, List.contains_iff_mem] at hl
   exact ⟨x, ⟨hx, hl⟩, .refl x⟩
 ·rintro ⟨t, ht, hr⟩
  obtain ⟨P, hP, hxP⟩ := List.mem_flatten.1 ((h.all x).2 hx)
  refine ⟨P, ⟨hP, ?_⟩, hxP⟩
  have htP : t ∈ P := (h.part hP hxP t).2 ⟨.one ht, hr⟩
  simp only [lpb, Bool.or_eq_true, decide_eq_true_eq, List.contains_iff_mem]
  by_cases h1 : 1 < P.length
  ·exact .inl h1
  ·have hPx : P = [x] := by
    match P, hxP, h1 with
    | [a], hx, _ => simp at hx; rw [hx]
    | _ :: _ :: _, _, h1 => simp at h1
   subst hPx
   obtain rfl : t = x := by simpa using htP
   exact .inr ht.2
theorem lps_of {G : Nat → List Int} {n : Nat} {ps : List (List Nat)} (h : Parted G n ps) (lp : Nat → Bool) (hlp : ∀ i, i < n → (lp i = true ↔ ∃ t, E G n i t ∧ R G n t i)) : srt n (lps G ps) = (List.range n).filter lp := by
 refine List.filter_congr fun x hx => ?_
 have hxn := List.mem_range.1 hx
 rw [Bool.eq_iff_iff, decide_eq_true_eq, lps_mem h x hxn, hlp x hxn]
theorem lps_take {G : Nat → List Int} {ps : List (List Nat)} {i : Nat} {P : List Nat} (hP : ps[i]? = some P) : lps G (ps.take (i + 1)) = if lpb G P then lps G (ps.take i) ++ P else lps G (ps.take i) := by
 have htk : ps.take (i + 1) = ps.take i ++ [P] := by rw [List.take_add_one, hP]; rfl
 rw [htk, lps, List.filter_append, List.flatten_append]
 cases hb : lpb G P
 ·simp [lps, hb]
 ·simp [lps, hb]
end Dg
theorem nums_drewN {w : World} {B : Nat} {A : Option Addr} {n : Nat} {X : Nat → Int} (h : Nums w B A n X) (k : Nat) : Nums (w.drewN k) B A n X := ⟨h.each, h.rx, h.len⟩
theorem contains_row (A : Option Addr) (c : Nat) (l : List Int) (x : Int) (B : Nat) (w : World) (h : Nums w B A l.length (fun i => l.getD i 0)) :
  Calls Tryd.prog 32 #[.slice A l.length c, .int .i64 x] w fun e w' => e = .returned (.bool (l.contains x)) ∧ w' = w := by
 by_cases h0 : 0 < l.length
 ·obtain ⟨b, o, rfl, _, _⟩ := h.each 0 h0
  have key := contains_ints b o l.length c l x w (Nat.le_refl _) h.len (fun j hj => by
   obtain ⟨b', o', e, _, h1⟩ := h.each j hj
   obtain ⟨rfl, rfl⟩ := same_addr e
   exact h1)
  rw [List.take_length] at key
  exact key
 ·obtain rfl : l = [] := List.eq_nil_of_length_eq_zero (by omega)
  exact contains_none A c x w
structure LoopsTold (w w' : World) (G : Nat → List Int) (n : Nat) (v : Value) (m : Nat) (Q : List Nat) : Prop where
 own : w'.ownsRow w.heap.size 3 1 v m (valsOf Q)
 tells : ∀ lp : Nat → Bool, (∀ i, i < n → (lp i = true ↔ ∃ t, Dg.E G n i t ∧ Dg.R G n t i)) → Q = (List.range n).filter lp
 below : Below w.heap.size w w'
set_option maxHeartbeats 4000000 in
theorem gloops_any (A : Option Addr) (n c : Nat) (RV : List Value) (G : Nat → List Int) (w : World) (hR : Rows w w.heap.size A RV G) (hl : RV.length = n) (hn : n ≤ 1099511627776) :
  Calls Tryd.prog 15 #[.slice A n c] w fun e w' => ∃ v m Q, e = .returned v ∧ LoopsTold w w' G n v m Q := by
 have hparts := Lib.hid (parts_run A n c RV G w hR hl hn)
 have KR := Lib.hid hR
 obtain ⟨i0, hi, hz0, hz1, hz2⟩ := info_parts Tryd.infoInt
 clear hR
 go_enter Tryd.func15, Tryd.ntmps15
 go_wp2_with fail
 refine hparts.out.mono ?_
 rintro e w1 ⟨v, PV, ps, rfl, hPd, hPA, hb1⟩
 obtain ⟨va, vc, rfl, hvc⟩ := own_slice hPA.own
 have hflat := Dg.nodup_le n _ hPd.nodup (fun v hv => (hPd.all v).1 hv)
 have hPVb : PV.length ≤ 1099511627776 := by
  have h1 := hPA.plen
  have h2 := parts_le ps (fun P hP => (hPd.one P hP).1)
  omega
 have hsz1 := hb1.size
 have KPd := Lib.hid hPd
 have KPA := Lib.hid hPA
 have Kb1 := Lib.hid hb1
 have Kflat := Lib.hid hflat
 clear hPd hPA hb1 hparts hflat
 go_wp2_with fail
 go_loopg [3, 9] PV.length (fun q t3 t9 wr => ∃ (i : Nat), t9 = .int .i64 (i : Int) ∧ i ≤ PV.length ∧ q = PV.length - i ∧ wr.ownsRow w1.heap.size 3 1 t3 (Dg.lps G (ps.take i)).length (valsOf (Dg.lps G (ps.take i))) ∧ Below w1.heap.size w1 wr)
 case atStart => exact ⟨0, rfl, by omega, by omega, by simpa [Dg.lps, valsOf] using World.ownsRow_nil _ _ _ _, Below.refl _ _⟩
 case round =>
  obtain ⟨i, rfl, hi2, hq, hO, hB⟩ := hrel
  have KO := Lib.hid hO
  have KB := Lib.hid hB
  have Kq := Lib.hid hq
  obtain ⟨ao, co, rfl, _⟩ := own_slice hO
  have hszr := hB.size
  clear hO hB hq
  by_cases hlt : i < PV.length
  ·have hlt2 : i < ps.length := by rw [← KPA.out.plen]; exact hlt
   obtain ⟨P, hP⟩ : ∃ P, ps[i]? = some P := ⟨_, List.getElem?_eq_getElem hlt2⟩
   have hPm : P ∈ ps := List.mem_of_getElem? hP
   obtain ⟨pv, hpv⟩ : ∃ pv, PV[i]? = some pv := ⟨_, List.getElem?_eq_getElem hlt⟩
   have hpo1 := KPA.out.each i P pv hP hpv
   have hpo := own_below hpo1 KB.out (fun k hk => own_block hpo1 k hk)
   have houter := own_below KPA.out.own KB.out (fun k hk => own_block KPA.out.own k hk)
   have hPl : 0 < P.length := List.length_pos_iff.2 (KPd.out.one P hPm).1
   obtain ⟨Pb, cP, rfl, hcP, _⟩ := own_pos hpo hPl
   obtain ⟨pb, cpb, hva, _, _⟩ := own_pos houter (by omega)
   simp only [Value.slice.injEq, true_and] at hva
   obtain ⟨rfl, rfl⟩ := hva
   have cpv : wr.cell? ⟨pb, i, none⟩ = some (.slice (some ⟨Pb, 0, none⟩) P.length cP) := by rw [houter.cellAt i (by omega), hpv]
   obtain ⟨p, hp⟩ : ∃ p, P[0]? = some p := ⟨_, List.getElem?_eq_getElem hPl⟩
   have hhd : P.headD 0 = p := by
    cases P with
    | nil => simp at hPl
    | cons a t => simpa using hp
   have hpn : p < n := KPd.out.lt hPm (List.mem_of_getElem? hp)
   have cp : wr.cell? ⟨Pb, 0, none⟩ = some (.int .i64 (p : Int)) := by rw [hpo.cellAt 0 (by omega), valsOf_get hp]
   have hPle := Dg.nodup_le n P (KPd.out.each_nodup hPm) (fun x hx => KPd.out.lt hPm hx)
   have hQle := (Dg.lps_sub G (ps.take i)).length_le
   have hQfl : (ps.take i).flatten.length ≤ ps.flatten.length := (Dg.sub_flat (List.take_sublist i ps)).length_le
   have hRx := KR.out.below (Kb1.out.trans (below_le KB.out hsz1))
   obtain ⟨rv, hrv⟩ : ∃ rv, RV[p]? = some rv := ⟨_, List.getElem?_eq_getElem (by omega)⟩
   obtain ⟨b1, o1, rfl, hb1, cr⟩ := hRx.lies p rv hrv
   obtain ⟨A3, c3, rfl, hc3, hN3⟩ := hRx.row p rv hrv
   have hstep := Dg.lps_take (G := G) hP
   have hlpb : Dg.lpb G P = (decide (1 < P.length) || (G p).contains (p : Int)) := by unfold Dg.lpb; rw [hhd]
   have q1 : (0 : Int) ≤ (i : Int) := by omega
   have q2 : (i : Int) < (PV.length : Int) := by omega
   have q3 : ((i : Int)).toNat = i := by omega
   have r4 : (0 : Int) ≤ (p : Int) := by omega
   have r5 : (p : Int) < (n : Int) := by omega
   have r6 : ((p : Int)).toNat = p := by omega
   have hcon := fun wx (hwx : Nums wx w.heap.size A3 (G p).length (fun i => (G p).getD i 0)) => contains_row A3 c3 (G p) (p : Int) w.heap.size wx hwx
   have Kcon := Lib.hid hcon
   have Kstep := Lib.hid hstep
   have Klpb := Lib.hid hlpb
   have Kpo := Lib.hid hpo
   have KN3 := Lib.hid hN3
   have Klens := Lib.hid (And.intro hPle (And.intro hQle (Nat.le_trans hQfl Kflat.out)))
   clear hP hPm hpv hpo1 hpo houter hhd hp hPle hQle hQfl hRx hrv hN3 hstep hlpb hcon hlt2 hc3
   by_cases h1 : (1 : Int) < (P.length : Int)
   ·have hd1 : decide ((1 : Int) < (P.length : Int)) = true := decide_eq_true h1
    have Kst := Lib.hid (show Dg.lps G (ps.take (i + 1)) = Dg.lps G (ps.take i) ++ P by rw [Kstep.out, Klpb.out, decide_eq_true (by omega : 1 < P.length)]; rfl)
    go_wp2_with fail
    go_quiet (fail)
    have hlens := Klens.out
    go_wp2_with (at_builtin; refine wpList_append_own2 _ rfl (.tmp 28) (.tmp 29) 28 rfl w1.heap.size 3 i0 _ 1 8 Tryd.underlying28 hi hz0 hz1 hz2 rfl (by decide) (.slice ao (Dg.lps G (ps.take i)).length co) (Dg.lps G (ps.take i)).length (valsOf (Dg.lps G (ps.take i))) rfl (own_drewN KO.out _) ⟨Pb, 0, none⟩ P.length cP (valsOf P) rfl (by rw [valsOf_len, Nat.mul_one]) ((own_drewN Kpo.out _).cells (g := Pb) rfl) (valsOf_one P) (by unfold maxLen; omega) (by omega) (show w1.heap.size ≤ wr.heap.size from hszr) ?_; intro v' w4 hown hgrow hsn)
    have KB4 := Lib.hid ((below_drewN KB.out nq).grown hgrow (show w1.heap.size ≤ wr.heap.size from hszr) (fun q hq => (KO.out.lt q hq).1))
    have KO4 := Lib.hid hown
    obtain ⟨a4, c4, rfl, _⟩ := own_slice hown
    clear hown hgrow hsn hlens
    go_wp2_with fail
    go_roundg (PV.length - (i + 1))
    case measure => have := Kq.out; omega
    case rel =>
     refine ⟨i + 1, by go_num, by omega, rfl, ?_, KB4.out⟩
     rw [Kst.out, valsOf_append, List.length_append]
     exact KO4.out
   ·have hd1 : decide ((1 : Int) < (P.length : Int)) = false := decide_eq_false h1
    cases hb : (G p).contains (p : Int)
    ·have Kst := Lib.hid (show Dg.lps G (ps.take (i + 1)) = Dg.lps G (ps.take i) by rw [Kstep.out, Klpb.out, decide_eq_false (by omega : ¬ 1 < P.length), hb]; rfl)
     have hcon2 := Kcon.out
     rw [hb] at hcon2
     have Kcon2 := Lib.hid hcon2
     clear hcon2 hb
     go_wp2_with fail
     go_quiet (exact Calls.quiet_of_same (Kcon2.out _ (nums_drewN KN3.out _)))
     go_wp2_with fail
     go_roundg (PV.length - (i + 1))
     case measure => have := Kq.out; omega
     case rel =>
      refine ⟨i + 1, by go_num, by omega, rfl, ?_, below_drewN KB.out _⟩
      rw [Kst.out]
      exact own_drewN KO.out _
    ·have Kst := Lib.hid (show Dg.lps G (ps.take (i + 1)) = Dg.lps G (ps.take i) ++ P by rw [Kstep.out, Klpb.out, hb, Bool.or_true]; rfl)
     have hcon2 := Kcon.out
     rw [hb] at hcon2
     have Kcon2 := Lib.hid hcon2
     clear hcon2 hb
     go_wp2_with fail
     go_quiet (exact Calls.quiet_of_same (Kcon2.out _ (nums_drewN KN3.out _)))
     have hlens := Klens.out
     go_wp2_with (at_builtin; refine wpList_append_own2 _ rfl (.tmp 28) (.tmp 29) 28 rfl w1.heap.size 3 i0 _ 1 8 Tryd.underlying28 hi hz0 hz1 hz2 rfl (by decide) (.slice ao (Dg.lps G (ps.take i)).length co) (Dg.lps G (ps.take i)).length (valsOf (Dg.lps G (ps.take i))) rfl (own_drewN KO.out _) ⟨Pb, 0, none⟩ P.length cP (valsOf P) rfl (by rw [valsOf_len, Nat.mul_one]) ((own_drewN Kpo.out _).cells (g := Pb) rfl) (valsOf_one P) (by unfold maxLen; omega) (by omega) (show w1.heap.size ≤ wr.heap.size from hszr) ?_; intro v' w4 hown hgrow hsn)
     have KB4 := Lib.hid ((below_drewN KB.out nq).grown hgrow (show w1.heap.size ≤ wr.heap.size from hszr) (fun q hq => (KO.out.lt q hq).1))
     have KO4 := Lib.hid hown
     obtain ⟨a4, c4, rfl, _⟩ := own_slice hown
     clear hown hgrow hsn hlens
     go_wp2_with fail
     go_roundg (PV.length - (i + 1))
     case measure => have := Kq.out; omega
     case rel =>
      refine ⟨i + 1, by go_num, by omega, rfl, ?_, KB4.out⟩
      rw [Kst.out, valsOf_append, List.length_append]
      exact KO4.out
  ·obtain rfl : i = PV.length := by omega
   have htk : ps.take PV.length = ps := by rw [KPA.out.plen, List.take_length]
   have hO := KO.out
   rw [htk] at hO
   have hQ := Dg.lps_sub G ps
   have hQn : (Dg.lps G ps).Nodup := List.Nodup.sublist hQ KPd.out.nodup
   have hQlt : ∀ x ∈ Dg.lps G ps, x < n := fun x hx => (KPd.out.all x).1 (hQ.subset hx)
   have hQle := hQ.length_le
   obtain ⟨Q, hQe⟩ : ∃ Q, Q = Dg.lps G ps := ⟨_, rfl⟩
   rw [htk, ← hQe]
   rw [← hQe] at hO hQn hQlt hQle
   have hsl : (Dg.srt n Q).length = Q.length := (Dg.srt_perm hQn hQlt).length_eq
   have htl : ∀ lp : Nat → Bool, (∀ i, i < n → (lp i = true ↔ ∃ t, Dg.E G n i t ∧ Dg.R G n t i)) → Dg.srt n Q = (List.range n).filter lp := fun lp hlp => by rw [hQe]; exact Dg.lps_of KPd.out lp hlp
   have Ktl := Lib.hid htl
   have Ksl := Lib.hid hsl
   have Kw := Lib.hid (Kb1.out.trans (below_le KB.out hsz1))
   have Kfl := Kflat.out
   by_cases h0 : Q.length = 0
   ·have hs := sort_none ao co wr
    rw [show (0 : Nat) = Q.length from h0.symm] at hs
    have Ks := Lib.hid hs
    have hnil : Q = [] := List.eq_nil_of_length_eq_zero h0
    have hs2 : Dg.srt n Q = Q := by rw [hnil]; simp [Dg.srt]
    have Ks2 := Lib.hid hs2
    have KO2 := Lib.hid hO
    clear hs hnil h0 hs2 hO hQe hsl
    go_wp2_with fail
    refine Ks.out.mono ?_
    rintro e w2 ⟨rfl, rfl⟩
    go_wp2_with fail
    go_ret
    exact ⟨_, _, Q, rfl, own_base KO2.out hsz1, fun lp hlp => by rw [← Ks2.out]; exact Ktl.out lp hlp, Kw.out⟩
   ·obtain ⟨Qb, cQ, hva, _, hQb⟩ := own_pos hO (by omega)
    simp only [Value.slice.injEq, true_and] at hva
    obtain ⟨rfl, rfl⟩ := hva
    have hQbl := (hO.lt Qb rfl).2
    have ho2 : wr.ownsRow w1.heap.size 3 1 (.slice (some ⟨Qb, 0, none⟩) Q.length co) Q.length ((ints Q).toArray.toList.map (Value.int .i64)) := by rw [ints_map]; exact hO
    have hsort := sort_ints Qb 0 co (ints Q) wr (holds_own _ ho2) hQbl (by rw [ints_length]; omega)
    rw [ints_length, Dg.sorted_srt hQn hQlt] at hsort
    have Ksort := Lib.hid hsort
    have Ko2 := Lib.hid ho2
    clear hsort ho2 hO hQe hsl h0
    go_wp2_with fail
    refine Ksort.out.mono ?_
    rintro e w2 ⟨rfl, m, os, hw2⟩
    have hput := put_own (Value.int .i64) Ko2.out (ints (Dg.srt n Q)).toArray (by rw [List.size_toArray, ints_length]; exact Ksl.out) m os
    rw [← hw2, ints_map] at hput
    have KO2 := Lib.hid hput.1
    have KB2 := Lib.hid (Kw.out.grown hput.2 Kw.out.size (fun k hk => by injection hk with hk; subst hk; omega))
    clear hput hw2 Ksort
    go_wp2_with fail
    go_ret
    exact ⟨_, _, Dg.srt n Q, rfl, own_base KO2.out hsz1, Ktl.out, KB2.out⟩
end Go.Proofs.YtdlplmbdkjkeiaaDoor
