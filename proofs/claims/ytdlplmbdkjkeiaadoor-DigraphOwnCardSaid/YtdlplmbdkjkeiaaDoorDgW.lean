import Derived.Test.YtdlplmbdkjkeiaaDoorDgV
import Derived.Test.YtdlplmbdkjkeiaaDoorDgP
namespace Go.Proofs.YtdlplmbdkjkeiaaDoor
set_option maxRecDepth 100000
open Go.RowKit Go.Sort
set_option linter.unusedVariables false
set_option linter.unusedSimpArgs false
theorem PartsAt.step {w w' : World} {B i g c : Nat} {v : Value} {PV : List Value} {L : List (List Nat)} {P P' : List Nat} (h : PartsAt w B v PV L) (hP : L[i]? = some P) (hv : PV[i]? = some (.slice (some ⟨g, 0, none⟩) P.length c))
  (hl : P'.length = P.length) (ho : w'.ownsRow B 3 1 (.slice (some ⟨g, 0, none⟩) P.length c) P.length (valsOf P')) (hg : w.grownBy w' (some g)) : PartsAt w' B v PV (L.set i P') := by
 have hpo := h.each i P _ hP hv
 have hit : i < L.length := (List.getElem?_eq_some_iff.1 hP).1
 refine ⟨h.own.kept hg (ap_or (ap_type h.own hpo (by decide))), by rw [List.length_set, h.plen], fun j Q u h1 h2 => ?_, h.apart⟩
 rw [List.getElem?_set] at h1
 by_cases he : i = j
 ·subst he
  rw [if_pos rfl, if_pos hit] at h1
  injection h1 with h1
  subst h1
  rw [hv] at h2
  injection h2 with h2
  subst h2
  rw [hl]; exact ho
 ·rw [if_neg he] at h1
  refine (h.each j Q u h1 h2).kept hg (ap_or (u := .slice (some ⟨g, 0, none⟩) P.length c) ?_)
  obtain ⟨hi2, e1⟩ := List.getElem?_eq_some_iff.1 hv
  obtain ⟨hj2, e2⟩ := List.getElem?_eq_some_iff.1 h2
  have hpw := List.pairwise_iff_getElem.1 h.apart
  rcases Nat.lt_or_ge i j with hlt | hge
  ·have := hpw i j hi2 hj2 hlt
   rw [e1, e2] at this
   exact this.symm
  ·have := hpw j i hj2 hi2 (by omega)
   rwa [e1, e2] at this
def Half (n : Nat) (ps : List (List Nat)) (k : Nat) (L : List (List Nat)) : Prop := ∀ i, L[i]? = if i < k then (ps[i]?).map (Dg.srt n) else ps[i]?
theorem Half.step {n k : Nat} {ps L : List (List Nat)} {P : List Nat} (h : Half n ps k L) (hP : ps[k]? = some P) : Half n ps (k + 1) (L.set k (Dg.srt n P)) := fun i => by
 have hk : L[k]? = some P := by rw [h k, if_neg (by omega), hP]
 have hkl : k < L.length := (List.getElem?_eq_some_iff.1 hk).1
 rw [List.getElem?_set]
 by_cases he : k = i
 ·subst he
  rw [if_pos rfl, if_pos hkl, if_pos (by omega), hP]; rfl
 ·rw [if_neg he, h i]
  by_cases hi : i < k
  ·rw [if_pos hi, if_pos (by omega)]
  ·rw [if_neg hi, if_neg (by omega)]
theorem Half.done {n k : Nat} {ps L : List (List Nat)} (h : Half n ps k L) (hk : ps.length ≤ k) : L = ps.map (Dg.srt n) := by
 apply List.ext_getElem?
 intro i
 rw [h i, List.getElem?_map]
 by_cases hi : i < k
 ·rw [if_pos hi]
 ·rw [if_neg hi, List.getElem?_eq_none (by omega)]; rfl
theorem Half.zero (n : Nat) (ps : List (List Nat)) : Half n ps 0 ps := fun i => by rw [if_neg (by omega)]
theorem Half.at_ {n k : Nat} {ps L : List (List Nat)} {P : List Nat} (h : Half n ps k L) (hP : ps[k]? = some P) : L[k]? = some P := by rw [h k, if_neg (by omega), hP]
theorem ints_map (P : List Nat) : ((ints P).toArray).toList.map (Value.int .i64) = valsOf P := by rw [valsOf_ints]; rfl
structure PartsTold (w w' : World) (G : Nat → List Int) (n : Nat) (v : Value) (PV : List Value) (qs : List (List Nat)) : Prop where
 at_ : PartsAt w' w.heap.size v PV qs
 canon : ∀ rb : Nat → Nat → Bool, (∀ i k, i < n → k < n → (rb i k = true ↔ Dg.R G n i k)) → qs = Dg.canon rb n
 below : Below w.heap.size w w'
def encR (PV : List Value) (i : Nat) : Value := PV.getD i (.slice none 0 0)
def lisR (L : List (List Nat)) (i : Nat) : List Int := ints (L.getD i [])
theorem enc_row {w : World} {B : Nat} {PV : List Value} {L : List (List Nat)} (hpl : PV.length = L.length) (he : ∀ (i : Nat) (P : List Nat) (v : Value), L[i]? = some P → PV[i]? = some v → w.ownsRow B 3 1 v P.length (valsOf P)) (hs : ∀ P ∈ L, ∀ x ∈ P, x ≤ 9223372036854775807) (i : Nat) :
  ∃ A c, encR PV i = .slice A (lisR L i).length c ∧ Nums w w.heap.size A (lisR L i).length (fun k => (lisR L i).getD k 0) := by
 by_cases hi : i < PV.length
 ·have hi2 : i < L.length := by rw [← hpl]; exact hi
  have e1 := List.getElem?_eq_getElem hi
  have e2 := List.getElem?_eq_getElem hi2
  have ho := he i _ _ e2 e1
  rw [valsOf_ints] at ho
  have hsm : Small (ints L[i]) := by
   intro x hx
   obtain ⟨y, hy, rfl⟩ := List.mem_map.1 hx
   have := hs _ (List.getElem_mem hi2) y hy
   omega
  obtain ⟨A, c, h1, _, h3⟩ := RowIn.own ho hsm
  have e3 : lisR L i = ints L[i] := by unfold lisR; rw [List.getD, e2]; rfl
  refine ⟨A, c, ?_, ?_⟩
  ·rw [e3, encR, List.getD, e1]; exact h1
  ·rw [e3]; exact h3
 ·refine ⟨none, 0, ?_, ?_⟩
  ·rw [encR, lisR, List.getD, List.getD, List.getElem?_eq_none (by omega), List.getElem?_eq_none (by omega)]; rfl
  ·rw [lisR, List.getD, List.getElem?_eq_none (by omega)]
   exact Nums.nil _ _ _ _
theorem range_enc (PV : List Value) : (Array.range PV.length).toList.map (encR PV) = PV := by
 apply List.ext_getElem?
 intro i
 rw [Array.toList_range, List.getElem?_map]
 by_cases hi : i < PV.length
 ·rw [List.getElem?_range hi]
  simp [encR, List.getD, hi]
 ·rw [List.getElem?_eq_none (by simp; omega), List.getElem?_eq_none (by omega)]; rfl
theorem sorted_rows {w : World} {B n pb c : Nat} {G : Nat → List Int} {PV : List Value} {ps : List (List Nat)} (hPd : Dg.Parted G n ps) (hn : n ≤ 1099511627776) (h : PartsAt w B (.slice (some ⟨pb, 0, none⟩) PV.length c) PV (ps.map (Dg.srt n))) :
  Calls Tryd.prog 30 #[.slice (some ⟨pb, 0, none⟩) PV.length c, .func (.func 31) #[] #[]] w fun e w' => e = .returned (.tuple #[]) ∧ ∃ PV' qs, PartsAt w' B (.slice (some ⟨pb, 0, none⟩) PV.length c) PV' qs ∧ PV'.length = PV.length ∧
   (∀ rb : Nat → Nat → Bool, (∀ i k, i < n → k < n → (rb i k = true ↔ Dg.R G n i k)) → qs = Dg.canon rb n) ∧ w.grownBy w' (some pb) := by
 have hsm : ∀ P ∈ ps.map (Dg.srt n), ∀ x ∈ P, x ≤ 9223372036854775807 := by
  intro P hP x hx
  obtain ⟨Q, hQ, rfl⟩ := List.mem_map.1 hP
  have := List.mem_range.1 (List.mem_filter.1 hx).1
  omega
 have hen : (Array.range PV.length).toList.map (encR PV) = PV := range_enc PV
 have hds : (Array.range PV.length).size = PV.length := by simp
 have hone : OneCell (encR PV) := fun x => by
  obtain ⟨A, c', e, _⟩ := enc_row h.plen h.each hsm x
  rw [e]; rfl
 have ho : w.ownsRow B 28 1 (.slice (some ⟨pb, 0, none⟩) PV.length c) PV.length ((Array.range PV.length).toList.map (encR PV)) := by rw [hen]; exact h.own
 have hgr : ∀ (m : Nat) (os : Array Obj) (dk : Array Nat), dk.size = PV.length → (sortWorld (encR PV) w pb 0 m dk os).ownsRow B 28 1 (.slice (some ⟨pb, 0, none⟩) PV.length c) PV.length (dk.toList.map (encR PV)) ∧ w.grownBy (sortWorld (encR PV) w pb 0 m dk os) (some pb) :=
  fun m os dk hd => put_own (encR PV) ho dk hd m os
 have hpb : pb < w.heap.size := (h.own.lt pb rfl).2
 have hml : PV.length < 4611686018427387904 := by
  have h1 := h.plen
  rw [List.length_map] at h1
  have h2 := parts_le ps (fun P hP => (hPd.one P hP).1)
  have h3 := Dg.nodup_le n _ hPd.nodup (fun v hv => (hPd.all v).1 hv)
  omega
 have key := sort_rows (encR PV) hone (fun i j => cmpL (lisR (ps.map (Dg.srt n)) i) (lisR (ps.map (Dg.srt n)) j)) (cmpL_swo _) 31 #[] pb 0 c (Array.range PV.length) w (enters_of (Tryd.func31) (by kernel_rfl) rfl) ?_ (holds_own _ ho) hpb (by rw [hds]; exact hml)
 ·rw [hds] at key
  refine key.mono ?_
  rintro e w' ⟨rfl, d', n', os, hperm, hsort, rfl⟩
  refine ⟨rfl, ?_⟩
  have hd' : d'.size = PV.length := by rw [hperm.1, hds]
  obtain ⟨ho', hg⟩ := hgr n' os d' hd'
  have hpm : d'.toList.Perm (List.range PV.length) := by
   have h1 := hperm.2.2
   have h2 : d'.extract 0 PV.length = d' := by rw [← hd']; exact Array.extract_size
   have h3 : (Array.range PV.length).extract 0 PV.length = Array.range PV.length := by
    conv => lhs; rw [← hds]
    rw [hds]
    have := Array.extract_size (xs := Array.range PV.length)
    rwa [hds] at this
   rw [h2, h3, Array.toList_range] at h1
   exact h1
  have hen2 : PV = (List.range PV.length).map (encR PV) := by rw [← Array.toList_range]; exact hen.symm
  have hLp : (List.range PV.length).map (fun i => (ps.map (Dg.srt n)).getD i []) = ps.map (Dg.srt n) := by
   apply List.ext_getElem?
   intro i
   rw [List.getElem?_map]
   have hpl := h.plen
   by_cases hi : i < PV.length
   ·rw [List.getElem?_range hi]
    simp only [Option.map_some, List.getD]
    rw [List.getElem?_eq_getElem (by omega)]; rfl
   ·rw [List.getElem?_eq_none (by simp; omega), List.getElem?_eq_none (by omega)]; rfl
  have hmem : ∀ i x, d'.toList[i]? = some x → x < PV.length := fun i x hx => List.mem_range.1 (hpm.mem_iff.1 (List.mem_of_getElem? hx))
  refine ⟨d'.toList.map (encR PV), d'.toList.map (fun i => (ps.map (Dg.srt n)).getD i []), ⟨?_, by simp, fun i P u h1 h2 => ?_, ?_⟩, by simp [hd'], fun rb hrb => ?_, hg⟩
  ·rw [show (d'.toList.map (encR PV)).length = PV.length by simp [hd']]
   exact ho'
  ·rw [List.getElem?_map] at h1 h2
   cases hx : d'.toList[i]? with
   | none => rw [hx] at h1; cases h1
   | some x =>
    rw [hx] at h1 h2
    have hxl := hmem i x hx
    simp only [Option.map_some, Option.some.injEq] at h1 h2
    subst h1
    subst h2
    have e1 : (ps.map (Dg.srt n))[x]? = some ((ps.map (Dg.srt n)).getD x []) := by rw [List.getD, List.getElem?_eq_getElem (by rw [← h.plen]; exact hxl)]; rfl
    have e2 : PV[x]? = some (encR PV x) := by rw [encR, List.getD, List.getElem?_eq_getElem hxl]; rfl
    have h3 := h.each x _ _ e1 e2
    exact h3.kept hg (ap_or (u := .slice (some ⟨pb, 0, none⟩) PV.length c) (ap_type h3 h.own (by decide)))
  ·have h1 : (d'.toList.map (encR PV)).Perm PV := by
    conv => rhs; rw [hen2]
    exact hpm.map _
   exact (h1.pairwise_iff (fun {x y} h => h.symm)).2 h.apart
  ·refine Dg.canon_of hPd hrb (by conv => { rhs; rw [← hLp] }; exact hpm.map _) (fun i j P Q hij h1 h2 => ?_)
   rw [List.getElem?_map] at h1 h2
   cases hx : d'.toList[i]? with
   | none => rw [hx] at h1; cases h1
   | some x =>
    cases hy : d'.toList[j]? with
    | none => rw [hy] at h2; cases h2
    | some y =>
     rw [hx] at h1
     rw [hy] at h2
     simp only [Option.map_some, Option.some.injEq] at h1 h2
     subst h1
     subst h2
     have hjl : j < d'.size := by have := (List.getElem?_eq_some_iff.1 hy).1; simpa using this
     have h3 := hsort i j (by omega) hij (by omega)
     unfold ltOf at h3
     simp only [decide_eq_false_iff_not] at h3
     have ex : d'[i]! = x := by
      have h4 : d'[i]? = some x := by rw [← Array.getElem?_toList]; exact hx
      rw [getElem!_def, h4]
     have ey : d'[j]! = y := by
      have h4 : d'[j]? = some y := by rw [← Array.getElem?_toList]; exact hy
      rw [getElem!_def, h4]
     rw [ex, ey] at h3
     exact h3
 ·intro m os dk hd x y
  rw [hds] at hd
  obtain ⟨ho', hg⟩ := hgr m os dk hd
  have hrow : ∀ z, ∃ A c', encR PV z = .slice A (lisR (ps.map (Dg.srt n)) z).length c' ∧ Nums (sortWorld (encR PV) w pb 0 m dk os) (sortWorld (encR PV) w pb 0 m dk os).heap.size A (lisR (ps.map (Dg.srt n)) z).length (fun k => (lisR (ps.map (Dg.srt n)) z).getD k 0) := by
   have hat2 : ∀ (i : Nat) (P : List Nat) (v : Value), (ps.map (Dg.srt n))[i]? = some P → PV[i]? = some v → (sortWorld (encR PV) w pb 0 m dk os).ownsRow B 3 1 v P.length (valsOf P) := fun i P u h1 h2 => by
    have h3 := h.each i P u h1 h2
    exact h3.kept hg (ap_or (u := .slice (some ⟨pb, 0, none⟩) PV.length c) (ap_type h3 h.own (by decide)))
   exact enc_row h.plen hat2 hsm
  obtain ⟨A, c1, e1, h1⟩ := hrow x
  obtain ⟨A', c2, e2, h2⟩ := hrow y
  rw [e1, e2]
  refine (compare_any A c1 A' c2 _ _ _ _ _ h1 h2).mono ?_
  rintro e w' ⟨rfl, rfl⟩
  exact ⟨rfl, 0, #[], by rw [grow_empty]; rfl⟩
set_option maxHeartbeats 4000000 in
theorem gparts_any (A : Option Addr) (n c : Nat) (RV : List Value) (G : Nat → List Int) (w : World) (hR : Rows w w.heap.size A RV G) (hl : RV.length = n) (hn : n ≤ 1099511627776) :
  Calls Tryd.prog 14 #[.slice A n c] w fun e w' => ∃ v PV qs, e = .returned v ∧ PartsTold w w' G n v PV qs := by
 have hparts := Lib.hid (parts_run A n c RV G w hR hl hn)
 clear hR
 go_enter Tryd.func14, Tryd.ntmps14
 go_wp2_with fail
 refine hparts.out.mono ?_
 rintro e w1 ⟨v, PV, ps, rfl, hPd, hPA, hb1⟩
 obtain ⟨va, vc, rfl, hvc⟩ := own_slice hPA.own
 have hPVb : PV.length ≤ 1099511627776 := by
  have h1 := hPA.plen
  have h2 := parts_le ps (fun P hP => (hPd.one P hP).1)
  have h3 := Dg.nodup_le n _ hPd.nodup (fun v hv => (hPd.all v).1 hv)
  omega
 have KPd := Lib.hid hPd
 have KPA := Lib.hid hPA
 have Kb1 := Lib.hid hb1
 clear hPd hPA hb1 hparts
 go_wp2_with fail
 go_loopg [10] PV.length (fun q t10 wr => ∃ (i : Nat) (L : List (List Nat)), t10 = .int .i64 (i : Int) ∧ i ≤ PV.length ∧ q = PV.length - i ∧ PartsAt wr w.heap.size (.slice va PV.length vc) PV L ∧ Half n ps i L ∧ Below w.heap.size w wr)
 case atStart => exact ⟨0, ps, rfl, by omega, by omega, KPA.out, Half.zero n ps, Kb1.out⟩
 case round =>
  obtain ⟨i, L, rfl, hi, hq, hP, hH, hB⟩ := hrel
  have KP := Lib.hid hP
  have KH := Lib.hid hH
  have KB := Lib.hid hB
  have Kq := Lib.hid hq
  clear hP hH hB hq
  by_cases hlt : i < PV.length
  ·have hlt2 : i < ps.length := by rw [← KPA.out.plen]; exact hlt
   obtain ⟨P, hP⟩ : ∃ P, ps[i]? = some P := ⟨_, List.getElem?_eq_getElem hlt2⟩
   have hPm : P ∈ ps := List.mem_of_getElem? hP
   obtain ⟨pv, hpv⟩ : ∃ pv, PV[i]? = some pv := ⟨_, List.getElem?_eq_getElem hlt⟩
   have hpo := KP.out.each i P pv (KH.out.at_ hP) hpv
   have hPl : 0 < P.length := List.length_pos_iff.2 (KPd.out.one P hPm).1
   obtain ⟨Pb, cP, rfl, hcP, _⟩ := own_pos hpo hPl
   obtain ⟨pb, cpb, hva, _, _⟩ := own_pos KP.out.own (by omega)
   simp only [Value.slice.injEq, true_and] at hva
   obtain ⟨rfl, rfl⟩ := hva
   have cpv : wr.cell? ⟨pb, i, none⟩ = some (.slice (some ⟨Pb, 0, none⟩) P.length cP) := by rw [KP.out.own.cellAt i (by omega), hpv]
   have q1 : (0 : Int) ≤ (i : Int) := by omega
   have q2 : (i : Int) < (PV.length : Int) := by omega
   have q3 : ((i : Int)).toNat = i := by omega
   have hPlt : ∀ x ∈ P, x < n := fun x hx => KPd.out.lt hPm hx
   have hPn : P.Nodup := KPd.out.each_nodup hPm
   have hPle := Dg.nodup_le n P hPn hPlt
   have hpb := (hpo.lt Pb rfl).2
   have ho2 : wr.ownsRow w.heap.size 3 1 (.slice (some ⟨Pb, 0, none⟩) P.length cP) P.length ((ints P).toArray.toList.map (Value.int .i64)) := by rw [ints_map]; exact hpo
   have hsort := sort_ints Pb 0 cP (ints P) wr (holds_own _ ho2) hpb (by rw [ints_length]; omega)
   rw [ints_length, Dg.sorted_srt hPn hPlt] at hsort
   have Ksort := Lib.hid hsort
   have Ko2 := Lib.hid ho2
   have Kpv := Lib.hid hpv
   have KPi := Lib.hid hP
   have hsl : (Dg.srt n P).length = P.length := (Dg.srt_perm hPn hPlt).length_eq
   have Ksl := Lib.hid hsl
   clear hP hPm hpv hpo hPl hPlt hPn hsort ho2 hsl hlt2
   go_wp2_with fail
   refine Ksort.out.mono ?_
   rintro e w2 ⟨rfl, m, os, hw2⟩
   have hput := put_own (Value.int .i64) Ko2.out (ints (Dg.srt n P)).toArray (by rw [List.size_toArray, ints_length]; exact Ksl.out) m os
   rw [← hw2, ints_map] at hput
   have KP2 := Lib.hid (KP.out.step (KH.out.at_ KPi.out) Kpv.out Ksl.out hput.1 hput.2)
   have KB2 := Lib.hid (KB.out.grown hput.2 KB.out.size (fun k hk => by injection hk with hk; subst hk; exact (Ko2.out.lt _ rfl).1))
   clear hput hw2 Ksort cpv
   go_wp2_with fail
   go_roundg (PV.length - (i + 1))
   case measure => have := Kq.out; omega
   case rel => exact ⟨i + 1, _, by go_num, by omega, rfl, KP2.out, KH.out.step KPi.out, KB2.out⟩
  ·obtain rfl : i = PV.length := by omega
   obtain rfl := KH.out.done (by rw [KPA.out.plen]; exact Nat.le_refl _)
   have hps := KP.out.plen
   rw [List.length_map] at hps
   by_cases h0 : PV.length = 0
   ·have hnil : ps = [] := List.eq_nil_of_length_eq_zero (by omega)
    have hs := sort_rows_none va vc (.func (.func 31) #[] #[]) wr (α := Nat)
    rw [show (0 : Nat) = PV.length from h0.symm] at hs
    have Ks := Lib.hid hs
    have Knil := Lib.hid hnil
    clear hs hnil h0 hps
    go_wp2_with fail
    refine Ks.out.mono ?_
    rintro e w2 ⟨rfl, rfl⟩
    go_wp2_with fail
    go_ret
    refine ⟨_, PV, _, rfl, KP.out, fun rb hrb => Dg.canon_of KPd.out hrb (List.Perm.refl _) (fun i j P Q _ h1 _ => ?_), KB.out⟩
    rw [Knil.out] at h1
    simp at h1
   ·obtain ⟨pb, cpb, hva, _, _⟩ := own_pos KP.out.own (by omega)
    simp only [Value.slice.injEq, true_and] at hva
    obtain ⟨rfl, rfl⟩ := hva
    have Ks := Lib.hid (sorted_rows KPd.out hn KP.out)
    clear hps h0
    go_wp2_with fail
    refine Ks.out.mono ?_
    rintro e w2 ⟨rfl, PV', qs, hP2, hl2, hc2, hg2⟩
    have KP2 := Lib.hid hP2
    have Kc2 := Lib.hid hc2
    have KB2 := Lib.hid (KB.out.grown hg2 KB.out.size (fun k hk => by injection hk with hk; subst hk; exact (KP.out.own.lt _ rfl).1))
    clear hP2 hc2 hg2 Ks
    go_wp2_with fail
    go_ret
    exact ⟨_, PV', qs, rfl, KP2.out, Kc2.out, KB2.out⟩
end Go.Proofs.YtdlplmbdkjkeiaaDoor
