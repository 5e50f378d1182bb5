import Derived.Test.YtdlplmbdkjkeiaaDoorDgY
namespace Go.Proofs.YtdlplmbdkjkeiaaDoor
set_option maxRecDepth 100000
open Go.RowKit
set_option linter.unusedVariables false
set_option linter.unusedSimpArgs false
structure ListsAt (w : World) (B : Nat) (v : Value) (OV : List Value) (LL : List (List Nat)) : Prop where
 own : w.ownsRow B 28 1 v OV.length OV
 len : OV.length = LL.length
 each : ∀ (i : Nat) (P : List Nat) (u : Value), LL[i]? = some P → OV[i]? = some u → w.ownsRow B 3 1 u P.length (valsOf P)
theorem PartsAt.lists {w : World} {B : Nat} {v : Value} {PV : List Value} {ps : List (List Nat)} (h : PartsAt w B v PV ps) : ListsAt w B v PV ps := ⟨h.own, h.plen, h.each⟩
theorem ListsAt.nil (w : World) (B : Nat) : ListsAt w B (.slice none 0 0) [] [] := ⟨World.ownsRow_nil _ _ _ _, rfl, (fun i P u h => by simp at h)⟩
section
variable {w w' : World} {B : Nat} {v v' : Value} {OV : List Value} {LL : List (List Nat)}
theorem ListsAt.kept_other (h : ListsAt w B v OV LL) {B' e m : Nat} {d : Value} {xs : List Value} (hd : w.ownsRow B' e 1 d m xs) (h1 : 28 ≠ e) (h2 : 3 ≠ e) (hg : w.grownBy w' d.ownBlock) : ListsAt w' B v OV LL :=
 ⟨h.own.kept hg (ap_or (ap_type h.own hd h1)), h.len, fun i P u a b => (h.each i P u a b).kept hg (ap_or (ap_type (h.each i P u a b) hd h2))⟩
theorem ListsAt.alloc (h : ListsAt w B v OV LL) (o : Obj) : ListsAt (w.alloc o) B v OV LL := ⟨h.own.alloc _, h.len, fun i P u a b => (h.each i P u a b).alloc _⟩
theorem ListsAt.push (h : ListsAt w B v OV LL) {u : Value} {P : List Nat} (hu : w.ownsRow B 3 1 u P.length (valsOf P)) (hg : w.grownBy w' v.ownBlock) (ho : w'.ownsRow B 28 1 v' (OV.length + 1) (OV ++ [u])) : ListsAt w' B v' (OV ++ [u]) (LL ++ [P]) := by
 refine ⟨by rw [List.length_append]; exact ho, by rw [List.length_append, List.length_append, h.len]; rfl, fun i Q x a b => ?_⟩
 by_cases hi : i < OV.length
 ·rw [List.getElem?_append_left (by rw [← h.len]; exact hi)] at a
  rw [List.getElem?_append_left hi] at b
  have h1 := h.each i Q x a b
  exact h1.kept hg (ap_or (ap_type h1 h.own (by decide)))
 ·have hl := (List.getElem?_eq_some_iff.1 b).1
  rw [List.length_append] at hl
  obtain rfl : i = OV.length := by simp at hl; omega
  rw [List.getElem?_append_right (by rw [h.len]; exact Nat.le_refl _), ← h.len] at a
  rw [List.getElem?_append_right (Nat.le_refl _)] at b
  simp at a b
  subst a
  subst b
  exact hu.kept hg (ap_or (ap_type hu h.own (by decide)))
theorem ListsAt.low {B' : Nat} (h : ListsAt w B v OV LL) (hB : B' ≤ B) : ListsAt w B' v OV LL := ⟨own_base h.own hB, h.len, fun i P u a b => own_base (h.each i P u a b) hB⟩
theorem ListsAt.rows (h : ListsAt w B v OV LL) (hs : ∀ P ∈ LL, ∀ x ∈ P, x ≤ 9223372036854775807) : RowsL w v (LL.map ints) := by
 refine RowsL.own h.own (by rw [List.length_map, h.len]) (fun i l u h1 h2 => ?_)
 rw [List.getElem?_map] at h1
 cases hP : LL[i]? with
 | none => rw [hP] at h1; cases h1
 | some P =>
  rw [hP] at h1
  simp only [Option.map_some, Option.some.injEq] at h1
  subst h1
  have ho := h.each i P u hP h2
  rw [valsOf_ints] at ho
  refine RowIn.own ho (fun x hx => ?_)
  obtain ⟨y, hy, rfl⟩ := List.mem_map.1 hx
  have := hs P (List.mem_of_getElem? hP) y hy
  omega
end
theorem canon_small (rb : Nat → Nat → Bool) {n : Nat} (hn : n ≤ 1099511627776) : ∀ P ∈ Dg.canon rb n, ∀ x ∈ P, x ≤ 9223372036854775807 := by
 intro P hP x hx
 obtain ⟨i, _, rfl⟩ := List.mem_map.1 hP
 have := List.mem_range.1 (List.mem_filter.1 hx).1
 omega
structure Boxd (w : World) (B n : Nat) (v : Value) (RV : List Value) (k : Nat) (Ss : Nat → Nat → Bool) : Prop where
 own : w.ownsRow B 42 1 v k RV
 each : ∀ i, i < k → ∃ L c, RV[i]? = some (.slice (some ⟨L, 0, none⟩) n c) ∧ w.ownsRow B 4 1 (.slice (some ⟨L, 0, none⟩) n c) n (bls n (Ss i))
theorem Boxd.below {w w' : World} {B B' n k : Nat} {v : Value} {RV : List Value} {Ss : Nat → Nat → Bool} (h : Boxd w B n v RV k Ss) (hb : Below B' w w') (hB : w.heap.size ≤ B') : Boxd w' B n v RV k Ss :=
 ⟨own_below h.own hb (fun q hq => Nat.lt_of_lt_of_le (own_block h.own q hq) hB), fun i hi => by
  obtain ⟨L, c, h1, h2⟩ := h.each i hi
  exact ⟨L, c, h1, own_below h2 hb (fun q hq => Nat.lt_of_lt_of_le (own_block h2 q hq) hB)⟩⟩
theorem Boxd.push {w w' : World} {B n k L c : Nat} {v v' : Value} {RV : List Value} {Ss : Nat → Nat → Bool} {S : Nat → Bool} (h : Boxd w B n v RV k Ss) (hu : w.ownsRow B 4 1 (.slice (some ⟨L, 0, none⟩) n c) n (bls n S)) (hg : w.grownBy w' v.ownBlock)
  (ho : w'.ownsRow B 42 1 v' (k + 1) (RV ++ [.slice (some ⟨L, 0, none⟩) n c])) : Boxd w' B n v' (RV ++ [.slice (some ⟨L, 0, none⟩) n c]) (k + 1) (Dg.upd Ss k S) := by
 have hl : RV.length = k := by have := h.own.1; omega
 refine ⟨ho, fun i hi => ?_⟩
 by_cases he : i = k
 ·subst he
  rw [Dg.upd_self]
  exact ⟨L, c, by rw [List.getElem?_append_right (by omega), hl]; simp, hu.kept hg (ap_or (ap_type hu h.own (by decide)))⟩
 ·rw [Dg.upd_other _ _ he]
  obtain ⟨L', c', h1, h2⟩ := h.each i (by omega)
  exact ⟨L', c', by rw [List.getElem?_append_left (by omega)]; exact h1, h2.kept hg (ap_or (ap_type h2 h.own (by decide)))⟩
theorem Boxd.alloc {w : World} {B n k : Nat} {v : Value} {RV : List Value} {Ss : Nat → Nat → Bool} (h : Boxd w B n v RV k Ss) (o : Obj) : Boxd (w.alloc o) B n v RV k Ss :=
 ⟨h.own.alloc _, fun i hi => by
  obtain ⟨L, c, h1, h2⟩ := h.each i hi
  exact ⟨L, c, h1, h2.alloc _⟩⟩
theorem Tryd.infoBools : (Tryd.prog.info? 42).map (fun i => (i.zero, i.size, i.bytes)) = some (some (.slice none 0 0), 1, 24) := by kernel_rfl
theorem grown_past {a w w' : World} {r row : Option Nat} (h : a.grownBy w r) (hg : w.grownBy w' row) (hr : ∀ k, row = some k → a.heap.size ≤ k) : a.grownBy w' r :=
 ⟨hg.os.trans h.os, hg.tape.trans h.tape, hg.output.trans h.output, Nat.le_trans h.size hg.size, fun k hk hne => by
  rw [hg.block k (Nat.lt_of_lt_of_le hk h.size) (fun e => absurd (hr k e.symm) (by omega)), h.block k hk hne]⟩
def DoneTo (Ss : Nat → Nat → Bool) (n i : Nat) (D : Nat → Bool) : Prop := ∀ y, y < n → (D y = true ↔ ∃ j, j < i ∧ Ss j y = true ∧ Ss y j = true)
theorem DoneTo.first {Ss : Nat → Nat → Bool} {n i : Nat} {D : Nat → Bool} (h : DoneTo Ss n i D) (hi : i < n) : Dg.first Ss i = !(D i) := by
 rw [Bool.eq_iff_iff]
 simp only [Dg.first, List.all_eq_true, List.mem_range, Bool.not_eq_true', Bool.and_eq_false_iff]
 constructor
 ·intro h1
  cases hD : D i
  ·rfl
  ·obtain ⟨j, h2, h3, h4⟩ := (h i hi).1 hD
   have := h1 j h2
   rw [h3, h4] at this
   simp at this
 ·intro h1 k hk
  cases h2 : Ss k i
  ·exact .inl rfl
  cases h3 : Ss i k
  ·exact .inr rfl
  rw [(h i hi).2 ⟨k, hk, h2, h3⟩] at h1
  cases h1
theorem DoneTo.skip {G : Nat → List Int} {Ss : Nat → Nat → Bool} {n i : Nat} {D : Nat → Bool} (h : DoneTo Ss n i D) (hi : i < n) (hD : D i = true) (ht : ∀ x, x < n → ∀ j, Ss x j = true ↔ Dg.R G n x j) : DoneTo Ss n (i + 1) D := fun y hy => by
 rw [h y hy]
 constructor
 ·rintro ⟨j, h1, h2⟩
  exact ⟨j, by omega, h2⟩
 ·rintro ⟨j, h1, h2, h3⟩
  by_cases he : j = i
  ·subst he
   obtain ⟨j', k1, k2, k3⟩ := (h j hi).1 hD
   exact ⟨j', k1, (ht j' (by omega) y).2 (((ht j' (by omega) j).1 k2).trans ((ht j hi y).1 h2)), (ht y hy j').2 (((ht y hy j).1 h3).trans ((ht j hi j').1 k3))⟩
  ·exact ⟨j, by omega, h2, h3⟩
theorem DoneTo.next {Ss : Nat → Nat → Bool} {n i : Nat} {D D' : Nat → Bool} (h : DoneTo Ss n i D) (hD : ∀ y, D' y = true ↔ D y = true ∨ (y < n ∧ Ss i y = true ∧ Ss y i = true)) : DoneTo Ss n (i + 1) D' := fun y hy => by
 rw [hD y, h y hy]
 constructor
 ·rintro (⟨j, h1, h2⟩ | ⟨_, h2⟩)
  ·exact ⟨j, by omega, h2⟩
  ·exact ⟨i, by omega, h2⟩
 ·rintro ⟨j, h1, h2⟩
  by_cases he : j = i
  ·subst he; exact .inr ⟨hy, h2⟩
  ·exact .inl ⟨j, by omega, h2⟩
def canonTo (rb : Nat → Nat → Bool) (n i : Nat) : List (List Nat) := ((List.range i).filter (Dg.first rb)).map (Dg.cls rb n)
theorem canonTo_skip {rb : Nat → Nat → Bool} {n i : Nat} (h : Dg.first rb i = false) : canonTo rb n (i + 1) = canonTo rb n i := by simp [canonTo, List.range_succ, h]
theorem canonTo_next {rb : Nat → Nat → Bool} {n i : Nat} (h : Dg.first rb i = true) : canonTo rb n (i + 1) = canonTo rb n i ++ [Dg.cls rb n i] := by simp [canonTo, List.range_succ, h]
def clsTo (rb : Nat → Nat → Bool) (i k : Nat) : List Nat := (List.range k).filter fun y => rb i y && rb y i
theorem clsTo_skip {rb : Nat → Nat → Bool} {i k : Nat} (h : (rb i k && rb k i) = false) : clsTo rb i (k + 1) = clsTo rb i k := by simp [clsTo, List.range_succ, List.filter_append, List.filter_cons, h]
theorem clsTo_next {rb : Nat → Nat → Bool} {i k : Nat} (h : (rb i k && rb k i) = true) : clsTo rb i (k + 1) = clsTo rb i k ++ [k] := by simp [clsTo, List.range_succ, List.filter_append, List.filter_cons, h]
theorem clsTo_le (rb : Nat → Nat → Bool) (i k : Nat) : (clsTo rb i k).length ≤ k := Nat.le_trans (List.length_filter_le _ _) (by rw [List.length_range]; exact Nat.le_refl _)
theorem canonTo_le (rb : Nat → Nat → Bool) (n i : Nat) : (canonTo rb n i).length ≤ i := by
 rw [canonTo, List.length_map]
 exact Nat.le_trans (List.length_filter_le _ _) (by rw [List.length_range]; exact Nat.le_refl _)
structure RefParts (w w' : World) (E : List (List Int)) (v : Value) (OV : List Value) (rb : Nat → Nat → Bool) : Prop where
 at_ : ListsAt w' w.heap.size v OV (Dg.canon rb E.length)
 tells : ∀ i, i < E.length → ∀ k, rb i k = true ↔ Dg.R (fnL E) E.length i k
 below : Below w.heap.size w w'
set_option maxHeartbeats 4000000 in
theorem refparts_any (v : Value) (E : List (List Int)) (w : World) (hE : RowsL w v E) (hn : E.length ≤ 1099511627776) :
  Calls Tryd.prog 17 #[v] w fun e w' => ∃ u OV rb, e = .returned u ∧ RefParts w w' E u OV rb := by
 have KE := Lib.hid hE
 have hmk := Lib.hid (fun wx => run_make_bools E.length hn wx)
 obtain ⟨i0, hi, hz0, hz1, hz2⟩ := info_parts Tryd.infoInt
 obtain ⟨i1, hj, hy0, hy1, hy2⟩ := info_parts Tryd.infoRow
 obtain ⟨i2, hk, hx0, hx1, hx2⟩ := info_parts Tryd.infoBools
 obtain ⟨A, c, rfl⟩ := hE.shape
 clear hE
 go_enter Tryd.func17, Tryd.ntmps17
 go_wp2_with fail
 go_loopg [4, 5] E.length (fun q t4 t5 wr => ∃ (i : Nat) (RV : List Value) (Ss : Nat → Nat → Bool), t5 = .int .i64 (i : Int) ∧ i ≤ E.length ∧ q = E.length - i ∧ Boxd wr w.heap.size E.length t4 RV i Ss ∧ (∀ x, x < i → ∀ j, Ss x j = true ↔ Dg.R (fnL E) E.length x j) ∧ Below w.heap.size w wr)
 case atStart => exact ⟨0, [], fun _ _ => false, rfl, by omega, by omega, ⟨World.ownsRow_nil _ _ _ _, fun i hi => absurd hi (by omega)⟩, (fun x hx => absurd hx (by omega)), Below.refl _ _⟩
 case round =>
  obtain ⟨i, RV, Ss, rfl, hin, hq, hX, hS, hB⟩ := hrel
  have KX := Lib.hid hX
  have KS := Lib.hid hS
  have KB := Lib.hid hB
  have Kq := Lib.hid hq
  obtain ⟨ao, co, rfl, _⟩ := own_slice hX.own
  have hszr := hB.size
  clear hX hS hB hq
  by_cases hlt : i < E.length
  ·have q2 : (i : Int) < (E.length : Int) := by omega
   have hreach := Lib.hid (reach_any (.slice A E.length c) E E.length i wr (KE.out.below KB.out) hn hlt)
   go_wp2_with fail
   refine hreach.out.mono ?_
   rintro e w3 ⟨L, cL, S, rfl, hoR, htl, hb3⟩
   have Ktl := Lib.hid htl
   have KR := Lib.hid (own_base hoR hszr)
   have KX3 := Lib.hid (KX.out.below hb3 (Nat.le_refl _))
   have KB3 := Lib.hid (KB.out.trans (below_le hb3 hszr))
   have hsz3 := KB3.out.size
   clear hoR htl hb3 hreach
   go_wp2_with (at_builtin; refine wpList_append_own2 _ rfl (.tmp 18) (.tmp 23) 49 rfl w.heap.size 42 i2 _ 1 24 Tryd.underlying49 hk hx0 hx1 hx2 rfl (by decide) (.slice ao i co) i RV rfl (KX3.out.own.alloc _) ⟨w3.heap.size, 0, none⟩ 1 1 [.slice (some ⟨L, 0, none⟩) E.length cL] rfl rfl (cell_one_new _ _ _) (by simp [Value.oneCell']) (by unfold maxLen; omega) (by omega) (by simp; omega) ?_; intro v' w4 hown hgrow hsn)
   obtain ⟨a4, c4, rfl, _⟩ := own_slice hown
   have KX4 := Lib.hid ((KX3.out.alloc _).push (KR.out.alloc _) hgrow hown)
   have KB4 := Lib.hid ((KB3.out.alloc hsz3 _).grown hgrow (by simp; omega) (fun q hq => (KX3.out.own.lt q hq).1))
   clear hown hgrow hsn
   go_wp2_with fail
   go_roundg (E.length - (i + 1))
   case measure => have := Kq.out; omega
   case rel =>
    refine ⟨i + 1, _, Dg.upd Ss i S, by go_num, by omega, rfl, KX4.out, fun x hx j => ?_, KB4.out⟩
    by_cases he : x = i
    ·subst he; rw [Dg.upd_self]; exact Ktl.out j
    ·rw [Dg.upd_other _ _ he]; exact KS.out x (by omega) j
  ·obtain rfl : i = E.length := by omega
   obtain ⟨wa, rfl⟩ : ∃ wa, wa = wr := ⟨wr, rfl⟩
   have hmk2 := fun wx => hmk.out wx
   go_wp2_with fail
   have hrow0 := bls_own (B := wa.heap.size) (n := E.length) (fun _ => false) wa (Nat.le_refl _) (by omega)
   have hb0 : Below wa.heap.size wa (wa.alloc (.cells (bls E.length (fun _ => false)).toArray 4)) := (Below.refl _ _).alloc (Nat.le_refl _) _
   obtain ⟨w2, hw2⟩ : ∃ w2, w2 = wa.alloc (.cells (bls E.length (fun _ => false)).toArray 4) := ⟨_, rfl⟩
   rw [← hw2] at hrow0 hb0 ⊢
   obtain ⟨lb, hlb⟩ : ∃ lb, lb = wa.heap.size := ⟨_, rfl⟩
   rw [← hlb] at hrow0 hb0 hszr ⊢
   have Krow0 := Lib.hid hrow0
   have Kb0 := Lib.hid hb0
   have Klb := Lib.hid (show wa.heap.size ≤ lb by omega)
   clear hrow0 hb0 hw2 hlb hmk2 hmk
   go_loopg [6, 8] E.length (fun q t6 t8 wr => ∃ (i : Nat) (D : Nat → Bool) (OV : List Value), t8 = .int .i64 (i : Int) ∧ i ≤ E.length ∧ q = E.length - i ∧ ListsAt wr lb t6 OV (canonTo Ss E.length i) ∧ wr.ownsRow lb 4 1 (.slice (some ⟨lb, 0, none⟩) E.length E.length) E.length (bls E.length D) ∧ DoneTo Ss E.length i D ∧ Below lb wa wr)
   case atStart => exact ⟨0, _, [], rfl, by omega, by omega, ListsAt.nil _ _, Krow0.out, (fun y hy => ⟨(fun h => by cases h), fun ⟨j, h, _⟩ => absurd h (by omega)⟩), Kb0.out⟩
   case round =>
    obtain ⟨i, D, OV, rfl, hin2, hq, hO, hD, hT, hB2⟩ := hrel
    have KO := Lib.hid hO
    have KD := Lib.hid hD
    have KT := Lib.hid hT
    have KB2 := Lib.hid hB2
    have Kq2 := Lib.hid hq
    obtain ⟨ao2, co2, rfl, _⟩ := own_slice hO.own
    have hszw : lb ≤ wr.heap.size := Nat.le_of_lt (hD.lt lb rfl).2
    have hOVl : OV.length ≤ i := by rw [hO.len]; exact canonTo_le _ _ _
    clear hO hT hB2 hq
    by_cases hlt2 : i < E.length
    ·have cd : wr.cell? ⟨lb, i, none⟩ = some (.bool (D i)) := by rw [hD.cellAt i (by omega), bls_get _ hlt2]
     have q1 : (0 : Int) ≤ (i : Int) := by omega
     have q2 : (i : Int) < (E.length : Int) := by omega
     have q3 : ((i : Int)).toNat = i := by omega
     have Kf := Lib.hid (KT.out.first hlt2)
     clear hD
     by_cases hDi : D i = true
     ·rw [hDi] at cd
      have Kf2 := Lib.hid (show Dg.first Ss i = false by rw [Kf.out, hDi]; rfl)
      have KT2 := Lib.hid (KT.out.skip hlt2 hDi KS.out)
      clear hDi
      go_wp2_with fail
      go_roundg (E.length - (i + 1))
      case measure => have := Kq2.out; omega
      case rel => exact ⟨i + 1, D, OV, by go_num, by omega, rfl, by rw [canonTo_skip Kf2.out]; exact KO.out, KD.out, KT2.out, KB2.out⟩
     ·have hDf : D i = false := by simpa using hDi
      rw [hDf] at cd
      have Kf2 := Lib.hid (show Dg.first Ss i = true by rw [Kf.out, hDf]; rfl)
      clear hDi hDf
      obtain ⟨wo, rfl⟩ : ∃ wo, wo = wr := ⟨wr, rfl⟩
      go_wp2_with fail
      go_loopg [9, 10] E.length (fun q t9 t10 wx => ∃ (k : Nat) (D' : Nat → Bool), t10 = .int .i64 (k : Int) ∧ k ≤ E.length ∧ q = E.length - k ∧ wx.ownsRow wo.heap.size 3 1 t9 (clsTo Ss i k).length (valsOf (clsTo Ss i k)) ∧ wx.ownsRow lb 4 1 (.slice (some ⟨lb, 0, none⟩) E.length E.length) E.length (bls E.length D') ∧ (∀ y, D' y = true ↔ D y = true ∨ (y < k ∧ Ss i y = true ∧ Ss y i = true)) ∧ wo.grownBy wx (some lb) ∧ Below lb wa wx)
      case atStart => exact ⟨0, D, rfl, by omega, by omega, World.ownsRow_nil _ _ _ _, KD.out, (fun y => ⟨.inl, fun h => h.elim id (fun h => absurd h.1 (by omega))⟩), grown_refl _ _, KB2.out⟩
      case round =>
       obtain ⟨k, D', rfl, hkn, hq3, hO3, hD3, hT3, hg3, hB3⟩ := hrel
       have KO3 := Lib.hid hO3
       have KD3 := Lib.hid hD3
       have KT3 := Lib.hid hT3
       have Kg3 := Lib.hid hg3
       have KB3 := Lib.hid hB3
       have Kq3 := Lib.hid hq3
       obtain ⟨ao3, co3, rfl, _⟩ := own_slice hO3
       have hszo := hg3.size
       have hcl := clsTo_le Ss i k
       have hX3 := KX.out.below hB3 Klb.out
       clear hO3 hT3 hg3 hB3 hq3
       by_cases hlt3 : k < E.length
       ·obtain ⟨Li, ci, e1, h1⟩ := hX3.each i hlt2
        obtain ⟨Lk, ck, e2, h2⟩ := hX3.each k hlt3
        obtain ⟨rb, crb, hva, _, _⟩ := own_pos hX3.own (by omega)
        simp only [Value.slice.injEq, true_and] at hva
        obtain ⟨rfl, rfl⟩ := hva
        have c1 : wr.cell? ⟨rb, i, none⟩ = some (.slice (some ⟨Li, 0, none⟩) E.length ci) := by rw [hX3.own.cellAt i (by omega), e1]
        have c2 : wr.cell? ⟨rb, k, none⟩ = some (.slice (some ⟨Lk, 0, none⟩) E.length ck) := by rw [hX3.own.cellAt k (by omega), e2]
        have c3 : wr.cell? ⟨Li, k, none⟩ = some (.bool (Ss i k)) := by rw [h1.cellAt k (by omega), bls_get _ hlt3]
        have c4 : wr.cell? ⟨Lk, i, none⟩ = some (.bool (Ss k i)) := by rw [h2.cellAt i (by omega), bls_get _ hlt2]
        have r1 : (0 : Int) ≤ (k : Int) := by omega
        have r2 : (k : Int) < (E.length : Int) := by omega
        have r3 : ((k : Int)).toNat = k := by omega
        clear hX3 e1 e2 h1 h2 hD3
        have hskip : (Ss i k && Ss k i) = false → clsTo Ss i (k + 1) = clsTo Ss i k ∧ ∀ y, D' y = true ↔ D y = true ∨ (y < k + 1 ∧ Ss i y = true ∧ Ss y i = true) := fun h => ⟨clsTo_skip h, fun y => by
         rw [KT3.out y]
         constructor
         ·rintro (h1 | ⟨h1, h2⟩)
          ·exact .inl h1
          ·exact .inr ⟨by omega, h2⟩
         ·rintro (h1 | ⟨h1, h2, h3⟩)
          ·exact .inl h1
          ·by_cases he : y = k
           ·subst he; rw [h2, h3] at h; cases h
           ·exact .inr ⟨by omega, h2, h3⟩⟩
        have Kskip := Lib.hid hskip
        clear hskip
        cases hs1 : Ss i k
        ·rw [hs1] at c3
         have Kn := Lib.hid (Kskip.out (by rw [hs1]; rfl))
         clear hs1
         go_wp2_with fail
         go_roundg (E.length - (k + 1))
         case measure => have := Kq3.out; omega
         case rel => exact ⟨k + 1, D', by go_num, by omega, rfl, by rw [Kn.out.1]; exact KO3.out, KD3.out, Kn.out.2, Kg3.out, KB3.out⟩
        ·rw [hs1] at c3
         have K1 := Lib.hid hs1
         clear hs1
         cases hs2 : Ss k i
         ·rw [hs2] at c4
          have Kn := Lib.hid (Kskip.out (by rw [K1.out, hs2]; rfl))
          clear hs2
          go_wp2_with fail
          go_roundg (E.length - (k + 1))
          case measure => have := Kq3.out; omega
          case rel => exact ⟨k + 1, D', by go_num, by omega, rfl, by rw [Kn.out.1]; exact KO3.out, KD3.out, Kn.out.2, Kg3.out, KB3.out⟩
         ·rw [hs2] at c4
          have K2 := Lib.hid hs2
          have Kn := Lib.hid (clsTo_next (rb := Ss) (i := i) (k := k) (by rw [K1.out, hs2]; rfl))
          clear hs2
          go_wp2_with (at_builtin; refine wpList_append_own2 _ rfl (.tmp 57) (.tmp 59) 28 rfl wo.heap.size 3 i0 _ 1 8 Tryd.underlying28 hi hz0 hz1 hz2 rfl (by decide) (.slice ao3 (clsTo Ss i k).length co3) (clsTo Ss i k).length (valsOf (clsTo Ss i k)) rfl (KO3.out.alloc _) ⟨wr.heap.size, 0, none⟩ 1 1 [.int .i64 (k : Int)] rfl rfl (cell_one_new _ _ _) (by simp [Value.oneCell']) (by unfold maxLen; omega) (by omega) (by simp; omega) ?_)
          intro v' w4 hown hgrow hsn
          obtain ⟨a4, c5, rfl, _⟩ := own_slice hown
          have hD4 := (KD3.out.alloc (.cells #[.int .i64 (k : Int)] 3)).kept hgrow (ap_or (ap_type KD3.out KO3.out (by decide)))
          have hrow : ∀ q, (Value.slice ao3 (clsTo Ss i k).length co3).ownBlock = some q → wo.heap.size ≤ q := fun q hq => (KO3.out.lt q hq).1
          have hlbw : lb ≤ wo.heap.size := Nat.le_of_lt (KD.out.lt lb rfl).2
          have Kg4 := Lib.hid (grown_past (grown_alloc Kg3.out (.cells #[.int .i64 (k : Int)] 3)) hgrow hrow)
          have KB4 := Lib.hid ((KB3.out.alloc (by omega) _).grown hgrow (by simp; omega) (fun q hq => Nat.le_trans hlbw (hrow q hq)))
          have cz : w4.cell? ⟨lb, k, none⟩ = some (.bool (D' k)) := by rw [hD4.cellAt k (by omega), bls_get _ hlt3]
          have zz := hD4.frozenAt k
          have KD4 := Lib.hid hD4
          have Ko4 := Lib.hid hown
          clear hown hgrow hsn hD4 hrow hcl
          go_wp2_with fail
          go_roundg (E.length - (k + 1))
          case measure => have := Kq3.out; omega
          case rel =>
           obtain ⟨csd, hcsd⟩ := own_at KD4.out
           have hst := (KD4.out.stored k (.bool true)).1
           rw [bls_set] at hst
           refine ⟨k + 1, Dg.upd D' k true, by go_num, by omega, rfl, ?_, hst, fun y => ?_, grown_set Kg4.out _ _, below_set KB4.out (Nat.le_refl _) _⟩
           ·rw [Kn.out, valsOf_snoc, List.length_append]
            exact own_far Ko4.out hcsd (by decide) _ _
           ·by_cases he : y = k
            ·subst he
             rw [Dg.upd_self]
             exact ⟨fun _ => .inr ⟨by omega, K1.out, K2.out⟩, fun _ => rfl⟩
            ·rw [Dg.upd_other _ _ he, KT3.out y]
             exact ⟨fun h => h.elim .inl (fun h => .inr ⟨by omega, h.2⟩), fun h => h.elim .inl (fun h => .inr ⟨by omega, h.2⟩)⟩
       ·obtain rfl : k = E.length := by omega
        have hL : ListsAt wr lb (.slice ao2 OV.length co2) OV (canonTo Ss E.length i) := KO.out.kept_other KD.out (by decide) (by decide) Kg3.out
        have hu := own_base KO3.out hszw
        have KL := Lib.hid hL
        have Ku := Lib.hid hu
        have hszw2 : lb ≤ wr.heap.size := Nat.le_trans hszw hszo
        have Kc := Lib.hid (canonTo_next (n := E.length) Kf2.out)
        have KT4 := Lib.hid (KT.out.next KT3.out)
        have hlbw : lb ≤ wr.heap.size := Nat.le_of_lt (hD3.lt lb rfl).2
        clear hL hu hX3 hD3 hcl
        go_wp2_with (at_builtin; refine wpList_append_own2 _ rfl (.tmp 64) (.tmp 66) 22 rfl lb 28 i1 _ 1 24 Tryd.underlying22 hj hy0 hy1 hy2 rfl (by decide) (.slice ao2 OV.length co2) OV.length OV rfl (KL.out.own.alloc _) ⟨wr.heap.size, 0, none⟩ 1 1 [.slice ao3 (clsTo Ss i E.length).length co3] rfl rfl (cell_one_new _ _ _) (by simp [Value.oneCell']) (by unfold maxLen; omega) (by omega) (by simp; omega) ?_; intro v' w4 hown hgrow hsn)
        obtain ⟨a4, c4, rfl, _⟩ := own_slice hown
        have KL4 := Lib.hid ((KL.out.alloc _).push (Ku.out.alloc _) hgrow hown)
        have KD4 := Lib.hid ((KD3.out.alloc (.cells #[.slice ao3 (clsTo Ss i E.length).length co3] 28)).kept hgrow (ap_or (ap_type KD3.out KL.out.own (by decide))))
        have KB4 := Lib.hid ((KB3.out.alloc hlbw (.cells #[.slice ao3 (clsTo Ss i E.length).length co3] 28)).grown hgrow (by simp; omega) (fun q hq => (KL.out.own.lt q hq).1))
        clear hown hgrow hsn
        go_wp2_with fail
        go_roundg (E.length - (i + 1))
        case measure => have := Kq2.out; omega
        case rel =>
         refine ⟨i + 1, D', OV ++ [.slice ao3 (clsTo Ss i E.length).length co3], by go_num, by omega, rfl, ?_, KD4.out, KT4.out, KB4.out⟩
         rw [Kc.out]; exact KL4.out
    ·obtain rfl : i = E.length := by omega
     clear hD
     go_wp2_with fail
     go_ret
     exact ⟨_, OV, Ss, rfl, KO.out.low hszr, KS.out, KB.out.trans (below_le KB2.out hszr)⟩
end Go.Proofs.YtdlplmbdkjkeiaaDoor
