import Derived.Test.YtdlplmbdkjkeiaaDoorDgU
namespace Go.Proofs.YtdlplmbdkjkeiaaDoor
set_option maxRecDepth 100000
open Go.RowKit
open BitKit
set_option linter.unusedVariables false
set_option linter.unusedSimpArgs false
structure PartsSay (w w' : World) (E : List (List Int)) (u : Value) (LL : List (List Nat)) : Prop where
 rows : RowsL w' u (LL.map ints)
 canon : ∀ rb : Nat → Nat → Bool, (∀ i k, i < E.length → k < E.length → (rb i k = true ↔ Dg.R (fnL E) E.length i k)) → LL = Dg.canon rb E.length
 below : Below w.heap.size w w'
theorem parts_say (v : Value) (E : List (List Int)) (w : World) (h : RowsL w v E) (hn : E.length ≤ 1099511627776) :
  Calls Tryd.prog 14 #[v] w fun e w' => ∃ u LL, e = .returned u ∧ PartsSay w w' E u LL := by
 obtain ⟨A, c, RV, rfl, hl, hR⟩ := h.ex
 refine (gparts_any A E.length c RV (fnL E) w hR hl hn).mono ?_
 rintro e w' ⟨u, PV, qs, rfl, hat, hcan, hb⟩
 refine ⟨u, qs, rfl, hat.lists.rows ?_, hcan, hb⟩
 have hdec : ∃ rb : Nat → Nat → Bool, ∀ i k, i < E.length → k < E.length → (rb i k = true ↔ Dg.R (fnL E) E.length i k) := by
  refine ⟨fun i k => @decide (Dg.R (fnL E) E.length i k) (Classical.propDecidable _), fun i k _ _ => ?_⟩
  simp
 obtain ⟨rb, hrb⟩ := hdec
 rw [hcan rb hrb]
 exact canon_small rb hn
structure LoopsSay (w w' : World) (E : List (List Int)) (u : Value) (Q : List Nat) : Prop where
 row : Row w' u (ints Q)
 is : ∀ lp : Nat → Bool, (∀ i, i < E.length → (lp i = true ↔ Lp E i)) → Q = (List.range E.length).filter lp
 below : Below w.heap.size w w'
theorem row_places {w : World} {B m : Nat} {v : Value} {Q : List Nat} (h : w.ownsRow B 3 1 v m (valsOf Q)) (hs : ∀ x ∈ Q, x ≤ 9223372036854775807) : Row w v (ints Q) := by
 rw [valsOf_ints] at h
 refine row_own h (fun x hx => ?_)
 obtain ⟨y, hy, rfl⟩ := List.mem_map.1 hx
 have := hs y hy
 omega
theorem loops_say (v : Value) (E : List (List Int)) (w : World) (h : RowsL w v E) (hn : E.length ≤ 1099511627776) :
  Calls Tryd.prog 15 #[v] w fun e w' => ∃ u Q, e = .returned u ∧ LoopsSay w w' E u Q := by
 obtain ⟨A, c, RV, rfl, hl, hR⟩ := h.ex
 refine (gloops_any A E.length c RV (fnL E) w hR hl hn).mono ?_
 rintro e w' ⟨u, m, Q, rfl, ho, ht, hb⟩
 refine ⟨u, Q, rfl, row_places ho ?_, ht, hb⟩
 have hdec : ∃ lp : Nat → Bool, ∀ i, i < E.length → (lp i = true ↔ Lp E i) := by
  refine ⟨fun i => @decide (Lp E i) (Classical.propDecidable _), fun i _ => ?_⟩
  simp
 obtain ⟨lp, hlp⟩ := hdec
 rw [ht lp hlp]
 intro x hx
 have := List.mem_range.1 (List.mem_filter.1 hx).1
 omega
theorem RowsL.alloc {w : World} {v : Value} {LL : List (List Int)} (h : RowsL w v LL) (o : Obj) : RowsL (w.alloc o) v LL := h.below ((Below.refl _ _).alloc (Nat.le_refl _) _)
theorem below_up {w W : World} (h : Below w.heap.size w W) (o : Obj) : Below w.heap.size w (W.alloc o) := h.alloc h.size o
theorem own_lit (W : World) (B : Nat) (hB : B ≤ W.heap.size) (l : List Int) (hl : l.length ≤ 1000) : (W.alloc (.cells (vals l).toArray 3)).ownsRow B 3 1 (.slice (some ⟨W.heap.size, 0, none⟩) l.length l.length) l.length (vals l) :=
 World.ownsRow_lit (base := B) (e := 3) (size := 1) W (vals l).toArray l.length hB (by unfold maxLen; omega) (by simp [vals_length])
theorem lit3 (W : World) (a b c : List Int) (ha : Small a) (hb : Small b) (hc : Small c) (la : a.length ≤ 1000) (lb : b.length ≤ 1000) (lc : c.length ≤ 1000) :
  RowsL ((((W.alloc (.cells (vals a).toArray 3)).alloc (.cells (vals b).toArray 3)).alloc (.cells (vals c).toArray 3)).alloc (.cells #[.slice (some ⟨W.heap.size, 0, none⟩) a.length a.length, .slice (some ⟨W.heap.size + 1, 0, none⟩) b.length b.length, .slice (some ⟨W.heap.size + 1 + 1, 0, none⟩) c.length c.length] 28))
   (.slice (some ⟨W.heap.size + 1 + 1 + 1, 0, none⟩) 3 3) [a, b, c] := by
 have o1 := (((own_lit W 0 (Nat.zero_le _) a la).alloc (.cells (vals b).toArray 3)).alloc (.cells (vals c).toArray 3))
 have o2 := ((own_lit (W.alloc (.cells (vals a).toArray 3)) 0 (Nat.zero_le _) b lb).alloc (.cells (vals c).toArray 3))
 have o3 := own_lit ((W.alloc (.cells (vals a).toArray 3)).alloc (.cells (vals b).toArray 3)) 0 (Nat.zero_le _) c lc
 simp only [World.size_alloc] at o2 o3
 have oo := World.ownsRow_lit (base := 0) (e := 28) (size := 1) (((W.alloc (.cells (vals a).toArray 3)).alloc (.cells (vals b).toArray 3)).alloc (.cells (vals c).toArray 3)) #[.slice (some ⟨W.heap.size, 0, none⟩) a.length a.length, .slice (some ⟨W.heap.size + 1, 0, none⟩) b.length b.length, .slice (some ⟨W.heap.size + 1 + 1, 0, none⟩) c.length c.length] 3 (Nat.zero_le _) (by decide) rfl
 simp only [World.size_alloc] at oo
 refine RowsL.own oo rfl (fun i l u h1 h2 => ?_)
 match i, h1, h2 with
 | 0, h1, h2 => simp at h1 h2; subst h1; subst h2; exact RowIn.own (o1.alloc _) ha
 | 1, h1, h2 => simp at h1 h2; subst h1; subst h2; exact RowIn.own (o2.alloc _) hb
 | 2, h1, h2 => simp at h1 h2; subst h1; subst h2; exact RowIn.own (o3.alloc _) hc
 | i + 3, h1, _ => simp at h1
theorem lit2 (W : World) (a b : List Int) (ha : Small a) (hb : Small b) (la : a.length ≤ 1000) (lb : b.length ≤ 1000) :
  RowsL (((W.alloc (.cells (vals a).toArray 3)).alloc (.cells (vals b).toArray 3)).alloc (.cells #[.slice (some ⟨W.heap.size, 0, none⟩) a.length a.length, .slice (some ⟨W.heap.size + 1, 0, none⟩) b.length b.length] 28))
   (.slice (some ⟨W.heap.size + 1 + 1, 0, none⟩) 2 2) [a, b] := by
 have o1 := ((own_lit W 0 (Nat.zero_le _) a la).alloc (.cells (vals b).toArray 3))
 have o2 := (own_lit (W.alloc (.cells (vals a).toArray 3)) 0 (Nat.zero_le _) b lb)
 simp only [World.size_alloc] at o2
 have oo := World.ownsRow_lit (base := 0) (e := 28) (size := 1) ((W.alloc (.cells (vals a).toArray 3)).alloc (.cells (vals b).toArray 3)) #[.slice (some ⟨W.heap.size, 0, none⟩) a.length a.length, .slice (some ⟨W.heap.size + 1, 0, none⟩) b.length b.length] 2 (Nat.zero_le _) (by decide) rfl
 simp only [World.size_alloc] at oo
 refine RowsL.own oo rfl (fun i l u h1 h2 => ?_)
 match i, h1, h2 with
 | 0, h1, h2 => simp at h1 h2; subst h1; subst h2; exact RowIn.own (o1.alloc _) ha
 | 1, h1, h2 => simp at h1 h2; subst h1; subst h2; exact RowIn.own (o2.alloc _) hb
 | i + 2, h1, _ => simp at h1
def awE : List (List Int) := [[1], [0, 2], []]
def awB : List (List Int) := [[5], [6], [7]]
theorem aw_reach {i k : Nat} (hi : i < 3) : Dg.R (fnL awE) 3 i k ↔ k < 3 ∧ (i ≠ 2 ∨ k = 2) := by
 have e01 : Dg.E (fnL awE) 3 0 1 := ⟨by omega, by simp [fnL, awE]⟩
 have e10 : Dg.E (fnL awE) 3 1 0 := ⟨by omega, by simp [fnL, awE]⟩
 have e12 : Dg.E (fnL awE) 3 1 2 := ⟨by omega, by simp [fnL, awE]⟩
 constructor
 ·intro h
  induction h with
  | refl v => exact ⟨hi, by omega⟩
  | @step v u t e _ ih =>
   have h1 := ih e.1
   refine ⟨h1.1, .inl ?_⟩
   rintro rfl
   have := e.2
   simp [fnL, awE] at this
 ·rintro ⟨hk, h⟩
  match i, k, hi, hk, h with
  | 0, 0, _, _, _ => exact .refl 0
  | 0, 1, _, _, _ => exact .one e01
  | 0, 2, _, _, _ => exact .step e01 (.one e12)
  | 1, 0, _, _, _ => exact .one e10
  | 1, 1, _, _, _ => exact .refl 1
  | 1, 2, _, _, _ => exact .one e12
  | 2, 2, _, _, _ => exact .refl 2
  | 2, 0, _, _, h => omega
  | 2, 1, _, _, h => omega
theorem bas_iff (wide : Int) (Bs : List (List Int)) (i y : Nat) : bas wide Bs i y = true ↔ y < held wide ∧ (y : Int) ∈ fnL Bs i := by
 rw [bas, ofs_iff]
 refine and_congr_right fun _ => ?_
 rw [List.mem_iff_getElem?]
 constructor
 ·rintro ⟨j, hj, h⟩
  exact ⟨j, by rw [List.getElem?_eq_getElem hj, ← h]; simp [fn, List.getD, hj]⟩
 ·rintro ⟨j, h⟩
  exact ⟨j, (List.getElem?_eq_some_iff.1 h).1, by simp [fn, List.getD, h]⟩
theorem all_of {S T : Nat → Bool} (h : ∀ y, S y = T y) : all S = all T := by rw [show S = T from funext h]
end Go.Proofs.YtdlplmbdkjkeiaaDoor
