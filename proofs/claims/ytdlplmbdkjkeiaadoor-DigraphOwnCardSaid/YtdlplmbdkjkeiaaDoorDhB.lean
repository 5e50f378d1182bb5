import Derived.Test.YtdlplmbdkjkeiaaDoorDhA
namespace Go.Proofs.YtdlplmbdkjkeiaaDoor
set_option maxRecDepth 100000
open Go.RowKit
open BitKit
set_option linter.unusedVariables false
set_option linter.unusedSimpArgs false
def awS (i y : Nat) : Bool := if i = 2 then y == 7 else y == 5 || y == 6 || y == 7
theorem aw_solved {Ss : Nat → Nat → Bool} (h : ∀ i, i < awB.length → ∀ y, Ss i y = true ↔ y < held 9 ∧ Dg.Up (fnL awE) awB.length (bas 9 awB) i y) : lists Ss 3 = [[5, 6, 7], [5, 6, 7], [7]] := by
 have key : ∀ i, i < 3 → ∀ y, Ss i y = awS i y := by
  intro i hi y
  rw [Bool.eq_iff_iff, h i hi y]
  have h9 : held 9 = 9 := by decide
  rw [h9]
  unfold Dg.Up
  simp only [bas_iff, h9]
  have hr : ∀ j, Dg.R (fnL awE) awB.length i j ↔ j < 3 ∧ (i ≠ 2 ∨ j = 2) := fun j => aw_reach hi
  constructor
  ·rintro ⟨hy, j, h1, _, h3⟩
   rw [hr j] at h1
   match j, h1, h3 with
   | 0, h1, h3 =>
    simp [fnL, awB] at h3
    unfold awS; rw [if_neg (by omega)]; simp; omega
   | 1, h1, h3 =>
    simp [fnL, awB] at h3
    unfold awS; rw [if_neg (by omega)]; simp; omega
   | 2, h1, h3 =>
    simp [fnL, awB] at h3
    unfold awS; split <;> simp <;> omega
   | j + 3, h1, _ => omega
  ·intro h1
   unfold awS at h1
   split at h1
   ·simp at h1
    refine ⟨by omega, 2, (hr 2).2 ⟨by omega, .inr rfl⟩, by omega, ?_⟩
    simp [fnL, awB]; omega
   ·rename_i hne
    simp at h1
    rcases h1 with (h1 | h1) | h1
    ·exact ⟨by omega, 0, (hr 0).2 ⟨by omega, .inl hne⟩, by omega, by simp [fnL, awB]; omega⟩
    ·exact ⟨by omega, 1, (hr 1).2 ⟨by omega, .inl hne⟩, by omega, by simp [fnL, awB]; omega⟩
    ·exact ⟨by omega, 2, (hr 2).2 ⟨by omega, .inr rfl⟩, by omega, by simp [fnL, awB]; omega⟩
 have e0 := all_of (key 0 (by omega))
 have e1 := all_of (key 1 (by omega))
 have e2 := all_of (key 2 (by omega))
 have f0 : all (awS 0) = [5, 6, 7] := by decide +kernel
 have f1 : all (awS 1) = [5, 6, 7] := by decide +kernel
 have f2 : all (awS 2) = [7] := by decide +kernel
 show [all (Ss 0), all (Ss 1), all (Ss 2)] = _
 rw [e0, e1, e2, f0, f1, f2]
set_option maxHeartbeats 2000000 in
theorem awake_any (w : World) (hT : Tab w) (hg0 : 0 < w.heap.size) : Calls Tryd.prog 9 #[] w fun e w' => e = .returned (.bool true) ∧ Below w.heap.size w w' := by
 have KT := Lib.hid hT
 clear hT
 go_enter Tryd.func9, Tryd.ntmps9
 have hE := lit3 w [1] [0, 2] [] (small_of _ (by decide)) (small_of _ (by decide)) (small_of _ (by decide)) (by decide) (by decide) (by decide)
 obtain ⟨W1, hW1⟩ : ∃ W1, W1 = (((w.alloc (.cells (vals [1]).toArray 3)).alloc (.cells (vals [0, 2]).toArray 3)).alloc (.cells (vals []).toArray 3)).alloc (.cells #[.slice (some ⟨w.heap.size, 0, none⟩) 1 1, .slice (some ⟨w.heap.size + 1, 0, none⟩) 2 2, .slice (some ⟨w.heap.size + 1 + 1, 0, none⟩) 0 0] 28) := ⟨_, rfl⟩
 have hB := lit3 W1 [5] [6] [7] (small_of _ (by decide)) (small_of _ (by decide)) (small_of _ (by decide)) (by decide) (by decide) (by decide)
 have hb1 : Below w.heap.size w W1 := by rw [hW1]; exact below_up (below_up (below_up (below_up (Below.refl _ _) _) _) _) _
 have hs1 : W1.heap.size = w.heap.size + 1 + 1 + 1 + 1 := by rw [hW1]; simp [World.size_alloc]
 have hb2 := below_up (below_up (below_up (below_up hb1 (.cells (vals [5]).toArray 3)) (.cells (vals [6]).toArray 3)) (.cells (vals [7]).toArray 3)) (.cells #[.slice (some ⟨W1.heap.size, 0, none⟩) 1 1, .slice (some ⟨W1.heap.size + 1, 0, none⟩) 1 1, .slice (some ⟨W1.heap.size + 1 + 1, 0, none⟩) 1 1] 28)
 have hE1 : RowsL W1 (.slice (some ⟨w.heap.size + 1 + 1 + 1, 0, none⟩) 3 3) awE := by rw [hW1]; exact hE
 have hE2 := (((hE1.alloc (.cells (vals [5]).toArray 3)).alloc (.cells (vals [6]).toArray 3)).alloc (.cells (vals [7]).toArray 3)).alloc (.cells #[.slice (some ⟨W1.heap.size, 0, none⟩) 1 1, .slice (some ⟨W1.heap.size + 1, 0, none⟩) 1 1, .slice (some ⟨W1.heap.size + 1 + 1, 0, none⟩) 1 1] 28)
 have hcall := solved_any _ _ awE awB 9 _ hE2 hB (by decide) (KT.out.below hb2 hg0) (Nat.lt_of_lt_of_le hg0 hb2.size)
 rw [hs1, hW1] at hcall hE2 hb2
 have Kcall := Lib.hid hcall
 have KE := Lib.hid hE2
 have Kb := Lib.hid hb2
 clear hcall hE2 hE1 hb1 hb2 hB hE hs1 hW1 W1
 go_wp2_with fail
 refine Kcall.out.mono ?_
 rintro e w2 ⟨u, Ss, rfl, hSs, hrows, hb3⟩
 have hL := aw_solved hSs
 have hrows2 : RowsL w2 u [[5, 6, 7], [5, 6, 7], [7]] := by rw [← hL]; exact hrows
 have KE2 := Lib.hid (KE.out.below hb3)
 have Kb2 := Lib.hid (Kb.out.trans (below_le hb3 Kb.out.size))
 have hlit := lit3 w2 [5, 6, 7] [5, 6, 7] [7] (small_of _ (by decide)) (small_of _ (by decide)) (small_of _ (by decide)) (by decide) (by decide) (by decide)
 have hcall2 := lists_any _ _ _ _ _ ((((hrows2.alloc _).alloc _).alloc _).alloc _) hlit
 rw [decide_eq_true (rfl : [[(5 : Int), 6, 7], [5, 6, 7], [7]] = _)] at hcall2
 have Kcall2 := Lib.hid hcall2
 clear hSs hrows hb3 hL hrows2 hlit hcall2 Kcall KE Kb
 go_wp2_with fail
 refine Kcall2.out.mono ?_
 rintro e w3 ⟨rfl, k3, hw3⟩
 have hE3 : RowsL w3 (.slice (some ⟨w.heap.size + 1 + 1 + 1, 0, none⟩) 3 3) awE := by rw [hw3]; exact ((((KE2.out.alloc _).alloc _).alloc _).alloc _).drewN _
 have hb3 : Below w.heap.size w w3 := by rw [hw3]; exact below_drewN (below_up (below_up (below_up (below_up Kb2.out _) _) _) _) _
 have KE3 := Lib.hid hE3
 have Kb3 := Lib.hid hb3
 have Kcall3 := Lib.hid (parts_say _ awE w3 hE3 (by decide))
 clear hE3 hb3 hw3 Kcall2 KE2 Kb2
 go_wp2_with fail
 refine Kcall3.out.mono ?_
 rintro e w4 ⟨u4, LL, rfl, hP⟩
 have hcan : LL.map ints = [[0, 1], [2]] := by
  rw [hP.canon (fun i k => decide (i ≠ 2) || decide (k = 2)) (fun i k hi hk => by
   rw [show awE.length = 3 from rfl, aw_reach hi]
   simp only [Bool.or_eq_true, decide_eq_true_eq]
   exact ⟨fun h => ⟨hk, h⟩, fun h => h.2⟩)]
  decide +kernel
 have hrows4 := hP.rows
 rw [hcan] at hrows4
 have KE4 := Lib.hid (KE3.out.below hP.below)
 have Kb4 := Lib.hid (Kb3.out.trans (below_le hP.below Kb3.out.size))
 have hcall4 := lists_any _ _ _ _ _ (((hrows4.alloc _).alloc _).alloc _) (lit2 w4 [0, 1] [2] (small_of _ (by decide)) (small_of _ (by decide)) (by decide) (by decide))
 rw [decide_eq_true (rfl : [[(0 : Int), 1], [2]] = _)] at hcall4
 have Kcall4 := Lib.hid hcall4
 clear hP hcan hrows4 hcall4 Kcall3 KE3 Kb3
 go_wp2_with fail
 refine Kcall4.out.mono ?_
 rintro e w5 ⟨rfl, k5, hw5⟩
 have hE5 : RowsL w5 (.slice (some ⟨w.heap.size + 1 + 1 + 1, 0, none⟩) 3 3) awE := by rw [hw5]; exact (((KE4.out.alloc _).alloc _).alloc _).drewN _
 have hb5 : Below w.heap.size w w5 := by rw [hw5]; exact below_drewN (below_up (below_up (below_up Kb4.out _) _) _) _
 have Kb5 := Lib.hid hb5
 have Kcall5 := Lib.hid (loops_say _ awE w5 hE5 (by decide))
 clear hE5 hb5 hw5 Kcall4 KE4 Kb4
 go_wp2_with fail
 refine Kcall5.out.mono ?_
 rintro e w6 ⟨u6, Q, rfl, hQ⟩
 have hQe : ints Q = [0, 1] := by
  rw [hQ.is (fun i => decide (i ≠ 2)) (fun i hi => by
   have hi3 : i < 3 := hi
   rw [decide_eq_true_eq]
   unfold Lp
   constructor
   ·intro hne
    have e01 : Dg.E (fnL awE) awE.length 0 1 := ⟨by decide, by simp [fnL, awE]⟩
    have e10 : Dg.E (fnL awE) awE.length 1 0 := ⟨by decide, by simp [fnL, awE]⟩
    match i, hi3, hne with
    | 0, _, _ => exact ⟨1, e01, .one e10⟩
    | 1, _, _ => exact ⟨0, e10, .one e01⟩
    | 2, _, h => exact absurd rfl h
   ·rintro ⟨t, ht, _⟩ rfl
    have := ht.2
    simp [fnL, awE] at this)]
  decide +kernel
 have hrow6 := hQ.row
 rw [hQe] at hrow6
 have Kb6 := Lib.hid (Kb5.out.trans (below_le hQ.below Kb5.out.size))
 have hcall6 := ints_says _ _ _ _ _ (hrow6.below ((Below.refl _ _).alloc (Nat.le_refl _) (.cells (vals [0, 1]).toArray 3))) (row_new w6 [0, 1] (small_of _ (by decide)) (by decide))
 rw [decide_eq_true (rfl : [(0 : Int), 1] = _)] at hcall6
 have Kcall6 := Lib.hid hcall6
 clear hQ hQe hrow6 hcall6 Kcall5 Kb5
 go_wp2_with fail
 refine Kcall6.out.mono ?_
 rintro e w7 ⟨rfl, k7, hw7⟩
 have Kb7 := Lib.hid (show Below w.heap.size w w7 by rw [hw7]; exact below_drewN (below_up Kb6.out _) _)
 clear hw7 Kcall6 Kb6
 go_wp2_with fail
 go_ret
 exact ⟨rfl, Kb7.out⟩
end Go.Proofs.YtdlplmbdkjkeiaaDoor
