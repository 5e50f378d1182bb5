/-
  A plan in memory ('SymC', 'PlanC'); the walks of names' Sym, Accept, Term, Name; of tronageref08's Sym, Name.
-/
import Derived.Test.YtpgmapjjjpcmfaaGreatDoorNmA
namespace Go.Proofs.YtpgmapjjjpcmfaaGreatDoor
open Go.RowKit
open Lx
set_option linter.unusedVariables false
set_option linter.unusedSimpArgs false
set_option maxRecDepth 100000

/-- A plan whose terminals and variables are T and V; the rest may be anything. -/
structure SymC (w : World) (B : Nat) (v : Value) (T V : List Rd.Name) : Prop where
  ex : ∃ A1 c1 A2 c2 A3 n3 c3 A4 n4 c4 A5 n5 c5 A6 n6 c6, v = .agg #[.slice A1 T.length c1, .slice A2 V.length c2, .slice A3 n3 c3, .slice A4 n4 c4, .slice A5 n5 c5, .slice A6 n6 c6] ∧ Cl w B A1 (namesV T) ∧ Cl w B A2 (namesV V)
theorem SymC.below {w w' : World} {B : Nat} {v : Value} {T V : List Rd.Name} (h : SymC w B v T V) (hb : Below B w w') : SymC w' B v T V := by
  obtain ⟨A1, c1, A2, c2, A3, n3, c3, A4, n4, c4, A5, n5, c5, A6, n6, c6, e, h1, h2⟩ := h.ex
  exact ⟨A1, c1, A2, c2, A3, n3, c3, A4, n4, c4, A5, n5, c5, A6, n6, c6, e, h1.below hb, h2.below hb⟩

/-! ## Sym -/

set_option maxHeartbeats 1000000 in
theorem sym_any (v : Value) (T V : List Rd.Name) (n : Rd.Name) (B : Nat) (w : World) (h : SymC w B v T V) (hB : B ≤ w.heap.size) (hT : T.length ≤ 1000000) (hV : V.length ≤ 1000000) :
    Calls Tryz.prog 46 #[v, .string (str n)] w fun e w' => e = .returned (.int .i64 (Nm.sym T V n)) ∧ Below w.heap.size w w' := by
  obtain ⟨A1, c1, A2, c2, A3, n3, c3, A4, n4, c4, A5, n5, c5, A6, n6, c6, rfl, h1, h2⟩ := h.ex
  have hb := (Below.refl w.heap.size w).alloc (Nat.le_refl _) (.cells #[.slice A1 T.length c1, .slice A2 V.length c2, .slice A3 n3 c3, .slice A4 n4 c4, .slice A5 n5 c5, .slice A6 n6 c6] 45)
  have hat := At.new w 45 #[.slice A1 T.length c1, .slice A2 V.length c2, .slice A3 n3 c3, .slice A4 n4 c4, .slice A5 n5 c5, .slice A6 n6 c6]
  have HF1 := Lib.hid (show ∀ w', Below w.heap.size w w' → Calls Tryz.prog 77 #[.slice A1 T.length c1, .string (str n), .func (.func 78) #[] #[]] w' fun e w'' => e = .returned (.int .i64 (Nm.place T n)) ∧ Below w'.heap.size w' w'' from fun w' hw' => findS_any T n A1 c1 B w' (h1.below (hw'.mono hB)) (Nat.le_trans hB hw'.size) (by omega))
  have HF2 := Lib.hid (show ∀ w', Below w.heap.size w w' → Calls Tryz.prog 77 #[.slice A2 V.length c2, .string (str n), .func (.func 78) #[] #[]] w' fun e w'' => e = .returned (.int .i64 (Nm.place V n)) ∧ Below w'.heap.size w' w'' from fun w' hw' => findS_any V n A2 c2 B w' (h2.below (hw'.mono hB)) (Nat.le_trans hB hw'.size) (by omega))
  have r1 : -1 ≤ Nm.place T n := Nm.find_ge _
  have r2 : Nm.place T n < (T.length : Int) := Nm.find_lt _
  have r3 : -1 ≤ Nm.place V n := Nm.find_ge _
  have r4 : Nm.place V n < (V.length : Int) := Nm.find_lt _
  unfold Nm.sym
  generalize Nm.place T n = a at HF1 r1 r2 ⊢
  generalize Nm.place V n = b at HF2 r3 r4 ⊢
  generalize T.length = NT at HF1 hb hat hT r2 ⊢
  generalize V.length = NV at HF2 hb hat hV r4 ⊢
  generalize str n = S at HF1 HF2 ⊢
  have HB := Lib.hid hb
  have HAT := Lib.hid hat
  clear h h1 h2 hb hat
  by_cases ha : 0 ≤ a
  · rw [if_pos ha]
    go_enter Tryz.func46, Tryz.ntmps46
    go_wp2_with fail
    refine (HF1.out _ HB.out).mono ?_
    rintro e w2 ⟨rfl, hb2⟩
    have HB2 := Lib.hid (HB.out.trans (hb2.mono HB.out.size))
    clear hb2
    go_wp2_with fail
    go_ret
    exact ⟨rfl, HB2.out⟩
  · rw [if_neg ha]
    by_cases hbb : 0 ≤ b
    · rw [if_pos hbb]
      go_enter Tryz.func46, Tryz.ntmps46
      go_wp2_with fail
      refine (HF1.out _ HB.out).mono ?_
      rintro e w2 ⟨rfl, hb2⟩
      have hat2 := HAT.out.below hb2 HAT.out.lt
      have HAT2 := Lib.hid hat2
      have HB2 := Lib.hid (HB.out.trans (hb2.mono HB.out.size))
      have x0 := hat2.cell 0
      have x1 := hat2.cell 1
      simp only [List.getElem?_toArray, List.getElem?_cons_zero, List.getElem?_cons_succ] at x0 x1
      clear hb2 hat2
      go_wp2_with fail
      refine (HF2.out _ HB2.out).mono ?_
      rintro e w3 ⟨rfl, hb3⟩
      have hat3 := HAT2.out.below hb3 HAT2.out.lt
      have HB3 := Lib.hid (HB2.out.trans (hb3.mono HB2.out.size))
      have y0 := hat3.cell 0
      simp only [List.getElem?_toArray, List.getElem?_cons_zero, List.getElem?_cons_succ] at y0
      clear hb3 hat3 x0 x1
      go_wp2_with fail
      go_ret
      exact ⟨by go_num, HB3.out⟩
    · rw [if_neg hbb]
      go_enter Tryz.func46, Tryz.ntmps46
      go_wp2_with fail
      refine (HF1.out _ HB.out).mono ?_
      rintro e w2 ⟨rfl, hb2⟩
      have hat2 := HAT.out.below hb2 HAT.out.lt
      have HB2 := Lib.hid (HB.out.trans (hb2.mono HB.out.size))
      have x0 := hat2.cell 0
      have x1 := hat2.cell 1
      simp only [List.getElem?_toArray, List.getElem?_cons_zero, List.getElem?_cons_succ] at x0 x1
      clear hb2 hat2
      go_wp2_with fail
      refine (HF2.out _ HB2.out).mono ?_
      rintro e w3 ⟨rfl, hb3⟩
      have HB3 := Lib.hid (HB2.out.trans (hb3.mono HB2.out.size))
      clear hb3 x0 x1
      go_wp2_with fail
      go_ret
      exact ⟨rfl, HB3.out⟩

set_option maxHeartbeats 1000000 in
theorem rsym_any (v : Value) (T V : List Rd.Name) (n : Rd.Name) (B : Nat) (w : World) (h : SymC w B v T V) (hB : B ≤ w.heap.size) (hT : T.length ≤ 1000000) (hV : V.length ≤ 1000000) :
    Calls Tryz.prog 55 #[v, .string (str n)] w fun e w' => e = .returned (.int .i64 (Nm.sym T V n)) ∧ Below w.heap.size w w' := by
  obtain ⟨A1, c1, A2, c2, A3, n3, c3, A4, n4, c4, A5, n5, c5, A6, n6, c6, rfl, h1, h2⟩ := h.ex
  have hb := (Below.refl w.heap.size w).alloc (Nat.le_refl _) (.cells #[.slice A1 T.length c1, .slice A2 V.length c2, .slice A3 n3 c3, .slice A4 n4 c4, .slice A5 n5 c5, .slice A6 n6 c6] 45)
  have hat := At.new w 45 #[.slice A1 T.length c1, .slice A2 V.length c2, .slice A3 n3 c3, .slice A4 n4 c4, .slice A5 n5 c5, .slice A6 n6 c6]
  have HF1 := Lib.hid (show ∀ w', Below w.heap.size w w' → Calls Tryz.prog 53 #[.slice A1 T.length c1, .string (str n)] w' fun e w'' => e = .returned (.int .i64 (Nm.place T n)) ∧ Below w'.heap.size w' w'' from fun w' hw' => (rplace_any T n A1 c1 B w' (h1.below (hw'.mono hB)) (by omega)).mono fun e w'' ⟨h1, m, h2⟩ => ⟨h1, h2 ▸ below_drewN (Below.refl _ _) m⟩)
  have HF2 := Lib.hid (show ∀ w', Below w.heap.size w w' → Calls Tryz.prog 53 #[.slice A2 V.length c2, .string (str n)] w' fun e w'' => e = .returned (.int .i64 (Nm.place V n)) ∧ Below w'.heap.size w' w'' from fun w' hw' => (rplace_any V n A2 c2 B w' (h2.below (hw'.mono hB)) (by omega)).mono fun e w'' ⟨h1, m, h2⟩ => ⟨h1, h2 ▸ below_drewN (Below.refl _ _) m⟩)
  have r1 : -1 ≤ Nm.place T n := Nm.find_ge _
  have r2 : Nm.place T n < (T.length : Int) := Nm.find_lt _
  have r3 : -1 ≤ Nm.place V n := Nm.find_ge _
  have r4 : Nm.place V n < (V.length : Int) := Nm.find_lt _
  unfold Nm.sym
  generalize Nm.place T n = a at HF1 r1 r2 ⊢
  generalize Nm.place V n = b at HF2 r3 r4 ⊢
  generalize T.length = NT at HF1 hb hat hT r2 ⊢
  generalize V.length = NV at HF2 hb hat hV r4 ⊢
  generalize str n = S at HF1 HF2 ⊢
  have HB := Lib.hid hb
  have HAT := Lib.hid hat
  clear h h1 h2 hb hat
  by_cases ha : 0 ≤ a
  · rw [if_pos ha]
    go_enter Tryz.func55, Tryz.ntmps55
    go_wp2_with fail
    refine (HF1.out _ HB.out).mono ?_
    rintro e w2 ⟨rfl, hb2⟩
    have HB2 := Lib.hid (HB.out.trans (hb2.mono HB.out.size))
    clear hb2
    go_wp2_with fail
    go_ret
    exact ⟨rfl, HB2.out⟩
  · rw [if_neg ha]
    by_cases hbb : 0 ≤ b
    · rw [if_pos hbb]
      go_enter Tryz.func55, Tryz.ntmps55
      go_wp2_with fail
      refine (HF1.out _ HB.out).mono ?_
      rintro e w2 ⟨rfl, hb2⟩
      have hat2 := HAT.out.below hb2 HAT.out.lt
      have HAT2 := Lib.hid hat2
      have HB2 := Lib.hid (HB.out.trans (hb2.mono HB.out.size))
      have x0 := hat2.cell 0
      have x1 := hat2.cell 1
      simp only [List.getElem?_toArray, List.getElem?_cons_zero, List.getElem?_cons_succ] at x0 x1
      clear hb2 hat2
      go_wp2_with fail
      refine (HF2.out _ HB2.out).mono ?_
      rintro e w3 ⟨rfl, hb3⟩
      have hat3 := HAT2.out.below hb3 HAT2.out.lt
      have HB3 := Lib.hid (HB2.out.trans (hb3.mono HB2.out.size))
      have y0 := hat3.cell 0
      simp only [List.getElem?_toArray, List.getElem?_cons_zero, List.getElem?_cons_succ] at y0
      clear hb3 hat3 x0 x1
      go_wp2_with fail
      go_ret
      exact ⟨by go_num, HB3.out⟩
    · rw [if_neg hbb]
      go_enter Tryz.func55, Tryz.ntmps55
      go_wp2_with fail
      refine (HF1.out _ HB.out).mono ?_
      rintro e w2 ⟨rfl, hb2⟩
      have hat2 := HAT.out.below hb2 HAT.out.lt
      have HB2 := Lib.hid (HB.out.trans (hb2.mono HB.out.size))
      have x0 := hat2.cell 0
      have x1 := hat2.cell 1
      simp only [List.getElem?_toArray, List.getElem?_cons_zero, List.getElem?_cons_succ] at x0 x1
      clear hb2 hat2
      go_wp2_with fail
      refine (HF2.out _ HB2.out).mono ?_
      rintro e w3 ⟨rfl, hb3⟩
      have HB3 := Lib.hid (HB2.out.trans (hb3.mono HB2.out.size))
      clear hb3 x0 x1
      go_wp2_with fail
      go_ret
      exact ⟨rfl, HB3.out⟩

/-! ## Accept, Term, Name -/
theorem accept_any (v : Value) (T V : List Rd.Name) (B : Nat) (w : World) (h : SymC w B v T V) (hT : T.length ≤ 1000000) (hV : V.length ≤ 1000000) :
    Calls Tryz.prog 47 #[v] w fun e w' => e = .returned (.int .i64 ((T.length : Int) + (V.length : Int))) ∧ Below w.heap.size w w' := by
  obtain ⟨A1, c1, A2, c2, A3, n3, c3, A4, n4, c4, A5, n5, c5, A6, n6, c6, rfl, h1, h2⟩ := h.ex
  have HB := Lib.hid ((Below.refl w.heap.size w).alloc (Nat.le_refl _) (.cells #[.slice A1 T.length c1, .slice A2 V.length c2, .slice A3 n3 c3, .slice A4 n4 c4, .slice A5 n5 c5, .slice A6 n6 c6] 45))
  generalize T.length = NT at HB hT ⊢
  generalize V.length = NV at HB hV ⊢
  clear h h1 h2
  go_enter Tryz.func47, Tryz.ntmps47
  go_wp2_with fail
  go_ret
  exact ⟨by go_num, HB.out⟩

theorem term_any (v : Value) (T V : List Rd.Name) (i : Int) (B : Nat) (w : World) (h : SymC w B v T V) (hT : T.length ≤ 1000000) :
    Calls Tryz.prog 102 #[v, .int .i64 i] w fun e w' => e = .returned (.bool (decide (0 ≤ i ∧ i < (T.length : Int)))) ∧ Below w.heap.size w w' := by
  obtain ⟨A1, c1, A2, c2, A3, n3, c3, A4, n4, c4, A5, n5, c5, A6, n6, c6, rfl, h1, h2⟩ := h.ex
  have HB := Lib.hid ((Below.refl w.heap.size w).alloc (Nat.le_refl _) (.cells #[.slice A1 T.length c1, .slice A2 V.length c2, .slice A3 n3 c3, .slice A4 n4 c4, .slice A5 n5 c5, .slice A6 n6 c6] 45))
  generalize T.length = NT at HB hT ⊢
  generalize V.length = NV at HB ⊢
  clear h h1 h2
  by_cases h0 : 0 ≤ i
  · by_cases hl : i < (NT : Int)
    · rw [decide_eq_true ⟨h0, hl⟩]
      go_enter Tryz.func102, Tryz.ntmps102
      go_wp2_with fail
      go_ret
      exact ⟨rfl, HB.out⟩
    · rw [decide_eq_false (fun h => hl h.2)]
      go_enter Tryz.func102, Tryz.ntmps102
      go_wp2_with fail
      go_ret
      exact ⟨rfl, HB.out⟩
  · rw [decide_eq_false (fun h => h0 h.1)]
    go_enter Tryz.func102, Tryz.ntmps102
    go_wp2_with fail
    go_ret
    exact ⟨rfl, HB.out⟩

theorem cl_get {w : World} {B : Nat} {A : Option Addr} {l : List Rd.Name} (h : Cl w B A (namesV l)) {k : Nat} {x : Rd.Name} (hk : l[k]? = some x) : ∃ b o, A = some ⟨b, o, none⟩ ∧ b < B ∧ w.cell? ⟨b, o + k, none⟩ = some (.string (str x)) := by
  obtain ⟨b, o, h1, h2, h3⟩ := h.ex (fun e => by
    have h1 := namesV_get hk
    rw [e] at h1; simp at h1)
  exact ⟨b, o, h1, h2, h3 _ _ (namesV_get hk)⟩
theorem getD_get {l : List Rd.Name} {k : Nat} (h : k < l.length) : l[k]? = some (l.getD k []) := by simp [List.getD, List.getElem?_eq_getElem h]


end Go.Proofs.YtpgmapjjjpcmfaaGreatDoor
