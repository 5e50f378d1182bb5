/-
  The walk of tronagelaw05's awake: the chapter's examples.
-/
import Derived.Test.YtcchljghlgnkkaaDoorLxH
namespace Go.Proofs.YtcchljghlgnkkaaDoor
open Go.RowKit
open Lx
set_option linter.unusedVariables false
set_option linter.unusedSimpArgs false

/-- Lex told these marks, and this of what is wrong. -/
structure LexIs (MS : List Mk) (D : Nat × Nat × Nat) (w : World) (e : Ending) (w' : World) : Prop where
  ex : ∃ (A : Option Addr) (cap : Nat), e = .returned (.tuple #[.slice A MS.length cap, diagV D]) ∧ MAt w' A MS
  below : Below w.heap.size w w'
theorem lex_is (s : ByteArray) (MS : List Mk) (D : Nat × Nat × Nat) (w : World) (hm : s.size ≤ 9223372036854775807) (hT : Tab w) (h0 : 0 < w.heap.size) (h1 : (lex (bl s)).marks (bl s) = MS) (h2 : (lex (bl s)).diag (bl s) = D) :
    Calls Tryd.prog 11 #[.string s] w (LexIs MS D w) := by
  subst h1 h2
  exact (lex_any s w hm hT h0).mono fun e w' ⟨h3, h4⟩ => ⟨h3, h4⟩

theorem aw1 : (lex [97, 32, 123, 49, 123, 50, 125, 125]).marks [97, 32, 123, 49, 123, 50, 125, 125] = [⟨1, [97], 1, 1⟩, ⟨9, [49, 123, 50, 125], 1, 3⟩, ⟨0, [], 1, 9⟩] := by decide +kernel
theorem aw1d : (lex [97, 32, 123, 49, 123, 50, 125, 125]).diag [97, 32, 123, 49, 123, 50, 125, 125] = (0, 0, 0) := by decide +kernel
theorem aw2 : (lex [37, 116, 111, 107, 101, 110, 32, 78, 32, 91, 48, 45, 57, 93, 43]).marks [37, 116, 111, 107, 101, 110, 32, 78, 32, 91, 48, 45, 57, 93, 43] = [⟨2, [116, 111, 107, 101, 110], 1, 1⟩, ⟨1, [78], 1, 8⟩, ⟨4, [48, 49, 50, 51, 52, 53, 54, 55, 56, 57], 1, 10⟩, ⟨5, [], 1, 15⟩, ⟨0, [], 1, 16⟩] := by decide +kernel
theorem aw2d : (lex [37, 116, 111, 107, 101, 110, 32, 78, 32, 91, 48, 45, 57, 93, 43]).diag [37, 116, 111, 107, 101, 110, 32, 78, 32, 91, 48, 45, 57, 93, 43] = (0, 0, 0) := by decide +kernel
theorem aw3 : (lex [91, 98, 45, 97, 93]).marks [91, 98, 45, 97, 93] = [] := by decide +kernel
theorem aw3d : (lex [91, 98, 45, 97, 93]).diag [91, 98, 45, 97, 93] = (10, 1, 3) := by decide +kernel

set_option maxHeartbeats 2000000 in
theorem awake_any (w : World) (hT : Tab w) (h0 : 0 < w.heap.size) :
    Calls Tryd.prog 10 #[] w fun e w' => e = .returned (.bool true) ∧ Below w.heap.size w w' := by
  have HT := Lib.hid hT
  clear hT
  go_enter Tryd.func10, Tryd.ntmps10
  go_wp2_with fail
  refine (lex_is ⟨#[97, 32, 123, 49, 123, 50, 125, 125]⟩ _ _ _ (by decide) HT.out h0 aw1 aw1d).mono ?_
  rintro e w1 ⟨⟨A1, cap1, rfl, hm1⟩, hb1⟩
  simp only [List.length_cons, List.length_nil, diagV]
  have hs1 := hb1.size
  have HM1 := Lib.hid ((hm1.below ((Below.refl _ _).alloc (Nat.le_refl _) (.cells #[.int .i64 0, .int .i64 0, .int .i64 0] 28))))
  have HB1 := Lib.hid (hb1.alloc hs1 (.cells #[.int .i64 0, .int .i64 0, .int .i64 0] 28))
  have HT1 := Lib.hid ((HT.out.below hb1 h0).alloc (by omega) (.cells #[.int .i64 0, .int .i64 0, .int .i64 0] 28))
  have HD1 := Lib.hid (At.new w1 28 #[.int .i64 0, .int .i64 0, .int .i64 0])
  have hl1 : w1.heap.size < (w1.alloc (.cells #[.int .i64 0, .int .i64 0, .int .i64 0] 28)).heap.size := by simp
  clear hm1 hb1
  go_wp2_with fail
  generalize (w1.alloc (.cells #[.int .i64 0, .int .i64 0, .int .i64 0] 28)) = W1 at *
  generalize w1.heap.size = g1 at *
  refine (lex_is ⟨#[37, 116, 111, 107, 101, 110, 32, 78, 32, 91, 48, 45, 57, 93, 43]⟩ _ _ _ (by decide) HT1.out (by omega) aw2 aw2d).mono ?_
  rintro e w2 ⟨⟨A2, cap2, rfl, hm2⟩, hb2⟩
  simp only [List.length_cons, List.length_nil, diagV]
  have hs2 := hb2.size
  have hbx := hb2.alloc hs2 (.cells #[.int .i64 0, .int .i64 0, .int .i64 0] 28)
  have HM12 := Lib.hid (HM1.out.below hbx)
  have HD12 := Lib.hid (HD1.out.below hbx HD1.out.lt)
  have HM2 := Lib.hid ((hm2.below ((Below.refl _ _).alloc (Nat.le_refl _) (.cells #[.int .i64 0, .int .i64 0, .int .i64 0] 28))))
  have HB2 := Lib.hid (HB1.out.trans (hbx.mono HB1.out.size))
  have HT2 := Lib.hid (HT1.out.below hbx (by omega))
  have HD2 := Lib.hid (At.new w2 28 #[.int .i64 0, .int .i64 0, .int .i64 0])
  have hl2 : w2.heap.size < (w2.alloc (.cells #[.int .i64 0, .int .i64 0, .int .i64 0] 28)).heap.size := by simp
  clear hm2 hb2 hbx
  go_wp2_with fail
  generalize (w2.alloc (.cells #[.int .i64 0, .int .i64 0, .int .i64 0] 28)) = W2 at *
  generalize w2.heap.size = g2 at *
  refine (lex_is ⟨#[91, 98, 45, 97, 93]⟩ _ _ _ (by decide) HT2.out (by omega) aw3 aw3d).mono ?_
  rintro e w3 ⟨⟨A3, cap3, rfl, hm3⟩, hb3⟩
  simp only [List.length_cons, List.length_nil, diagV]
  have hs3 := hb3.size
  obtain ⟨b1, rfl, q1, c11, c12, c13, c14⟩ := (HM12.out.below hb3).cell (i := 1) (by decide)
  obtain ⟨b2, rfl, q2, c21, c22, c23, c24⟩ := (HM2.out.below hb3).cell (i := 2) (by decide)
  obtain ⟨b2', e2, q3, c31, c32, c33, c34⟩ := (HM2.out.below hb3).cell (i := 3) (by decide)
  injection e2 with e2
  injection e2 with e2
  subst e2
  have d10 := (HD12.out.below hb3 HD12.out.lt).cell 0
  have d20 := (HD2.out.below hb3 HD2.out.lt).cell 0
  have HB3 := Lib.hid (HB2.out.trans (hb3.mono HB2.out.size))
  have hlt1 : g1 < w3.heap.size := by have := HD12.out.lt; omega
  have hlt2 : g2 < w3.heap.size := by have := HD2.out.lt; omega
  simp only [List.getElem?_toArray, List.getElem?_cons_zero] at d10 d20
  simp only [List.getD_cons_succ, List.getD_cons_zero] at c11 c12 c21 c22 c31 c32
  have c12' : w3.cell? ⟨b1, 5, none⟩ = some (.string ⟨#[49, 123, 50, 125]⟩) := c12
  have c22' : w3.cell? ⟨b2, 9, none⟩ = some (.string ⟨#[48, 49, 50, 51, 52, 53, 54, 55, 56, 57]⟩) := c22
  have c31' : w3.cell? ⟨b2, 12, none⟩ = some (.int .i64 5) := c31
  clear c11 c12 c13 c14 c21 c22 c23 c24 c31 c32 c33 c34 hb3 hm3
  go_wp2_with fail
  go_ret
  exact ⟨rfl, HB3.out.alloc HB3.out.size _⟩

end Go.Proofs.YtcchljghlgnkkaaDoor
