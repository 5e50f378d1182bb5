/-
  The chapter's examples.
-/
import Derived.Test.YtnmmffpcbneccaaAr5S
namespace Go.Proofs.Ytnmmffpcbneccaa
open Go.RowKit
set_option linter.unusedVariables false

set_option maxHeartbeats 1600000 in
theorem awake_any (w : World) :
    Calls Try.prog 9 #[] w fun e w' => e = .returned (.bool true) ∧ Below w.heap.size w w' := by
  go_enter Try.func9, Try.ntmps9
  go_wp2_with fail
  refine (new_any 5 _).mono ?_
  rw [hld_in (by omega) (by omega)]
  rintro e w1 ⟨rfl, rfl⟩
  go_wp2_with fail
  refine (newS_any _ _).mono ?_
  rintro e w2 ⟨rfl, h2⟩
  have h := OneS.start (Below.refl w.heap.size w) (l := 5) (by omega)
  rw [h2] at h
  have H2 := Lib.hid h
  clear h h2
  go_wp2_with fail
  refine (oneS_put_ok _ _ _ _ _ _ H2.out ⟨#[97]⟩ 2 0 (by omega) (by decide) rfl).mono ?_
  rintro e w3 ⟨rfl, h⟩
  have H3 := Lib.hid h
  clear h
  go_wp2_with fail
  refine (oneS_put_no _ _ _ _ _ _ H3.out ⟨#[98]⟩ 4 5 (by omega) (.inr (by decide))).mono ?_
  rintro e w4 ⟨rfl, h⟩
  have H4 := Lib.hid h
  clear h
  go_wp2_with fail
  refine (oneS_put_ok _ _ _ _ _ _ H4.out ⟨#[99]⟩ 3 1 (by omega) (by decide) rfl).mono ?_
  rintro e w5 ⟨rfl, h⟩
  have H5 := Lib.hid h
  clear h
  go_wp2_with fail
  refine (oneS_at _ _ _ _ _ _ H5.out 1 1 rfl _ rfl).mono ?_
  rintro e w6 ⟨rfl, rfl⟩
  go_wp2_with fail
  refine (oneS_cut _ _ _ _ _ _ H5.out 1 (by omega) 1 3 rfl rfl).mono ?_
  rintro e w6 ⟨rfl, h⟩
  have H6 := Lib.hid h
  clear h
  go_wp2_with fail
  refine (oneS_at_no _ _ _ _ _ _ H6.out 1 (by decide)).mono ?_
  rintro e w7 ⟨rfl, rfl⟩
  go_wp2_with fail
  refine (oneS_cells _ _ _ _ _ _ H6.out).mono ?_
  rintro e w7 ⟨rfl, rfl⟩
  go_wp2_with fail
  go_ret
  exact ⟨rfl, H6.out.bel⟩

end Go.Proofs.Ytnmmffpcbneccaa
