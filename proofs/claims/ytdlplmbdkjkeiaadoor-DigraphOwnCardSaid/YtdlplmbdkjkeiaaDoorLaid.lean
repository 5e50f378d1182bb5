import Derived.Test.YtdlplmbdkjkeiaaDoorLaw
import Derived.Test.YtdlplmbdkjkeiaaDoorSetD
import Derived.LaidMore
import Derived.Lib.LaidTab
import Derived.Stop.Joined
import Derived.LaidByTextLater
namespace Go.Proofs.YtdlplmbdkjkeiaaDoor
set_option maxRecDepth 100000
open Go.RowKit
theorem Tryd.gTab : Tryd.prog.globalNamed "math/bits.deBruijn64tab" = some 0 := by kernel_rfl
theorem Tryd.gTabType : (Tryd.prog.globals[0]?).map (·.type) = some 98 := by kernel_rfl
theorem Tryd.cellsTab : Tryd.prog.cellsOf 98 = 64 := by kernel_rfl
theorem Tryd.cellsU8 : Tryd.prog.cellsOf 5 = 1 := by kernel_rfl
abbrev listed : List (String × DataW Unit) := [("math/bits.deBruijn64tab", Rows.laid_math_bits_deBruijn64tab)]
theorem listed_eq : (Rows.laid_math_bits_deBruijn64tab : DataW Unit) = Lib.tabData .u8 (Lib.deBruijn64tab.map (fun x : Nat => (x : Int))) := by
 unfold Rows.laid_math_bits_deBruijn64tab Lib.tabData Lib.deBruijn64tab
 rfl
theorem tab_of_laid {W : World} (h : laidMetH Tryd.prog listed W) : Tab W := by
 rw [MakeChecks.laidMetH_plain _ _ _ (by kernel_rfl)] at h
 unfold listed at h
 rw [listed_eq] at h
 have hT := Lib.tabIs_of_head Tryd.gTab Tryd.gTabType Tryd.underlying98 Tryd.underlying5 Tryd.cellsU8 Tryd.cellsTab h
 intro j hj
 have hc := hT.cell Tryd.gTab j (by simpa using hj)
 rw [hc]
 simp [List.getD, hj]
theorem size_of_tab {W : World} (h : Tab W) : 0 < W.heap.size := (cell_spot (h 0 (by decide))).1
theorem door_met (os : Os) (args : Array Value) : laidMetH Tryd.prog listed ((World.doorLaid Tryd.prog 400 os).forCall (fun _ _ => 0) ⟨#[], args, []⟩).memory :=
 laidMetH_of_parts3 (fuel := 8) (laidMet_of_run' 8 (by kernel_rfl) (by kernel_rfl)) (by kernel_rfl) (by kernel_rfl)
end Go.Proofs.YtdlplmbdkjkeiaaDoor
