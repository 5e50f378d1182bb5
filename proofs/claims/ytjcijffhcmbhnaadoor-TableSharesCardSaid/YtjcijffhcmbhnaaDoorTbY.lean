import Derived.Test.YtjcijffhcmbhnaaDoorLaw
import Derived.Test.YtjcijffhcmbhnaaDoorTbF
import Derived.LaidMore
import Derived.LaidSub
import Derived.Lib.LaidTab
import Derived.Stop.Joined
import Derived.LaidByTextLater
namespace Go.Proofs.YtjcijffhcmbhnaaDoor
set_option maxRecDepth 100000
open Go.RowKit
theorem Tryd.gTab : Tryd.prog.globalNamed "math/bits.deBruijn64tab" = some 0 := by kernel_rfl
theorem Tryd.gTabType : (Tryd.prog.globals[0]?).map (·.type) = some 57 := by kernel_rfl
theorem Tryd.cellsTab : Tryd.prog.cellsOf 57 = 64 := by kernel_rfl
theorem Tryd.cellsTabU8 : Tryd.prog.cellsOf 5 = 1 := by kernel_rfl
theorem Tryd.gPow : Tryd.prog.globalNamed "internal/strconv.uint64pow10" = some 1 := by kernel_rfl
theorem Tryd.gPowType : (Tryd.prog.globals[1]?).map (·.type) = some 67 := by kernel_rfl
theorem Tryd.cellsPow : Tryd.prog.cellsOf 67 = 20 := by kernel_rfl
theorem Tryd.cellsU64 : Tryd.prog.cellsOf 50 = 1 := by kernel_rfl
abbrev listed : List (String × DataW Unit) := [("math/bits.deBruijn32tab", Rows.laid_math_bits_deBruijn32tab), ("math/bits.deBruijn64tab", Rows.laid_math_bits_deBruijn64tab), ("internal/strconv.uint64pow10", Rows.laid_internal_strconv_uint64pow10)]
theorem listed_eq : (Rows.laid_math_bits_deBruijn64tab : DataW Unit) = Lib.tabData .u8 (Lib.deBruijn64tab.map (fun x : Nat => (x : Int))) := by
 unfold Rows.laid_math_bits_deBruijn64tab Lib.tabData Lib.deBruijn64tab
 rfl
theorem listed_pow : (Rows.laid_internal_strconv_uint64pow10 : DataW Unit) = Lib.tabData .u64 Lib.pow10Tab := by
 unfold Rows.laid_internal_strconv_uint64pow10 Lib.tabData
 rfl
theorem listed_one : listed.filter (fun x => x.1 == "math/bits.deBruijn64tab") = [("math/bits.deBruijn64tab", Rows.laid_math_bits_deBruijn64tab)] := by
 simp [List.filter]
theorem listed_two : listed.filter (fun x => x.1 == "internal/strconv.uint64pow10") = [("internal/strconv.uint64pow10", Rows.laid_internal_strconv_uint64pow10)] := by
 simp [List.filter]
theorem tab_of_laid {W : World} (h : laidMetH Tryd.prog listed W) : Tab W := by
 rw [MakeChecks.laidMetH_plain _ _ _ (by kernel_rfl)] at h
 have h1 := h.filter (fun x => x.1 == "math/bits.deBruijn64tab")
 rw [listed_one, listed_eq] at h1
 have hT := Lib.tabIs_of_head Tryd.gTab Tryd.gTabType Tryd.underlying57 Tryd.underlying5 Tryd.cellsTabU8 Tryd.cellsTab h1
 intro j hj
 have hc := hT.cell Tryd.gTab j (by simpa using hj)
 rw [hc]
 simp [List.getD, hj]
theorem pow_of_laid {W : World} (h : laidMetH Tryd.prog listed W) : Pow W.heap.size W := by
 rw [MakeChecks.laidMetH_plain _ _ _ (by kernel_rfl)] at h
 have h1 := h.filter (fun x => x.1 == "internal/strconv.uint64pow10")
 rw [listed_two, listed_pow] at h1
 exact Lib.tabBelow_of_tabIs (Lib.tabIs_of_head Tryd.gPow Tryd.gPowType Tryd.underlying67 Tryd.underlying50 Tryd.cellsU64 Tryd.cellsPow h1)
theorem size_of_tab {W : World} (h : Tab W) : 0 < W.heap.size := (cell_spot (h 0 (by decide))).1
theorem door_met (os : Os) (args : Array Value) : laidMetH Tryd.prog listed ((World.doorLaid Tryd.prog 400 os).forCall (fun _ _ => 0) ⟨#[], args, []⟩).memory :=
 laidMetH_of_parts3 (fuel := 8) (laidMet_of_run' 8 (by kernel_rfl) (by kernel_rfl)) (by kernel_rfl) (by kernel_rfl)
end Go.Proofs.YtjcijffhcmbhnaaDoor
