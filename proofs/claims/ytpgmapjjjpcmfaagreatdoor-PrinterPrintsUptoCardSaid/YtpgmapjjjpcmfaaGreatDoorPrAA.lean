/-
  How long a grammar's text can be; texts piece by piece, as they are written.
  The walk of printer.Print.
-/
import Derived.Test.YtpgmapjjjpcmfaaGreatDoorPrY
import Derived.Test.YtpgmapjjjpcmfaaGreatDoorPrZ
import Derived.Deep.RegionHeld3
import Derived.Deep.DrawnRows
namespace Go.Proofs.YtpgmapjjjpcmfaaGreatDoor
namespace Pr
open Rd (Name Pat Tok Lev Rule G)
set_option linter.unusedVariables false
set_option linter.unusedSimpArgs false

theorem rises_len {l : List UInt8} (h : rises l = true) : l.length ≤ 256 := by
  have h1 := filter_rises 256 0 l h (fun x _ => ⟨by omega, by have := x.toNat_lt; omega⟩)
  have h2 := congrArg List.length h1
  rw [List.length_map] at h2
  rw [← h2]
  exact Nat.le_trans (List.length_filter_le _ _) (by simp)
theorem name_len {n : Name} (h : nameOk n = true) : n.length ≤ 32 := (nameOk_ex h).1
theorem action_len {a : Name} (h : actOk a = true) : a.length ≤ 200 := by
  unfold actOk at h
  rw [beq_iff_eq] at h
  have : ∀ (l acc : List UInt8) (o : Nat) {k n : Nat} {t : List UInt8}, Lx.act l acc o = .mark k t n → t.length ≤ 200 := fun l acc o k n t h => (act_mark l acc o h).2.2
  exact this _ _ _ h
end Pr
end Go.Proofs.YtpgmapjjjpcmfaaGreatDoor

namespace Go.Proofs.YtpgmapjjjpcmfaaGreatDoor
open Go.RowKit
open Lx
attribute [local go_sem ↓] Go.wp_at_zero Go.wp_at_succ
set_option linter.unusedVariables false
set_option linter.unusedSimpArgs false
set_option maxRecDepth 100000

/-- What Print answers. -/
def printV (G : Rd.G) : Value := if Pr.rightB G = true then (if 4000 < (Pr.text G).length then .tuple #[.string (str []), .int .i64 12] else .tuple #[.string (str (Pr.text G)), .int .i64 0]) else .tuple #[.string (str []), .int .i64 1]

end Go.Proofs.YtpgmapjjjpcmfaaGreatDoor

