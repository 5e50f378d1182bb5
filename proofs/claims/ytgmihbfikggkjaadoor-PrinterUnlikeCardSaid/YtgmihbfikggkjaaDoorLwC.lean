/-
  The walk of LexerActions.
-/
import Derived.Test.YtgmihbfikggkjaaDoorLwA
import Derived.Test.YtgmihbfikggkjaaDoorLwM
namespace Go.Proofs.YtgmihbfikggkjaaDoor
open Go.RowKit
open Lx
set_option linter.unusedVariables false
set_option linter.unusedSimpArgs false

theorem bl_append (a b : ByteArray) : bl (a ++ b) = bl a ++ bl b := by
  unfold bl; rw [ByteArray.data_append]; simp
theorem bl_opens {d : Nat} (hd : d ≤ 6) : bl ((⟨#[123, 123, 123, 123, 123, 123]⟩ : ByteArray).extract 0 d) = List.replicate d 123 := by
  rw [bl_ext]
  match d, hd with
  | 0, _ => rfl
  | 1, _ => rfl
  | 2, _ => rfl
  | 3, _ => rfl
  | 4, _ => rfl
  | 5, _ => rfl
  | 6, _ => rfl
theorem bl_closes {d : Nat} (hd : d ≤ 6) : bl ((⟨#[125, 125, 125, 125, 125, 125]⟩ : ByteArray).extract 0 d) = List.replicate d 125 := by
  rw [bl_ext]
  match d, hd with
  | 0, _ => rfl
  | 1, _ => rfl
  | 2, _ => rfl
  | 3, _ => rfl
  | 4, _ => rfl
  | 5, _ => rfl
  | 6, _ => rfl


end Go.Proofs.YtgmihbfikggkjaaDoor
