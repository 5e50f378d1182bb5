/-
  The walk of tronageref05's Marks.
-/
import Derived.Test.YtcchljghlgnkkaaDoorLwB
namespace Go.Proofs.YtcchljghlgnkkaaDoor
open Go.RowKit
open Lx
set_option linter.unusedVariables false
set_option linter.unusedSimpArgs false

set_option maxHeartbeats 1000000 in
theorem marks_any (A B : Option Addr) (MS : List Mk) (ca cb : Nat) (w : World) (hA : MAt w A MS) (hB : MAt w B MS) (hl : MS.length ≤ 9000000) :
    Calls Tryd.prog 13 #[.slice A MS.length ca, .slice B MS.length cb] w fun e w' => e = .returned (.bool true) ∧ ∃ n, w' = w.drewN n := by
  have HA := Lib.hid hA
  have HB := Lib.hid hB
  generalize hN : MS.length = N at hl ⊢
  have HN := Lib.hid hN
  clear hA hB hN
  go_enter Tryd.func13, Tryd.ntmps13
  go_wp2_with fail
  go_loopw [5] (fun i wr => ∃ k n : Nat, k ≤ N ∧ i = .int .i64 (k : Int) ∧ wr = w.drewN n) (fun i _ => N - (intOf i).toNat)
  case atStart => exact ⟨0, 0, by omega, rfl, rfl⟩
  case round =>
    obtain ⟨k, n, hk, rfl, rfl⟩ := hrel
    by_cases hlt : k < N
    · obtain ⟨b1, rfl, y1, x11, x12, x13, x14⟩ := HA.out.cell (i := k) (by rw [HN.out]; exact hlt)
      obtain ⟨b2, rfl, y2, x21, x22, x23, x24⟩ := HB.out.cell (i := k) (by rw [HN.out]; exact hlt)
      generalize (MS.getD k ⟨0, [], 0, 0⟩).kind = K at x11 x21
      generalize str (MS.getD k ⟨0, [], 0, 0⟩).text = T at x12 x22
      generalize (MS.getD k ⟨0, [], 0, 0⟩).line = L at x13 x23
      generalize (MS.getD k ⟨0, [], 0, 0⟩).col = C at x14 x24
      have hki : (k : Int) < (N : Int) := by omega
      have hk0 : (0 : Int) ≤ (k : Int) := by omega
      go_wp2_with fail
      go_quiet (fail)
      go_wp2_with fail
      go_roundw
      case rel => exact ⟨k + 1, _, by omega, by go_num, rfl⟩
      case measure => simp [intOf]; omega
    · obtain rfl : N = k := by omega
      go_wp2_with fail
      go_ret
      exact ⟨rfl, n, rfl⟩

end Go.Proofs.YtcchljghlgnkkaaDoor
