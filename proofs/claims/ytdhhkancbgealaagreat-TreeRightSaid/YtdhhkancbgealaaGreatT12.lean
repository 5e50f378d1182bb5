import Derived.Test.YtdhhkancbgealaaGreatT07
import Derived.RangeFuncWrites
import Derived.RangeFuncBox
import Derived.RangeFuncLeaves
import Derived.RangeFuncNested
import Derived.RangeFuncCalls
import Derived.RangeFuncBound
import Derived.Shelf.Abstract
import Derived.Shelf.RegionOpen
import Derived.OwnWalkIn
import Derived.LoopIn
namespace Go.Proofs.YtdhhkancbgealaaGreat
open Go.RowKit Go.Shelf
open Lx
set_option linter.unusedVariables false
set_option linter.unusedSimpArgs false
set_option maxRecDepth 100000
def dn (N m : Nat) : List Nat := (List.range m).map (fun j => N - 1 - j)
theorem dn_succ (N m : Nat) : dn N (m + 1) = dn N m ++ [N - 1 - m] := by simp [dn, List.range_succ]
theorem dn_len (N m : Nat) : (dn N m).length = m := by simp [dn]
def atB (R : List Int) (k : Nat) : Int := R.getD k 0
def encB (R : List Int) (k : Nat) : Array Value := #[.int .i64 (k : Int), .int .i64 (atB R k)]
theorem backward_any (A : Option Addr) (n c : Nat) (w : World) :
    Calls Tryz.prog 74 #[.slice A n c] w fun e w' => e = .returned (.func (.func 88) #[] #[.pointer (some ⟨w.heap.size, 0, none⟩)]) ∧ w' = w.alloc (.cells #[.slice A n c] 32) := by
  have hmf : ∀ (fn : Fn) (first cap : Array Value) (w : World), (Instr.makeFunc fn first cap).run Tryz.prog w = .ok (.func fn first cap) w := fun _ _ _ _ => rfl
  go_enter Tryz.func74, Tryz.ntmps74
  go_wp2_with fail
  go_ret
  exact ⟨rfl, rfl⟩
attribute [local go_sem] Oper.semAt_some
namespace Nm
end Nm
end Go.Proofs.YtdhhkancbgealaaGreat
