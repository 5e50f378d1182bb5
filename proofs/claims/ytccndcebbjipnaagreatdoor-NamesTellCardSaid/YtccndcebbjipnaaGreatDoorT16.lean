import Derived.Test.YtccndcebbjipnaaGreatDoorT14
import Derived.Lib.Builder
import Derived.Lib.AppendStr
import Derived.Lib.UnsafeStr
import Derived.Test.YtccndcebbjipnaaGreatDoorT15
namespace Go.Proofs.YtccndcebbjipnaaGreatDoor
open Go.RowKit
open Lx
set_option linter.unusedVariables false
set_option linter.unusedSimpArgs false
set_option maxRecDepth 100000
theorem Tryz.sizeBuilder : (Tryz.prog.info? 70).map (·.size) = some 2 := by kernel_rfl
theorem Tryz.infoByte : (Tryz.prog.info? 5).map (fun i => (i.zero, i.size, i.bytes)) = some (some (.int .u8 0), 1, 1) := by kernel_rfl
def bcells (l : List UInt8) : List Value := l.map fun b => .int .u8 (b.toNat : Int)
structure Bld (w : World) (B b : Nat) (l : List UInt8) : Prop where
  ex : ∃ p v, At w b 72 #[p, v] ∧ (p = .pointer none ∨ p = .pointer (some ⟨b, 0, none⟩)) ∧ w.ownsRow B 5 1 v l.length (bcells l)
  le : B ≤ b
theorem Bld.lt {w : World} {B b : Nat} {l : List UInt8} (h : Bld w B b l) : b < w.heap.size := by obtain ⟨p, v, h1, _⟩ := h.ex; exact h1.lt
theorem Bld.below {w w' : World} {B b : Nat} {l : List UInt8} (h : Bld w B b l) (hb : Below w.heap.size w w') : Bld w' B b l := by
  obtain ⟨p, v, h1, h2, h3⟩ := h.ex
  exact ⟨⟨p, v, h1.below hb h1.lt, h2, own_stay h3 (Stay.below hb)⟩, h.le⟩
theorem Bld.new (w : World) : Bld (w.alloc (.cells #[.pointer none, .slice none 0 0] 72)) w.heap.size w.heap.size [] :=
  ⟨⟨_, _, At.new _ _ _, .inl rfl, World.ownsRow_nil _ _ _ _⟩, Nat.le_refl _⟩
theorem Tryz.cellsByte : Tryz.prog.cellsOf 5 = 1 := by kernel_rfl
end Go.Proofs.YtccndcebbjipnaaGreatDoor
namespace Go.Proofs.YtccndcebbjipnaaGreatDoor
open Go.RowKit
open Lx
set_option linter.unusedVariables false
set_option linter.unusedSimpArgs false
set_option maxRecDepth 100000
end Go.Proofs.YtccndcebbjipnaaGreatDoor
