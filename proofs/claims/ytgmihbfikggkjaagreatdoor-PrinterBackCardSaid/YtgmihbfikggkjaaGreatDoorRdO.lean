/-
  tronagelaw06's awake: the chapter's examples.
-/
import Derived.Test.YtgmihbfikggkjaaGreatDoorRdL
namespace Go.Proofs.YtgmihbfikggkjaaGreatDoor
open Go.RowKit
open Lx
set_option linter.unusedVariables false
set_option linter.unusedSimpArgs false
set_option maxRecDepth 100000

/-- Read told this grammar, and this of what is wrong. -/
structure ReadIs (G : Rd.G) (D : Nat × Nat × Nat) (w : World) (e : Ending) (w' : World) : Prop where
  ex : ∃ gv, e = .returned (.tuple #[gv, diagV D]) ∧ GramIs w' gv G
  below : Below w.heap.size w w'
theorem read_is (s : ByteArray) (G : Rd.G) (D : Nat × Nat × Nat) (w : World) (hm : s.size ≤ 9223372036854775807) (hT : Tab w) (h0 : 1 < w.heap.size) (h1 : Rd.readG (bl s) = G) (h2 : Rd.readD (bl s) = D) :
    Calls Tryz.prog 16 #[.string s] w (ReadIs G D w) := by
  subst h1 h2
  exact (read_any s w hm hT h0).mono fun e w' h => ⟨h.ex, h.below⟩

theorem ra1 : Rd.readG [37, 116, 111, 107, 101, 110, 32, 78, 32, 91, 48, 45, 57, 93, 43, 32, 37, 37, 32, 69, 32, 58, 32, 69, 32, 78, 32, 123, 49, 125, 32, 124, 32, 59] = ⟨[⟨[78], ⟨[], [48, 49, 50, 51, 52, 53, 54, 55, 56, 57], true⟩⟩], [], [], [69], [⟨[69], [[69], [78]], [], [49]⟩, ⟨[69], [], [], []⟩]⟩ := by decide +kernel
theorem ra1d : Rd.readD [37, 116, 111, 107, 101, 110, 32, 78, 32, 91, 48, 45, 57, 93, 43, 32, 37, 37, 32, 69, 32, 58, 32, 69, 32, 78, 32, 123, 49, 125, 32, 124, 32, 59] = (0, 0, 0) := by decide +kernel
theorem ra2 : Rd.readG [37, 37, 32, 69, 32, 58, 32, 59, 32, 70] = Rd.zero := by decide +kernel
theorem ra2d : Rd.readD [37, 37, 32, 69, 32, 58, 32, 59, 32, 70] = (14, 1, 11) := by decide +kernel
theorem ra3 : Rd.readG [37, 108, 101, 102, 116, 32, 65, 32, 65, 32, 37, 37] = Rd.zero := by decide +kernel
theorem ra3d : Rd.readD [37, 108, 101, 102, 116, 32, 65, 32, 65, 32, 37, 37] = (15, 1, 9) := by decide +kernel

/-- The two blocks that hold what Read told. -/
theorem two_new (w : World) (gc dc : Array Value) : At ((w.alloc (.cells gc 27)).alloc (.cells dc 45)) w.heap.size 27 gc ∧ At ((w.alloc (.cells gc 27)).alloc (.cells dc 45)) (w.heap.size + 1) 45 dc ∧
    Below w.heap.size w ((w.alloc (.cells gc 27)).alloc (.cells dc 45)) := by
  refine ⟨(At.new w _ gc).alloc _, ?_, ((Below.refl _ _).alloc (Nat.le_refl _) _).alloc (by simp) _⟩
  have := At.new (w.alloc (.cells gc 27)) 45 dc
  simpa using this


end Go.Proofs.YtgmihbfikggkjaaGreatDoor
