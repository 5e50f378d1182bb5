/-
  The walk of tronagelaw05's awake: the chapter's examples.
-/
import Derived.Test.YtgmihbfikggkjaaDoorLxH
namespace Go.Proofs.YtgmihbfikggkjaaDoor
open Go.RowKit
open Lx
set_option linter.unusedVariables false
set_option linter.unusedSimpArgs false

/-- Lex told these marks, and this of what is wrong. -/
structure LexIs (MS : List Mk) (D : Nat × Nat × Nat) (w : World) (e : Ending) (w' : World) : Prop where
  ex : ∃ (A : Option Addr) (cap : Nat), e = .returned (.tuple #[.slice A MS.length cap, diagV D]) ∧ MAt w' A MS
  below : Below w.heap.size w w'
theorem lex_is (s : ByteArray) (MS : List Mk) (D : Nat × Nat × Nat) (w : World) (hm : s.size ≤ 9223372036854775807) (hT : Tab w) (h0 : 0 < w.heap.size) (h1 : (lex (bl s)).marks (bl s) = MS) (h2 : (lex (bl s)).diag (bl s) = D) :
    Calls Tryd.prog 13 #[.string s] w (LexIs MS D w) := by
  subst h1 h2
  exact (lex_any s w hm hT h0).mono fun e w' ⟨h3, h4⟩ => ⟨h3, h4⟩

theorem aw1 : (lex [97, 32, 123, 49, 123, 50, 125, 125]).marks [97, 32, 123, 49, 123, 50, 125, 125] = [⟨1, [97], 1, 1⟩, ⟨9, [49, 123, 50, 125], 1, 3⟩, ⟨0, [], 1, 9⟩] := by decide +kernel
theorem aw1d : (lex [97, 32, 123, 49, 123, 50, 125, 125]).diag [97, 32, 123, 49, 123, 50, 125, 125] = (0, 0, 0) := by decide +kernel
theorem aw2 : (lex [37, 116, 111, 107, 101, 110, 32, 78, 32, 91, 48, 45, 57, 93, 43]).marks [37, 116, 111, 107, 101, 110, 32, 78, 32, 91, 48, 45, 57, 93, 43] = [⟨2, [116, 111, 107, 101, 110], 1, 1⟩, ⟨1, [78], 1, 8⟩, ⟨4, [48, 49, 50, 51, 52, 53, 54, 55, 56, 57], 1, 10⟩, ⟨5, [], 1, 15⟩, ⟨0, [], 1, 16⟩] := by decide +kernel
theorem aw2d : (lex [37, 116, 111, 107, 101, 110, 32, 78, 32, 91, 48, 45, 57, 93, 43]).diag [37, 116, 111, 107, 101, 110, 32, 78, 32, 91, 48, 45, 57, 93, 43] = (0, 0, 0) := by decide +kernel
theorem aw3 : (lex [91, 98, 45, 97, 93]).marks [91, 98, 45, 97, 93] = [] := by decide +kernel
theorem aw3d : (lex [91, 98, 45, 97, 93]).diag [91, 98, 45, 97, 93] = (10, 1, 3) := by decide +kernel


end Go.Proofs.YtgmihbfikggkjaaDoor
