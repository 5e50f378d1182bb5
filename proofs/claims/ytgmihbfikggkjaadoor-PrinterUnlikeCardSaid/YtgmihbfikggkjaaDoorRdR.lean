/-
  The walk of ReaderInside.
-/
import Derived.Test.YtgmihbfikggkjaaDoorRdP
import Derived.Test.YtgmihbfikggkjaaDoorRdQ
import Derived.Deep.RegionHeld3
namespace Go.Proofs.YtgmihbfikggkjaaDoor
open Go.RowKit
open Lx
set_option linter.unusedVariables false
set_option linter.unusedSimpArgs false
set_option maxRecDepth 100000


/-- Is one of the places below k the place P? -/
def There (l : List UInt8) (P : Nat × Nat) (k : Nat) (b : Bool) : Prop := b = true ↔ ∃ j, j < k ∧ pos l j = P

theorem nodup_ne {α : Type} {l : List α} (h : l.Nodup) {i j : Nat} {x y : α} (hi : l[i]? = some x) (hj : l[j]? = some y) (hij : i ≠ j) : x ≠ y := by
  rintro rfl
  obtain ⟨h1, h2⟩ := List.getElem?_eq_some_iff.1 hi
  obtain ⟨h3, h4⟩ := List.getElem?_eq_some_iff.1 hj
  exact hij ((List.getElem_inj h).1 (h2.trans h4.symm))
theorem str_ne {a b : List UInt8} (h : a ≠ b) : ((str a).toList == (str b).toList) = false := by
  rw [str_same]; simpa using h
def allNames (ls : List Rd.Lev) (k : Nat) : List Rd.Name := (ls.take k).flatMap Rd.Lev.names
theorem allNames_succ {ls : List Rd.Lev} {k : Nat} {x : Rd.Lev} (h : ls[k]? = some x) : allNames ls (k + 1) = allNames ls k ++ x.names := by
  unfold allNames
  rw [List.take_add_one, h]; simp
theorem allNames_le (ls : List Rd.Lev) (k : Nat) : (allNames ls k).length ≤ (ls.flatMap Rd.Lev.names).length := by
  have h : (ls.flatMap Rd.Lev.names).length = (allNames ls k).length + ((ls.drop k).flatMap Rd.Lev.names).length := by
    unfold allNames
    rw [← List.length_append, ← List.flatMap_append, List.take_append_drop]
  omega
theorem allNames_all (ls : List Rd.Lev) : allNames ls ls.length = ls.flatMap Rd.Lev.names := by unfold allNames; rw [List.take_length]


end Go.Proofs.YtgmihbfikggkjaaDoor
