import Derived.Test.YtdhhkancbgealaaT00
import Derived.BigQuiet
import Derived.Deep.QuietTactic
import Derived.Lib.Hide
namespace Go.Proofs.Ytdhhkancbgealaa
open Go.RowKit
set_option linter.unusedVariables false
set_option linter.unusedSimpArgs false
namespace Qt
structure Class (B : Nat) (W : World) (G : World → World) : Prop where
 below : ∀ x, Below B W (G x)
 onto : ∀ w, Below B W w → ∃ x, w = G x
 le : B ≤ W.heap.size
open Classical in
theorem class_of (B : Nat) (W : World) (hB : B ≤ W.heap.size) : ∃ G, Class B W G := by
 refine ⟨fun x => if Below B W x then x else W, fun x => ?_, fun w h => ⟨w, by rw [if_pos h]⟩, hB⟩
 by_cases h : Below B W x
 ·rw [if_pos h]; exact h
 ·rw [if_neg h]; exact ⟨rfl, rfl, rfl, Nat.le_refl _, fun _ _ => rfl⟩
theorem begin_ {P : Program} {id : Nat} {Q : Exit → Act → World → Prop} {a : Act} {w : World} {l : List Oper} {B : Nat} {W : World} {G : World → World} (hG : Class B W G) (hw : Below B W w) (hm : P.follows .mixedOrders = true) (hB : Region.lexB .any l.toArray = true)
  (h : wpQuiet P l.toArray (fun w' => ∃ x, w' = G x) (fun a' => ∀ w', (∃ x, w' = G x) → Q .normal a' w') l a) : (Code.region id l.toArray true).wp P Q a w :=
 wp_region_quiet (C := fun w' => ∃ x, w' = G x) hm hB (hG.onto _ ⟨hw.os, hw.tape, hw.output, hw.size, hw.block⟩) (by simpa using h)
theorem cell {B : Nat} {W : World} {G : World → World} (hG : Class B W G) {b o : Nat} {v : Value} (hb : b < B) (h : W.cell? ⟨b, o, none⟩ = some v) : ∀ x, (G x).cell? ⟨b, o, none⟩ = some v :=
 fun x => ((hG.below x).cell (p := ⟨b, o, none⟩) hb).trans h
theorem calls {P : Program} {f : FuncId} {args : Array Value} {v : Value} {B : Nat} {W : World} {G : World → World} (hG : Class B W G) (h : ∀ w, Calls P f args w fun e w' => e = .returned v ∧ Below w.heap.size w w') :
  ∀ x, Calls P f args (G x) fun e w'' => e = .returned v ∧ ∃ y, w'' = G y :=
 fun x => (h (G x)).mono fun _ _ ⟨he, hb⟩ => ⟨he, hG.onto _ ((hG.below x).trans (hb.mono (Nat.le_trans hG.le (hG.below x).size)))⟩
theorem start {P : Program} {id : Nat} {Q : Exit → Act → World → Prop} {a : Act} {l : List Oper} {B : Nat} {W : World} {G : World → World} {x : World} (hG : Class B W G) (hm : P.follows .mixedOrders = true) (hB : Region.lexB .any l.toArray = true)
  (h : wpQuiet P l.toArray (fun w' => ∃ x, w' = G x) (fun a' => ∀ w', (∃ x, w' = G x) → Q .normal a' w') l a) : (Code.region id l.toArray true).wp P Q a (G x) :=
 Qt.begin_ hG (hG.below x) hm hB h
end Qt
end Go.Proofs.Ytdhhkancbgealaa
