import Derived.Test.YtdhhkancbgealaaT00
import Derived.Deep.Fields
import Derived.Test.YtdhhkancbgealaaT09
import Derived.Deep.Strs
import Derived.SizedLaws
section
namespace Go.Proofs.Ytdhhkancbgealaa
open Go.RowKit Go.ChangeShapes Go.WideShapes Go.ChangeAt
section
variable {H : Type} {enc : TypeId × Value → H} {P : Program} {W : World} {base : Nat} {v : Value} {d : DataW H} {p : List MemPlace}
structure Ops3 (w : World) (B : Nat) (A : Option Addr) (n : Nat) (X Y Z : Nat → Int) : Prop where
 each : ∀ i, i < n → ∃ b o, A = some ⟨b, o, none⟩ ∧ b < B ∧ w.cell? ⟨b, o + i * 3, none⟩ = some (.int .i64 (X i)) ∧ w.cell? ⟨b, o + i * 3 + 1, none⟩ = some (.int .i64 (Y i)) ∧ w.cell? ⟨b, o + i * 3 + 2, none⟩ = some (.int .i64 (Z i))
 rx : ∀ i, i < n → -9223372036854775808 ≤ X i ∧ X i ≤ 9223372036854775807
 ry : ∀ i, i < n → -9223372036854775808 ≤ Y i ∧ Y i ≤ 9223372036854775807
 rz : ∀ i, i < n → -9223372036854775808 ≤ Z i ∧ Z i ≤ 9223372036854775807
 len : n ≤ 9223372036854775807
theorem Ops3.below {w w' : World} {B : Nat} {A : Option Addr} {n : Nat} {X Y Z : Nat → Int} (h : Ops3 w B A n X Y Z) (hb : Below B w w') : Ops3 w' B A n X Y Z :=
 ⟨fun i hi => by
  obtain ⟨b, o, h1, h2, h3, h4, h5⟩ := h.each i hi
  exact ⟨b, o, h1, h2, (hb.cell (p := ⟨b, _, none⟩) h2).trans h3, (hb.cell (p := ⟨b, _, none⟩) h2).trans h4, (hb.cell (p := ⟨b, _, none⟩) h2).trans h5⟩, h.rx, h.ry, h.rz, h.len⟩
theorem int_field {k : Nat} {t : TypeId} {u : Value} {y : DataW H × List MemPlace} (ht : P.underlying t = some (.int .i64)) (h : DataW.trod enc P W 0 (fun _ => true) true k t [u] = some y) :
  ∃ x : Int, u = .int .i64 x ∧ -9223372036854775808 ≤ x ∧ x ≤ 9223372036854775807 := by
 obtain ⟨x, e, _, hw⟩ := DataW.trod_int ht h
 simp at e
 exact ⟨x, e, by simpa [Lit.wf, IntKind.min, IntKind.max, IntKind.signed, IntKind.bits] using hw⟩
structure Ones (w : World) (B : Nat) (A : Option Addr) (n : Nat) (V : Nat → Value) : Prop where
 each : ∀ i, i < n → ∃ b o, A = some ⟨b, o, none⟩ ∧ b < B ∧ w.cell? ⟨b, o + i, none⟩ = some (V i)
 len : n ≤ 9223372036854775807
theorem Ones.below {w w' : World} {B : Nat} {A : Option Addr} {n : Nat} {V : Nat → Value} (h : Ones w B A n V) (hb : Below B w w') : Ones w' B A n V :=
 ⟨fun i hi => by
  obtain ⟨b, o, h1, h2, h3⟩ := h.each i hi
  exact ⟨b, o, h1, h2, (hb.cell (p := ⟨b, _, none⟩) h2).trans h3⟩, h.len⟩
structure Strs (w : World) (B : Nat) (A : Option Addr) (n : Nat) (S : Nat → ByteArray) : Prop where
 ones : Ones w B A n (fun i => .string (S i))
 size : ∀ i, i < n → (S i).size ≤ 9223372036854775807
theorem Strs.below {w w' : World} {B : Nat} {A : Option Addr} {n : Nat} {S : Nat → ByteArray} (h : Strs w B A n S) (hb : Below B w w') : Strs w' B A n S := ⟨h.ones.below hb, h.size⟩
def Bools (w : World) (B : Nat) (A : Option Addr) (n : Nat) (S : Nat → Bool) : Prop := Ones w B A n (fun i => .bool (S i))
end
end Go.Proofs.Ytdhhkancbgealaa
end
section
namespace Go.Proofs.Ytdhhkancbgealaa
open Go.RowKit Go.ChangeShapes Go.WideShapes Go.ChangeAt
open Lx
set_option linter.unusedVariables false
set_option linter.unusedSimpArgs false
set_option maxRecDepth 100000
section
variable {H : Type} {enc : TypeId × Value → H} {W : World}
def Fits (d : DataW H) (t : TypeId) : Prop := ∀ n ∈ d.weights Try.prog t, n ≤ reachBytes
end
end Go.Proofs.Ytdhhkancbgealaa
end
