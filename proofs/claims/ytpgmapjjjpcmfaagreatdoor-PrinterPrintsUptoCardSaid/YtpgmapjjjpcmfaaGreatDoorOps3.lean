/-
  Arguments of more shapes, opened: a slice of structs whose fields are one cell each ('open_fields'), of three ints ('Ops3'), of strings ('Strs'), of bools ('Bools').
-/
import Derived.Test.YtpgmapjjjpcmfaaGreatDoorOps
import Derived.Deep.Fields
namespace Go.Proofs.YtpgmapjjjpcmfaaGreatDoor
open Go.RowKit Go.ChangeShapes Go.WideShapes Go.ChangeAt

section
variable {H : Type} {enc : TypeId × Value → H} {P : Program} {W : World} {base : Nat} {v : Value} {d : DataW H} {p : List MemPlace}

/-- The slice at A has n elements; element i's three cells hold the ints X i, Y i, Z i; they lie below block B. -/
structure Ops3 (w : World) (B : Nat) (A : Option Addr) (n : Nat) (X Y Z : Nat → Int) : Prop where
  each : ∀ i, i < n → ∃ b o, A = some ⟨b, o, none⟩ ∧ b < B ∧ w.cell? ⟨b, o + i * 3, none⟩ = some (.int .i64 (X i)) ∧ w.cell? ⟨b, o + i * 3 + 1, none⟩ = some (.int .i64 (Y i)) ∧ w.cell? ⟨b, o + i * 3 + 2, none⟩ = some (.int .i64 (Z i))
  rx : ∀ i, i < n → -9223372036854775808 ≤ X i ∧ X i ≤ 9223372036854775807
  ry : ∀ i, i < n → -9223372036854775808 ≤ Y i ∧ Y i ≤ 9223372036854775807
  rz : ∀ i, i < n → -9223372036854775808 ≤ Z i ∧ Z i ≤ 9223372036854775807
  len : n ≤ 9223372036854775807

theorem Ops3.below {w w' : World} {B : Nat} {A : Option Addr} {n : Nat} {X Y Z : Nat → Int} (h : Ops3 w B A n X Y Z) (hb : Below B w w') : Ops3 w' B A n X Y Z :=
  ⟨fun i hi => by
    obtain ⟨b, o, h1, h2, h3, h4, h5⟩ := h.each i hi
    exact ⟨b, o, h1, h2, (hb.cell (p := ⟨b, _, none⟩) h2).trans h3, (hb.cell (p := ⟨b, _, none⟩) h2).trans h4, (hb.cell (p := ⟨b, _, none⟩) h2).trans h5⟩, h.rx, h.ry, h.rz, h.len⟩

/-- The slice at A has n elements, the values V i, one cell each; they lie below block B. -/
structure Ones (w : World) (B : Nat) (A : Option Addr) (n : Nat) (V : Nat → Value) : Prop where
  each : ∀ i, i < n → ∃ b o, A = some ⟨b, o, none⟩ ∧ b < B ∧ w.cell? ⟨b, o + i, none⟩ = some (V i)
  len : n ≤ 9223372036854775807

theorem Ones.below {w w' : World} {B : Nat} {A : Option Addr} {n : Nat} {V : Nat → Value} (h : Ones w B A n V) (hb : Below B w w') : Ones w' B A n V :=
  ⟨fun i hi => by
    obtain ⟨b, o, h1, h2, h3⟩ := h.each i hi
    exact ⟨b, o, h1, h2, (hb.cell (p := ⟨b, _, none⟩) h2).trans h3⟩, h.len⟩

/-- A slice of strings. -/
structure Strs (w : World) (B : Nat) (A : Option Addr) (n : Nat) (S : Nat → ByteArray) : Prop where
  ones : Ones w B A n (fun i => .string (S i))
  size : ∀ i, i < n → (S i).size ≤ 9223372036854775807

theorem Strs.below {w w' : World} {B : Nat} {A : Option Addr} {n : Nat} {S : Nat → ByteArray} (h : Strs w B A n S) (hb : Below B w w') : Strs w' B A n S := ⟨h.ones.below hb, h.size⟩

/-- A slice of bools. -/
def Bools (w : World) (B : Nat) (A : Option Addr) (n : Nat) (S : Nat → Bool) : Prop := Ones w B A n (fun i => .bool (S i))

end

end Go.Proofs.YtpgmapjjjpcmfaaGreatDoor

