import Derived.Test.YtdhhkancbgealaaT03
import Derived.Test.YtdhhkancbgealaaT00
namespace Go.Proofs.Ytdhhkancbgealaa
namespace Lx
def braced (d : Nat) (l : List UInt8) : List UInt8 := List.replicate d 123 ++ l ++ List.replicate d 125
end Lx
end Go.Proofs.Ytdhhkancbgealaa
namespace Go.Proofs.Ytdhhkancbgealaa
namespace Lx
abbrev M0 := Nat × List UInt8 × Nat
def kt (m : M0) : Nat × List UInt8 := (m.1, m.2.1)
def lead (cm sp : List UInt8) : List UInt8 := 35 :: (cm ++ 10 :: sp)
end Lx
end Go.Proofs.Ytdhhkancbgealaa
namespace Go.Proofs.Ytdhhkancbgealaa
open Go.RowKit
open Lx
set_option linter.unusedVariables false
set_option linter.unusedSimpArgs false
end Go.Proofs.Ytdhhkancbgealaa
namespace Go.Proofs.Ytdhhkancbgealaa
open Go.RowKit
open Lx
set_option linter.unusedVariables false
set_option linter.unusedSimpArgs false
end Go.Proofs.Ytdhhkancbgealaa
namespace Go.Proofs.Ytdhhkancbgealaa
open Go.RowKit
open Lx
set_option linter.unusedVariables false
set_option linter.unusedSimpArgs false
end Go.Proofs.Ytdhhkancbgealaa
namespace Go.Proofs.Ytdhhkancbgealaa
open Go.RowKit Go.ChangeShapes Go.WideShapes Go.ChangeAt
open Lx
set_option linter.unusedVariables false
set_option linter.unusedSimpArgs false
structure Bytes8 (w : World) (B : Nat) (A : Option Addr) (n : Nat) (X : Nat → Nat) : Prop where
 each : ∀ i, i < n → ∃ b o, A = some ⟨b, o, none⟩ ∧ b < B ∧ w.cell? ⟨b, o + i, none⟩ = some (.int .u8 (X i : Int))
 rx : ∀ i, i < n → X i ≤ 255
 len : n ≤ 9223372036854775807
theorem Bytes8.below {w w' : World} {B : Nat} {A : Option Addr} {n : Nat} {X : Nat → Nat} (h : Bytes8 w B A n X) (hb : Below B w w') : Bytes8 w' B A n X :=
 ⟨fun i hi => by
  obtain ⟨b, o, h1, h2, h3⟩ := h.each i hi
  exact ⟨b, o, h1, h2, (hb.cell (p := ⟨b, _, none⟩) h2).trans h3⟩, h.rx, h.len⟩
section
variable {H : Type} {enc : TypeId × Value → H} {P : Program} {W : World} {base : Nat} {v : Value} {d : DataW H} {p : List MemPlace}
end
namespace Lx
end Lx
end Go.Proofs.Ytdhhkancbgealaa
