import Derived.Test.YtccndcebbjipnaaGreatDoorT02
import Derived.Test.YtccndcebbjipnaaGreatDoorT06
import Derived.Test.YtccndcebbjipnaaGreatDoorT00
namespace Go.Proofs.YtccndcebbjipnaaGreatDoor
namespace Lx
def quote : List UInt8 → List UInt8
  | [] => []
  | c :: r => if c = 10 then 92 :: 110 :: quote r else if c = 34 ∨ c = 92 then 92 :: c :: quote r else c :: quote r
def braced (d : Nat) (l : List UInt8) : List UInt8 := List.replicate d 123 ++ l ++ List.replicate d 125
def inner (d : Nat) (l : List UInt8) : List UInt8 := List.replicate (d - 1) 123 ++ l ++ List.replicate (d - 1) 125
end Lx
end Go.Proofs.YtccndcebbjipnaaGreatDoor
namespace Go.Proofs.YtccndcebbjipnaaGreatDoor
namespace Lx
abbrev M0 := Nat × List UInt8 × Nat
def kt (m : M0) : Nat × List UInt8 := (m.1, m.2.1)
def lead (cm sp : List UInt8) : List UInt8 := 35 :: (cm ++ 10 :: sp)
def spaced (s cm sp : List UInt8) : List UInt8 := lead cm sp ++ (s ++ 10 :: (lead cm sp ++ 35 :: cm))
end Lx
end Go.Proofs.YtccndcebbjipnaaGreatDoor
namespace Go.Proofs.YtccndcebbjipnaaGreatDoor
open Go.RowKit
open Lx
set_option linter.unusedVariables false
set_option linter.unusedSimpArgs false
structure LexIs (MS : List Mk) (D : Nat × Nat × Nat) (w : World) (e : Ending) (w' : World) : Prop where
  ex : ∃ (A : Option Addr) (cap : Nat), e = .returned (.tuple #[.slice A MS.length cap, diagV D]) ∧ MAt w' A MS
  below : Below w.heap.size w w'
theorem lex_is (s : ByteArray) (MS : List Mk) (D : Nat × Nat × Nat) (w : World) (hm : s.size ≤ 9223372036854775807) (hT : Tab w) (h0 : 1 < w.heap.size) (h1 : (lex (bl s)).marks (bl s) = MS) (h2 : (lex (bl s)).diag (bl s) = D) :
    Calls Tryz.prog 66 #[.string s] w (LexIs MS D w) := by
  subst h1 h2
  exact (lex_any s w hm hT h0).mono fun e w' ⟨h3, h4⟩ => ⟨h3, h4⟩
end Go.Proofs.YtccndcebbjipnaaGreatDoor
namespace Go.Proofs.YtccndcebbjipnaaGreatDoor
open Go.RowKit
open Lx
set_option linter.unusedVariables false
set_option linter.unusedSimpArgs false
theorem bl_append (a b : ByteArray) : bl (a ++ b) = bl a ++ bl b := by
  unfold bl; rw [ByteArray.data_append]; simp
end Go.Proofs.YtccndcebbjipnaaGreatDoor
namespace Go.Proofs.YtccndcebbjipnaaGreatDoor
open Go.RowKit
open Lx
set_option linter.unusedVariables false
set_option linter.unusedSimpArgs false
theorem run_count : ∀ (f : Nat) (l : List UInt8) (i : Nat) (acc : List M0) (ms : List M0), l.length < f → Lx.run f l i acc = .ok ms → ms.length ≤ acc.length + l.length + 1 := by
  intro f
  induction f with
  | zero => intro l i acc ms hf h; omega
  | succ f ih =>
    intro l i acc ms hf h
    by_cases hl : l = []
    · subst hl
      rw [Lx.run_end (by omega)] at h
      injection h with h
      rw [← h]; simp
    · obtain ⟨c0, r0, rfl⟩ := List.exists_cons_of_ne_nil hl
      have hfit := step_fits c0 r0
      cases hs : Lx.step (c0 :: r0) with
      | skip m =>
        rw [hs] at hfit
        obtain ⟨m1, m2⟩ := hfit
        rw [Lx.run_skip (by omega) hl hs] at h
        have hd : ((c0 :: r0).drop m).length = (c0 :: r0).length - m := List.length_drop ..
        have := ih _ _ _ _ (by rw [hd]; omega) h
        rw [hd] at this; omega
      | mark k t m =>
        rw [hs] at hfit
        obtain ⟨m1, m2, _⟩ := hfit
        rw [Lx.run_mark (by omega) hl hs] at h
        have hd : ((c0 :: r0).drop m).length = (c0 :: r0).length - m := List.length_drop ..
        have := ih _ _ _ _ (by rw [hd]; omega) h
        rw [hd] at this; simp at this ⊢; omega
      | bad c' m =>
        rw [Lx.run_bad (by omega) hl hs] at h
        cases h
theorem lex_count {l : List UInt8} {ms : List M0} (h : lex l = .ok ms) : ms.length ≤ l.length + 1 := by
  unfold lex at h
  split at h
  · cases h
  · have := run_count _ _ _ _ _ (by omega) h; simpa using this
end Go.Proofs.YtccndcebbjipnaaGreatDoor
namespace Go.Proofs.YtccndcebbjipnaaGreatDoor
open Go.RowKit Go.ChangeShapes Go.WideShapes Go.ChangeAt
open Lx
set_option linter.unusedVariables false
set_option linter.unusedSimpArgs false
structure Bytes8 (w : World) (B : Nat) (A : Option Addr) (n : Nat) (X : Nat → Nat) : Prop where
  each : ∀ i, i < n → ∃ b o, A = some ⟨b, o, none⟩ ∧ b < B ∧ w.cell? ⟨b, o + i, none⟩ = some (.int .u8 (X i : Int))
  rx : ∀ i, i < n → X i ≤ 255
  len : n ≤ 9223372036854775807
theorem Bytes8.below {w w' : World} {B : Nat} {A : Option Addr} {n : Nat} {X : Nat → Nat} (h : Bytes8 w B A n X) (hb : Below B w w') : Bytes8 w' B A n X :=
  ⟨fun i hi => by
    obtain ⟨b, o, h1, h2, h3⟩ := h.each i hi
    exact ⟨b, o, h1, h2, (hb.cell (p := ⟨b, _, none⟩) h2).trans h3⟩, h.rx, h.len⟩
section
variable {H : Type} {enc : TypeId × Value → H} {P : Program} {W : World} {base : Nat} {v : Value} {d : DataW H} {p : List MemPlace}
end
namespace Lx
def isAlnum (c : UInt8) : Bool := isDigit c || (65 ≤ c && c ≤ 90) || isSmall c
def classy (a b : UInt8) (cs : List UInt8) : List UInt8 := 91 :: a :: 45 :: b :: cs ++ [93]
def ALL : ByteArray := ⟨#[48, 49, 50, 51, 52, 53, 54, 55, 56, 57, 65, 66, 67, 68, 69, 70, 71, 72, 73, 74, 75, 76, 77, 78, 79, 80, 81, 82, 83, 84, 85, 86, 87, 88, 89, 90, 97, 98, 99, 100, 101, 102, 103, 104, 105, 106, 107, 108, 109, 110, 111, 112, 113, 114, 115, 116, 117, 118, 119, 120, 121, 122]⟩
end Lx
end Go.Proofs.YtccndcebbjipnaaGreatDoor
