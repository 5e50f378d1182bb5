import Derived.Test.YtdlplmbdkjkeiaaDoorSetB
namespace Go.Proofs.YtdlplmbdkjkeiaaDoor
set_option maxRecDepth 100000
open Go.RowKit
open BitKit
set_option linter.unusedVariables false
set_option linter.unusedSimpArgs false
theorem all_16 (b n : Nat) (S : Nat → Bool) (w : World) (hs : IsSet w b n S) :
  Calls Tryd.prog 59 #[.pointer (some ⟨b, 0, none⟩)] w fun e w' => e = .returned (.agg (W16 S)) ∧ w' = w.alloc (.cells (wordsL S).toArray 62) := all_any b n S w hs
theorem IsSet.drew {w : World} {b n : Nat} {S : Nat → Bool} (h : IsSet w b n S) : IsSet w.drew b n S := ⟨h.at_.drew, h.le, h.fit⟩
theorem sixteen_after {w w1 : World} {b n : Nat} {S : Nat → Bool} {o : Obj} (h : IsSet w b n S) (hw : w1 = w.alloc o) : Sixteen w1 b 1 S := by subst hw; exact (h.alloc o).sixteen
theorem grown_after {w w0 w1 : World} {o : Obj} (h : w.grownBy w0 none) (hw : w1 = w0.alloc o) : w.grownBy w1 none := by subst hw; exact grown_alloc h o
def Tells (e : Ending) (p : Prop) : Prop := ∃ r, e = .returned (.bool r) ∧ (r = true ↔ p)
theorem Tells.yes {e : Ending} {p : Prop} (he : e = .returned (.bool true)) (hp : p) : Tells e p := ⟨true, he, ⟨fun _ => hp, fun _ => rfl⟩⟩
theorem Tells.no {e : Ending} {p : Prop} (he : e = .returned (.bool false)) (hp : ¬ p) : Tells e p := ⟨false, he, ⟨fun h => (by cases h), fun h => absurd h hp⟩⟩
def Meet (S T : Nat → Bool) : Prop := ∃ i, S i = true ∧ T i = true
def NoMeet (S T : Nat → Bool) (m : Nat) : Prop := ∀ i, i < m → S i = true → T i = true → False
theorem IsSet.lt {w : World} {b n : Nat} {S : Nat → Bool} (h : IsSet w b n S) : ∀ i, S i = true → i < 1024 := fun i hi => by
 have := h.fit i hi; have := h.le; omega
theorem u64_and_pos (S T : Nat → Bool) (k : Nat) : (bits .and .u64 (word S k : Int) (word T k : Int) != 0) = true ↔ ∃ i, i < 64 ∧ S (64 * k + i) = true ∧ T (64 * k + i) = true := by
 rw [u64_and_nat _ _ (word_lt S k) (word_lt T k)]
 have h1 : (((word S k &&& word T k : Nat) : Int) != 0) = true ↔ word S k &&& word T k ≠ 0 := by
  simp only [bne_iff_ne, ne_eq]; omega
 rw [h1]
 constructor
 ·intro h
  obtain ⟨i, hi⟩ := Nat.exists_testBit_of_ne_zero h
  rw [Nat.testBit_and] at hi
  have h2 : i < 64 := by
   rcases Nat.lt_or_ge i 64 with h | h
   ·exact h
   ·have : word S k < 2 ^ i := Nat.lt_of_lt_of_le (wd_lt 64 _) (Nat.pow_le_pow_right (by decide) h)
    rw [Nat.testBit_lt_two_pow this] at hi; simp at hi
  rw [word_bit S k i h2, word_bit T k i h2] at hi
  simp only [Bool.and_eq_true] at hi
  exact ⟨i, h2, hi.1, hi.2⟩
 ·rintro ⟨i, h2, h3, h4⟩ h
  have := congrArg (fun x => Nat.testBit x i) h
  simp only [Nat.testBit_and, word_bit S k i h2, word_bit T k i h2, h3, h4] at this
  simp at this
end Go.Proofs.YtdlplmbdkjkeiaaDoor
