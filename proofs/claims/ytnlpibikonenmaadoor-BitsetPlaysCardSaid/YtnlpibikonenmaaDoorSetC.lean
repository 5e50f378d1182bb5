/-
  bitset's Meets.
-/
import Derived.Test.YtnlpibikonenmaaDoorSetB
namespace Go.Proofs.YtnlpibikonenmaaDoor
open Go.RowKit
open BitKit
set_option linter.unusedVariables false
set_option linter.unusedSimpArgs false

theorem all_16 (b n : Nat) (S : Nat → Bool) (w : World) (hs : IsSet w b n S) :
    Calls Tryd.prog 34 #[.pointer (some ⟨b, 0, none⟩)] w fun e w' => e = .returned (.agg (W16 S)) ∧ w' = w.alloc (.cells (wordsL S).toArray 54) := all_any b n S w hs

theorem IsSet.drew {w : World} {b n : Nat} {S : Nat → Bool} (h : IsSet w b n S) : IsSet w.drew b n S := ⟨h.at_.drew, h.le, h.fit⟩
theorem sixteen_after {w w1 : World} {b n : Nat} {S : Nat → Bool} {o : Obj} (h : IsSet w b n S) (hw : w1 = w.alloc o) : Sixteen w1 b 1 S := by subst hw; exact (h.alloc o).sixteen
theorem grown_after {w w0 w1 : World} {o : Obj} (h : w.grownBy w0 none) (hw : w1 = w0.alloc o) : w.grownBy w1 none := by subst hw; exact grown_alloc h o
/-- The call answers whether p is so. -/
def Tells (e : Ending) (p : Prop) : Prop := ∃ r, e = .returned (.bool r) ∧ (r = true ↔ p)
theorem Tells.yes {e : Ending} {p : Prop} (he : e = .returned (.bool true)) (hp : p) : Tells e p := ⟨true, he, ⟨fun _ => hp, fun _ => rfl⟩⟩
theorem Tells.no {e : Ending} {p : Prop} (he : e = .returned (.bool false)) (hp : ¬ p) : Tells e p := ⟨false, he, ⟨fun h => (by cases h), fun h => absurd h hp⟩⟩
def Meet (S T : Nat → Bool) : Prop := ∃ i, S i = true ∧ T i = true
def NoMeet (S T : Nat → Bool) (m : Nat) : Prop := ∀ i, i < m → S i = true → T i = true → False
theorem IsSet.lt {w : World} {b n : Nat} {S : Nat → Bool} (h : IsSet w b n S) : ∀ i, S i = true → i < 1024 := fun i hi => by
  have := h.fit i hi; have := h.le; omega

theorem u64_and_pos (S T : Nat → Bool) (k : Nat) : (bits .and .u64 (word S k : Int) (word T k : Int) != 0) = true ↔ ∃ i, i < 64 ∧ S (64 * k + i) = true ∧ T (64 * k + i) = true := by
  rw [u64_and_nat _ _ (word_lt S k) (word_lt T k)]
  have h1 : (((word S k &&& word T k : Nat) : Int) != 0) = true ↔ word S k &&& word T k ≠ 0 := by
    simp only [bne_iff_ne, ne_eq]; omega
  rw [h1]
  constructor
  · intro h
    obtain ⟨i, hi⟩ := Nat.exists_testBit_of_ne_zero h
    rw [Nat.testBit_and] at hi
    have h2 : i < 64 := by
      rcases Nat.lt_or_ge i 64 with h | h
      · exact h
      · have : word S k < 2 ^ i := Nat.lt_of_lt_of_le (wd_lt 64 _) (Nat.pow_le_pow_right (by decide) h)
        rw [Nat.testBit_lt_two_pow this] at hi; simp at hi
    rw [word_bit S k i h2, word_bit T k i h2] at hi
    simp only [Bool.and_eq_true] at hi
    exact ⟨i, h2, hi.1, hi.2⟩
  · rintro ⟨i, h2, h3, h4⟩ h
    have := congrArg (fun x => Nat.testBit x i) h
    simp only [Nat.testBit_and, word_bit S k i h2, word_bit T k i h2, h3, h4] at this
    simp at this

set_option maxHeartbeats 4000000 in
theorem meets_any (b n : Nat) (S : Nat → Bool) (b' n' : Nat) (T : Nat → Bool) (w : World) (hs : IsSet w b n S) (ht : IsSet w b' n' T) :
    Calls Tryd.prog 28 #[.pointer (some ⟨b, 0, none⟩), .pointer (some ⟨b', 0, none⟩)] w fun e w' => Tells e (Meet S T) ∧ w.grownBy w' none := by
  have HT := Lib.hid ht
  have HL := Lib.hid ht.lt
  have HS := Lib.hid hs
  clear hs ht
  go_enter Tryd.func28, Tryd.ntmps28
  go_wp2_with fail
  refine (all_any b' n' T _ HT.out).mono ?_
  rintro e w1 ⟨rfl, hw1⟩
  have H1 := Lib.hid (hw1 ▸ HS.out.alloc _ : IsSet w1 b n S)
  have G1 := Lib.hid (hw1 ▸ grown_alloc (grown_refl w none) _ : w.grownBy w1 none)
  clear hw1
  go_wp2_with fail
  go_loopw [9] (fun i wr => ∃ k : Nat, k ≤ 16 ∧ i = .int .i64 (k : Int) ∧ NoMeet S T (64 * k) ∧ wr = w1) (fun i _ => 16 - (intOf i).toNat)
  case atStart => exact ⟨0, by omega, rfl, fun i hi => by omega, rfl⟩
  case round =>
    obtain ⟨k, hk, rfl, hno, rfl⟩ := hrel
    have HN := Lib.hid hno
    clear hno
    by_cases hlt : k < 16
    · have hi := index_words T k hlt
      have c0 := H1.out.word k hlt
      have hi1 : (0 : Int) ≤ (k : Int) := by omega
      have hi2 : (k : Int) < 16 := by omega
      have hi3 : ((k : Int)).toNat = k := by omega
      have hp := u64_and_pos S T k
      cases hb : (bits .and .u64 (word S k : Int) (word T k : Int) != 0)
      · rw [hb] at hp
        have HP := Lib.hid hp
        clear hp
        go_wp2_with fail
        go_roundw
        case rel =>
          refine ⟨k + 1, by omega, by go_num, ?_, trivial⟩
          intro i hi h1 h2
          by_cases hl : i < 64 * k
          · exact HN.out i hl h1 h2
          · have := HP.out.2 ⟨i - 64 * k, by omega, by rw [show 64 * k + (i - 64 * k) = i by omega]; exact h1, by rw [show 64 * k + (i - 64 * k) = i by omega]; exact h2⟩
            cases this
        case measure => simp [intOf]; omega
      · rw [hb] at hp
        have HP := Lib.hid hp
        clear hp
        go_wp2_with fail
        go_ret
        obtain ⟨i, _, h1, h2⟩ := HP.out.1 trivial
        exact ⟨Tells.yes rfl ⟨_, h1, h2⟩, G1.out⟩
    · obtain rfl : k = 16 := by omega
      go_wp2_with fail
      go_ret
      refine ⟨Tells.no rfl ?_, G1.out⟩
      rintro ⟨i, h1, h2⟩
      have := HL.out i h2
      exact HN.out i (by omega) h1 h2

end Go.Proofs.YtnlpibikonenmaaDoor
