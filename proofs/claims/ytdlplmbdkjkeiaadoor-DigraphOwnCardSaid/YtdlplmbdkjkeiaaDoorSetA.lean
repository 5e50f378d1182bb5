import Derived.Test.YtdlplmbdkjkeiaaDoorOwn
import Derived.Test.YtdlplmbdkjkeiaaDoorBits
import Derived.BigQuiet
import Derived.Deep.QuietTactic
import Derived.Lib.Hide
import Derived.Deep.LoopGhost
import Derived.Deep.Cut
import Derived.Deep.CutRange
import Derived.Deep.MidRow
import Derived.Deep.WholeRow
import Derived.Deep.RegionWith
import Derived.Laws.BitsAllLaws
import Derived.StillTailTactics
namespace Go.Proofs.YtdlplmbdkjkeiaaDoor
set_option maxRecDepth 100000
open Go.RowKit
open BitKit
set_option linter.unusedVariables false
set_option linter.unusedSimpArgs false
def word (S : Nat → Bool) (k : Nat) : Nat := wd (fun j => S (64 * k + j)) 64
def wordsL (S : Nat → Bool) : List Value := (List.range 16).map fun k => .int .u64 (word S k : Int)
def cellsOf (n : Nat) (S : Nat → Bool) : Array Value := (Value.int .i64 (n : Int) :: wordsL S).toArray
structure IsSet (w : World) (b n : Nat) (S : Nat → Bool) : Prop where
 at_ : At w b 64 (cellsOf n S)
 le : n ≤ 1000
 fit : ∀ i, S i = true → i < n
def ins (S : Nat → Bool) (i : Nat) (v : Bool) : Nat → Bool := fun j => if j = i then v else S j
theorem word_lt (S : Nat → Bool) (k : Nat) : word S k < 18446744073709551616 := wd_lt 64 _
theorem word_bit (S : Nat → Bool) (k i : Nat) (hi : i < 64) : (word S k).testBit i = S (64 * k + i) := by
 unfold word; rw [wd_bit]; simp [hi]
theorem word_of {S : Nat → Bool} {k x : Nat} (hx : x < 18446744073709551616) (h : ∀ i, i < 64 → x.testBit i = S (64 * k + i)) : x = word S k := wd_of hx h
theorem wordsL_length (S : Nat → Bool) : (wordsL S).length = 16 := by simp [wordsL]
theorem wordsL_get (S : Nat → Bool) (k : Nat) (hk : k < 16) : (wordsL S)[k]? = some (.int .u64 (word S k : Int)) := by
 simp [wordsL, hk]
theorem cells_get (n : Nat) (S : Nat → Bool) (k : Nat) (hk : k < 16) : (cellsOf n S)[1 + k]? = some (.int .u64 (word S k : Int)) := by
 unfold cellsOf
 rw [Nat.add_comm]
 simpa using wordsL_get S k hk
theorem cells_zero (n : Nat) (S : Nat → Bool) : (cellsOf n S)[0]? = some (.int .i64 (n : Int)) := by simp [cellsOf]
theorem cells_set {n : Nat} {S S' : Nat → Bool} {k : Nat} (hk : k < 16) (h : ∀ j, j < 16 → j ≠ k → word S' j = word S j) :
  (cellsOf n S).setIfInBounds (1 + k) (.int .u64 (word S' k : Int)) = cellsOf n S' := by
 apply Array.ext_getElem?
 intro i
 rw [Array.getElem?_setIfInBounds]
 cases i with
 | zero => rw [if_neg (by omega), cells_zero, cells_zero]
 | succ i =>
  rw [Nat.add_comm i 1]
  by_cases hi : i < 16
  ·by_cases he : i = k
   ·subst he
    simp [cellsOf, wordsL_length, hi, wordsL, Nat.add_comm 1 i]
   ·rw [if_neg (by omega), cells_get _ _ _ hi, cells_get _ _ _ hi, h i hi he]
  ·rw [if_neg (by omega)]
   have h1 : ∀ T, (cellsOf n T)[1 + i]? = none := fun T => by
    apply Array.getElem?_eq_none; simp [cellsOf, wordsL_length]; omega
   rw [h1, h1]
theorem IsSet.word {w : World} {b n : Nat} {S : Nat → Bool} (h : IsSet w b n S) (k : Nat) (hk : k < 16) : w.cell? ⟨b, 1 + k, none⟩ = some (.int .u64 (word S k : Int)) := by
 rw [h.at_.cell]; exact cells_get n S k hk
theorem IsSet.width {w : World} {b n : Nat} {S : Nat → Bool} (h : IsSet w b n S) : w.cell? ⟨b, 0, none⟩ = some (.int .i64 (n : Int)) := by
 rw [h.at_.cell]; exact cells_zero n S
theorem IsSet.drewN {w : World} {b n : Nat} {S : Nat → Bool} (h : IsSet w b n S) (k : Nat) : IsSet (w.drewN k) b n S := ⟨h.at_.drewN k, h.le, h.fit⟩
theorem IsSet.grown {w w' : World} {b n : Nat} {S : Nat → Bool} {row : Option Nat} (h : IsSet w b n S) (hg : w.grownBy w' row) (hne : some b ≠ row) : IsSet w' b n S := ⟨h.at_.grown hg hne, h.le, h.fit⟩
theorem word_ins_other (S : Nat → Bool) (i j : Nat) (v : Bool) (hj : j ≠ i / 64) : word (ins S i v) j = word S j := by
 unfold Go.Proofs.YtdlplmbdkjkeiaaDoor.word
 refine wd_congr fun m hm => ?_
 unfold ins
 rw [if_neg (by omega)]
theorem pow_cast (j : Nat) : (2 : Int) ^ j = ((2 ^ j : Nat) : Int) := by simp
theorem pow_small {j : Nat} (h : j < 64) : 2 ^ j < 18446744073709551616 := Nat.pow_lt_pow_right (by decide) h
theorem and_has (S : Nat → Bool) (k j : Nat) (hj : j < 64) : (bits .and .u64 (word S k : Int) (2 ^ j) != 0) = S (64 * k + j) := by
 rw [pow_cast, u64_and_nat _ _ (word_lt S k) (pow_small hj), ← word_bit S k j hj]
 cases h : (word S k).testBit j
 ·rw [(and_bit _ _).2 h]; rfl
 ·have : (word S k) &&& 2 ^ j ≠ 0 := fun h0 => by rw [(and_bit _ _).1 h0] at h; cases h
  simp only [bne_iff_ne, ne_eq]
  omega
theorem or_ins (S : Nat → Bool) (k j : Nat) (hj : j < 64) : bits .or .u64 (word S k : Int) (2 ^ j) = ((word (ins S (64 * k + j) true) k : Nat) : Int) := by
 rw [pow_cast, u64_or_nat _ _ (word_lt S k) (pow_small hj)]
 have h64 : word S k ||| 2 ^ j < 2 ^ 64 := Nat.or_lt_two_pow (wd_lt 64 _) (Nat.pow_lt_pow_right (by decide) hj)
 refine congrArg (fun x : Nat => (x : Int)) (wd_of h64 fun i hi => ?_)
 rw [Nat.testBit_or, word_bit S k i hi, Nat.testBit_two_pow]
 unfold ins
 by_cases he : i = j
 ·subst he; simp
 ·have h1 : ¬ 64 * k + i = 64 * k + j := by omega
  have h2 : ¬ j = i := by omega
  simp only [h1, h2, decide_false, Bool.or_false, if_false]
theorem andNot_ins (S : Nat → Bool) (k j : Nat) (hj : j < 64) : bits .andNot .u64 (word S k : Int) (2 ^ j) = ((word (ins S (64 * k + j) false) k : Nat) : Int) := by
 rw [pow_cast, u64_andNot_nat _ _ (word_lt S k) (pow_small hj)]
 have h64 : word S k &&& (18446744073709551615 - 2 ^ j) < 2 ^ 64 := Nat.lt_of_le_of_lt Nat.and_le_left (wd_lt 64 _)
 refine congrArg (fun x : Nat => (x : Int)) (wd_of h64 fun i hi => ?_)
 have hs : (18446744073709551615 - 2 ^ j).testBit i = (decide (i < 64) && !(2 ^ j).testBit i) := by
  have h1 := Nat.testBit_two_pow_sub_succ (n := 64) (x := 2 ^ j) (pow_small hj) i
  have h2 : 2 ^ 64 - (2 ^ j + 1) = 18446744073709551615 - 2 ^ j := by omega
  rw [h2] at h1
  exact h1
 rw [Nat.testBit_and, word_bit S k i hi, hs, Nat.testBit_two_pow]
 unfold ins
 by_cases he : i = j
 ·subst he; simp
 ·have h1 : ¬ 64 * k + i = 64 * k + j := by omega
  have h2 : ¬ j = i := by omega
  simp only [h1, h2, hi, decide_false, decide_true, Bool.not_false, Bool.and_true, if_false]
theorem IsSet.ins {w w' : World} {b n : Nat} {S : Nat → Bool} (h : IsSet w b n S) {m : Nat} {v : Bool} (hm : m < n) {x : Int} (hx : x = ((Go.Proofs.YtdlplmbdkjkeiaaDoor.word (ins S m v) (m / 64) : Nat) : Int))
  (hw : w' = w.setCell ⟨b, 1 + m / 64, none⟩ (.int .u64 x)) : IsSet w' b n (Go.Proofs.YtdlplmbdkjkeiaaDoor.ins S m v) := by
 subst hx hw
 have hle := h.le
 refine ⟨?_, h.le, fun i hi => ?_⟩
 ·have := h.at_.set (1 + m / 64) (.int .u64 ((Go.Proofs.YtdlplmbdkjkeiaaDoor.word (Go.Proofs.YtdlplmbdkjkeiaaDoor.ins S m v) (m / 64) : Nat) : Int))
  rw [cells_set (by omega) (fun j hj hne => word_ins_other S m j v hne)] at this
  exact this
 ·unfold Go.Proofs.YtdlplmbdkjkeiaaDoor.ins at hi
  split at hi
  ·omega
  ·exact h.fit i hi
theorem spot_any (i : Nat) (hi : i < 1024) (w : World) :
  Calls Tryd.prog 43 #[.int .i64 (i : Int)] w fun e w' => e = .returned (.tuple #[.int .i64 ((i / 64 : Nat) : Int), .int .u64 ((2 ^ (i % 64) : Nat) : Int)]) ∧ ∃ n, w' = w.drewN n := by
 go_enter Tryd.func43, Tryd.ntmps43
 go_wp2_with fail
 go_quiet (fail)
 go_wp2_with fail
 have e : IntKind.u64.wrap (2 ^ (i % 64)) = ((2 ^ (i % 64) : Nat) : Int) := by
  have h1 : 2 ^ (i % 64) < 2 ^ 64 := Nat.pow_lt_pow_right (by decide) (by omega)
  rw [IntKind.wrap_u64]
  have h2 : ((2 : Int) ^ (i % 64)) = ((2 ^ (i % 64) : Nat) : Int) := by simp
  rw [h2]
  generalize 2 ^ (i % 64) = p at h1
  omega
 go_ret2
 exact ⟨by rw [← e]; rfl, _, rfl⟩
theorem cells_none (n : Nat) : cellsOf n (fun _ => false) = #[.int .i64 n, .int .u64 0, .int .u64 0, .int .u64 0, .int .u64 0, .int .u64 0, .int .u64 0, .int .u64 0, .int .u64 0, .int .u64 0, .int .u64 0, .int .u64 0, .int .u64 0, .int .u64 0, .int .u64 0, .int .u64 0, .int .u64 0] := by
 have h : word (fun _ => false) = fun _ => 0 := by funext k; exact wd_false 64
 unfold cellsOf wordsL
 rw [h]
 rfl
theorem cells_at {n : Nat} {a : Int} (h : (n : Int) = a) : (#[.int .i64 a, .int .u64 0, .int .u64 0, .int .u64 0, .int .u64 0, .int .u64 0, .int .u64 0, .int .u64 0, .int .u64 0, .int .u64 0, .int .u64 0, .int .u64 0, .int .u64 0, .int .u64 0, .int .u64 0, .int .u64 0, .int .u64 0] : Array Value) = cellsOf n (fun _ => false) := by
 subst h; exact (cells_none n).symm
theorem new_any (n : Int) (w : World) :
  Calls Tryd.prog 54 #[.int .i64 n] w fun e w' => e = .returned (.pointer (some ⟨w.heap.size, 0, none⟩)) ∧ w' = w.alloc (.cells (cellsOf (min n.toNat 1000) (fun _ => false)) 64) := by
 go_enter Tryd.func54, Tryd.ntmps54
 go_wp2_with fail
 all_goals
  go_ret
  exact ⟨rfl, congrArg (fun c => w.alloc (.cells c 64)) (cells_at (by omega))⟩
theorem new_is (n : Int) (w : World) : IsSet (w.alloc (.cells (cellsOf (min n.toNat 1000) (fun _ => false)) 64)) w.heap.size (min n.toNat 1000) (fun _ => false) :=
 ⟨At.new _ _ _, by omega, fun i h => by cases h⟩
theorem fits_any (b n : Nat) (S : Nat → Bool) (i : Int) (w : World) (hs : IsSet w b n S) :
  Calls Tryd.prog 41 #[.pointer (some ⟨b, 0, none⟩), .int .i64 i] w fun e w' => e = .returned (.bool (decide (0 ≤ i ∧ i < (n : Int)))) ∧ w' = w := by
 have c0 := hs.width
 go_enter Tryd.func41, Tryd.ntmps41
 by_cases h0 : 0 ≤ i
 ·by_cases h1 : i < (n : Int)
  ·go_wp2_with fail
   go_ret
   exact ⟨by rw [decide_eq_true (by omega)]; rfl, rfl⟩
  ·go_wp2_with fail
   go_ret
   exact ⟨by rw [decide_eq_false (by omega)]; rfl, rfl⟩
 ·go_wp2_with fail
  go_ret
  exact ⟨by rw [decide_eq_false (by omega)]; rfl, rfl⟩
theorem width_any (b n : Nat) (S : Nat → Bool) (w : World) (hs : IsSet w b n S) :
  Calls Tryd.prog 26 #[.pointer (some ⟨b, 0, none⟩)] w fun e w' => e = .returned (.int .i64 (n : Int)) ∧ w' = w := by
 have c0 := hs.width
 go_enter Tryd.func26, Tryd.ntmps26
 go_wp2_with fail
 go_ret
 exact ⟨rfl, rfl⟩
theorem has_any (b n : Nat) (S : Nat → Bool) (i : Int) (w : World) (hs : IsSet w b n S) :
  Calls Tryd.prog 42 #[.pointer (some ⟨b, 0, none⟩), .int .i64 i] w fun e w' => e = .returned (.bool (decide (0 ≤ i) && S i.toNat)) ∧ ∃ k, w' = w.drewN k := by
 have HS := Lib.hid hs
 have hle := hs.le
 have hfit := hs.fit
 clear hs
 go_enter Tryd.func42, Tryd.ntmps42
 go_wp2_with fail
 refine (fits_any b n S i _ HS.out).mono ?_
 rintro e w1 ⟨rfl, rfl⟩
 by_cases hf : 0 ≤ i ∧ i < (n : Int)
 ·rw [decide_eq_true hf]
  obtain ⟨m, rfl⟩ : ∃ m : Nat, i = (m : Int) := ⟨i.toNat, by omega⟩
  have hm : m < n := by omega
  go_wp2_with fail
  refine (spot_any m (by omega) _).mono ?_
  rintro e w2 ⟨rfl, ⟨k, rfl⟩⟩
  have cw := (HS.out.drewN k).word (m / 64) (by omega)
  have hd : m / 64 < 16 := by omega
  go_wp2_with fail
  have e := and_has S (m / 64) (m % 64) (by omega)
  rw [show 64 * (m / 64) + m % 64 = m by omega] at e
  rw [e]
  go_ret
  exact ⟨rfl, _, rfl⟩
 ·rw [decide_eq_false hf]
  go_wp2_with fail
  go_ret
  refine ⟨?_, 0, rfl⟩
  by_cases h0 : 0 ≤ i
  ·have : S i.toNat = false := by
    cases h : S i.toNat
    ·rfl
    ·have := hfit _ h; omega
   simp [this]
  ·simp [h0]
theorem ins_same {S : Nat → Bool} {m : Nat} {v : Bool} (h : S m = v) : ins S m v = S := by
 funext j; unfold ins; split
 ·rename_i hj; subst hj; exact h.symm
 ·rfl
set_option maxHeartbeats 4000000 in
theorem add_in (b n : Nat) (S : Nat → Bool) (m : Nat) (hm : m < n) (w : World) (hs : IsSet w b n S) :
  Calls Tryd.prog 24 #[.pointer (some ⟨b, 0, none⟩), .int .i64 (m : Int)] w fun e w' => e = .returned (.bool (!(S m))) ∧ IsSet w' b n (ins S m true) ∧ w.grownBy w' (some b) := by
 have HS := Lib.hid hs
 have hle := hs.le
 clear hs
 go_enter Tryd.func24, Tryd.ntmps24
 go_wp2_with fail
 refine (fits_any b n S m _ HS.out).mono ?_
 rw [decide_eq_true (by omega)]
 rintro e w1 ⟨rfl, rfl⟩
 go_wp2_with fail
 refine (has_any b n S m _ HS.out).mono ?_
 have e1 : (decide (0 ≤ (m : Int)) && S ((m : Int).toNat)) = S m := by simp
 rw [e1]
 rintro e w2 ⟨rfl, ⟨k, rfl⟩⟩
 cases hS : S m
 ·go_wp2_with fail
  refine (spot_any m (by omega) _).mono ?_
  rintro e w3 ⟨rfl, ⟨k', rfl⟩⟩
  have cw := HS.out.word (m / 64) (by omega)
  have cf := HS.out.at_.frozen (1 + m / 64)
  have hd : m / 64 < 16 := by omega
  have hd1 : (0 : Int) ≤ (m : Int) / 64 := by omega
  have hd2 : (m : Int) / 64 < 16 := by omega
  have hd3 : ((m : Int) / 64).toNat = m / 64 := by omega
  go_wp2_with fail
  go_region
  go_wp2_with fail
  go_ret
  have eo := or_ins S (m / 64) (m % 64) (by omega)
  rw [show 64 * (m / 64) + m % 64 = m by omega] at eo
  refine ⟨by rw [hS]; rfl, (HS.out.drewN (k + k' + 1)).ins hm eo rfl, ?_⟩
  exact grown_set (grown_drewN (grown_refl _ _) _) _ _
 ·go_wp2_with fail
  go_ret
  rw [ins_same hS]
  exact ⟨by rw [hS]; rfl, HS.out.drewN _, grown_drewN (grown_refl _ _) _⟩
theorem add_out (b n : Nat) (S : Nat → Bool) (i : Int) (hi : ¬ (0 ≤ i ∧ i < (n : Int))) (w : World) (hs : IsSet w b n S) :
  Calls Tryd.prog 24 #[.pointer (some ⟨b, 0, none⟩), .int .i64 i] w fun e w' => e = .returned (.bool false) ∧ w' = w := by
 go_enter Tryd.func24, Tryd.ntmps24
 go_wp2_with fail
 refine (fits_any b n S i _ hs).mono ?_
 rw [decide_eq_false hi]
 rintro e w1 ⟨rfl, rfl⟩
 go_wp2_with fail
 go_ret
 exact ⟨rfl, rfl⟩
set_option maxHeartbeats 4000000 in
theorem drop_in (b n : Nat) (S : Nat → Bool) (m : Nat) (hm : m < n) (w : World) (hs : IsSet w b n S) :
  Calls Tryd.prog 25 #[.pointer (some ⟨b, 0, none⟩), .int .i64 (m : Int)] w fun e w' => e = .returned (.bool (S m)) ∧ IsSet w' b n (ins S m false) ∧ w.grownBy w' (some b) := by
 have HS := Lib.hid hs
 have hle := hs.le
 clear hs
 go_enter Tryd.func25, Tryd.ntmps25
 go_wp2_with fail
 refine (has_any b n S m _ HS.out).mono ?_
 have e1 : (decide (0 ≤ (m : Int)) && S ((m : Int).toNat)) = S m := by simp
 rw [e1]
 rintro e w2 ⟨rfl, ⟨k, rfl⟩⟩
 cases hS : S m
 ·go_wp2_with fail
  go_ret
  rw [ins_same hS]
  exact ⟨by rw [hS]; rfl, HS.out.drewN _, grown_drewN (grown_refl _ _) _⟩
 ·go_wp2_with fail
  refine (spot_any m (by omega) _).mono ?_
  rintro e w3 ⟨rfl, ⟨k', rfl⟩⟩
  have cw := HS.out.word (m / 64) (by omega)
  have cf := HS.out.at_.frozen (1 + m / 64)
  have hd : m / 64 < 16 := by omega
  have hd1 : (0 : Int) ≤ (m : Int) / 64 := by omega
  have hd2 : (m : Int) / 64 < 16 := by omega
  have hd3 : ((m : Int) / 64).toNat = m / 64 := by omega
  go_wp2_with fail
  go_region
  go_wp2_with fail
  go_ret
  have eo := andNot_ins S (m / 64) (m % 64) (by omega)
  rw [show 64 * (m / 64) + m % 64 = m by omega] at eo
  refine ⟨by rw [hS]; rfl, (HS.out.drewN (k + k' + 1)).ins hm eo rfl, ?_⟩
  exact grown_set (grown_drewN (grown_refl _ _) _) _ _
theorem drop_out (b n : Nat) (S : Nat → Bool) (i : Int) (hi : ¬ (0 ≤ i ∧ i < (n : Int))) (w : World) (hs : IsSet w b n S) :
  Calls Tryd.prog 25 #[.pointer (some ⟨b, 0, none⟩), .int .i64 i] w fun e w' => e = .returned (.bool false) ∧ ∃ k, w' = w.drewN k := by
 have hfit := hs.fit
 go_enter Tryd.func25, Tryd.ntmps25
 go_wp2_with fail
 refine (has_any b n S i _ hs).mono ?_
 have e1 : (decide (0 ≤ i) && S (i.toNat)) = false := by
  cases h : S i.toNat
  ·simp
  ·have := hfit _ h
   rw [decide_eq_false (by omega)]; rfl
 rw [e1]
 rintro e w1 ⟨rfl, ⟨k, rfl⟩⟩
 go_wp2_with fail
 go_ret
 exact ⟨rfl, _, rfl⟩
set_option maxHeartbeats 4000000 in
theorem own_any (b n : Nat) (S : Nat → Bool) (k : Nat) (hk : k < 16) (w : World) (hs : IsSet w b n S) :
  Calls Tryd.prog 60 #[.pointer (some ⟨b, 0, none⟩), .int .i64 (k : Int)] w fun e w' => e = .returned (.int .u64 ((2 ^ (min (n - 64 * k) 64) - 1 : Nat) : Int)) ∧ w' = w := by
 have c0 := hs.width
 have hle := hs.le
 go_enter Tryd.func60, Tryd.ntmps60
 go_wp2_with fail
 ·rename_i h1
  rw [if_neg (by omega)] at h1
  have hm : min (n - 64 * k) 64 = 64 := by omega
  go_ret
  rw [hm]
  exact ⟨rfl, rfl⟩
 ·have hm : min (n - 64 * k) 64 = 0 := by omega
  go_ret
  rw [hm]
  exact ⟨rfl, rfl⟩
 ·rename_i h1
  rw [if_neg (by omega)] at h1
  have hm : min (n - 64 * k) 64 = n - 64 * k := by omega
  have hn : ((n : Int) - (k : Int) * 64).toNat = n - 64 * k := by omega
  have e : IntKind.u64.wrap (IntKind.u64.wrap (2 ^ ((n : Int) - (k : Int) * 64).toNat) - 1) = ((2 ^ (n - 64 * k) - 1 : Nat) : Int) := by
   rw [hn, pow_cast, IntKind.wrap_u64, IntKind.wrap_u64]
   have hp : 2 ^ (n - 64 * k) ≤ 2 ^ 64 := Nat.pow_le_pow_right (by decide) (by omega)
   have hq := Nat.two_pow_pos (n - 64 * k)
   generalize 2 ^ (n - 64 * k) = p at *
   omega
  go_ret
  rw [hm, ← e]
  exact ⟨rfl, rfl⟩
theorem IsSet.range {w : World} {b n : Nat} {S : Nat → Bool} (h : IsSet w b n S) : w.rangeAt b 1 (wordsL S) := by
 intro j v hv
 have hj : j < 16 := by have := (List.getElem?_eq_some_iff.1 hv).1; rwa [wordsL_length] at this
 rw [h.word j hj, ← hv, wordsL_get S j hj]
theorem Tryd.size_words : (Tryd.prog.info? 62).map (·.size) = some 16 := by kernel_rfl
theorem Tryd.size_set : (Tryd.prog.info? 64).map (·.size) = some 17 := by kernel_rfl
theorem IsSet.load {w : World} {b n : Nat} {S : Nat → Bool} (h : IsSet w b n S) : (Instr.loadAt 62 (.pointer (some ⟨b, 1, none⟩))).run Tryd.prog w = .ok (.agg (wordsL S).toArray) w :=
 run_loadAt_mid w b 1 _ (wordsL S) _ h.range Tryd.underlying62 rfl (by rw [wordsL_length]; exact Tryd.size_words)
theorem words_ones (S : Nat → Bool) : (wordsL S).toArray.all (·.oneCell') = true := by
 refine all_oneCell_toArray fun v hv => ?_
 unfold wordsL at hv
 rw [List.mem_map] at hv
 obtain ⟨k, _, rfl⟩ := hv
 rfl
theorem store_words (w : World) (c : Array Value) (hc : c.size = 16) (S : Nat → Bool) :
  (Instr.storeAt 62 (.pointer (some ⟨w.heap.size, 0, none⟩)) (.agg (wordsL S).toArray)).run Tryd.prog (w.alloc (.cells c 62)) = .ok () (w.alloc (.cells (wordsL S).toArray 62)) :=
 run_storeAt_new w _ c _ (by simp [wordsL_length, Tryd.size_words]) (by simp [hc, wordsL_length]) (words_ones S)
theorem IsSet.alloc {w : World} {b n : Nat} {S : Nat → Bool} (h : IsSet w b n S) (o : Obj) : IsSet (w.alloc o) b n S := ⟨h.at_.alloc o, h.le, h.fit⟩
theorem wpList_store_new {P : Program} {ops : Array Oper} {rest : List Oper} {op : Oper} {a : Act} {w : World} {Q : Exit → Act → World → Prop} (hgd : op.guard = none) (ty : TypeId) (x y : Operand) (ho : op.op = .store ty x y)
  (c c' : Array Value) (hx : a.eval x = .pointer (some ⟨w.heap.size, 0, none⟩)) (hy : a.eval y = .agg c')
  (hi : (P.info? ty).map (·.size) = some c'.size) (hc : c.size = c'.size) (h1 : c'.all (·.oneCell') = true)
  (h : wpList P ops Q rest (a.put op.dst undef) (w.alloc (.cells c' ty))) : wpList P ops Q (op :: rest) a (w.alloc (.cells c ty)) :=
 wpList_plain hgd fun K hK => by
  unfold Oper.wp execOp
  simp only [ho, hx, hy, Sem.run_bind, run_storeAt_new w ty c c' hi hc h1, Sem.run_pure, Result.andThen_ok]
  exact hK _ _ h
theorem words_size (S : Nat → Bool) : (wordsL S).toArray.size = 16 := by simp [wordsL_length]
theorem size_words' (S : Nat → Bool) : (Tryd.prog.info? 62).map (·.size) = some (wordsL S).length := by rw [wordsL_length]; exact Tryd.size_words
theorem size_words'' (S : Nat → Bool) : (Tryd.prog.info? 62).map (·.size) = some (wordsL S).toArray.size := by rw [words_size]; exact Tryd.size_words
theorem all_any (b n : Nat) (S : Nat → Bool) (w : World) (hs : IsSet w b n S) :
  Calls Tryd.prog 59 #[.pointer (some ⟨b, 0, none⟩)] w fun e w' => e = .returned (.agg (wordsL S).toArray) ∧ w' = w.alloc (.cells (wordsL S).toArray 62) := by
 have hr : ∀ o, (w.alloc o).rangeAt b 1 (wordsL S) := fun o => (hs.alloc o).range
 go_enter Tryd.func59, Tryd.ntmps59
 go_wp2_with (first
  | (refine wpList_load_mid rfl 62 _ rfl b 1 rfl (wordsL S) _ (hr _) Tryd.underlying62 rfl (size_words' S) ?_)
  | (refine wpList_store_new rfl 62 _ _ rfl _ (wordsL S).toArray rfl rfl (size_words'' S) (words_size S).symm (words_ones S) ?_))
 refine bodyPost_ret (results_cell_row rfl _ _ w.heap.size 62 (wordsL S).toArray (0, 0) _ rfl (heap_alloc_last w _) Tryd.underlying62 rfl (size_words'' S)) rfl ?_
 exact ⟨rfl, rfl⟩
theorem IsSet.whole {w : World} {b n : Nat} {S : Nat → Bool} (h : IsSet w b n S) : w.rangeAt b 0 (cellsOf n S).toList := by
 intro j v hv
 rw [Nat.zero_add, h.at_.cell, ← hv]
 simp
theorem cells_size (n : Nat) (S : Nat → Bool) : (cellsOf n S).size = 17 := by simp [cellsOf, wordsL_length]
theorem cells_ones (n : Nat) (S : Nat → Bool) : (cellsOf n S).all (·.oneCell') = true := by
 refine Array.all_eq_true_iff_forall_mem.2 fun v hv => ?_
 unfold cellsOf at hv
 simp only [List.mem_toArray, List.mem_cons] at hv
 rcases hv with rfl | hv
 ·rfl
 ·exact (Array.all_eq_true_iff_forall_mem.1 (words_ones S)) v (by simpa using hv)
theorem size_cells (n : Nat) (S : Nat → Bool) : (Tryd.prog.info? 64).map (·.size) = some (cellsOf n S).size := by rw [cells_size]; exact Tryd.size_set
theorem size_cells' (n : Nat) (S : Nat → Bool) : (Tryd.prog.info? 64).map (·.size) = some (cellsOf n S).toList.length := by rw [Array.length_toList]; exact size_cells n S
theorem copy_any (b n : Nat) (S : Nat → Bool) (w : World) (hs : IsSet w b n S) :
  Calls Tryd.prog 39 #[.pointer (some ⟨b, 0, none⟩)] w fun e w' => e = .returned (.pointer (some ⟨w.heap.size, 0, none⟩)) ∧ w' = w.alloc (.cells (cellsOf n S) 64) := by
 have hr := hs.whole
 go_enter Tryd.func39, Tryd.ntmps39
 go_wp2_with (first
  | (refine wpList_load_mid rfl 64 _ rfl b 0 rfl (cellsOf n S).toList _ hr Tryd.underlying64 rfl (size_cells' n S) ?_)
  | (refine wpList_store_new rfl 64 _ _ rfl _ (cellsOf n S) rfl rfl (size_cells n S) (cells_size n S).symm (cells_ones n S) ?_))
 go_ret
 exact ⟨rfl, rfl⟩
def put (n : Nat) (S : Nat → Bool) (i : Int) : Nat → Bool := if 0 ≤ i ∧ i < (n : Int) then ins S i.toNat true else S
def ofs (n : Nat) (X : Nat → Int) : Nat → Nat → Bool
 | 0 => fun _ => false
 | k + 1 => put n (ofs n X k) (X k)
theorem ofs_iff (n : Nat) (X : Nat → Int) : ∀ k i, ofs n X k i = true ↔ i < n ∧ ∃ j, j < k ∧ X j = (i : Int)
 | 0, i => by simp [ofs]
 | k + 1, i => by
  have ih := ofs_iff n X k i
  unfold ofs put
  split
  ·rename_i h
   unfold ins
   split
   ·rename_i he
    subst he
    constructor
    ·intro _; exact ⟨by omega, k, by omega, by omega⟩
    ·intro _; rfl
   ·rename_i he
    rw [ih]
    constructor
    ·rintro ⟨h1, j, h2, h3⟩; exact ⟨h1, j, by omega, h3⟩
    ·rintro ⟨h1, j, h2, h3⟩
     refine ⟨h1, j, ?_, h3⟩
     by_cases hj : j = k
     ·subst hj; omega
     ·omega
  ·rename_i h
   rw [ih]
   constructor
   ·rintro ⟨h1, j, h2, h3⟩; exact ⟨h1, j, by omega, h3⟩
   ·rintro ⟨h1, j, h2, h3⟩
    refine ⟨h1, j, ?_, h3⟩
    by_cases hj : j = k
    ·subst hj; omega
    ·omega
theorem add_any (b n : Nat) (S : Nat → Bool) (i : Int) (w : World) (hs : IsSet w b n S) :
  Calls Tryd.prog 24 #[.pointer (some ⟨b, 0, none⟩), .int .i64 i] w fun e w' => e = .returned (.bool (decide (0 ≤ i ∧ i < (n : Int)) && !(S i.toNat))) ∧ IsSet w' b n (put n S i) ∧ w.grownBy w' (some b) := by
 unfold put
 by_cases hi : 0 ≤ i ∧ i < (n : Int)
 ·obtain ⟨m, rfl⟩ : ∃ m : Nat, i = (m : Int) := ⟨i.toNat, by omega⟩
  refine (add_in b n S m (by omega) w hs).mono ?_
  rintro e w' ⟨rfl, h1, h2⟩
  rw [if_pos hi, decide_eq_true hi]
  exact ⟨rfl, h1, h2⟩
 ·refine (add_out b n S i hi w hs).mono ?_
  rintro e w' ⟨rfl, rfl⟩
  rw [if_neg hi, decide_eq_false hi]
  exact ⟨rfl, hs, grown_refl _ _⟩
def cut (n : Nat) (S : Nat → Bool) (i : Int) : Nat → Bool := if 0 ≤ i ∧ i < (n : Int) then ins S i.toNat false else S
theorem drop_any (b n : Nat) (S : Nat → Bool) (i : Int) (w : World) (hs : IsSet w b n S) :
  Calls Tryd.prog 25 #[.pointer (some ⟨b, 0, none⟩), .int .i64 i] w fun e w' => e = .returned (.bool (decide (0 ≤ i ∧ i < (n : Int)) && S i.toNat)) ∧ IsSet w' b n (cut n S i) ∧ w.grownBy w' (some b) := by
 unfold cut
 by_cases hi : 0 ≤ i ∧ i < (n : Int)
 ·obtain ⟨m, rfl⟩ : ∃ m : Nat, i = (m : Int) := ⟨i.toNat, by omega⟩
  refine (drop_in b n S m (by omega) w hs).mono ?_
  rintro e w' ⟨rfl, h1, h2⟩
  rw [if_pos hi, decide_eq_true hi]
  exact ⟨rfl, h1, h2⟩
 ·refine (drop_out b n S i hi w hs).mono ?_
  rintro e w' ⟨rfl, k, rfl⟩
  rw [if_neg hi, decide_eq_false hi]
  exact ⟨rfl, hs.drewN k, grown_drewN (grown_refl _ _) k⟩
end Go.Proofs.YtdlplmbdkjkeiaaDoor
