/-
  The walks over Add and Mul, of package meter and of the document's reckoning; products of counts, held.
-/
import Derived.Test.YtpmdnhgkkfjnhaaMeterA
namespace Go.Proofs.Ytpmdnhgkkfjnhaa
open Go.RowKit

def addC (a b : Int) : Int := hld (hld a + hld b)
def mulC (a b : Int) : Int := hld (hld a * hld b)

set_option maxHeartbeats 400000 in
theorem add_any (a b : Int) (w : World) :
    Calls Try.prog 16 #[.int .i64 a, .int .i64 b] w fun e w' => e = .returned (.int .i64 (addC a b)) ∧ w = w' := by
  have ha := hld_range a
  have hb := hld_range b
  go_enter Try.func16, Try.ntmps16
  go_wp2_with fail
  refine (held_any _ _).mono ?_
  rintro e w' ⟨rfl, rfl⟩
  go_wp2_with fail
  refine (held_any _ _).mono ?_
  rintro e w' ⟨rfl, rfl⟩
  go_wp2_with fail
  refine (held_any _ _).mono ?_
  rintro e w' ⟨rfl, rfl⟩
  go_wp2
  go_ret
  exact ⟨rfl, rfl⟩

set_option maxHeartbeats 400000 in
theorem radd_any (a b : Int) (w : World) :
    Calls Try.prog 17 #[.int .i64 a, .int .i64 b] w fun e w' => e = .returned (.int .i64 (addC a b)) ∧ w = w' := by
  have ha := hld_range a
  have hb := hld_range b
  go_enter Try.func17, Try.ntmps17
  go_wp2_with fail
  refine (Held_any _ _).mono ?_
  rintro e w' ⟨rfl, rfl⟩
  go_wp2_with fail
  refine (Held_any _ _).mono ?_
  rintro e w' ⟨rfl, rfl⟩
  go_wp2_with fail
  refine (Held_any _ _).mono ?_
  rintro e w' ⟨rfl, rfl⟩
  go_wp2
  go_ret
  exact ⟨rfl, rfl⟩

theorem mul_over {a b : Int} (hb : 0 < b) (h : 1099511627776 / b < a) : 1099511627776 < a * b := by
  have := Int.lt_mul_of_ediv_lt hb h
  exact this
theorem mul_in {a b : Int} (ha : 0 ≤ a) (hb : 0 < b) (h : a ≤ 1099511627776 / b) : 0 ≤ a * b ∧ a * b ≤ 1099511627776 :=
  ⟨Int.mul_nonneg ha (by omega), (Int.le_ediv_iff_mul_le hb).1 h⟩

set_option maxHeartbeats 400000 in
theorem mul_any (a b : Int) (w : World) :
    Calls Try.prog 18 #[.int .i64 a, .int .i64 b] w fun e w' => e = .returned (.int .i64 (mulC a b)) ∧ w = w' := by
  have ha := hld_range a
  have hb := hld_range b
  by_cases h0 : 0 < hld b
  · by_cases h1 : 1099511627776 / hld b < hld a
    · have h2 := mul_over h0 h1
      go_enter Try.func18, Try.ntmps18
      go_wp2_with (first | (go_at_call 23; refine (held_any a _).mono ?_; rintro e w' ⟨rfl, rfl⟩) | (go_at_call 23; refine (held_any b _).mono ?_; rintro e w' ⟨rfl, rfl⟩))
      go_ret
      exact ⟨ret_int (by unfold mulC; rw [hld_big h2]), rfl⟩
    · have h2 := mul_in ha.1 h0 (by omega)
      go_enter Try.func18, Try.ntmps18
      go_wp2_with (first | (go_at_call 23; refine (held_any a _).mono ?_; rintro e w' ⟨rfl, rfl⟩) | (go_at_call 23; refine (held_any b _).mono ?_; rintro e w' ⟨rfl, rfl⟩))
      go_ret
      exact ⟨ret_int (by unfold mulC; rw [hld_in h2.1 h2.2]), rfl⟩
  · have h1 : hld b = 0 := by omega
    have H1 := Lib.hid h1
    clear h1
    go_enter Try.func18, Try.ntmps18
    go_wp2_with (first | (go_at_call 23; refine (held_any a _).mono ?_; rintro e w' ⟨rfl, rfl⟩) | (go_at_call 23; refine (held_any b _).mono ?_; rintro e w' ⟨rfl, rfl⟩))
    go_ret
    exact ⟨ret_int (by unfold mulC; rw [H1.out]; simp [hld, wrap64]), rfl⟩

/-- A sum of counts, held, where both are counts already. -/
def cap (n : Int) : Int := if 1099511627776 < n then 1099511627776 else n
theorem hld_cap {n : Int} (h : 0 ≤ n) : hld n = cap n := by unfold hld cap; rw [if_neg (by omega)]
theorem cap_range {n : Int} (h : 0 ≤ n) : 0 ≤ cap n ∧ cap n ≤ 1099511627776 := by unfold cap; split <;> omega
theorem cap_add {x y : Int} (_hx : 0 ≤ x) (hy : 0 ≤ y) : cap (cap x + y) = cap (x + y) := by
  unfold cap; split <;> (try split) <;> (try split) <;> omega
theorem cap_two {x : Int} (_hx : 0 ≤ x) : cap (cap x + cap x) = cap (x + x) := by
  unfold cap; split <;> (try split) <;> omega
theorem half (b k : Nat) : b / 2 ^ k = 2 * (b / 2 ^ (k + 1)) + b / 2 ^ k % 2 := by
  have : b / 2 ^ (k + 1) = b / 2 ^ k / 2 := by rw [Nat.pow_succ, Nat.div_div_eq_div_mul]
  omega

/-- The product of A and the bits of B from the place k on, held. -/
def part (A B k : Nat) : Int := cap ((A * (B / 2 ^ k) : Nat) : Int)
theorem part_range (A B k : Nat) : 0 ≤ part A B k ∧ part A B k ≤ 1099511627776 := cap_range (by omega)
theorem part_zero (A B : Nat) : part A B 0 = cap ((A * B : Nat) : Int) := by unfold part; simp
theorem part_top (A B : Nat) (h : B < 2 ^ 41) : part A B 41 = 0 := by unfold part; rw [Nat.div_eq_of_lt h]; simp [cap]
theorem part_even (A B k : Nat) (h : B / 2 ^ k % 2 = 0) : hld (part A B (k + 1) + part A B (k + 1)) = part A B k := by
  rw [hld_cap (by have := part_range A B (k + 1); omega)]
  unfold part
  rw [cap_two (by omega), half B k, h, Nat.mul_add, Nat.mul_left_comm]
  congr 1; omega
theorem part_odd (A B k : Nat) (h : B / 2 ^ k % 2 = 1) : hld (hld (part A B (k + 1) + part A B (k + 1)) + (A : Int)) = part A B k := by
  have e : hld (part A B (k + 1) + part A B (k + 1)) = cap ((A * (2 * (B / 2 ^ (k + 1))) : Nat) : Int) := by
    rw [hld_cap (by have := part_range A B (k + 1); omega)]
    unfold part
    rw [cap_two (by omega), Nat.mul_left_comm]
    congr 1; omega
  rw [e]
  have hc : 0 ≤ cap ((A * (2 * (B / 2 ^ (k + 1))) : Nat) : Int) := (cap_range (by omega)).1
  rw [hld_cap (by omega), cap_add (by omega) (by omega)]
  unfold part
  conv => rhs; rw [half B k, h, Nat.mul_add]
  congr 1; omega
theorem bit_int (B k : Nat) : ((B : Int) / 2 ^ k).tmod 2 = ((B / 2 ^ k % 2 : Nat) : Int) := by
  have e : (B : Int) / 2 ^ k = ((B / 2 ^ k : Nat) : Int) := by simp
  rw [e]
  generalize B / 2 ^ k = n
  rw [Int.tmod_eq_emod_of_nonneg (by omega)]
  omega

set_option maxHeartbeats 400000 in
theorem Held_as (n : Int) (m : Nat) (h : hld n = m) (w : World) :
    Calls Try.prog 11 #[.int .i64 n] w fun e w' => e = .returned (.int .i64 m) ∧ w = w' := h ▸ Held_any n w

set_option maxHeartbeats 400000 in
theorem rmul_at (a b : Int) (A B : Nat) (ha : hld a = A) (hb : hld b = B) (w : World) :
    Calls Try.prog 19 #[.int .i64 a, .int .i64 b] w fun e w' => e = .returned (.int .i64 (part A B 0)) ∧ w = w' := by
  have hA : A ≤ 1099511627776 := by have := hld_range a; omega
  have hB : B ≤ 1099511627776 := by have := hld_range b; omega
  have Ha := Lib.hid ha
  have Hb := Lib.hid hb
  clear ha hb
  go_enter Try.func19, Try.ntmps19
  go_wp2_with (first | (go_at_call 11; refine (Held_as a A Ha.out _).mono ?_; rintro e w' ⟨rfl, rfl⟩) | (go_at_call 11; refine (Held_as b B Hb.out _).mono ?_; rintro e w' ⟨rfl, rfl⟩))
  go_loop [5, 6] (fun o i => ∃ k : Nat, k ≤ 41 ∧ i = .int .i64 ((k : Int) - 1) ∧ o = .int .i64 (part A B k)) (fun _ i => (intOf i + 1).toNat)
  case atStart =>
    exact ⟨41, by omega, rfl, by rw [part_top A B (by omega)]⟩
  case round =>
    obtain ⟨k, hk, rfl, rfl⟩ := hrel
    cases k with
    | zero =>
      go_wp2
      go_ret
      exact ⟨rfl, rfl⟩
    | succ k =>
      have hc := part_range A B (k + 1)
      have hd := hld_range (part A B (k + 1) + part A B (k + 1))
      by_cases h : B / 2 ^ k % 2 = 1
      · have hbit : (((B : Int) / 2 ^ k).tmod 2 == 1) = true := by rw [bit_int, h]; rfl
        have E := Lib.hid (part_odd A B k h)
        clear h
        go_wp2_with fail
        refine (Held_any _ _).mono ?_
        rintro e w' ⟨rfl, rfl⟩
        go_wp2_with fail
        refine (Held_any _ _).mono ?_
        rintro e w' ⟨rfl, rfl⟩
        go_wp2_with fail
        exact ⟨⟨k, by omega, rfl, by rw [E.out]⟩, by simp [intOf]⟩
      · have hbit : (((B : Int) / 2 ^ k).tmod 2 == 1) = false := by rw [bit_int]; have : B / 2 ^ k % 2 = 0 := by omega
                                                                    rw [this]; rfl
        have E := Lib.hid (part_even A B k (by omega))
        clear h
        go_wp2_with fail
        refine (Held_any _ _).mono ?_
        rintro e w' ⟨rfl, rfl⟩
        go_wp2_with fail
        exact ⟨⟨k, by omega, rfl, by rw [E.out]⟩, by simp [intOf]⟩

theorem rmul_any (a b : Int) (w : World) :
    Calls Try.prog 19 #[.int .i64 a, .int .i64 b] w fun e w' => e = .returned (.int .i64 (mulC a b)) ∧ w = w' := by
  obtain ⟨A, hA⟩ := Int.eq_ofNat_of_zero_le (hld_range a).1
  obtain ⟨B, hB⟩ := Int.eq_ofNat_of_zero_le (hld_range b).1
  have e : mulC a b = part A B 0 := by
    rw [part_zero]; unfold mulC; rw [hA, hB, hld_cap (by rw [← Int.natCast_mul]; omega)]; simp
  rw [e]
  exact rmul_at a b A B hA hB w

end Go.Proofs.Ytpmdnhgkkfjnhaa
