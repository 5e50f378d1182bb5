/-
  The walks over the chapter's examples ('awake'), and the two statements on sums and products.
-/
import Derived.Test.YtpmdnhgkkfjnhaaMeterB
import Derived.Test.YtpmdnhgkkfjnhaaMeterC
namespace Go.Proofs.Ytpmdnhgkkfjnhaa
open Go.RowKit

/-- Take, with what it comes to given besides. -/
theorem take_to (b : Nat) (l u m n c u' m' : Int) (w : World) (hm : At w b 44 #[.int .i64 l, .int .i64 u, .int .i64 m]) (hb : 0 ≤ u ∧ u ≤ l ∧ l ≤ 1099511627776) (hn : -9223372036854775808 ≤ n ∧ n ≤ 9223372036854775807)
    (hc : takeCode l u n = c) (hu : takeUsed l u n = u') (hm' : takeMost l u m n = m') :
    Calls Try.prog 20 #[.pointer (some ⟨b, 0, none⟩), .int .i64 n] w fun e w' => e = .returned (.int .i64 c) ∧
      Turns w w' b 44 #[.int .i64 l, .int .i64 u', .int .i64 m'] := by
  subst hc hu hm'
  exact take_any b l u m n w hm hb hn
theorem give_to (b : Nat) (l u m n c u' : Int) (w : World) (hm : At w b 44 #[.int .i64 l, .int .i64 u, .int .i64 m]) (hb : 0 ≤ u ∧ u ≤ l ∧ l ≤ 1099511627776) (hn : -9223372036854775808 ≤ n ∧ n ≤ 9223372036854775807)
    (hc : giveCode u n = c) (hu : giveUsed u n = u') :
    Calls Try.prog 21 #[.pointer (some ⟨b, 0, none⟩), .int .i64 n] w fun e w' => e = .returned (.int .i64 c) ∧
      Turns w w' b 44 #[.int .i64 l, .int .i64 u', .int .i64 m] := by
  subst hc hu
  exact give_any b l u m n w hm hb hn
theorem mul_to (a b c : Int) (h : mulC a b = c) (w : World) :
    Calls Try.prog 18 #[.int .i64 a, .int .i64 b] w fun e w' => e = .returned (.int .i64 c) ∧ w = w' := by
  subst h; exact mul_any a b w

set_option maxHeartbeats 400000 in
theorem awake_any (w : World) :
    Calls Try.prog 9 #[] w fun e w' => e = .returned (.bool true) ∧ Below w.heap.size w w' := by
  have hx := hld_in (n := 5) (by omega) (by omega)
  have hX := Lib.hid hx
  clear hx
  go_enter Try.func9, Try.ntmps9
  go_wp2_with fail
  refine (new_any _ _).mono ?_
  rintro e w0 ⟨rfl, hw0⟩
  have hm := At.new w 44 #[.int .i64 (hld 5), .int .i64 0, .int .i64 0]
  rw [hw0, hX.out] at hm
  have hb : Below w.heap.size w w0 := by rw [← hw0]; exact (Below.refl _ _).alloc (Nat.le_refl _) _
  clear hw0
  have hz := hb.size
  go_wp2_with fail
  refine (take_to _ 5 0 0 3 0 3 3 _ hm (by omega) (by omega) (by decide) (by decide) (by decide)).mono ?_
  rintro e w1 ⟨rfl, h1⟩
  have hm1 := h1.at_
  have hz1 := h1.size
  have hb1 := h1.below hb (by omega) (Nat.le_refl _)
  clear h1 hm hb
  go_wp2_with fail
  refine (take_to _ 5 3 3 3 5 3 3 _ hm1 (by omega) (by omega) (by decide) (by decide) (by decide)).mono ?_
  rintro e w2 ⟨rfl, h1⟩
  have hm2 := h1.at_
  have hz2 := h1.size
  have hb2 := h1.below hb1 (by omega) (Nat.le_refl _)
  clear h1 hm1 hb1
  go_wp2_with fail
  refine (left_any _ 5 3 3 _ hm2 (by omega)).mono ?_
  rintro e w3 ⟨rfl, nq, rfl⟩
  go_wp2_with fail
  refine (give_to _ 5 3 3 1 0 2 _ (hm2.drewN _) (by omega) (by omega) (by decide) (by decide)).mono ?_
  rintro e w4 ⟨rfl, h1⟩
  have hm4 := h1.at_
  have hz4 := h1.size
  have hb4 := h1.below (below_drewN hb2 _) (by simp; omega) (Nat.le_refl _)
  clear h1 hm2 hb2
  simp only [World.heap_drewN] at hz4
  go_wp2_with fail
  refine (most_any _ 5 2 3 _ hm4).mono ?_
  rintro e w5 ⟨rfl, rfl⟩
  go_wp2_with fail
  refine (reset_any _ 5 2 3 _ hm4).mono ?_
  rintro e w6 ⟨rfl, h1⟩
  have hb6 := h1.below hb4 (by omega) (Nat.le_refl _)
  clear h1 hm4 hb4
  go_wp2_with fail
  refine (mul_to _ _ 1099511627776 (by decide) _).mono ?_
  rintro e w7 ⟨rfl, rfl⟩
  go_wp2
  go_ret
  exact ⟨rfl, hb6⟩

set_option maxHeartbeats 400000 in
theorem reckons_walk (a : Int) (_ha : -9223372036854775808 ≤ a ∧ a ≤ 9223372036854775807) (b : Int) (_hb : -9223372036854775808 ≤ b ∧ b ≤ 9223372036854775807) (w : World) :
    Calls Try.prog 4 #[.int .i64 a, .int .i64 b] w fun e w' => e = .returned (.bool true) ∧ Below w.heap.size w w' := by
  clear _ha _hb
  go_enter Try.func4, Try.ntmps4
  go_wp2_with (first
    | (go_at_call 9; refine (awake_any _).mono ?_; rintro e w' ⟨rfl, hb⟩)
    | (go_at_call 16; refine (add_any _ _ _).mono ?_; rintro e w' ⟨rfl, rfl⟩)
    | (go_at_call 17; refine (radd_any _ _ _).mono ?_; rintro e w' ⟨rfl, rfl⟩)
    | (go_at_call 18; refine (mul_any _ _ _).mono ?_; rintro e w' ⟨rfl, rfl⟩)
    | (go_at_call 19; refine (rmul_any _ _ _).mono ?_; rintro e w' ⟨rfl, rfl⟩))
  go_ret
  exact ⟨rfl, hb⟩

theorem hld_hld (n : Int) : hld (hld n) = hld n := by have := hld_range n; exact hld_in this.1 this.2
theorem add_comm' (a b : Int) : addC b a = addC a b := by unfold addC; rw [Int.add_comm]
theorem mul_comm' (a b : Int) : mulC b a = mulC a b := by unfold mulC; rw [Int.mul_comm]
theorem add_assoc' (a b c : Int) : addC a (addC b c) = addC (addC a b) c := by
  have ha := hld_range a
  have hb := hld_range b
  have hc := hld_range c
  have e1 : hld (addC b c) = cap (hld b + hld c) := by unfold addC; rw [hld_hld, hld_cap (by omega)]
  have e2 : hld (addC a b) = cap (hld a + hld b) := by unfold addC; rw [hld_hld, hld_cap (by omega)]
  have h1 := cap_range (n := hld a + hld b) (by omega)
  have h2 := cap_range (n := hld b + hld c) (by omega)
  show hld (hld a + hld (addC b c)) = hld (hld (addC a b) + hld c)
  rw [e1, e2, hld_cap (n := hld a + cap (hld b + hld c)) (by omega), hld_cap (n := cap (hld a + hld b) + hld c) (by omega), Int.add_comm (hld a) (cap _), cap_add (by omega) (by omega), cap_add (by omega) (by omega)]
  congr 1; omega
theorem cap_big {n : Int} (h : 1099511627776 ≤ n) : cap n = 1099511627776 := by unfold cap; split <;> omega
theorem cap_small {n : Int} (h : n ≤ 1099511627776) : cap n = n := by unfold cap; rw [if_neg (by omega)]
theorem cap_mul {x y : Int} (_hx : 0 ≤ x) (hy : 0 ≤ y) : cap (cap x * y) = cap (x * y) := by
  by_cases h : x ≤ 1099511627776
  · rw [cap_small h]
  · rw [cap_big (n := x) (by omega)]
    by_cases h0 : y = 0
    · subst h0; simp
    · have h1 : (1099511627776 : Int) * 1 ≤ 1099511627776 * y := Int.mul_le_mul_of_nonneg_left (by omega) (by omega)
      have h2 : (1099511627776 : Int) * 1 ≤ x * y := Int.mul_le_mul (by omega) (by omega) (by omega) (by omega)
      rw [cap_big (by omega), cap_big (by omega)]
theorem mul_cap (a b : Int) : mulC a b = cap (hld a * hld b) := hld_cap (Int.mul_nonneg (hld_range a).1 (hld_range b).1)
theorem mul_assoc' (a b c : Int) : mulC a (mulC b c) = mulC (mulC a b) c := by
  have ha := hld_range a
  have hb := hld_range b
  have hc := hld_range c
  have hab := Int.mul_nonneg ha.1 hb.1
  have hbc := Int.mul_nonneg hb.1 hc.1
  have e1 : hld (mulC b c) = cap (hld b * hld c) := by unfold mulC; rw [hld_hld, hld_cap hbc]
  have e2 : hld (mulC a b) = cap (hld a * hld b) := by unfold mulC; rw [hld_hld, hld_cap hab]
  rw [mul_cap a, mul_cap (mulC a b), e1, e2, Int.mul_comm (hld a), cap_mul hbc ha.1, cap_mul hab hc.1]
  congr 1
  rw [Int.mul_comm _ (hld a), Int.mul_assoc]
theorem hld_mono {a b : Int} (h : a ≤ b) : hld a ≤ hld b := by unfold hld; split <;> (try split) <;> (try split) <;> (try split) <;> omega
theorem add_mono {a b c : Int} (h : b ≤ c) : addC a b ≤ addC a c := by
  have := hld_mono h
  exact hld_mono (by omega)
theorem mul_mono {a b c : Int} (h : b ≤ c) : mulC a b ≤ mulC a c :=
  hld_mono (Int.mul_le_mul_of_nonneg_left (hld_mono h) (hld_range a).1)
theorem addto (a b c : Int) (h : addC a b = c) (w : World) :
    Calls Try.prog 16 #[.int .i64 a, .int .i64 b] w fun e w' => e = .returned (.int .i64 c) ∧ w = w' := by
  subst h; exact add_any a b w

set_option maxHeartbeats 400000 in
theorem order_walk (a : Int) (_ha : -9223372036854775808 ≤ a ∧ a ≤ 9223372036854775807) (b : Int) (_hb : -9223372036854775808 ≤ b ∧ b ≤ 9223372036854775807) (c : Int) (_hc : -9223372036854775808 ≤ c ∧ c ≤ 9223372036854775807) (w : World) :
    Calls Try.prog 6 #[.int .i64 a, .int .i64 b, .int .i64 c] w fun e w' => e = .returned (.bool true) ∧ Below w.heap.size w w' := by
  clear _ha _hb _hc
  by_cases hbc : b ≤ c
  · have l1 := add_mono (a := a) hbc
    have l2 := mul_mono (a := a) hbc
    go_enter Try.func6, Try.ntmps6
    go_wp2_with fail
    refine (awake_any _).mono ?_; rintro e w' ⟨rfl, hb⟩
    go_wp2_with fail
    refine (addto a b _ rfl _).mono ?_; rintro e w' ⟨rfl, rfl⟩
    go_wp2_with fail
    refine (addto b a _ (add_comm' a b) _).mono ?_; rintro e w' ⟨rfl, rfl⟩
    go_wp2_with fail
    refine (addto a b _ rfl _).mono ?_; rintro e w' ⟨rfl, rfl⟩
    go_wp2_with fail
    refine (addto (addC a b) c _ rfl _).mono ?_; rintro e w' ⟨rfl, rfl⟩
    go_wp2_with fail
    refine (addto b c _ rfl _).mono ?_; rintro e w' ⟨rfl, rfl⟩
    go_wp2_with fail
    refine (addto a (addC b c) _ (add_assoc' a b c) _).mono ?_; rintro e w' ⟨rfl, rfl⟩
    go_wp2_with fail
    refine (mul_to a b _ rfl _).mono ?_; rintro e w' ⟨rfl, rfl⟩
    go_wp2_with fail
    refine (mul_to b a _ (mul_comm' a b) _).mono ?_; rintro e w' ⟨rfl, rfl⟩
    go_wp2_with fail
    refine (mul_to a b _ rfl _).mono ?_; rintro e w' ⟨rfl, rfl⟩
    go_wp2_with fail
    refine (mul_to (mulC a b) c _ rfl _).mono ?_; rintro e w' ⟨rfl, rfl⟩
    go_wp2_with fail
    refine (mul_to b c _ rfl _).mono ?_; rintro e w' ⟨rfl, rfl⟩
    go_wp2_with fail
    refine (mul_to a (mulC b c) _ (mul_assoc' a b c) _).mono ?_; rintro e w' ⟨rfl, rfl⟩
    go_wp2_with fail
    refine (addto a b _ rfl _).mono ?_; rintro e w' ⟨rfl, rfl⟩
    go_wp2_with fail
    refine (addto a c _ rfl _).mono ?_; rintro e w' ⟨rfl, rfl⟩
    go_wp2_with fail
    refine (mul_to a b _ rfl _).mono ?_; rintro e w' ⟨rfl, rfl⟩
    go_wp2_with fail
    refine (mul_to a c _ rfl _).mono ?_; rintro e w' ⟨rfl, rfl⟩
    go_wp2_with fail
    go_ret
    exact ⟨rfl, hb⟩
  · go_enter Try.func6, Try.ntmps6
    go_wp2_with fail
    refine (awake_any _).mono ?_; rintro e w' ⟨rfl, hb⟩
    go_wp2_with fail
    refine (addto a b _ rfl _).mono ?_; rintro e w' ⟨rfl, rfl⟩
    go_wp2_with fail
    refine (addto b a _ (add_comm' a b) _).mono ?_; rintro e w' ⟨rfl, rfl⟩
    go_wp2_with fail
    refine (addto a b _ rfl _).mono ?_; rintro e w' ⟨rfl, rfl⟩
    go_wp2_with fail
    refine (addto (addC a b) c _ rfl _).mono ?_; rintro e w' ⟨rfl, rfl⟩
    go_wp2_with fail
    refine (addto b c _ rfl _).mono ?_; rintro e w' ⟨rfl, rfl⟩
    go_wp2_with fail
    refine (addto a (addC b c) _ (add_assoc' a b c) _).mono ?_; rintro e w' ⟨rfl, rfl⟩
    go_wp2_with fail
    refine (mul_to a b _ rfl _).mono ?_; rintro e w' ⟨rfl, rfl⟩
    go_wp2_with fail
    refine (mul_to b a _ (mul_comm' a b) _).mono ?_; rintro e w' ⟨rfl, rfl⟩
    go_wp2_with fail
    refine (mul_to a b _ rfl _).mono ?_; rintro e w' ⟨rfl, rfl⟩
    go_wp2_with fail
    refine (mul_to (mulC a b) c _ rfl _).mono ?_; rintro e w' ⟨rfl, rfl⟩
    go_wp2_with fail
    refine (mul_to b c _ rfl _).mono ?_; rintro e w' ⟨rfl, rfl⟩
    go_wp2_with fail
    refine (mul_to a (mulC b c) _ (mul_assoc' a b c) _).mono ?_; rintro e w' ⟨rfl, rfl⟩
    go_wp2_with fail
    go_ret
    exact ⟨rfl, hb⟩

end Go.Proofs.Ytpmdnhgkkfjnhaa
