/-
  The walk over MeterBack.
-/
import Derived.Test.YtpmdnhgkkfjnhaaMeterG
namespace Go.Proofs.Ytpmdnhgkkfjnhaa
open Go.RowKit
set_option linter.unusedVariables false

set_option maxRecDepth 100000 in
set_option maxHeartbeats 2000000 in
theorem back_walk (l : Int) (hl : -9223372036854775808 ≤ l ∧ l ≤ 9223372036854775807) (A : Option Addr) (n c : Nat) (X Y : Nat → Int) (v : Int) (hv : -9223372036854775808 ≤ v ∧ v ≤ 9223372036854775807) (w : World) (hops : Ops w w.heap.size A n X Y) :
    Calls Try.prog 7 #[.int .i64 l, .slice A n c, .int .i64 v] w fun e w' => e = .returned (.bool true) ∧ Below w.heap.size w w' := by
  have hlen := hops.len
  have O := Lib.hid hops
  clear hops
  by_cases hn : 100 < n
  · go_enter Try.func7, Try.ntmps7
    go_wp2_with fail
    refine (awake_any _).mono ?_; rintro e w0 ⟨rfl, hb0⟩
    have hz0 := hb0.size
    go_wp2_with fail
    refine (new_any _ _).mono ?_; rintro e w1 ⟨rfl, hw1⟩
    have hb1 : Below w.heap.size w w1 := by rw [← hw1]; exact hb0.alloc hz0 _
    have hz1 := hb1.size
    clear hw1
    go_wp2_with fail
    go_ret
    exact ⟨rfl, hb1⟩
  · go_enter Try.func7, Try.ntmps7
    go_wp2_with fail
    refine (awake_any _).mono ?_; rintro e w0 ⟨rfl, hb0⟩
    have hz0 := hb0.size
    go_wp2_with fail
    refine (new_any _ _).mono ?_; rintro e w1 ⟨rfl, hw1⟩
    have hm1 := At.new w0 44 #[.int .i64 (hld l), .int .i64 0, .int .i64 0]
    rw [hw1] at hm1
    have hb1 : Below w.heap.size w w1 := by rw [← hw1]; exact hb0.alloc hz0 _
    have hz1 := hb1.size
    clear hw1
    go_wp2_with fail
    refine (Held_any _ _).mono ?_; rintro e w2 ⟨rfl, rfl⟩
    have hr := hld_range l
    have hT : Two (w1.alloc (.cells #[.int .i64 (hld l), .int .i64 0, .int .i64 0] 29)) w0.heap.size w1.heap.size (hld l) 0 0 :=
      ⟨hm1.alloc _, At.new w1 _ _, by omega⟩
    have hb2 : Below w.heap.size w (w1.alloc (.cells #[.int .i64 (hld l), .int .i64 0, .int .i64 0] 29)) := hb1.alloc hz1 _
    clear hm1
    go_wp2_with fail
    go_loopw [10] (fun i wr => ∃ (k : Nat) (u m : Int), k ≤ n ∧ i = .int .i64 k ∧ Two wr w0.heap.size w1.heap.size (hld l) u m ∧ Below w.heap.size w wr) (fun i _ => n - (intOf i).toNat)
    case atStart => exact ⟨0, 0, 0, by omega, rfl, hT, hb2⟩
    case round =>
      obtain ⟨k, u, m, hk, rfl, hM, hB⟩ := hrel
      clear hT hb2
      by_cases hlt : k < n
      · obtain ⟨b, o, rfl, hbo, c0, c1⟩ := (O.out.below hB).each k hlt
        have rY := O.out.ry k hlt
        have M := Lib.hid hM
        have hs := hB.size
        clear hM
        go_wp2_with fail
        refine (done_any _ _ _ u m (X k) (Y k) _ M.out rY).mono ?_; rintro e w2 ⟨rfl, u2, m2, hM2, hB2⟩
        have hB3 := hB.trans (hB2 w.heap.size hz0 hz1 hs)
        clear hB2 c0 c1 M
        go_wp2_with fail
        go_roundw
        case rel => exact ⟨k + 1, _, _, by omega, by go_num, hM2, hB3⟩
        case measure => simp [intOf]; omega
      · have hs := hB.size
        have bd := hM.bd
        have hA := hM.mt
        clear hM
        go_wp2_with fail
        refine (used_any _ _ _ _ _ hA).mono ?_; rintro e w2 ⟨rfl, rfl⟩
        go_wp2_with fail
        refine (take_any _ _ _ _ v _ hA (by omega) hv).mono ?_; rintro e w3 ⟨he, h3⟩
        by_cases v1 : v < 0
        · obtain ⟨q1, q2, q3⟩ := take_neg (l := hld l) (u := u) (m := m) v1
          rw [q1] at he
          rw [q2, q3] at h3
          subst he
          have hB3 := h3.below hB hs hz0
          have hs3 := hB3.size
          have hA3 := h3.at_
          clear h3 q1 q2 q3 hA
          go_wp2_with fail
          refine (used_any _ _ _ _ _ hA3).mono ?_; rintro e w2 ⟨rfl, rfl⟩
          go_wp2_with fail
          refine (left_any _ _ _ _ _ hA3 (by omega)).mono ?_; rintro e w4 ⟨rfl, nq, rfl⟩
          go_wp2_with fail
          refine (take_any _ _ _ _ _ _ (At.drewN hA3 nq) (by omega) (by omega)).mono ?_; rintro e w5 ⟨he, h5⟩
          obtain ⟨q1, q2⟩ := take_ok (l := hld l) (u := u) (n := hld l - u) (by omega) (by omega)
          rw [q1] at he
          rw [q2, show u + (hld l - u) = hld l from by omega] at h5
          subst he
          have hB5 := h5.below (below_drewN hB3 nq) (by simp; omega) hz0
          have hA5 := h5.at_
          clear h5 q1 q2
          go_wp2_with fail
          refine (take_any _ _ _ _ 1 _ hA5 (by omega) (by omega)).mono ?_; rintro e w6 ⟨he, h6⟩
          obtain ⟨q1, q2, q3⟩ := take_big (l := hld l) (u := hld l) (m := takeMost (hld l) u m (hld l - u)) (n := 1) (by omega) (by omega)
          rw [q1] at he
          rw [q2, q3] at h6
          subst he
          have hs5 := hB5.size
          have hB6 := h6.below hB5 (by omega) hz0
          have hA6 := h6.at_
          clear h6 q1 q2 q3
          go_wp2_with fail
          refine (left_any _ _ _ _ _ hA6 (by omega)).mono ?_; rintro e w7 ⟨rfl, nq2, rfl⟩
          have t9 : (hld l - hld l == 0) = true := by simp
          go_wp2_with fail
          go_ret
          exact ⟨rfl, below_drewN hB6 _⟩
        · by_cases v2 : hld l - u < v
          · obtain ⟨q1, q2, q3⟩ := take_big (l := hld l) (u := u) (m := m) (by omega) v2
            rw [q1] at he
            rw [q2, q3] at h3
            subst he
            have hB3 := h3.below hB hs hz0
            have hs3 := hB3.size
            have hA3 := h3.at_
            clear h3 q1 q2 q3 hA
            go_wp2_with fail
            refine (used_any _ _ _ _ _ hA3).mono ?_; rintro e w2 ⟨rfl, rfl⟩
            go_wp2_with fail
            refine (left_any _ _ _ _ _ hA3 (by omega)).mono ?_; rintro e w4 ⟨rfl, nq, rfl⟩
            go_wp2_with fail
            refine (take_any _ _ _ _ _ _ (At.drewN hA3 nq) (by omega) (by omega)).mono ?_; rintro e w5 ⟨he, h5⟩
            obtain ⟨q1, q2⟩ := take_ok (l := hld l) (u := u) (n := hld l - u) (by omega) (by omega)
            rw [q1] at he
            rw [q2, show u + (hld l - u) = hld l from by omega] at h5
            subst he
            have hB5 := h5.below (below_drewN hB3 nq) (by simp; omega) hz0
            have hA5 := h5.at_
            clear h5 q1 q2
            go_wp2_with fail
            refine (take_any _ _ _ _ 1 _ hA5 (by omega) (by omega)).mono ?_; rintro e w6 ⟨he, h6⟩
            obtain ⟨q1, q2, q3⟩ := take_big (l := hld l) (u := hld l) (m := takeMost (hld l) u m (hld l - u)) (n := 1) (by omega) (by omega)
            rw [q1] at he
            rw [q2, q3] at h6
            subst he
            have hs5 := hB5.size
            have hB6 := h6.below hB5 (by omega) hz0
            have hA6 := h6.at_
            clear h6 q1 q2 q3
            go_wp2_with fail
            refine (left_any _ _ _ _ _ hA6 (by omega)).mono ?_; rintro e w7 ⟨rfl, nq2, rfl⟩
            have t9 : (hld l - hld l == 0) = true := by simp
            go_wp2_with fail
            go_ret
            exact ⟨rfl, below_drewN hB6 _⟩
          · obtain ⟨q1, q2⟩ := take_ok (l := hld l) (u := u) (n := v) (by omega) (by omega)
            rw [q1] at he
            rw [q2] at h3
            subst he
            have hB3 := h3.below hB hs hz0
            have hs3 := hB3.size
            have hA3 := h3.at_
            clear h3 q1 q2 hA
            go_wp2_with fail
            refine (give_any _ _ _ _ v _ hA3 (by omega) (by omega)).mono ?_; rintro e w4 ⟨he, h4⟩
            have q1 : giveCode (u + v) v = 0 := by unfold giveCode; rw [if_neg (by omega), if_neg (by omega)]
            have q2 : giveUsed (u + v) v = u := by unfold giveUsed; rw [if_neg (by omega), if_neg (by omega)]; omega
            rw [q1] at he
            rw [q2] at h4
            subst he
            have hB4 := h4.below hB3 (by omega) hz0
            have hs4 := hB4.size
            have hA4 := h4.at_
            clear h4 q1 q2 hA3
            go_wp2_with fail
            refine (used_any _ _ _ _ _ hA4).mono ?_; rintro e w2 ⟨rfl, rfl⟩
            go_wp2_with fail
            refine (left_any _ _ _ _ _ hA4 (by omega)).mono ?_; rintro e w4 ⟨rfl, nq, rfl⟩
            go_wp2_with fail
            refine (take_any _ _ _ _ _ _ (At.drewN hA4 nq) (by omega) (by omega)).mono ?_; rintro e w5 ⟨he, h5⟩
            obtain ⟨q1, q2⟩ := take_ok (l := hld l) (u := u) (n := hld l - u) (by omega) (by omega)
            rw [q1] at he
            rw [q2, show u + (hld l - u) = hld l from by omega] at h5
            subst he
            have hB5 := h5.below (below_drewN hB4 nq) (by simp; omega) hz0
            have hA5 := h5.at_
            clear h5 q1 q2
            go_wp2_with fail
            refine (take_any _ _ _ _ 1 _ hA5 (by omega) (by omega)).mono ?_; rintro e w6 ⟨he, h6⟩
            obtain ⟨q1, q2, q3⟩ := take_big (l := hld l) (u := hld l) (m := takeMost (hld l) u (takeMost (hld l) u m v) (hld l - u)) (n := 1) (by omega) (by omega)
            rw [q1] at he
            rw [q2, q3] at h6
            subst he
            have hs5 := hB5.size
            have hB6 := h6.below hB5 (by omega) hz0
            have hA6 := h6.at_
            clear h6 q1 q2 q3
            go_wp2_with fail
            refine (left_any _ _ _ _ _ hA6 (by omega)).mono ?_; rintro e w7 ⟨rfl, nq2, rfl⟩
            have t9 : (hld l - hld l == 0) = true := by simp
            go_wp2_with fail
            go_ret
            exact ⟨rfl, below_drewN hB6 _⟩

end Go.Proofs.Ytpmdnhgkkfjnhaa
