/-
  The walk over MeterBounds.
-/
import Derived.Test.YtpmdnhgkkfjnhaaMeterD
import Derived.Test.YtpmdnhgkkfjnhaaOps
import Derived.Deep.LoopGhost
namespace Go.Proofs.Ytpmdnhgkkfjnhaa
open Go.RowKit
set_option linter.unusedVariables false

/-- A meter in block b, within its bounds. -/
structure Mt (w : World) (b : Nat) (l u m : Int) : Prop where
  at_ : At w b 44 #[.int .i64 l, .int .i64 u, .int .i64 m]
  bd : 0 ≤ u ∧ u ≤ l ∧ l ≤ 1099511627776 ∧ u ≤ m

theorem take_bd {l u m n : Int} (h : 0 ≤ u ∧ u ≤ l ∧ l ≤ 1099511627776 ∧ u ≤ m) : 0 ≤ takeUsed l u n ∧ takeUsed l u n ≤ l ∧ l ≤ 1099511627776 ∧ takeUsed l u n ≤ takeMost l u m n ∧ m ≤ takeMost l u m n := by
  unfold takeUsed takeMost; split <;> (try split) <;> (try split) <;> omega
theorem give_bd {l u m n : Int} (h : 0 ≤ u ∧ u ≤ l ∧ l ≤ 1099511627776 ∧ u ≤ m) : 0 ≤ giveUsed u n ∧ giveUsed u n ≤ l ∧ l ≤ 1099511627776 ∧ giveUsed u n ≤ m := by
  unfold giveUsed; split <;> (try split) <;> omega
theorem take_no {l u n : Int} (h : takeCode l u n ≠ 0) : takeUsed l u n = u := by
  unfold takeCode at h; unfold takeUsed; split at h <;> simp_all
theorem give_no {u n : Int} (h : giveCode u n ≠ 0) : giveUsed u n = u := by
  unfold giveCode at h; unfold giveUsed; split at h <;> simp_all

/-- What Take does to a meter within its bounds, as MeterBounds asks it. -/
theorem take_some (b : Nat) (l u m n : Int) (w : World) (hm : Mt w b l u m) (hn : -9223372036854775808 ≤ n ∧ n ≤ 9223372036854775807) :
    Calls Try.prog 20 #[.pointer (some ⟨b, 0, none⟩), .int .i64 n] w fun e w' => ∃ c u' m', e = .returned (.int .i64 c) ∧ Mt w' b l u' m' ∧ m ≤ m' ∧ (c ≠ 0 → u' = u) ∧ w.grownBy w' (some b) :=
  (take_any b l u m n w hm.at_ (by have := hm.bd; omega) hn).mono fun _ _ ⟨he, ht⟩ => by
    have := take_bd (n := n) hm.bd
    exact ⟨_, _, _, he, ⟨ht.at_, by omega⟩, by omega, take_no, ht.grown⟩
theorem give_some (b : Nat) (l u m n : Int) (w : World) (hm : Mt w b l u m) (hn : -9223372036854775808 ≤ n ∧ n ≤ 9223372036854775807) :
    Calls Try.prog 21 #[.pointer (some ⟨b, 0, none⟩), .int .i64 n] w fun e w' => ∃ c u' m', e = .returned (.int .i64 c) ∧ Mt w' b l u' m' ∧ m ≤ m' ∧ (c ≠ 0 → u' = u) ∧ w.grownBy w' (some b) :=
  (give_any b l u m n w hm.at_ (by have := hm.bd; omega) hn).mono fun _ _ ⟨he, ht⟩ => by
    have := give_bd (n := n) hm.bd
    exact ⟨_, _, _, he, ⟨ht.at_, by omega⟩, by omega, give_no, ht.grown⟩

set_option maxRecDepth 100000 in
set_option maxHeartbeats 4000000 in
theorem bounds_walk (l : Int) (hl : -9223372036854775808 ≤ l ∧ l ≤ 9223372036854775807) (A : Option Addr) (n c : Nat) (X Y : Nat → Int) (w : World) (hops : Ops w w.heap.size A n X Y) :
    Calls Try.prog 5 #[.int .i64 l, .slice A n c] w fun e w' => e = .returned (.bool true) ∧ Below w.heap.size w w' := by
  have hlen := hops.len
  have O := Lib.hid hops
  clear hops
  by_cases hn : 100 < n
  · go_enter Try.func5, Try.ntmps5
    go_wp2_with fail
    refine (awake_any _).mono ?_; rintro e w0 ⟨rfl, hb0⟩
    have hz0 := hb0.size
    go_wp2_with fail
    refine (new_any _ _).mono ?_; rintro e w1 ⟨rfl, hw1⟩
    have hb1 : Below w.heap.size w w1 := by rw [← hw1]; exact hb0.alloc hz0 _
    clear hw1
    go_wp2_with fail
    go_ret
    exact ⟨rfl, hb1⟩
  · go_enter Try.func5, Try.ntmps5
    go_wp2_with fail
    refine (awake_any _).mono ?_; rintro e w0 ⟨rfl, hb0⟩
    have hz0 := hb0.size
    go_wp2_with fail
    refine (new_any _ _).mono ?_; rintro e w1 ⟨rfl, hw1⟩
    have hm1 : Mt w1 w0.heap.size (hld l) 0 0 := by
      have := At.new w0 44 #[.int .i64 (hld l), .int .i64 0, .int .i64 0]
      have hr := hld_range l
      rw [hw1] at this
      exact ⟨this, by omega⟩
    have hb1 : Below w.heap.size w w1 := by rw [← hw1]; exact hb0.alloc hz0 _
    clear hw1
    have hbb : w.heap.size ≤ w0.heap.size := hz0
    go_wp2_with fail
    go_loopw [7] (fun i wr => ∃ (k : Nat) (u m : Int), k ≤ n ∧ i = .int .i64 k ∧ Mt wr w0.heap.size (hld l) u m ∧ Below w.heap.size w wr) (fun i _ => n - (intOf i).toNat)
    case atStart => exact ⟨0, 0, 0, by omega, rfl, hm1, hb1⟩
    case round =>
      obtain ⟨k, u, m, hk, rfl, hM, hB⟩ := hrel
      clear hm1 hb1
      have hbd := hM.bd
      by_cases hlt : k < n
      · obtain ⟨b, o, rfl, hbo, c0, c1⟩ := (O.out.below hB).each k hlt
        have rX := O.out.rx k hlt
        have rY := O.out.ry k hlt
        have M := Lib.hid hM
        have hs := hB.size
        clear hM
        by_cases h1 : X k = 1
        · have t1 : (X k == 1) = true := by simp [h1]
          clear h1
          go_wp2_with fail
          refine (used_any _ _ _ _ _ M.out.at_).mono ?_; rintro e w2 ⟨rfl, rfl⟩
          go_wp2_with fail
          refine (most_any _ _ _ _ _ M.out.at_).mono ?_; rintro e w2 ⟨rfl, rfl⟩
          go_wp2_with fail
          refine (take_some _ _ u m (Y k) _ M.out rY).mono ?_; rintro e w2 ⟨ec, u2, m2, rfl, hM2, hle, hno, hg⟩
          have hbd2 := hM2.bd
          have hB2 : Below w.heap.size w w2 := hB.grown hg hs (fun j hj => by injection hj with hj; omega)
          have M2 := Lib.hid hM2
          clear hM2 M hg c0 c1
          have hq : u2 + (hld l - u2) = hld l := by omega
          have t4 : (u2 + (hld l - u2) != hld l) = false := by rw [hq]; simp
          clear hq
          by_cases hec : ec = 0
          · subst hec
            clear hno
            go_wp2_with fail
            refine (used_any _ _ _ _ _ M2.out.at_).mono ?_; rintro e w3 ⟨rfl, rfl⟩
            go_wp2_with fail
            refine (left_any _ _ _ _ _ M2.out.at_ (by omega)).mono ?_; rintro e w3 ⟨rfl, nq, rfl⟩
            go_wp2_with fail
            refine (Held_any _ _).mono ?_; rintro e w3 ⟨rfl, rfl⟩
            go_wp2_with fail
            refine (most_any _ _ _ _ _ (M2.out.at_.drewN nq)).mono ?_; rintro e w3 ⟨rfl, rfl⟩
            go_wp2_with fail
            refine (most_any _ _ _ _ _ (M2.out.at_.drewN nq)).mono ?_; rintro e w3 ⟨rfl, rfl⟩
            go_wp2_with fail
            go_roundw
            case rel => exact ⟨k + 1, _, _, by omega, by go_num, ⟨M2.out.at_.drewN nq, M2.out.bd⟩, below_drewN hB2 nq⟩
            case measure => simp [intOf]; omega
          · obtain rfl : u2 = u := hno hec
            have t5 : (ec != 0) = true := by simp [hec]
            clear hno hec
            go_wp2_with fail
            refine (used_any _ _ _ _ _ M2.out.at_).mono ?_; rintro e w3 ⟨rfl, rfl⟩
            go_wp2_with fail
            refine (left_any _ _ _ _ _ M2.out.at_ (by omega)).mono ?_; rintro e w3 ⟨rfl, nq, rfl⟩
            go_wp2_with fail
            refine (Held_any _ _).mono ?_; rintro e w3 ⟨rfl, rfl⟩
            go_wp2_with fail
            refine (most_any _ _ _ _ _ (M2.out.at_.drewN nq)).mono ?_; rintro e w3 ⟨rfl, rfl⟩
            go_wp2_with fail
            refine (most_any _ _ _ _ _ (M2.out.at_.drewN nq)).mono ?_; rintro e w3 ⟨rfl, rfl⟩
            go_wp2_with fail
            go_roundw
            case rel => exact ⟨k + 1, _, _, by omega, by go_num, ⟨M2.out.at_.drewN nq, M2.out.bd⟩, below_drewN hB2 nq⟩
            case measure => simp [intOf]; omega
        · have t1 : (X k == 1) = false := by simp [h1]
          clear h1
          by_cases h2 : X k = 2
          · have t2 : (X k == 2) = true := by simp [h2]
            clear h2
            go_wp2_with fail
            refine (used_any _ _ _ _ _ M.out.at_).mono ?_; rintro e w2 ⟨rfl, rfl⟩
            go_wp2_with fail
            refine (most_any _ _ _ _ _ M.out.at_).mono ?_; rintro e w2 ⟨rfl, rfl⟩
            go_wp2_with fail
            refine (give_some _ _ u m (Y k) _ M.out rY).mono ?_; rintro e w2 ⟨ec, u2, m2, rfl, hM2, hle, hno, hg⟩
            have hbd2 := hM2.bd
            have hB2 : Below w.heap.size w w2 := hB.grown hg hs (fun j hj => by injection hj with hj; omega)
            have M2 := Lib.hid hM2
            clear hM2 M hg c0 c1
            have hq : u2 + (hld l - u2) = hld l := by omega
            have t4 : (u2 + (hld l - u2) != hld l) = false := by rw [hq]; simp
            clear hq
            by_cases hec : ec = 0
            · subst hec
              clear hno
              go_wp2_with fail
              refine (used_any _ _ _ _ _ M2.out.at_).mono ?_; rintro e w3 ⟨rfl, rfl⟩
              go_wp2_with fail
              refine (left_any _ _ _ _ _ M2.out.at_ (by omega)).mono ?_; rintro e w3 ⟨rfl, nq, rfl⟩
              go_wp2_with fail
              refine (Held_any _ _).mono ?_; rintro e w3 ⟨rfl, rfl⟩
              go_wp2_with fail
              refine (most_any _ _ _ _ _ (M2.out.at_.drewN nq)).mono ?_; rintro e w3 ⟨rfl, rfl⟩
              go_wp2_with fail
              refine (most_any _ _ _ _ _ (M2.out.at_.drewN nq)).mono ?_; rintro e w3 ⟨rfl, rfl⟩
              go_wp2_with fail
              go_roundw
              case rel => exact ⟨k + 1, _, _, by omega, by go_num, ⟨M2.out.at_.drewN nq, M2.out.bd⟩, below_drewN hB2 nq⟩
              case measure => simp [intOf]; omega
            · obtain rfl : u2 = u := hno hec
              have t5 : (ec != 0) = true := by simp [hec]
              clear hno hec
              go_wp2_with fail
              refine (used_any _ _ _ _ _ M2.out.at_).mono ?_; rintro e w3 ⟨rfl, rfl⟩
              go_wp2_with fail
              refine (left_any _ _ _ _ _ M2.out.at_ (by omega)).mono ?_; rintro e w3 ⟨rfl, nq, rfl⟩
              go_wp2_with fail
              refine (Held_any _ _).mono ?_; rintro e w3 ⟨rfl, rfl⟩
              go_wp2_with fail
              refine (most_any _ _ _ _ _ (M2.out.at_.drewN nq)).mono ?_; rintro e w3 ⟨rfl, rfl⟩
              go_wp2_with fail
              refine (most_any _ _ _ _ _ (M2.out.at_.drewN nq)).mono ?_; rintro e w3 ⟨rfl, rfl⟩
              go_wp2_with fail
              go_roundw
              case rel => exact ⟨k + 1, _, _, by omega, by go_num, ⟨M2.out.at_.drewN nq, M2.out.bd⟩, below_drewN hB2 nq⟩
              case measure => simp [intOf]; omega
          · have t2 : (X k == 2) = false := by simp [h2]
            clear h2
            by_cases h3 : X k = 3
            · have t3 : (X k == 3) = true := by simp [h3]
              clear h3
              go_wp2_with fail
              refine (used_any _ _ _ _ _ M.out.at_).mono ?_; rintro e w2 ⟨rfl, rfl⟩
              go_wp2_with fail
              refine (most_any _ _ _ _ _ M.out.at_).mono ?_; rintro e w2 ⟨rfl, rfl⟩
              go_wp2_with fail
              refine (reset_any _ _ u m _ M.out.at_).mono ?_; rintro e w2 ⟨rfl, hg⟩
              have hM2 : Mt w2 w0.heap.size (hld l) 0 m := ⟨hg.at_, by omega⟩
              have hB2 : Below w.heap.size w w2 := hB.grown hg.grown hs (fun j hj => by injection hj with hj; omega)
              have hbd2 := hM2.bd
              have M2 := Lib.hid hM2
              clear hM2 M hg c0 c1
              go_wp2_with fail
              refine (used_any _ _ _ _ _ M2.out.at_).mono ?_; rintro e w3 ⟨rfl, rfl⟩
              go_wp2_with fail
              refine (left_any _ _ _ _ _ M2.out.at_ (by omega)).mono ?_; rintro e w3 ⟨rfl, nq, rfl⟩
              go_wp2_with fail
              refine (Held_any _ _).mono ?_; rintro e w3 ⟨rfl, rfl⟩
              go_wp2_with fail
              refine (most_any _ _ _ _ _ (M2.out.at_.drewN nq)).mono ?_; rintro e w3 ⟨rfl, rfl⟩
              go_wp2_with fail
              refine (most_any _ _ _ _ _ (M2.out.at_.drewN nq)).mono ?_; rintro e w3 ⟨rfl, rfl⟩
              go_wp2_with fail
              go_roundw
              case rel => exact ⟨k + 1, _, _, by omega, by go_num, ⟨M2.out.at_.drewN nq, M2.out.bd⟩, below_drewN hB2 nq⟩
              case measure => simp [intOf]; omega
            · have t3 : (X k == 3) = false := by simp [h3]
              clear h3
              have M2 := M.out
              have M2 := Lib.hid M2
              have hB2 := hB
              have t4 : (u + (hld l - u) != hld l) = false := by rw [show u + (hld l - u) = hld l from by omega]; simp
              go_wp2_with fail
              refine (used_any _ _ _ _ _ M.out.at_).mono ?_; rintro e w2 ⟨rfl, rfl⟩
              go_wp2_with fail
              refine (most_any _ _ _ _ _ M.out.at_).mono ?_; rintro e w2 ⟨rfl, rfl⟩
              go_wp2_with fail
              refine (used_any _ _ _ _ _ M2.out.at_).mono ?_; rintro e w3 ⟨rfl, rfl⟩
              go_wp2_with fail
              refine (left_any _ _ _ _ _ M2.out.at_ (by omega)).mono ?_; rintro e w3 ⟨rfl, nq, rfl⟩
              go_wp2_with fail
              refine (Held_any _ _).mono ?_; rintro e w3 ⟨rfl, rfl⟩
              go_wp2_with fail
              refine (most_any _ _ _ _ _ (M2.out.at_.drewN nq)).mono ?_; rintro e w3 ⟨rfl, rfl⟩
              go_wp2_with fail
              refine (most_any _ _ _ _ _ (M2.out.at_.drewN nq)).mono ?_; rintro e w3 ⟨rfl, rfl⟩
              go_wp2_with fail
              go_roundw
              case rel => exact ⟨k + 1, _, _, by omega, by go_num, ⟨M2.out.at_.drewN nq, M2.out.bd⟩, below_drewN hB2 nq⟩
              case measure => simp [intOf]; omega
      · go_wp2_with fail
        go_ret
        exact ⟨rfl, hB⟩

end Go.Proofs.Ytpmdnhgkkfjnhaa
