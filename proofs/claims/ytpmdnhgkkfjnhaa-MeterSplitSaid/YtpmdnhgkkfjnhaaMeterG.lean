/-
  The walk over MeterPlays.
-/
import Derived.Test.YtpmdnhgkkfjnhaaMeterF
namespace Go.Proofs.Ytpmdnhgkkfjnhaa
open Go.RowKit
set_option linter.unusedVariables false

theorem Two.keep {w : World} {b r : Nat} {l u m : Int} (h : Two w b r l u m) (n : Nat) : Two (w.drewN n) b r l u m := ⟨h.mt.drewN n, h.rf.drewN n, h.bd⟩

set_option maxRecDepth 100000 in
set_option maxHeartbeats 2000000 in
theorem plays_walk (l : Int) (hl : -9223372036854775808 ≤ l ∧ l ≤ 9223372036854775807) (A : Option Addr) (n c : Nat) (X Y : Nat → Int) (w : World) (hops : Ops w w.heap.size A n X Y) :
    Calls Try.prog 3 #[.int .i64 l, .slice A n c] w fun e w' => e = .returned (.bool true) ∧ Below w.heap.size w w' := by
  have hlen := hops.len
  have O := Lib.hid hops
  clear hops
  by_cases hn : 100 < n
  · go_enter Try.func3, Try.ntmps3
    go_wp2_with fail
    refine (awake_any _).mono ?_; rintro e w0 ⟨rfl, hb0⟩
    have hz0 := hb0.size
    go_wp2_with fail
    refine (new_any _ _).mono ?_; rintro e w1 ⟨rfl, hw1⟩
    have hb1 : Below w.heap.size w w1 := by rw [← hw1]; exact hb0.alloc hz0 _
    have hz1 := hb1.size
    clear hw1
    go_wp2_with fail
    refine (Held_any _ _).mono ?_; rintro e w2 ⟨rfl, rfl⟩
    go_wp2_with fail
    go_ret
    exact ⟨rfl, hb1.alloc hz1 _⟩
  · go_enter Try.func3, Try.ntmps3
    go_wp2_with fail
    refine (awake_any _).mono ?_; rintro e w0 ⟨rfl, hb0⟩
    have hz0 := hb0.size
    go_wp2_with fail
    refine (new_any _ _).mono ?_; rintro e w1 ⟨rfl, hw1⟩
    have hm1 := At.new w0 44 #[.int .i64 (hld l), .int .i64 0, .int .i64 0]
    rw [hw1] at hm1
    have hb1 : Below w.heap.size w w1 := by rw [← hw1]; exact hb0.alloc hz0 _
    have hz1 := hb1.size
    clear hw1
    go_wp2_with fail
    refine (Held_any _ _).mono ?_; rintro e w2 ⟨rfl, rfl⟩
    have hr := hld_range l
    have hT : Two (w1.alloc (.cells #[.int .i64 (hld l), .int .i64 0, .int .i64 0] 29)) w0.heap.size w1.heap.size (hld l) 0 0 :=
      ⟨hm1.alloc _, At.new w1 _ _, by omega⟩
    have hb2 : Below w.heap.size w (w1.alloc (.cells #[.int .i64 (hld l), .int .i64 0, .int .i64 0] 29)) := hb1.alloc hz1 _
    clear hm1
    go_wp2_with fail
    go_loopw [8] (fun i wr => ∃ (k : Nat) (u m : Int), k ≤ n ∧ i = .int .i64 k ∧ Two wr w0.heap.size w1.heap.size (hld l) u m ∧ Below w.heap.size w wr) (fun i _ => n - (intOf i).toNat)
    case atStart => exact ⟨0, 0, 0, by omega, rfl, hT, hb2⟩
    case round =>
      obtain ⟨k, u, m, hk, rfl, hM, hB⟩ := hrel
      clear hT hb2
      by_cases hlt : k < n
      · obtain ⟨b, o, rfl, hbo, c0, c1⟩ := (O.out.below hB).each k hlt
        have rY := O.out.ry k hlt
        have M := Lib.hid hM
        have hs := hB.size
        clear hM
        go_wp2_with fail
        refine (done_any _ _ _ u m (X k) (Y k) _ M.out rY).mono ?_; rintro e w2 ⟨rfl, u2, m2, hM2, hB2⟩
        have hB3 := hB.trans (hB2 w.heap.size hz0 hz1 hs)
        have hbd2 := hM2.bd
        have M2 := Lib.hid hM2
        have e0 := hM2.rf.cell 0
        have e1 := hM2.rf.cell 1
        have e2 := hM2.rf.cell 2
        simp at e0 e1 e2
        clear hM2 hB2 c0 c1 M
        go_wp2_with fail
        refine (used_any _ _ _ _ _ M2.out.mt).mono ?_; rintro e w3 ⟨rfl, rfl⟩
        go_wp2_with fail
        refine (left_any _ _ _ _ _ M2.out.mt (by omega)).mono ?_; rintro e w3 ⟨rfl, nq, rfl⟩
        go_wp2_with fail
        refine (most_any _ _ _ _ _ (M2.out.mt.drewN nq)).mono ?_; rintro e w3 ⟨rfl, rfl⟩
        go_wp2_with fail
        go_quiet (fail)
        go_wp2_with fail
        go_roundw
        case rel => exact ⟨k + 1, _, _, by omega, by go_num, M2.out.keep _, below_drewN hB3 _⟩
        case measure => simp [intOf]; omega
      · go_wp2_with fail
        go_ret
        exact ⟨rfl, hB⟩

end Go.Proofs.Ytpmdnhgkkfjnhaa
