/-
  The walk over MeterSplit.
-/
import Derived.Test.YtpmdnhgkkfjnhaaMeterG
namespace Go.Proofs.Ytpmdnhgkkfjnhaa
open Go.RowKit
set_option linter.unusedVariables false

/-- The sum of the first k parts. -/
def psum (X : Nat → Int) : Nat → Int
  | 0 => 0
  | k + 1 => psum X k + X k

theorem add_cap {s x : Int} (h0 : 0 ≤ s) (h1 : s ≤ 1099511627776) (hx : 0 ≤ x) : addC s x = cap (s + x) := by
  unfold addC
  rw [hld_in h0 h1, hld_cap hx]
  have := cap_range hx
  rw [hld_cap (by omega), Int.add_comm, cap_add hx h0, Int.add_comm]

set_option maxRecDepth 100000 in
set_option maxHeartbeats 2000000 in
theorem split_walk (l : Int) (hl : -9223372036854775808 ≤ l ∧ l ≤ 9223372036854775807) (A : Option Addr) (n c : Nat) (X : Nat → Int) (w : World) (hops : Nums w w.heap.size A n X) :
    Calls Try.prog 8 #[.int .i64 l, .slice A n c] w fun e w' => e = .returned (.bool true) ∧ Below w.heap.size w w' := by
  have hlen := hops.len
  have O := Lib.hid hops
  clear hops
  by_cases hn : 20 < n
  · go_enter Try.func8, Try.ntmps8
    go_wp2_with fail
    refine (awake_any _).mono ?_; rintro e w0 ⟨rfl, hb0⟩
    have hz0 := hb0.size
    go_wp2_with fail
    refine (new_any _ _).mono ?_; rintro e w1 ⟨rfl, hw1⟩
    have hb1 : Below w.heap.size w w1 := by rw [← hw1]; exact hb0.alloc hz0 _
    have hz1 := hb1.size
    clear hw1
    go_wp2_with fail
    refine (new_any _ _).mono ?_; rintro e w2 ⟨rfl, hw2⟩
    have hb2 : Below w.heap.size w w2 := by rw [← hw2]; exact hb1.alloc hz1 _
    clear hw2
    go_wp2_with fail
    go_ret
    exact ⟨rfl, hb2⟩
  · go_enter Try.func8, Try.ntmps8
    go_wp2_with fail
    refine (awake_any _).mono ?_; rintro e w0 ⟨rfl, hb0⟩
    have hz0 := hb0.size
    go_wp2_with fail
    refine (new_any _ _).mono ?_; rintro e w1 ⟨rfl, hw1⟩
    have hm1 := At.new w0 44 #[.int .i64 (hld l), .int .i64 0, .int .i64 0]
    rw [hw1] at hm1
    have hb1 : Below w.heap.size w w1 := by rw [← hw1]; exact hb0.alloc hz0 _
    have hz1 := hb1.size
    have hlt1 := hm1.lt
    clear hw1
    go_wp2_with fail
    refine (new_any _ _).mono ?_; rintro e w2 ⟨rfl, hw2⟩
    have hm2 := At.new w1 44 #[.int .i64 (hld l), .int .i64 0, .int .i64 0]
    have hm3 := hm1.alloc (.cells #[.int .i64 (hld l), .int .i64 0, .int .i64 0] 44)
    rw [hw2] at hm2 hm3
    have hb2 : Below w.heap.size w w2 := by rw [← hw2]; exact hb1.alloc hz1 _
    clear hw2 hm1
    have hr := hld_range l
    have hne : w0.heap.size ≠ w1.heap.size := by omega
    go_wp2_with fail
    go_loopw [8, 9] (fun s i wr => ∃ (k : Nat) (m : Int), k ≤ n ∧ i = .int .i64 k ∧ s = .int .i64 (psum X k) ∧ 0 ≤ psum X k ∧ psum X k ≤ hld l ∧ At wr w0.heap.size 44 #[.int .i64 (hld l), .int .i64 (psum X k), .int .i64 m] ∧
        At wr w1.heap.size 44 #[.int .i64 (hld l), .int .i64 0, .int .i64 0] ∧ Below w.heap.size w wr) (fun _ i _ => n - (intOf i).toNat)
    case atStart => exact ⟨0, 0, by omega, rfl, rfl, by simp [psum], by simp [psum]; omega, hm3, hm2, hb2⟩
    case round =>
      obtain ⟨k, m, hk, rfl, rfl, hp0, hp1, hM, hK, hB⟩ := hrel
      clear hm3 hm2 hb2
      by_cases hlt : k < n
      · obtain ⟨b, o, rfl, hbo, c0⟩ := (O.out.below hB).each k hlt
        have rX := O.out.rx k hlt
        have hs := hB.size
        by_cases v1 : X k < 0
        · go_wp2_with fail
          go_ret
          exact ⟨rfl, hB⟩
        · by_cases v2 : hld l - psum X k < X k
          · have hc := cap_range (n := psum X k + X k) (by omega)
            have hcap : hld l < cap (psum X k + X k) ∨ cap (psum X k + X k) = 1099511627776 := by unfold cap; split <;> omega
            have ec := take_big (l := hld l) (u := psum X k) (m := m) (n := X k) (by omega) v2
            have E := Lib.hid ec
            have EA := Lib.hid (add_cap hp0 (by omega) (by omega : 0 ≤ X k))
            clear ec
            rcases hcap with v3 | v3
            · have e3 := take_big (l := hld l) (u := 0) (m := 0) (n := cap (psum X k + X k)) (by omega) (by omega)
              have E3 := Lib.hid e3
              clear e3
              go_wp2_with fail
              refine (addto _ _ _ EA.out _).mono ?_; rintro e w3 ⟨rfl, rfl⟩
              go_wp2_with fail
              refine (take_to _ _ _ _ _ 5 _ _ _ hM (by omega) (by omega) E.out.1 E.out.2.1 E.out.2.2).mono ?_; rintro e w4 ⟨rfl, h4⟩
              have hB4 := h4.below hB hs hz0
              have hs4 := hB4.size
              have hK4 := h4.other hK (Ne.symm hne)
              clear h4
              go_wp2_with fail
              refine (take_to _ _ _ _ _ 5 _ _ _ hK4 (by omega) (by omega) E3.out.1 E3.out.2.1 E3.out.2.2).mono ?_; rintro e w5 ⟨rfl, h5⟩
              have hB5 := h5.below hB4 hs4 hz1
              clear h5
              go_wp2_with fail
              go_ret
              exact ⟨rfl, hB5⟩
            · have EA2 := Lib.hid (EA.out.trans v3)
              clear v3 hc
              go_wp2_with fail
              refine (addto _ _ _ EA2.out _).mono ?_; rintro e w3 ⟨rfl, rfl⟩
              go_wp2_with fail
              refine (take_to _ _ _ _ _ 5 _ _ _ hM (by omega) (by omega) E.out.1 E.out.2.1 E.out.2.2).mono ?_; rintro e w4 ⟨rfl, h4⟩
              have hB4 := h4.below hB hs hz0
              have hs4 := hB4.size
              have hK4 := h4.other hK (Ne.symm hne)
              clear h4
              go_wp2_with fail
              refine (take_any _ _ _ _ _ _ hK4 (by omega) (by omega)).mono ?_; rintro e w5 ⟨rfl, h5⟩
              have hB5 := h5.below hB4 hs4 hz1
              clear h5
              go_wp2_with fail
              all_goals go_ret
              all_goals exact ⟨rfl, hB5⟩
          · have ec := take_ok (l := hld l) (u := psum X k) (n := X k) (by omega) (by omega)
            have E := Lib.hid ec
            have ea := add_cap hp0 (by omega) (by omega : 0 ≤ X k)
            rw [cap_small (by omega)] at ea
            have EA := Lib.hid ea
            clear ec ea
            go_wp2_with fail
            refine (addto _ _ _ EA.out _).mono ?_; rintro e w3 ⟨rfl, rfl⟩
            go_wp2_with fail
            refine (take_to _ _ _ _ _ 0 _ _ _ hM (by omega) (by omega) E.out.1 E.out.2 rfl).mono ?_; rintro e w4 ⟨rfl, h4⟩
            have hB4 := h4.below hB hs hz0
            have hK4 := h4.other hK (Ne.symm hne)
            have hM4 := h4.at_
            clear h4
            go_wp2_with fail
            go_roundw
            case rel => exact ⟨k + 1, _, by omega, by go_num, rfl, by simp only [psum]; omega, by simp only [psum]; omega, hM4, hK4, hB4⟩
            case measure => simp [intOf]; omega
      · have ec := take_ok (l := hld l) (u := 0) (n := psum X k) (by omega) (by omega)
        rw [Int.zero_add] at ec
        have E := Lib.hid ec
        clear ec
        have hs := hB.size
        go_wp2_with fail
        refine (take_to _ _ _ _ _ 0 _ _ _ hK (by omega) (by omega) E.out.1 E.out.2 rfl).mono ?_; rintro e w4 ⟨rfl, h4⟩
        have hB4 := h4.below hB hs hz1
        have hM4 := h4.other hM hne
        have hK4 := h4.at_
        clear h4
        go_wp2_with fail
        refine (used_any _ _ _ _ _ hM4).mono ?_; rintro e w5 ⟨rfl, rfl⟩
        go_wp2_with fail
        refine (used_any _ _ _ _ _ hK4).mono ?_; rintro e w5 ⟨rfl, rfl⟩
        go_wp2_with fail
        go_ret
        exact ⟨rfl, hB4⟩

end Go.Proofs.Ytpmdnhgkkfjnhaa
