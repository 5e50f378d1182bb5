/-
  The walk over tronagelaw02.ArenaCells.
-/
import Derived.Test.YtnmmffpcbneccaaArDuo
import Derived.Test.YtnmmffpcbneccaaArAw
import Derived.Test.YtnmmffpcbneccaaOps3
import Derived.StillTailTactics
import Derived.Deep.RegionWith
import Derived.BigRegion
namespace Go.Proofs.Ytnmmffpcbneccaa
open Go.RowKit
set_option linter.unusedVariables false

set_option maxRecDepth 100000 in
set_option maxHeartbeats 16000000 in
theorem cells_any (a : Int) (ba : -9223372036854775808 ≤ a ∧ a ≤ 9223372036854775807) (A : Option Addr) (n c : Nat) (X Y Z : Nat → Int) (A2 : Option Addr) (n2 c2 : Nat) (S : Nat → Bool) (w : World) (O : Ops3 w w.heap.size A n X Y Z) (O2 : Bools w w.heap.size A2 n2 S) :
    Calls Try.prog 5 #[.int .i64 a, .slice A n c, .slice A2 n2 c2] w fun e w' => e = .returned (.bool true) ∧ Below w.heap.size w w' := by
  have HO := Lib.hid O
  have HO2 := Lib.hid O2
  clear O O2
  go_enter Try.func5, Try.ntmps5
  go_wp2_with fail
  refine (awake_any _).mono ?_
  rintro e w1 ⟨rfl, hb1⟩
  have HB1 := Lib.hid hb1
  clear hb1
  go_wp2_with fail
  refine (new_any a _).mono ?_
  rintro e w2 ⟨rfl, rfl⟩
  go_wp2_with fail
  refine (newI_any _ _).mono ?_
  rintro e w3 ⟨rfl, rfl⟩
  go_wp2_with fail
  refine (newI_any _ _).mono ?_
  rintro e w3 ⟨rfl, h2⟩
  have h := DuoI.start HB1.out (hld_range a)
  rw [h2] at h
  have H3 := Lib.hid h
  clear h h2
  by_cases h40 : (100 : Int) < (n : Int)
  · go_wp2_with fail
    go_ret
    exact ⟨rfl, H3.out.bel⟩
  · have hn40 : n ≤ 100 := by omega
    go_wp2_with fail
    go_loopw [11] (fun i wr => ∃ (k : Nat) (L M : List (Int × Int)), k ≤ n ∧ i = .int .i64 (k : Int) ∧ DuoI w (w1.heap.size + 1) (w1.heap.size + 1 + 1) w1.heap.size wr (hld a) L M) (fun i _ => n - (intOf i).toNat)
    case atStart => exact ⟨0, [], [], by omega, rfl, H3.out⟩
    case round =>
      obtain ⟨k, L, M, hk, rfl, hP⟩ := hrel
      have P := Lib.hid hP
      clear hP
      by_cases hlt : k < n
      · obtain ⟨b, o, rfl, hbo, c0, c1, c2⟩ := (HO.out.below P.out.bel).each k hlt
        have rY := HO.out.ry k hlt
        by_cases hw : k < n2
        · obtain ⟨b2, o2, rfl, hbo2, d0⟩ := (HO2.out.below P.out.bel).each k hw
          have hnl := HO2.out.len
          have hwI : (k : Int) < (n2 : Int) := by omega
          cases hS : S k with
          | true =>
            rw [hS] at d0
            clear hS
            by_cases h1 : X k = 1
            · have t1 : (X k == 1) = true := by simp [h1]
              clear h1
              go_wp2_with fail
              go_region_with (go_at_call 23; (with_reducible refine (duo_put _ _ _ _ _ _ _ _ (DuoI.drew (P.out.swap)) (Z k) (Y k) rY).mono ?_); rintro e w5 ⟨pn, pc, L5, rfl, h5⟩; have R := Lib.hid (h5.swap); clear h5)
              all_goals
                have hR := R.out.nonneg
                have hl := R.out.lim
                go_wp2_with fail
                refine (duo_cells _ _ _ _ _ _ _ _ R.out).mono ?_
                rintro e w6 ⟨rfl, rfl⟩
                go_wp2_with fail
                refine (duo_cells _ _ _ _ _ _ _ _ R.out.swap).mono ?_
                rintro e w6 ⟨rfl, rfl⟩
                go_wp2_with fail
                refine (duo_used _ _ _ _ _ _ _ _ R.out).mono ?_
                rintro e w6 ⟨rfl, rfl⟩
                go_wp2_with fail
                refine (Held_any _ _).mono ?_
                rintro e w6 ⟨rfl, rfl⟩
                go_wp2_with fail
                refine (duo_cells _ _ _ _ _ _ _ _ R.out).mono ?_
                rintro e w6 ⟨rfl, rfl⟩
                go_wp2_with fail
                refine (duo_len _ _ _ _ _ _ _ _ R.out).mono ?_
                rintro e w6 ⟨rfl, rfl⟩
                go_wp2_with fail
                refine (duo_cells _ _ _ _ _ _ _ _ R.out.swap).mono ?_
                rintro e w6 ⟨rfl, rfl⟩
                go_wp2_with fail
                refine (duo_len _ _ _ _ _ _ _ _ R.out.swap).mono ?_
                rintro e w6 ⟨rfl, rfl⟩
                go_wp2_with fail
                go_roundw
                case rel => exact ⟨k + 1, _, _, by omega, by go_num, R.out⟩
                case measure => simp [intOf]; omega
            · have t1 : (X k == 1) = false := by simp [h1]
              clear h1
              by_cases h3 : X k = 3
              · have t3 : (X k == 3) = true := by simp [h3]
                clear h3
                go_wp2_with fail
                go_region_with (go_at_call 24; (with_reducible refine (duo_set _ _ _ _ _ _ _ _ (DuoI.drew (P.out.swap)) (Y k) (Z k)).mono ?_); rintro e w5 ⟨q, L5, rfl, h5⟩; have R := Lib.hid (h5.swap); clear h5)
                all_goals
                  have hR := R.out.nonneg
                  have hl := R.out.lim
                  go_wp2_with fail
                  refine (duo_cells _ _ _ _ _ _ _ _ R.out).mono ?_
                  rintro e w6 ⟨rfl, rfl⟩
                  go_wp2_with fail
                  refine (duo_cells _ _ _ _ _ _ _ _ R.out.swap).mono ?_
                  rintro e w6 ⟨rfl, rfl⟩
                  go_wp2_with fail
                  refine (duo_used _ _ _ _ _ _ _ _ R.out).mono ?_
                  rintro e w6 ⟨rfl, rfl⟩
                  go_wp2_with fail
                  refine (Held_any _ _).mono ?_
                  rintro e w6 ⟨rfl, rfl⟩
                  go_wp2_with fail
                  refine (duo_cells _ _ _ _ _ _ _ _ R.out).mono ?_
                  rintro e w6 ⟨rfl, rfl⟩
                  go_wp2_with fail
                  refine (duo_len _ _ _ _ _ _ _ _ R.out).mono ?_
                  rintro e w6 ⟨rfl, rfl⟩
                  go_wp2_with fail
                  refine (duo_cells _ _ _ _ _ _ _ _ R.out.swap).mono ?_
                  rintro e w6 ⟨rfl, rfl⟩
                  go_wp2_with fail
                  refine (duo_len _ _ _ _ _ _ _ _ R.out.swap).mono ?_
                  rintro e w6 ⟨rfl, rfl⟩
                  go_wp2_with fail
                  go_roundw
                  case rel => exact ⟨k + 1, _, _, by omega, by go_num, R.out⟩
                  case measure => simp [intOf]; omega
              · have t3 : (X k == 3) = false := by simp [h3]
                clear h3
                by_cases h4 : X k = 4
                · have t4 : (X k == 4) = true := by simp [h4]
                  clear h4
                  go_wp2_with fail
                  refine (duo_cut _ _ _ _ _ _ _ _ (P.out.swap) (Y k) rY).mono ?_
                  rintro e w5 ⟨q, L5, rfl, h5⟩
                  have R := Lib.hid (h5.swap)
                  clear h5
                  have hR := R.out.nonneg
                  have hl := R.out.lim
                  go_wp2_with fail
                  refine (duo_cells _ _ _ _ _ _ _ _ R.out).mono ?_
                  rintro e w6 ⟨rfl, rfl⟩
                  go_wp2_with fail
                  refine (duo_cells _ _ _ _ _ _ _ _ R.out.swap).mono ?_
                  rintro e w6 ⟨rfl, rfl⟩
                  go_wp2_with fail
                  refine (duo_used _ _ _ _ _ _ _ _ R.out).mono ?_
                  rintro e w6 ⟨rfl, rfl⟩
                  go_wp2_with fail
                  refine (Held_any _ _).mono ?_
                  rintro e w6 ⟨rfl, rfl⟩
                  go_wp2_with fail
                  refine (duo_cells _ _ _ _ _ _ _ _ R.out).mono ?_
                  rintro e w6 ⟨rfl, rfl⟩
                  go_wp2_with fail
                  refine (duo_len _ _ _ _ _ _ _ _ R.out).mono ?_
                  rintro e w6 ⟨rfl, rfl⟩
                  go_wp2_with fail
                  refine (duo_cells _ _ _ _ _ _ _ _ R.out.swap).mono ?_
                  rintro e w6 ⟨rfl, rfl⟩
                  go_wp2_with fail
                  refine (duo_len _ _ _ _ _ _ _ _ R.out.swap).mono ?_
                  rintro e w6 ⟨rfl, rfl⟩
                  go_wp2_with fail
                  go_roundw
                  case rel => exact ⟨k + 1, _, _, by omega, by go_num, R.out⟩
                  case measure => simp [intOf]; omega
                · have t4 : (X k == 4) = false := by simp [h4]
                  clear h4
                  have hR := P.out.nonneg
                  have hl := P.out.lim
                  go_wp2_with fail
                  refine (duo_cells _ _ _ _ _ _ _ _ P.out).mono ?_
                  rintro e w6 ⟨rfl, rfl⟩
                  go_wp2_with fail
                  refine (duo_cells _ _ _ _ _ _ _ _ P.out.swap).mono ?_
                  rintro e w6 ⟨rfl, rfl⟩
                  go_wp2_with fail
                  refine (duo_used _ _ _ _ _ _ _ _ P.out).mono ?_
                  rintro e w6 ⟨rfl, rfl⟩
                  go_wp2_with fail
                  refine (Held_any _ _).mono ?_
                  rintro e w6 ⟨rfl, rfl⟩
                  go_wp2_with fail
                  refine (duo_cells _ _ _ _ _ _ _ _ P.out).mono ?_
                  rintro e w6 ⟨rfl, rfl⟩
                  go_wp2_with fail
                  refine (duo_len _ _ _ _ _ _ _ _ P.out).mono ?_
                  rintro e w6 ⟨rfl, rfl⟩
                  go_wp2_with fail
                  refine (duo_cells _ _ _ _ _ _ _ _ P.out.swap).mono ?_
                  rintro e w6 ⟨rfl, rfl⟩
                  go_wp2_with fail
                  refine (duo_len _ _ _ _ _ _ _ _ P.out.swap).mono ?_
                  rintro e w6 ⟨rfl, rfl⟩
                  go_wp2_with fail
                  go_roundw
                  case rel => exact ⟨k + 1, _, _, by omega, by go_num, P.out⟩
                  case measure => simp [intOf]; omega
          | false =>
            rw [hS] at d0
            clear hS
            by_cases h1 : X k = 1
            · have t1 : (X k == 1) = true := by simp [h1]
              clear h1
              go_wp2_with fail
              go_region_with (go_at_call 23; (with_reducible refine (duo_put _ _ _ _ _ _ _ _ (DuoI.drew (P.out)) (Z k) (Y k) rY).mono ?_); rintro e w5 ⟨pn, pc, L5, rfl, h5⟩; have R := Lib.hid (h5); clear h5)
              all_goals
                have hR := R.out.nonneg
                have hl := R.out.lim
                go_wp2_with fail
                refine (duo_cells _ _ _ _ _ _ _ _ R.out).mono ?_
                rintro e w6 ⟨rfl, rfl⟩
                go_wp2_with fail
                refine (duo_cells _ _ _ _ _ _ _ _ R.out.swap).mono ?_
                rintro e w6 ⟨rfl, rfl⟩
                go_wp2_with fail
                refine (duo_used _ _ _ _ _ _ _ _ R.out).mono ?_
                rintro e w6 ⟨rfl, rfl⟩
                go_wp2_with fail
                refine (Held_any _ _).mono ?_
                rintro e w6 ⟨rfl, rfl⟩
                go_wp2_with fail
                refine (duo_cells _ _ _ _ _ _ _ _ R.out).mono ?_
                rintro e w6 ⟨rfl, rfl⟩
                go_wp2_with fail
                refine (duo_len _ _ _ _ _ _ _ _ R.out).mono ?_
                rintro e w6 ⟨rfl, rfl⟩
                go_wp2_with fail
                refine (duo_cells _ _ _ _ _ _ _ _ R.out.swap).mono ?_
                rintro e w6 ⟨rfl, rfl⟩
                go_wp2_with fail
                refine (duo_len _ _ _ _ _ _ _ _ R.out.swap).mono ?_
                rintro e w6 ⟨rfl, rfl⟩
                go_wp2_with fail
                go_roundw
                case rel => exact ⟨k + 1, _, _, by omega, by go_num, R.out⟩
                case measure => simp [intOf]; omega
            · have t1 : (X k == 1) = false := by simp [h1]
              clear h1
              by_cases h3 : X k = 3
              · have t3 : (X k == 3) = true := by simp [h3]
                clear h3
                go_wp2_with fail
                go_region_with (go_at_call 24; (with_reducible refine (duo_set _ _ _ _ _ _ _ _ (DuoI.drew (P.out)) (Y k) (Z k)).mono ?_); rintro e w5 ⟨q, L5, rfl, h5⟩; have R := Lib.hid (h5); clear h5)
                all_goals
                  have hR := R.out.nonneg
                  have hl := R.out.lim
                  go_wp2_with fail
                  refine (duo_cells _ _ _ _ _ _ _ _ R.out).mono ?_
                  rintro e w6 ⟨rfl, rfl⟩
                  go_wp2_with fail
                  refine (duo_cells _ _ _ _ _ _ _ _ R.out.swap).mono ?_
                  rintro e w6 ⟨rfl, rfl⟩
                  go_wp2_with fail
                  refine (duo_used _ _ _ _ _ _ _ _ R.out).mono ?_
                  rintro e w6 ⟨rfl, rfl⟩
                  go_wp2_with fail
                  refine (Held_any _ _).mono ?_
                  rintro e w6 ⟨rfl, rfl⟩
                  go_wp2_with fail
                  refine (duo_cells _ _ _ _ _ _ _ _ R.out).mono ?_
                  rintro e w6 ⟨rfl, rfl⟩
                  go_wp2_with fail
                  refine (duo_len _ _ _ _ _ _ _ _ R.out).mono ?_
                  rintro e w6 ⟨rfl, rfl⟩
                  go_wp2_with fail
                  refine (duo_cells _ _ _ _ _ _ _ _ R.out.swap).mono ?_
                  rintro e w6 ⟨rfl, rfl⟩
                  go_wp2_with fail
                  refine (duo_len _ _ _ _ _ _ _ _ R.out.swap).mono ?_
                  rintro e w6 ⟨rfl, rfl⟩
                  go_wp2_with fail
                  go_roundw
                  case rel => exact ⟨k + 1, _, _, by omega, by go_num, R.out⟩
                  case measure => simp [intOf]; omega
              · have t3 : (X k == 3) = false := by simp [h3]
                clear h3
                by_cases h4 : X k = 4
                · have t4 : (X k == 4) = true := by simp [h4]
                  clear h4
                  go_wp2_with fail
                  refine (duo_cut _ _ _ _ _ _ _ _ (P.out) (Y k) rY).mono ?_
                  rintro e w5 ⟨q, L5, rfl, h5⟩
                  have R := Lib.hid (h5)
                  clear h5
                  have hR := R.out.nonneg
                  have hl := R.out.lim
                  go_wp2_with fail
                  refine (duo_cells _ _ _ _ _ _ _ _ R.out).mono ?_
                  rintro e w6 ⟨rfl, rfl⟩
                  go_wp2_with fail
                  refine (duo_cells _ _ _ _ _ _ _ _ R.out.swap).mono ?_
                  rintro e w6 ⟨rfl, rfl⟩
                  go_wp2_with fail
                  refine (duo_used _ _ _ _ _ _ _ _ R.out).mono ?_
                  rintro e w6 ⟨rfl, rfl⟩
                  go_wp2_with fail
                  refine (Held_any _ _).mono ?_
                  rintro e w6 ⟨rfl, rfl⟩
                  go_wp2_with fail
                  refine (duo_cells _ _ _ _ _ _ _ _ R.out).mono ?_
                  rintro e w6 ⟨rfl, rfl⟩
                  go_wp2_with fail
                  refine (duo_len _ _ _ _ _ _ _ _ R.out).mono ?_
                  rintro e w6 ⟨rfl, rfl⟩
                  go_wp2_with fail
                  refine (duo_cells _ _ _ _ _ _ _ _ R.out.swap).mono ?_
                  rintro e w6 ⟨rfl, rfl⟩
                  go_wp2_with fail
                  refine (duo_len _ _ _ _ _ _ _ _ R.out.swap).mono ?_
                  rintro e w6 ⟨rfl, rfl⟩
                  go_wp2_with fail
                  go_roundw
                  case rel => exact ⟨k + 1, _, _, by omega, by go_num, R.out⟩
                  case measure => simp [intOf]; omega
                · have t4 : (X k == 4) = false := by simp [h4]
                  clear h4
                  have hR := P.out.nonneg
                  have hl := P.out.lim
                  go_wp2_with fail
                  refine (duo_cells _ _ _ _ _ _ _ _ P.out).mono ?_
                  rintro e w6 ⟨rfl, rfl⟩
                  go_wp2_with fail
                  refine (duo_cells _ _ _ _ _ _ _ _ P.out.swap).mono ?_
                  rintro e w6 ⟨rfl, rfl⟩
                  go_wp2_with fail
                  refine (duo_used _ _ _ _ _ _ _ _ P.out).mono ?_
                  rintro e w6 ⟨rfl, rfl⟩
                  go_wp2_with fail
                  refine (Held_any _ _).mono ?_
                  rintro e w6 ⟨rfl, rfl⟩
                  go_wp2_with fail
                  refine (duo_cells _ _ _ _ _ _ _ _ P.out).mono ?_
                  rintro e w6 ⟨rfl, rfl⟩
                  go_wp2_with fail
                  refine (duo_len _ _ _ _ _ _ _ _ P.out).mono ?_
                  rintro e w6 ⟨rfl, rfl⟩
                  go_wp2_with fail
                  refine (duo_cells _ _ _ _ _ _ _ _ P.out.swap).mono ?_
                  rintro e w6 ⟨rfl, rfl⟩
                  go_wp2_with fail
                  refine (duo_len _ _ _ _ _ _ _ _ P.out.swap).mono ?_
                  rintro e w6 ⟨rfl, rfl⟩
                  go_wp2_with fail
                  go_roundw
                  case rel => exact ⟨k + 1, _, _, by omega, by go_num, P.out⟩
                  case measure => simp [intOf]; omega
        · have hwI : (n2 : Int) ≤ (k : Int) := by omega
          by_cases h1 : X k = 1
          · have t1 : (X k == 1) = true := by simp [h1]
            clear h1
            go_wp2_with fail
            go_region_with (go_at_call 23; (with_reducible refine (duo_put _ _ _ _ _ _ _ _ (DuoI.drew (P.out)) (Z k) (Y k) rY).mono ?_); rintro e w5 ⟨pn, pc, L5, rfl, h5⟩; have R := Lib.hid (h5); clear h5)
            all_goals
              have hR := R.out.nonneg
              have hl := R.out.lim
              go_wp2_with fail
              refine (duo_cells _ _ _ _ _ _ _ _ R.out).mono ?_
              rintro e w6 ⟨rfl, rfl⟩
              go_wp2_with fail
              refine (duo_cells _ _ _ _ _ _ _ _ R.out.swap).mono ?_
              rintro e w6 ⟨rfl, rfl⟩
              go_wp2_with fail
              refine (duo_used _ _ _ _ _ _ _ _ R.out).mono ?_
              rintro e w6 ⟨rfl, rfl⟩
              go_wp2_with fail
              refine (Held_any _ _).mono ?_
              rintro e w6 ⟨rfl, rfl⟩
              go_wp2_with fail
              refine (duo_cells _ _ _ _ _ _ _ _ R.out).mono ?_
              rintro e w6 ⟨rfl, rfl⟩
              go_wp2_with fail
              refine (duo_len _ _ _ _ _ _ _ _ R.out).mono ?_
              rintro e w6 ⟨rfl, rfl⟩
              go_wp2_with fail
              refine (duo_cells _ _ _ _ _ _ _ _ R.out.swap).mono ?_
              rintro e w6 ⟨rfl, rfl⟩
              go_wp2_with fail
              refine (duo_len _ _ _ _ _ _ _ _ R.out.swap).mono ?_
              rintro e w6 ⟨rfl, rfl⟩
              go_wp2_with fail
              go_roundw
              case rel => exact ⟨k + 1, _, _, by omega, by go_num, R.out⟩
              case measure => simp [intOf]; omega
          · have t1 : (X k == 1) = false := by simp [h1]
            clear h1
            by_cases h3 : X k = 3
            · have t3 : (X k == 3) = true := by simp [h3]
              clear h3
              go_wp2_with fail
              go_region_with (go_at_call 24; (with_reducible refine (duo_set _ _ _ _ _ _ _ _ (DuoI.drew (P.out)) (Y k) (Z k)).mono ?_); rintro e w5 ⟨q, L5, rfl, h5⟩; have R := Lib.hid (h5); clear h5)
              all_goals
                have hR := R.out.nonneg
                have hl := R.out.lim
                go_wp2_with fail
                refine (duo_cells _ _ _ _ _ _ _ _ R.out).mono ?_
                rintro e w6 ⟨rfl, rfl⟩
                go_wp2_with fail
                refine (duo_cells _ _ _ _ _ _ _ _ R.out.swap).mono ?_
                rintro e w6 ⟨rfl, rfl⟩
                go_wp2_with fail
                refine (duo_used _ _ _ _ _ _ _ _ R.out).mono ?_
                rintro e w6 ⟨rfl, rfl⟩
                go_wp2_with fail
                refine (Held_any _ _).mono ?_
                rintro e w6 ⟨rfl, rfl⟩
                go_wp2_with fail
                refine (duo_cells _ _ _ _ _ _ _ _ R.out).mono ?_
                rintro e w6 ⟨rfl, rfl⟩
                go_wp2_with fail
                refine (duo_len _ _ _ _ _ _ _ _ R.out).mono ?_
                rintro e w6 ⟨rfl, rfl⟩
                go_wp2_with fail
                refine (duo_cells _ _ _ _ _ _ _ _ R.out.swap).mono ?_
                rintro e w6 ⟨rfl, rfl⟩
                go_wp2_with fail
                refine (duo_len _ _ _ _ _ _ _ _ R.out.swap).mono ?_
                rintro e w6 ⟨rfl, rfl⟩
                go_wp2_with fail
                go_roundw
                case rel => exact ⟨k + 1, _, _, by omega, by go_num, R.out⟩
                case measure => simp [intOf]; omega
            · have t3 : (X k == 3) = false := by simp [h3]
              clear h3
              by_cases h4 : X k = 4
              · have t4 : (X k == 4) = true := by simp [h4]
                clear h4
                go_wp2_with fail
                refine (duo_cut _ _ _ _ _ _ _ _ (P.out) (Y k) rY).mono ?_
                rintro e w5 ⟨q, L5, rfl, h5⟩
                have R := Lib.hid (h5)
                clear h5
                have hR := R.out.nonneg
                have hl := R.out.lim
                go_wp2_with fail
                refine (duo_cells _ _ _ _ _ _ _ _ R.out).mono ?_
                rintro e w6 ⟨rfl, rfl⟩
                go_wp2_with fail
                refine (duo_cells _ _ _ _ _ _ _ _ R.out.swap).mono ?_
                rintro e w6 ⟨rfl, rfl⟩
                go_wp2_with fail
                refine (duo_used _ _ _ _ _ _ _ _ R.out).mono ?_
                rintro e w6 ⟨rfl, rfl⟩
                go_wp2_with fail
                refine (Held_any _ _).mono ?_
                rintro e w6 ⟨rfl, rfl⟩
                go_wp2_with fail
                refine (duo_cells _ _ _ _ _ _ _ _ R.out).mono ?_
                rintro e w6 ⟨rfl, rfl⟩
                go_wp2_with fail
                refine (duo_len _ _ _ _ _ _ _ _ R.out).mono ?_
                rintro e w6 ⟨rfl, rfl⟩
                go_wp2_with fail
                refine (duo_cells _ _ _ _ _ _ _ _ R.out.swap).mono ?_
                rintro e w6 ⟨rfl, rfl⟩
                go_wp2_with fail
                refine (duo_len _ _ _ _ _ _ _ _ R.out.swap).mono ?_
                rintro e w6 ⟨rfl, rfl⟩
                go_wp2_with fail
                go_roundw
                case rel => exact ⟨k + 1, _, _, by omega, by go_num, R.out⟩
                case measure => simp [intOf]; omega
              · have t4 : (X k == 4) = false := by simp [h4]
                clear h4
                have hR := P.out.nonneg
                have hl := P.out.lim
                go_wp2_with fail
                refine (duo_cells _ _ _ _ _ _ _ _ P.out).mono ?_
                rintro e w6 ⟨rfl, rfl⟩
                go_wp2_with fail
                refine (duo_cells _ _ _ _ _ _ _ _ P.out.swap).mono ?_
                rintro e w6 ⟨rfl, rfl⟩
                go_wp2_with fail
                refine (duo_used _ _ _ _ _ _ _ _ P.out).mono ?_
                rintro e w6 ⟨rfl, rfl⟩
                go_wp2_with fail
                refine (Held_any _ _).mono ?_
                rintro e w6 ⟨rfl, rfl⟩
                go_wp2_with fail
                refine (duo_cells _ _ _ _ _ _ _ _ P.out).mono ?_
                rintro e w6 ⟨rfl, rfl⟩
                go_wp2_with fail
                refine (duo_len _ _ _ _ _ _ _ _ P.out).mono ?_
                rintro e w6 ⟨rfl, rfl⟩
                go_wp2_with fail
                refine (duo_cells _ _ _ _ _ _ _ _ P.out.swap).mono ?_
                rintro e w6 ⟨rfl, rfl⟩
                go_wp2_with fail
                refine (duo_len _ _ _ _ _ _ _ _ P.out.swap).mono ?_
                rintro e w6 ⟨rfl, rfl⟩
                go_wp2_with fail
                go_roundw
                case rel => exact ⟨k + 1, _, _, by omega, by go_num, P.out⟩
                case measure => simp [intOf]; omega
      · obtain rfl : n = k := by omega
        go_wp2_with fail
        go_ret
        exact ⟨rfl, P.out.bel⟩

end Go.Proofs.Ytnmmffpcbneccaa
