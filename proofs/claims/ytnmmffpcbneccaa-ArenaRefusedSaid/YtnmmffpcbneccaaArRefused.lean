/-
  The walk over tronagelaw02.ArenaRefused.
-/
import Derived.Test.YtnmmffpcbneccaaAr5I
import Derived.Test.YtnmmffpcbneccaaArAw
import Derived.Test.YtnmmffpcbneccaaOps3
import Derived.StillTailTactics
import Derived.Deep.RegionWith
import Derived.BigRegion
namespace Go.Proofs.Ytnmmffpcbneccaa
open Go.RowKit
set_option linter.unusedVariables false

set_option maxRecDepth 100000 in
set_option maxHeartbeats 4000000 in
theorem refused_any (a : Int) (ba : -9223372036854775808 ≤ a ∧ a ≤ 9223372036854775807) (A : Option Addr) (n c : Nat) (X Y Z : Nat → Int) (w : World) (O : Ops3 w w.heap.size A n X Y Z) :
    Calls Try.prog 6 #[.int .i64 a, .slice A n c] w fun e w' => e = .returned (.bool true) ∧ Below w.heap.size w w' := by
  have HO := Lib.hid O
  clear O
  go_enter Try.func6, Try.ntmps6
  go_wp2_with fail
  refine (awake_any _).mono ?_
  rintro e w1 ⟨rfl, hb1⟩
  have HB1 := Lib.hid hb1
  clear hb1
  go_wp2_with fail
  refine (new_any a _).mono ?_
  rintro e w2 ⟨rfl, rfl⟩
  go_wp2_with fail
  refine (newI_any _ _).mono ?_
  rintro e w3 ⟨rfl, h2⟩
  have h := OneI.start HB1.out (hld_range a)
  rw [h2] at h
  have H3 := Lib.hid h
  clear h h2
  by_cases h40 : (100 : Int) < (n : Int)
  · go_wp2_with fail
    go_ret
    exact ⟨rfl, H3.out.bel⟩
  · have hn40 : n ≤ 100 := by omega
    go_wp2_with fail
    go_loopw [8] (fun i wr => ∃ (k : Nat) (L : List (Int × Int)), k ≤ n ∧ i = .int .i64 (k : Int) ∧ OneI w (w1.heap.size + 1) w1.heap.size wr (hld a) L) (fun i _ => n - (intOf i).toNat)
    case atStart => exact ⟨0, [], by omega, rfl, H3.out⟩
    case round =>
      obtain ⟨k, L, hk, rfl, hP⟩ := hrel
      have P := Lib.hid hP
      clear hP
      by_cases hlt : k < n
      · obtain ⟨b, o, rfl, hbo, c0, c1, c2⟩ := (HO.out.below P.out.bel).each k hlt
        have rY := HO.out.ry k hlt
        have hnn := P.out.nonneg
        have hll := P.out.lim
        go_wp2_with fail
        refine (oneI_len _ _ _ _ _ _ P.out).mono ?_
        rintro e w4 ⟨rfl, rfl⟩
        go_wp2_with fail
        refine (oneI_cells _ _ _ _ _ _ P.out).mono ?_
        rintro e w4 ⟨rfl, rfl⟩
        go_wp2_with fail
        refine (oneI_left _ _ _ _ _ _ P.out).mono ?_
        rintro e w4 ⟨rfl, nq, rfl⟩
        have P4 := Lib.hid (OneI.drewN _ _ _ _ _ _ P.out nq)
        have P5 := Lib.hid (OneI.drewN _ _ _ _ _ _ P.out (nq + 1))
        by_cases h1 : X k = 1
        · have t1 : (X k == 1) = true := by simp [h1]
          clear h1
          go_wp2_with fail
          go_region_with (go_at_call 23; (with_reducible refine (oneI_put_some _ _ _ _ _ _ P5.out (Z k) (Y k) rY).mono ?_); rintro e w5 ⟨pn, pc, L5, rfl, h5, hc5⟩; have d1 := (((HO.out.below h5.bel).each k hlt)); obtain ⟨b', o', hA', _, d0, d1, d2⟩ := d1; obtain ⟨rfl, rfl⟩ := same_addr hA'; clear hA'; have H5 := Lib.hid h5; have HC := Lib.hid hc5; clear h5 hc5)
          all_goals
            rcases HC.out with ⟨g1, rfl, rfl⟩ | ⟨g1, g2, rfl, rfl⟩ | ⟨g1, g2, rfl, rfl⟩
            · go_wp2_with fail
              refine (oneI_len _ _ _ _ _ _ H5.out).mono ?_
              rintro e w6 ⟨rfl, rfl⟩
              go_wp2_with fail
              refine (oneI_cells _ _ _ _ _ _ H5.out).mono ?_
              rintro e w6 ⟨rfl, rfl⟩
              go_wp2_with fail
              refine (oneI_left _ _ _ _ _ _ H5.out).mono ?_
              rintro e w6 ⟨rfl, nq2, rfl⟩
              go_wp2_with fail
              go_roundw
              case rel => exact ⟨k + 1, _, by omega, by go_num, OneI.drewN _ _ _ _ _ _ H5.out _⟩
              case measure => simp [intOf]; omega
            · go_wp2_with fail
              refine (oneI_len _ _ _ _ _ _ H5.out).mono ?_
              rintro e w6 ⟨rfl, rfl⟩
              go_wp2_with fail
              refine (oneI_cells _ _ _ _ _ _ H5.out).mono ?_
              rintro e w6 ⟨rfl, rfl⟩
              go_wp2_with fail
              refine (oneI_left _ _ _ _ _ _ H5.out).mono ?_
              rintro e w6 ⟨rfl, nq2, rfl⟩
              go_wp2_with fail
              go_roundw
              case rel => exact ⟨k + 1, _, by omega, by go_num, OneI.drewN _ _ _ _ _ _ H5.out _⟩
              case measure => simp [intOf]; omega
            · go_wp2_with fail
              go_roundw
              case rel => exact ⟨k + 1, _, by omega, by go_num, H5.out⟩
              case measure => simp [intOf]; omega
        · have t1 : (X k == 1) = false := by simp [h1]
          clear h1
          by_cases h3 : X k = 3
          · have t3 : (X k == 3) = true := by simp [h3]
            clear h3
            go_wp2_with fail
            go_region_with (go_at_call 24; (with_reducible refine (oneI_set_any _ _ _ _ _ _ P5.out (Y k) (Z k)).mono ?_); rintro e w5 ⟨rfl, h5⟩; have d1 := (((HO.out.below h5.bel).each k hlt)); obtain ⟨b', o', hA', _, d0, d1, d2⟩ := d1; obtain ⟨rfl, rfl⟩ := same_addr hA'; clear hA'; have H5 := Lib.hid h5; clear h5)
            all_goals
              by_cases g0 : Y k < 0
              · have hb : isIn L.length (Y k) = false := isIn_lo g0
                go_wp2_with fail
                refine (oneI_len _ _ _ _ _ _ H5.out).mono ?_
                rw [setL_length]
                rintro e w6 ⟨rfl, rfl⟩
                go_wp2_with fail
                refine (oneI_cells _ _ _ _ _ _ H5.out).mono ?_
                rw [setL_tot]
                rintro e w6 ⟨rfl, rfl⟩
                go_wp2_with fail
                refine (oneI_left _ _ _ _ _ _ H5.out).mono ?_
                rw [setL_tot]
                rintro e w6 ⟨rfl, nq2, rfl⟩
                go_wp2_with fail
                go_roundw
                case rel => exact ⟨k + 1, _, by omega, by go_num, OneI.drewN _ _ _ _ _ _ H5.out _⟩
                case measure => simp [intOf]; omega
              · by_cases g1 : Y k < (L.length : Int)
                · have hb : isIn L.length (Y k) = true := isIn_t (by omega) g1
                  go_wp2_with fail
                  go_roundw
                  case rel => exact ⟨k + 1, _, by omega, by go_num, H5.out⟩
                  case measure => simp [intOf]; omega
                · have hb : isIn L.length (Y k) = false := isIn_hi (by omega)
                  have hge : (L.length : Int) ≤ Y k := by omega
                  clear g1
                  go_wp2_with fail
                  refine (oneI_len _ _ _ _ _ _ H5.out).mono ?_
                  rw [setL_length]
                  rintro e w6 ⟨rfl, rfl⟩
                  go_wp2_with fail
                  refine (oneI_cells _ _ _ _ _ _ H5.out).mono ?_
                  rw [setL_tot]
                  rintro e w6 ⟨rfl, rfl⟩
                  go_wp2_with fail
                  refine (oneI_left _ _ _ _ _ _ H5.out).mono ?_
                  rw [setL_tot]
                  rintro e w6 ⟨rfl, nq2, rfl⟩
                  go_wp2_with fail
                  go_roundw
                  case rel => exact ⟨k + 1, _, by omega, by go_num, OneI.drewN _ _ _ _ _ _ H5.out _⟩
                  case measure => simp [intOf]; omega
          · have t3 : (X k == 3) = false := by simp [h3]
            clear h3
            by_cases h4 : X k = 4
            · have t4 : (X k == 4) = true := by simp [h4]
              clear h4
              go_wp2_with fail
              refine (oneI_cut_some _ _ _ _ _ _ P4.out (Y k) rY).mono ?_
              rintro e w5 ⟨q, L5, rfl, h5⟩
              have H5 := Lib.hid h5
              clear h5
              go_wp2_with fail
              go_roundw
              case rel => exact ⟨k + 1, _, by omega, by go_num, H5.out⟩
              case measure => simp [intOf]; omega
            · have t4 : (X k == 4) = false := by simp [h4]
              clear h4
              go_wp2_with fail
              go_roundw
              case rel => exact ⟨k + 1, _, by omega, by go_num, P4.out⟩
              case measure => simp [intOf]; omega
      · obtain rfl : n = k := by omega
        go_wp2_with fail
        go_ret
        exact ⟨rfl, P.out.bel⟩

end Go.Proofs.Ytnmmffpcbneccaa
