/-
  The walk over tronagelaw02.ArenaHolds.
-/
import Derived.Test.YtnmmffpcbneccaaAr5S
import Derived.Test.YtnmmffpcbneccaaArAw
import Derived.Test.YtnmmffpcbneccaaOps3
namespace Go.Proofs.Ytnmmffpcbneccaa
open Go.RowKit
set_option linter.unusedVariables false

/-- The first k texts, the one of number i at i + 1 cells. -/
def ups (S : Nat → ByteArray) : Nat → List (ByteArray × Int)
  | 0 => []
  | k + 1 => ups S k ++ [(S k, (k : Int) + 1)]
theorem ups_length (S : Nat → ByteArray) : ∀ k, (ups S k).length = k
  | 0 => rfl
  | k + 1 => by simp [ups, ups_length S k]
theorem ups_tot (S : Nat → ByteArray) : ∀ k, 2 * tot (ups S k) = (k : Int) * ((k : Int) + 1)
  | 0 => rfl
  | k + 1 => by
    have ih := ups_tot S k
    rw [ups, tot_append, tot_one, Int.mul_add, ih]
    simp only [Int.natCast_add, Int.natCast_one, Int.add_mul, Int.mul_add, Int.mul_one, Int.one_mul]
    omega
theorem ups_le (S : Nat → ByteArray) (k : Nat) (h : k < 40) : (k : Int) + 1 ≤ 1000 - tot (ups S k) := by
  have h1 := ups_tot S k
  have h2 : (k : Int) * ((k : Int) + 1) ≤ 39 * 40 := Int.mul_le_mul (by omega) (by omega) (by omega) (by omega)
  omega
theorem ups_get (S : Nat → ByteArray) : ∀ k i, i < k → (ups S k)[i]? = some (S i, (i : Int) + 1)
  | 0, i, h => by omega
  | k + 1, i, h => by
    rw [ups]
    by_cases hi : i < k
    · rw [List.getElem?_append_left (by rw [ups_length]; exact hi)]; exact ups_get S k i hi
    · obtain rfl : i = k := by omega
      rw [List.getElem?_append_right (by rw [ups_length]; omega), ups_length, Nat.sub_self]; rfl

set_option maxRecDepth 100000 in
set_option maxHeartbeats 4000000 in
theorem holds_any (A : Option Addr) (n c : Nat) (S : Nat → ByteArray) (a : Int) (ba : -9223372036854775808 ≤ a ∧ a ≤ 9223372036854775807) (w : World) (O : Strs w w.heap.size A n S) :
    Calls Try.prog 4 #[.slice A n c, .int .i64 a] w fun e w' => e = .returned (.bool true) ∧ Below w.heap.size w w' := by
  have HO := Lib.hid O
  clear O
  go_enter Try.func4, Try.ntmps4
  go_wp2_with fail
  refine (awake_any _).mono ?_
  rintro e w1 ⟨rfl, hb1⟩
  have HB1 := Lib.hid hb1
  clear hb1
  go_wp2_with fail
  refine (new_any 1000 _).mono ?_
  rw [hld_in (by omega) (by omega)]
  rintro e w2 ⟨rfl, rfl⟩
  go_wp2_with fail
  refine (newS_any _ _).mono ?_
  rintro e w3 ⟨rfl, h2⟩
  have h := OneS.start HB1.out (l := 1000) (by omega)
  rw [h2] at h
  have H3 := Lib.hid h
  clear h h2
  by_cases h40 : (40 : Int) < (n : Int)
  · go_wp2_with fail
    go_ret
    exact ⟨rfl, H3.out.bel⟩
  · have hn40 : n ≤ 40 := by omega
    go_wp2_with fail
    go_loopw [8] (fun i wr => ∃ k : Nat, k ≤ n ∧ i = .int .i64 (k : Int) ∧ OneS w (w1.heap.size + 1) w1.heap.size wr 1000 (ups S k)) (fun i _ => n - (intOf i).toNat)
    case atStart => exact ⟨0, by omega, rfl, H3.out⟩
    case round =>
      obtain ⟨k, hk, rfl, hP⟩ := hrel
      have P := Lib.hid hP
      clear hP
      by_cases hlt : k < n
      · obtain ⟨b, o, rfl, hbo, c0⟩ := (HO.out.below P.out.bel).ones.each k hlt
        go_wp2_with fail
        refine (oneS_put_ok _ _ _ _ _ _ P.out (S k) ((k : Int) + 1) k (by omega) (ups_le S k (by omega)) (by rw [ups_length])).mono ?_
        rintro e w4 ⟨rfl, h4⟩
        have H4 := Lib.hid h4
        clear h4 c0
        go_wp2_with fail
        go_roundw
        case rel => exact ⟨k + 1, by omega, by go_num, H4.out⟩
        case measure => simp [intOf]; omega
      · obtain rfl : n = k := by omega
        go_wp2_with fail
        go_loopw [11] (fun i w4 => ∃ j : Nat, j ≤ n ∧ i = .int .i64 (j : Int) ∧ w4 = wr) (fun i _ => n - (intOf i).toNat)
        case atStart => exact ⟨0, by omega, rfl, rfl⟩
        case round =>
          obtain ⟨j, hj, rfl, rfl⟩ := hrel
          by_cases hlt2 : j < n
          · obtain ⟨b, o, rfl, hbo, c0⟩ := (HO.out.below P.out.bel).ones.each j hlt2
            go_wp2_with fail
            refine (oneS_at _ _ _ _ _ _ P.out j j rfl _ (ups_get S n j hlt2)).mono ?_
            rintro e w5 ⟨rfl, rfl⟩
            go_wp2_with fail
            go_roundw
            case rel => exact ⟨j + 1, by omega, by go_num, trivial⟩
            case measure => simp [intOf]; omega
          · obtain rfl : n = j := by omega
            obtain ⟨q, hq⟩ : ∃ q, q = cutAt a n := ⟨_, rfl⟩
            have hql : q ≤ n := hq ▸ cutAt_le a n
            have hqm : max (0 : Int) (min a (n : Int)) = (q : Int) := by rw [hq]; unfold cutAt; omega
            have HQ := Lib.hid hq
            clear hq
            go_wp2_with fail
            refine (oneS_cut _ _ _ _ _ _ P.out a ba q _ (by rw [ups_length]; exact HQ.out) rfl).mono ?_
            rintro e w4 ⟨rfl, h4⟩
            have H4 := Lib.hid h4
            have hlen : ((ups S n).take q).length = q := by rw [List.length_take, ups_length]; omega
            have HL := Lib.hid hlen
            clear h4 hlen
            go_wp2_with fail
            go_loopw [15] (fun i w5 => ∃ j : Nat, j ≤ n ∧ i = .int .i64 (j : Int) ∧ w5 = w4) (fun i _ => n - (intOf i).toNat)
            case atStart => exact ⟨0, by omega, rfl, rfl⟩
            case round =>
              obtain ⟨j, hj, rfl, rfl⟩ := hrel
              by_cases hlt2 : j < n
              · obtain ⟨b, o, rfl, hbo, c0⟩ := (HO.out.below H4.out.bel).ones.each j hlt2
                by_cases hjq : j < q
                · have hjI : (j : Int) < (q : Int) := by omega
                  go_wp2_with fail
                  refine (oneS_at _ _ _ _ _ _ H4.out j j rfl _ (by rw [List.getElem?_take, if_pos hjq]; exact ups_get S n j hlt2)).mono ?_
                  rintro e w5 ⟨rfl, rfl⟩
                  go_wp2_with fail
                  go_roundw
                  case rel => exact ⟨j + 1, by omega, by go_num, trivial⟩
                  case measure => simp [intOf]; omega
                · have hjI : (q : Int) ≤ (j : Int) := by omega
                  have hji : isIn ((ups S n).take q).length (j : Int) = false := by rw [HL.out]; exact isIn_hi hjI
                  have HJ := Lib.hid hji
                  clear hji
                  go_wp2_with fail
                  refine (oneS_at_no _ _ _ _ _ _ H4.out j HJ.out).mono ?_
                  rintro e w5 ⟨rfl, rfl⟩
                  go_wp2_with fail
                  go_roundw
                  case rel => exact ⟨j + 1, by omega, by go_num, trivial⟩
                  case measure => simp [intOf]; omega
              · obtain rfl : n = j := by omega
                go_wp2_with fail
                refine (oneS_len _ _ _ _ _ _ H4.out).mono ?_
                rw [HL.out]
                rintro e w5 ⟨rfl, rfl⟩
                go_wp2_with fail
                go_ret
                exact ⟨rfl, H4.out.bel⟩

end Go.Proofs.Ytnmmffpcbneccaa
