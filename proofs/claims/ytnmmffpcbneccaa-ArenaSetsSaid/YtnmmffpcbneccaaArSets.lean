/-
  The walk over tronagelaw02.ArenaSets.
-/
import Derived.Test.YtnmmffpcbneccaaAr5I
import Derived.Test.YtnmmffpcbneccaaArAw
import Derived.Test.YtnmmffpcbneccaaOps
namespace Go.Proofs.Ytnmmffpcbneccaa
open Go.RowKit
set_option linter.unusedVariables false

/-- The first k of a list of numbers, at two cells each. -/
def twos (X : Nat → Int) : Nat → List (Int × Int)
  | 0 => []
  | k + 1 => twos X k ++ [(X k, 2)]
theorem twos_length (X : Nat → Int) : ∀ k, (twos X k).length = k
  | 0 => rfl
  | k + 1 => by simp [twos, twos_length X k]
theorem twos_tot (X : Nat → Int) : ∀ k, tot (twos X k) = 2 * (k : Int)
  | 0 => rfl
  | k + 1 => by rw [twos, tot_append, twos_tot X k, tot_one]; simp only []; omega
theorem twos_get (X : Nat → Int) : ∀ k i, i < k → (twos X k)[i]? = some (X i, 2)
  | 0, i, h => by omega
  | k + 1, i, h => by
    rw [twos]
    by_cases hi : i < k
    · rw [List.getElem?_append_left (by rw [twos_length]; exact hi)]; exact twos_get X k i hi
    · obtain rfl : i = k := by omega
      rw [List.getElem?_append_right (by rw [twos_length]; omega), twos_length, Nat.sub_self]; rfl

set_option maxRecDepth 100000 in
set_option maxHeartbeats 1600000 in
theorem sets_any (A : Option Addr) (n c : Nat) (X : Nat → Int) (a : Int) (ba : -9223372036854775808 ≤ a ∧ a ≤ 9223372036854775807) (x : Int) (bx : -9223372036854775808 ≤ x ∧ x ≤ 9223372036854775807) (w : World) (O : Nums w w.heap.size A n X) :
    Calls Try.prog 8 #[.slice A n c, .int .i64 a, .int .i64 x] w fun e w' => e = .returned (.bool true) ∧ Below w.heap.size w w' := by
  have HO := Lib.hid O
  clear O
  go_enter Try.func8, Try.ntmps8
  go_wp2_with fail
  refine (awake_any _).mono ?_
  rintro e w1 ⟨rfl, hb1⟩
  have HB1 := Lib.hid hb1
  clear hb1
  go_wp2_with fail
  refine (new_any 1000 _).mono ?_
  rw [hld_in (by omega) (by omega)]
  rintro e w2 ⟨rfl, rfl⟩
  go_wp2_with fail
  refine (newI_any _ _).mono ?_
  rintro e w3 ⟨rfl, h2⟩
  have h := OneI.start HB1.out (l := 1000) (by omega)
  rw [h2] at h
  have H3 := Lib.hid h
  clear h h2
  by_cases h40 : (40 : Int) < (n : Int)
  · go_wp2_with fail
    go_ret
    exact ⟨rfl, H3.out.bel⟩
  · have hn40 : n ≤ 40 := by omega
    go_wp2_with fail
    go_loopw [10] (fun i wr => ∃ k : Nat, k ≤ n ∧ i = .int .i64 (k : Int) ∧ OneI w (w1.heap.size + 1) w1.heap.size wr 1000 (twos X k)) (fun i _ => n - (intOf i).toNat)
    case atStart => exact ⟨0, by omega, rfl, H3.out⟩
    case round =>
      obtain ⟨k, hk, rfl, hP⟩ := hrel
      have P := Lib.hid hP
      clear hP
      by_cases hlt : k < n
      · obtain ⟨b, o, rfl, hbo, c0⟩ := (HO.out.below P.out.bel).each k hlt
        go_wp2_with fail
        refine (oneI_put_ok _ _ _ _ _ _ P.out (X k) 2 k (by omega) (by rw [twos_tot]; omega) (by rw [twos_length])).mono ?_
        rintro e w4 ⟨rfl, h4⟩
        have H4 := Lib.hid h4
        clear h4 c0
        go_wp2_with fail
        go_roundw
        case rel => exact ⟨k + 1, by omega, by go_num, H4.out⟩
        case measure => simp [intOf]; omega
      · obtain rfl : n = k := by omega
        go_wp2_with fail
        refine (oneI_cells _ _ _ _ _ _ P.out).mono ?_
        rintro e w4 ⟨rfl, rfl⟩
        rw [twos_tot]
        go_wp2_with fail
        refine (oneI_set_any _ _ _ _ _ _ P.out a x).mono ?_
        rw [twos_length]
        rintro e w4 ⟨rfl, h4⟩
        have H4 := Lib.hid h4
        clear h4
        have ht4 : tot (setL (twos X n) a x) = 2 * (n : Int) := by rw [setL_tot, twos_tot]
        have HT4 := Lib.hid ht4
        clear ht4
        go_wp2_with fail
        go_loopw [13] (fun i wr => ∃ j : Nat, j ≤ n ∧ i = .int .i64 (j : Int) ∧ wr = w4) (fun i _ => n - (intOf i).toNat)
        case atStart => exact ⟨0, by omega, rfl, rfl⟩
        case round =>
          obtain ⟨j, hj, rfl, rfl⟩ := hrel
          by_cases hlt2 : j < n
          · have hg := Lib.hid (setL_get a x (twos_get X n j hlt2))
            obtain ⟨b, o, rfl, hbo, c0⟩ := (HO.out.below H4.out.bel).each j hlt2
            by_cases hja : (j : Int) = a
            · have hg2 := hg.out
              rw [if_pos hja] at hg2
              have HG := Lib.hid hg2
              have hje : ((j : Int) == a) = true := by simp [hja]
              clear hg2 hg hja
              go_wp2_with fail
              refine (oneI_at _ _ _ _ _ _ H4.out j j rfl _ HG.out).mono ?_
              rintro e w5 ⟨rfl, rfl⟩
              go_wp2_with fail
              go_roundw
              case rel => exact ⟨j + 1, by omega, by go_num, trivial⟩
              case measure => simp [intOf]; omega
            · have hg2 := hg.out
              rw [if_neg hja] at hg2
              have HG := Lib.hid hg2
              have hje : ((j : Int) == a) = false := by simp [hja]
              clear hg2 hg hja
              go_wp2_with fail
              refine (oneI_at _ _ _ _ _ _ H4.out j j rfl _ HG.out).mono ?_
              rintro e w5 ⟨rfl, rfl⟩
              go_wp2_with fail
              go_roundw
              case rel => exact ⟨j + 1, by omega, by go_num, trivial⟩
              case measure => simp [intOf]; omega
          · obtain rfl : n = j := by omega
            by_cases ha0 : a < 0
            · have hb : isIn n a = false := isIn_lo ha0
              go_wp2_with fail
              refine (oneI_cells _ _ _ _ _ _ H4.out).mono ?_
              rintro e w5 ⟨rfl, rfl⟩
              rw [HT4.out]
              go_wp2_with fail
              go_ret
              exact ⟨rfl, H4.out.bel⟩
            · by_cases ha1 : a < (n : Int)
              · have hb : isIn n a = true := isIn_t (by omega) ha1
                go_wp2_with fail
                refine (oneI_cells _ _ _ _ _ _ H4.out).mono ?_
                rintro e w5 ⟨rfl, rfl⟩
                rw [HT4.out]
                go_wp2_with fail
                go_ret
                exact ⟨rfl, H4.out.bel⟩
              · have hb : isIn n a = false := isIn_hi (by omega)
                go_wp2_with fail
                refine (oneI_cells _ _ _ _ _ _ H4.out).mono ?_
                rintro e w5 ⟨rfl, rfl⟩
                rw [HT4.out]
                go_wp2_with fail
                go_ret
                exact ⟨rfl, H4.out.bel⟩

end Go.Proofs.Ytnmmffpcbneccaa
