/-
  The walk of LexerPlaces: tronageref05's At, Name, Texts; lexer's Name.
-/
import Derived.Test.YthmkhbinnglemaaDoorLwA
namespace Go.Proofs.YthmkhbinnglemaaDoor
open Go.RowKit
open Lx
set_option linter.unusedVariables false
set_option linter.unusedSimpArgs false

theorem rAt_any (s : ByteArray) (i : Int) (w : World) (hi : -9223372036854775808 ≤ i ∧ i ≤ 9223372036854775807) (hs : s.size ≤ 4611686018427387904) :
    Calls Tryd.prog 9 #[.string s, .int .i64 i] w fun e w' => e = .returned (.agg #[.int .i64 ((pos (bl s) (min (max i 0).toNat s.size)).1 : Int), .int .i64 ((pos (bl s) (min (max i 0).toNat s.size)).2 : Int)]) ∧ Below w.heap.size w w' := by
  obtain ⟨K, hK⟩ : ∃ K : Nat, K = min (max i 0).toNat s.size := ⟨_, rfl⟩
  rw [← hK]
  have hK1 : K ≤ s.size := by omega
  have hkk : max (0 : Int) (min i (s.size : Int)) = (K : Int) := by omega
  have HKK := Lib.hid hkk
  clear hkk hK
  go_enter Tryd.func9, Tryd.ntmps9
  go_wp2_with fail
  rw [HKK.out]
  go_loopw [7] (fun n wr => ∃ (k a b : Nat), k ≤ K ∧ n = .int .i64 (k : Int) ∧ pos (bl s) k = (a, b) ∧ wr = (w.alloc (.cells #[.int .i64 0, .int .i64 0] 31)).alloc (.cells #[.int .i64 (a : Int), .int .i64 (b : Int)] 31)) (fun n _ => K - (intOf n).toNat)
  case atStart => exact ⟨0, 1, 1, by omega, rfl, rfl, rfl⟩
  case round =>
    obtain ⟨k, a, b, hk, rfl, ha, rfl⟩ := hrel
    have HA := Lib.hid ha
    have hb := pos_le (bl s) k
    rw [ha, bl_length] at hb
    simp only at hb
    obtain ⟨p1, p2, p3, p4⟩ := hb
    clear ha
    by_cases hlt : k < K
    · have hlt2 : k < s.size := by omega
      have HT := Lib.hid (bl_take s k hlt2)
      by_cases hc : s[k] = 10
      · have HC := Lib.hid hc
        have c1 : ((s[k].toNat : Int) == 10) = true := u8_is hc
        clear hc
        go_wp2_with fail
        go_roundw
        case rel => exact ⟨k + 1, a + 1, 1, by omega, by go_num, by unfold pos; rw [HT.out, adv_append]; show adv (pos (bl s) k) _ = _; rw [HA.out, adv_one, if_pos HC.out], by first | rfl | (simp; done)⟩
        case measure => simp [intOf]; omega
      · have HC := Lib.hid hc
        have c1 : ((s[k].toNat : Int) == 10) = false := u8_ne hc
        clear hc
        go_wp2_with fail
        go_roundw
        case rel => exact ⟨k + 1, a, b + 1, by omega, by go_num, by unfold pos; rw [HT.out, adv_append]; show adv (pos (bl s) k) _ = _; rw [HA.out, adv_one, if_neg HC.out], by first | rfl | (simp; done)⟩
        case measure => simp [intOf]; omega
    · obtain rfl : K = k := by omega
      go_wp2_with fail
      rw [HA.out]
      exact bodyPost_ret (v := .agg #[.int .i64 (a : Int), .int .i64 (b : Int)]) (by simp [results, Tryd.results9, go_sem]) rfl ⟨rfl, ((Below.refl _ _).alloc (Nat.le_refl _) _).alloc (by simp) _⟩

/-- Is all of it one name? -/
def nameB (l : List UInt8) : Bool := !l.isEmpty && decide ((nameOf l).length = l.length)



theorem texts_any (b1 b2 : Nat) (w : World) (h1 : WordsAt w b1) (h2 : WordsAt w b2) :
    Calls Tryd.prog 15 #[.slice (some ⟨b1, 0, none⟩) 8 8, .slice (some ⟨b2, 0, none⟩) 8 8] w fun e w' => e = .returned (.bool true) ∧ ∃ n, w' = w.drewN n := by
  have H1 := Lib.hid h1
  have H2 := Lib.hid h2
  clear h1 h2
  go_enter Tryd.func15, Tryd.ntmps15
  go_wp2_with fail
  go_loopw [5] (fun i wr => ∃ (k n : Nat), k ≤ 8 ∧ i = .int .i64 (k : Int) ∧ wr = w.drewN n) (fun i _ => 8 - (intOf i).toNat)
  case atStart => exact ⟨0, 0, by omega, rfl, rfl⟩
  case round =>
    obtain ⟨k, n, hk, rfl, rfl⟩ := hrel
    by_cases hlt : k < 8
    · have cc := H1.out.cell hlt
      have dd := H2.out.cell hlt
      have t1 : ((str (wordAt k)).toList == (str (wordAt k)).toList) = true := by simp
      have t2 : ((str (wordAt k)).toList != (str (wordAt k)).toList) = false := by simp
      have hki : (k : Int) < 8 := by omega
      have hk0 : (0 : Int) ≤ (k : Int) := by omega
      go_wp2_with fail
      go_quiet (fail)
      go_wp2_with fail
      go_roundw
      case rel => exact ⟨k + 1, _, by omega, by go_num, rfl⟩
      case measure => simp [intOf]; omega
    · obtain rfl : k = 8 := by omega
      go_wp2_with fail
      go_ret
      exact ⟨rfl, n, rfl⟩

end Go.Proofs.YthmkhbinnglemaaDoor
