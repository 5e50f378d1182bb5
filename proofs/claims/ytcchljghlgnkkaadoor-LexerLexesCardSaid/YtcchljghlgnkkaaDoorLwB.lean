/-
  The walk of LexerPlaces: tronageref05's At, Name, Texts; lexer's Name.
-/
import Derived.Test.YtcchljghlgnkkaaDoorLwA
namespace Go.Proofs.YtcchljghlgnkkaaDoor
open Go.RowKit
open Lx
set_option linter.unusedVariables false
set_option linter.unusedSimpArgs false

theorem rAt_any (s : ByteArray) (i : Int) (w : World) (hi : -9223372036854775808 ≤ i ∧ i ≤ 9223372036854775807) (hs : s.size ≤ 4611686018427387904) :
    Calls Tryd.prog 16 #[.string s, .int .i64 i] w fun e w' => e = .returned (.agg #[.int .i64 ((pos (bl s) (min (max i 0).toNat s.size)).1 : Int), .int .i64 ((pos (bl s) (min (max i 0).toNat s.size)).2 : Int)]) ∧ Below w.heap.size w w' := by
  obtain ⟨K, hK⟩ : ∃ K : Nat, K = min (max i 0).toNat s.size := ⟨_, rfl⟩
  rw [← hK]
  have hK1 : K ≤ s.size := by omega
  have hkk : max (0 : Int) (min i (s.size : Int)) = (K : Int) := by omega
  have HKK := Lib.hid hkk
  clear hkk hK
  go_enter Tryd.func16, Tryd.ntmps16
  go_wp2_with fail
  rw [HKK.out]
  go_loopw [7] (fun n wr => ∃ (k a b : Nat), k ≤ K ∧ n = .int .i64 (k : Int) ∧ pos (bl s) k = (a, b) ∧ wr = (w.alloc (.cells #[.int .i64 0, .int .i64 0] 26)).alloc (.cells #[.int .i64 (a : Int), .int .i64 (b : Int)] 26)) (fun n _ => K - (intOf n).toNat)
  case atStart => exact ⟨0, 1, 1, by omega, rfl, rfl, rfl⟩
  case round =>
    obtain ⟨k, a, b, hk, rfl, ha, rfl⟩ := hrel
    have HA := Lib.hid ha
    have hb := pos_le (bl s) k
    rw [ha, bl_length] at hb
    simp only at hb
    obtain ⟨p1, p2, p3, p4⟩ := hb
    clear ha
    by_cases hlt : k < K
    · have hlt2 : k < s.size := by omega
      have HT := Lib.hid (bl_take s k hlt2)
      by_cases hc : s[k] = 10
      · have HC := Lib.hid hc
        have c1 : ((s[k].toNat : Int) == 10) = true := u8_is hc
        clear hc
        go_wp2_with fail
        go_roundw
        case rel => exact ⟨k + 1, a + 1, 1, by omega, by go_num, by unfold pos; rw [HT.out, adv_append]; show adv (pos (bl s) k) _ = _; rw [HA.out, adv_one, if_pos HC.out], by first | rfl | (simp; done)⟩
        case measure => simp [intOf]; omega
      · have HC := Lib.hid hc
        have c1 : ((s[k].toNat : Int) == 10) = false := u8_ne hc
        clear hc
        go_wp2_with fail
        go_roundw
        case rel => exact ⟨k + 1, a, b + 1, by omega, by go_num, by unfold pos; rw [HT.out, adv_append]; show adv (pos (bl s) k) _ = _; rw [HA.out, adv_one, if_neg HC.out], by first | rfl | (simp; done)⟩
        case measure => simp [intOf]; omega
    · obtain rfl : K = k := by omega
      go_wp2_with fail
      rw [HA.out]
      exact bodyPost_ret (v := .agg #[.int .i64 (a : Int), .int .i64 (b : Int)]) (by simp [results, Tryd.results16, go_sem]) rfl ⟨rfl, ((Below.refl _ _).alloc (Nat.le_refl _) _).alloc (by simp) _⟩

/-- Is all of it one name? -/
def nameB (l : List UInt8) : Bool := !l.isEmpty && decide ((nameOf l).length = l.length)

theorem name_any (s : ByteArray) (w : World) (hs : s.size ≤ 9223372036854775807) :
    Calls Tryd.prog 15 #[.string s] w fun e w' => e = .returned (.bool (nameB (bl s))) ∧ w = w' := by
  have hn : (nameOf (bl s)).length ≤ s.size := by have := nameOf_le (bl s); rwa [bl_length] at this
  have hnb : nameB (bl s) = (!s.toList.isEmpty && decide ((nameOf (bl s)).length = s.size)) := by unfold nameB; rw [toList_eq, bl_length]
  have HNB := Lib.hid hnb
  obtain ⟨N, hN⟩ : ∃ N, (nameOf (bl s)).length = N := ⟨_, rfl⟩
  rw [hN] at hn
  have HN := Lib.hid hN
  clear hnb hN
  go_enter Tryd.func15, Tryd.ntmps15
  cases he : s.toList.isEmpty with
  | true =>
    have HE := Lib.hid he
    go_wp2_with fail
    go_ret
    exact ⟨by rw [HNB.out, HE.out]; rfl, rfl⟩
  | false =>
    have HE := Lib.hid he
    go_wp2_with (go_at_call 27; refine (nameSize_any s _ hs).mono ?_; rw [HN.out]; rintro e w' ⟨rfl, rfl⟩)
    go_ret
    refine ⟨?_, rfl⟩
    rw [HNB.out, HE.out, HN.out]
    by_cases h : N = s.size
    · simp [h]
    · have : ((N : Int) == (s.size : Int)) = false := by rw [beq_eq_false_iff_ne]; omega
      simp [h, this]

theorem rName_any (s : ByteArray) (w : World) (hs : s.size ≤ 9223372036854775807) :
    Calls Tryd.prog 17 #[.string s] w fun e w' => e = .returned (.bool (nameB (bl s))) ∧ w = w' := by
  have hnb : nameB (bl s) = (!s.toList.isEmpty && decide ((nameOf (bl s)).length = s.size)) := by unfold nameB; rw [toList_eq, bl_length]
  have HNB := Lib.hid hnb
  clear hnb
  go_enter Tryd.func17, Tryd.ntmps17
  go_wp2_with fail
  go_loop [3] (fun i => ∃ k : Nat, k ≤ s.size ∧ i = .int .i64 (k : Int) ∧ (nameOf (bl s)).length = k + (if k = 0 then nameOf (bl s) else ((bl s).drop k).takeWhile isName).length) (fun i => s.size - (intOf i).toNat)
  case atStart => exact ⟨0, by omega, rfl, by simp⟩
  case round =>
    obtain ⟨k, hk, rfl, hn⟩ := hrel
    have HN := Lib.hid hn
    clear hn
    by_cases hlt : k < s.size
    · have HD := Lib.hid (bl_drop s k hlt)
      by_cases hl : isLetter s[k] = true
      · go_wp2_with (go_at_call 28; refine (letter2_any _ _).mono ?_; rintro e w' ⟨rfl, rfl⟩)
        go_round
        case rel =>
          refine ⟨k + 1, by omega, by go_num, ?_⟩
          rw [HN.out]
          by_cases h0 : k = 0
          · subst h0
            have e := HD.out
            simp only [List.drop_zero] at e
            rw [if_pos rfl, if_neg (by omega), e, name_cons, if_pos hl, List.takeWhile_cons_of_pos (letter_name hl)]
            simp; omega
          · rw [if_neg h0, if_neg (by omega), HD.out, List.takeWhile_cons_of_pos (letter_name hl)]
            simp; omega
        case measure => simp [intOf]; omega
      · have hl : isLetter s[k] = false := by simpa using hl
        by_cases h0 : k = 0
        · have hn : (nameOf (bl s)).length = k := by
            rw [HN.out, if_pos h0]
            subst h0
            have e := HD.out
            simp only [List.drop_zero] at e
            rw [e, name_cons, hl]; rfl
          have H := Lib.hid hn
          have hg : ((k : Int) == 0) = true := by rw [h0]; rfl
          have hg2 : (k == 0) = true := by rw [h0]; rfl
          clear hn h0
          go_wp2_with (go_at_call 28; refine (letter2_any _ _).mono ?_; rintro e w' ⟨rfl, rfl⟩)
          go_ret
          refine ⟨?_, rfl⟩
          rw [HNB.out, H.out, decide_eq_false (by omega), Bool.and_false]; rfl
        · have hg : ((k : Int) == 0) = false := by rw [beq_eq_false_iff_ne]; omega
          have hg2 : (k == 0) = false := by rw [beq_eq_false_iff_ne]; omega
          by_cases hd : isDigit s[k] = true
          · have H0 := Lib.hid h0
            clear h0
            go_wp2_with (first | (go_at_call 28; refine (letter2_any _ _).mono ?_; rintro e w' ⟨rfl, rfl⟩) | (go_at_call 29; refine (digit2_any _ _).mono ?_; rintro e w' ⟨rfl, rfl⟩))
            go_round
            case rel =>
              refine ⟨k + 1, by omega, by go_num, ?_⟩
              have hnm : isName s[k] = true := by unfold isName; rw [hd]; simp
              rw [HN.out, if_neg H0.out, if_neg (by omega), HD.out, List.takeWhile_cons_of_pos hnm]
              simp; omega
            case measure => simp [intOf]; omega
          · have hd : isDigit s[k] = false := by simpa using hd
            have hn : (nameOf (bl s)).length = k := by
              have hnm : ¬ isName s[k] = true := by unfold isName; rw [hd, hl]; simp
              rw [HN.out, if_neg h0, HD.out, List.takeWhile_cons_of_neg hnm]; simp
            have H := Lib.hid hn
            clear hn h0
            go_wp2_with (first | (go_at_call 28; refine (letter2_any _ _).mono ?_; rintro e w' ⟨rfl, rfl⟩) | (go_at_call 29; refine (digit2_any _ _).mono ?_; rintro e w' ⟨rfl, rfl⟩))
            go_ret
            refine ⟨?_, rfl⟩
            rw [HNB.out, H.out, decide_eq_false (by omega), Bool.and_false]; rfl
    · have hn : (nameOf (bl s)).length = s.size ∨ s.toList.isEmpty = true := by
        have e : (bl s).drop k = [] := List.drop_of_length_le (by rw [bl_length]; omega)
        by_cases h0 : k = 0
        · right
          subst h0
          rw [toList_eq]
          simp only [List.drop_zero] at e
          rw [e]; rfl
        · left
          rw [HN.out, if_neg h0, e]; simp; omega
      have hres : nameB (bl s) = !s.toList.isEmpty := by
        rw [HNB.out]
        rcases hn with h | h
        · rw [h]; simp
        · rw [h]; rfl
      have HR := Lib.hid hres
      clear hn hres
      go_wp2_with fail
      go_ret
      exact ⟨by rw [HR.out]; rfl, rfl⟩

theorem texts_any (b1 b2 : Nat) (w : World) (h1 : WordsAt w b1) (h2 : WordsAt w b2) :
    Calls Tryd.prog 18 #[.slice (some ⟨b1, 0, none⟩) 8 8, .slice (some ⟨b2, 0, none⟩) 8 8] w fun e w' => e = .returned (.bool true) ∧ ∃ n, w' = w.drewN n := by
  have H1 := Lib.hid h1
  have H2 := Lib.hid h2
  clear h1 h2
  go_enter Tryd.func18, Tryd.ntmps18
  go_wp2_with fail
  go_loopw [5] (fun i wr => ∃ (k n : Nat), k ≤ 8 ∧ i = .int .i64 (k : Int) ∧ wr = w.drewN n) (fun i _ => 8 - (intOf i).toNat)
  case atStart => exact ⟨0, 0, by omega, rfl, rfl⟩
  case round =>
    obtain ⟨k, n, hk, rfl, rfl⟩ := hrel
    by_cases hlt : k < 8
    · have cc := H1.out.cell hlt
      have dd := H2.out.cell hlt
      have t1 : ((str (wordAt k)).toList == (str (wordAt k)).toList) = true := by simp
      have t2 : ((str (wordAt k)).toList != (str (wordAt k)).toList) = false := by simp
      have hki : (k : Int) < 8 := by omega
      have hk0 : (0 : Int) ≤ (k : Int) := by omega
      go_wp2_with fail
      go_quiet (fail)
      go_wp2_with fail
      go_roundw
      case rel => exact ⟨k + 1, _, by omega, by go_num, rfl⟩
      case measure => simp [intOf]; omega
    · obtain rfl : k = 8 := by omega
      go_wp2_with fail
      go_ret
      exact ⟨rfl, n, rfl⟩

end Go.Proofs.YtcchljghlgnkkaaDoor
