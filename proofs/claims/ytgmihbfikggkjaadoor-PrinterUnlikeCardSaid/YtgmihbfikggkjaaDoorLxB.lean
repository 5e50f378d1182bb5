/-
  The walks of lexer's lineSize, blank, nameSize, behind, At.
-/
import Derived.Test.YtgmihbfikggkjaaDoorLxA
import Derived.Shelf.Strings.Search1
import Derived.WalkLawsBesides
import Derived.Outline
import Derived.IntWalk
import Derived.Deep.LoopGhost
namespace Go.Proofs.YtgmihbfikggkjaaDoor
open Go.RowKit
open Lx
set_option linter.unusedVariables false
set_option linter.unusedSimpArgs false

/-- The bytes of a string. -/
def bl (s : ByteArray) : List UInt8 := s.data.toList
theorem bl_length (s : ByteArray) : (bl s).length = s.size := by simp [bl]
theorem bl_str (l : List UInt8) : bl (str l) = l := rfl
theorem str_bl (s : ByteArray) : str (bl s) = s := rfl
theorem bl_drop (s : ByteArray) (k : Nat) (h : k < s.size) : (bl s).drop k = s[k] :: (bl s).drop (k + 1) := by
  unfold bl
  rw [List.drop_eq_getElem_cons (by simpa using h)]; rfl
theorem bl_take (s : ByteArray) (k : Nat) (h : k < s.size) : (bl s).take (k + 1) = (bl s).take k ++ [s[k]] := by
  unfold bl
  rw [List.take_succ_eq_append_getElem (by simpa using h)]; rfl
theorem bl_ext (s : ByteArray) (a b : Nat) : bl (s.extract a b) = ((bl s).drop a).take (b - a) := by
  unfold bl; exact Lib.extract_data s a b
theorem bl_end (s : ByteArray) (a : Nat) : bl (s.extract a s.size) = (bl s).drop a := by
  rw [bl_ext, List.take_of_length_le (by simp [bl_length])]
theorem ext_str (s : ByteArray) (a b : Nat) : s.extract a b = str (((bl s).drop a).take (b - a)) := by
  rw [← bl_ext, str_bl]
theorem size_ext (s : ByteArray) (a b : Nat) (h : a ≤ b) (hb : b ≤ s.size) : (s.extract a b).size = b - a := by
  rw [ByteArray.size_extract]; omega

/-! strings.Cut at one byte -/
def laysIB_ren : Go.Shelf.Ren := ⟨fun | 217 => 86 | 266 => 105 | n => n, fun | 9 => 9 | 5 => 5 | 3 => 3 | n => n, fun | n => n⟩
theorem laysIB : Go.Proofs.Lays.n217 Tryd.prog laysIB_ren := {
  mixed := by kernel_rfl
  f217 := Tryd.func86.trans (congrArg some (by kernel_rfl))
  f266 := Tryd.func105.trans (congrArg some (by kernel_rfl))
  t3 := Tryd.underlying3
  a3 := Tryd.isAgg3
  z3 := Tryd.sizeOf3
  v3 := Tryd.zeroValue3
  t5 := Tryd.underlying5
  a5 := Tryd.isAgg5
  z5 := Tryd.sizeOf5
  v5 := Tryd.zeroValue5
  t9 := Tryd.underlying9
  a9 := Tryd.isAgg9
  z9 := Tryd.sizeOf9
  v9 := Tryd.zeroValue9 }

theorem indexByte_any (s : ByteArray) (c : Int) (w : World) :
    Calls Tryd.prog 86 #[.string s, .int .u8 c] w fun e w' => e = .returned (.int .i64 (Lib.indexByte s.data.toList c.toNat.toUInt8)) ∧ w = w' :=
  (Any.stringslite_IndexByte laysIB s c w).mono fun _ _ ⟨h1, h2⟩ => ⟨h1, h2.symm⟩

theorem indexByte_take (l : List UInt8) (c : UInt8) : Lib.indexByte l c = if (l.takeWhile (· != c)).length = l.length then -1 else ((l.takeWhile (· != c)).length : Int) := by
  induction l with
  | nil => rfl
  | cons x r ih =>
    unfold Lib.indexByte
    rw [ih]
    by_cases h : x = c
    · subst h; simp
    · have hb : (x == c) = false := by simpa using h
      have hb' : (x != c) = true := by simpa using h
      have hle := takeWhile_le (· != c) r
      simp only [hb, List.takeWhile_cons, hb', if_true, List.length_cons]
      by_cases hr : (List.takeWhile (fun x => x != c) r).length = r.length
      · simp [hr]
      · simp [hr] <;> omega

theorem line_of {l : List UInt8} : (if Lib.indexByte l 10 < 0 then l.length else (Lib.indexByte l 10).toNat) = (l.takeWhile (· != 10)).length := by
  rw [indexByte_take]
  split
  · split <;> omega
  · split at * <;> omega

theorem index_any (s : ByteArray) (c : UInt8) (w : World) :
    Calls Tryd.prog 111 #[.string s, .string ⟨#[c]⟩] w fun e w' => e = .returned (.int .i64 (Lib.indexByte s.data.toList c)) ∧ w = w' := by
  go_enter Tryd.func111, Tryd.ntmps111
  by_cases h : ([c] == s.toList) = true
  · have hs : s.data.toList = [c] := by rw [← Lib.toList_data]; simpa using (beq_iff_eq.1 h).symm
    have HS := Lib.hid hs
    clear hs
    go_wp2_with fail
    go_ret
    exact ⟨by rw [HS.out]; simp [Lib.indexByte], rfl⟩
  · have h : ([c] == s.toList) = false := by simpa using h
    go_wp2_with fail
    refine (indexByte_any s c.toNat _).mono ?_
    rintro e w' ⟨rfl, rfl⟩
    go_wp2_with fail
    go_ret
    exact ⟨by simp, rfl⟩

/-- What is told by strings.Cut at an LF. -/
structure CutAt (s : ByteArray) (w : World) (e : Ending) (w' : World) : Prop where
  ex : ∃ (x y : ByteArray) (b : Bool) (n : Nat), e = .returned (.tuple #[.string x, .string y, .bool b]) ∧ x.size = ((bl s).takeWhile (· != 10)).length ∧ w' = w.drewN n

theorem cut2_any (s : ByteArray) (w : World) (hs : s.size ≤ 9223372036854775807) :
    Calls Tryd.prog 102 #[.string s, .string ⟨#[10]⟩] w (CutAt s w) := by
  have hl := @line_of (bl s)
  have HL := Lib.hid hl
  have hle := takeWhile_le (· != 10) (bl s)
  rw [bl_length] at hle
  clear hl
  generalize hi : Lib.indexByte (bl s) 10 = i at HL
  have HI := Lib.hid hi
  clear hi
  go_enter Tryd.func102, Tryd.ntmps102
  go_wp2_with fail
  refine (index_any s 10 _).mono ?_
  rintro e w' ⟨rfl, rfl⟩
  rw [show s.data.toList = bl s from rfl, HI.out]
  by_cases h : i < 0
  · go_wp2_with fail
    go_ret3
    refine ⟨s, _, _, 0, rfl, ?_, rfl⟩
    rw [← HL.out, if_pos h, bl_length]
  · obtain ⟨n, rfl⟩ : ∃ n : Nat, i = (n : Int) := ⟨i.toNat, by omega⟩
    have hn : n < s.size := by
      have := (Lib.indexByte_some HI.out).1
      have := (List.getElem?_eq_some_iff.1 this).1
      rwa [bl_length] at this
    have e1 : IntKind.i64.wrap ((n : Int) + 1) = (n : Int) + 1 := IntWalk.i64_in _ (by omega)
    have e2 : (0 : Int) ≤ (n : Int) + 1 := by omega
    have e3 : ((n : Int) + 1).toNat = n + 1 := by omega
    have e4 : (n : Int) + 1 ≤ (s.size : Int) := by omega
    go_wp2_with fail
    go_quiet (fail)
    go_wp2_with fail
    go_ret3
    refine ⟨_, _, _, _, rfl, ?_, rfl⟩
    rw [← HL.out, if_neg (by omega), size_ext s _ _ (by omega) (by omega)]
    simp

theorem cut_any (s : ByteArray) (w : World) (hs : s.size ≤ 9223372036854775807) :
    Calls Tryd.prog 75 #[.string s, .string ⟨#[10]⟩] w (CutAt s w) := by
  go_enter Tryd.func75, Tryd.ntmps75
  go_wp2_with fail
  refine (cut2_any s _ hs).mono ?_
  rintro e w' ⟨x, y, b, n, rfl, hx, rfl⟩
  have HX := Lib.hid hx
  clear hx
  go_wp2_with fail
  go_ret3
  exact ⟨x, _, _, _, rfl, HX.out, rfl⟩

theorem line_any (s : ByteArray) (w : World) (hs : s.size ≤ 9223372036854775807) :
    Calls Tryd.prog 48 #[.string s] w fun e w' => e = .returned (.int .i64 (((bl s).takeWhile (· != 10)).length : Int)) ∧ ∃ n, w' = w.drewN n := by
  have hle := takeWhile_le (· != 10) (bl s)
  rw [bl_length] at hle
  go_enter Tryd.func48, Tryd.ntmps48
  go_wp2_with fail
  refine (cut_any s _ hs).mono ?_
  rintro e w' ⟨x, y, b, n, rfl, hx, rfl⟩
  have HX := Lib.hid hx
  clear hx
  go_wp2_with fail
  go_ret
  exact ⟨by rw [← HX.out]; rfl, n, rfl⟩

theorem adv_bd {p : Nat × Nat} {l : List UInt8} (h1 : 1 ≤ p.1) (h2 : 1 ≤ p.2) : (adv p l).1 ≤ p.1 + l.length ∧ (adv p l).2 ≤ p.2 + l.length := by
  have := adv_le p l h1 h2; omega

theorem behind_any (s : ByteArray) (p : Nat × Nat) (w : World) (h1 : 1 ≤ p.1) (h2 : 1 ≤ p.2) (h3 : p.1 + s.size ≤ 9223372036854775807) (h4 : p.2 + s.size ≤ 9223372036854775807) :
    Calls Tryd.prog 25 #[.agg #[.int .i64 (p.1 : Int), .int .i64 (p.2 : Int)], .string s] w fun e w' => e = .returned (.agg #[.int .i64 ((adv p (bl s)).1 : Int), .int .i64 ((adv p (bl s)).2 : Int)]) ∧ Below w.heap.size w w' := by
  go_enter Tryd.func25, Tryd.ntmps25
  go_wp2_with fail
  go_loopw [8] (fun i wr => ∃ (k a b : Nat), k ≤ s.size ∧ i = .int .i64 (k : Int) ∧ adv p ((bl s).take k) = (a, b) ∧ wr = (w.alloc (.cells #[.int .i64 (a : Int), .int .i64 (b : Int)] 38)).alloc (.cells #[.int .i64 0, .int .i64 0] 38)) (fun i _ => s.size - (intOf i).toNat)
  case atStart => exact ⟨0, p.1, p.2, by omega, rfl, rfl, rfl⟩
  case round =>
    obtain ⟨k, a, b, hk, rfl, ha, rfl⟩ := hrel
    have HA := Lib.hid ha
    have hb := adv_bd (l := (bl s).take k) h1 h2
    have hlen : ((bl s).take k).length = k := by simp [bl_length]; omega
    rw [ha, hlen] at hb
    simp only at hb
    clear ha hlen
    obtain ⟨hb1, hb2⟩ := hb
    by_cases hlt : k < s.size
    · have HT := Lib.hid (bl_take s k hlt)
      by_cases hc : s[k] = 10
      · have HC := Lib.hid hc
        have c1 : ((s[k].toNat : Int) == 10) = true := by rw [hc]; rfl
        clear hc
        go_wp2_with fail
        go_roundw
        case rel => exact ⟨k + 1, a + 1, 1, by omega, by go_num, by rw [HT.out, adv_append, HA.out, adv_one, if_pos HC.out], by first | rfl | (simp; done)⟩
        case measure => simp [intOf]; omega
      · have HC := Lib.hid hc
        have c1 : ((s[k].toNat : Int) == 10) = false := by
          rw [beq_eq_false_iff_ne]; intro e; apply hc; rw [← UInt8.toNat_inj]; have : s[k].toNat = 10 := by omega
          exact this
        clear hc
        go_wp2_with fail
        go_roundw
        case rel => exact ⟨k + 1, a, b + 1, by omega, by go_num, by rw [HT.out, adv_append, HA.out, adv_one, if_neg HC.out], by first | rfl | (simp; done)⟩
        case measure => simp [intOf]; omega
    · obtain rfl : s.size = k := by omega
      go_wp2_with fail
      have e : adv p (bl s) = (a, b) := by rw [← HA.out, ← bl_length, List.take_length]
      rw [e]
      exact bodyPost_ret (v := .agg #[.int .i64 (a : Int), .int .i64 (b : Int)]) (by simp [results, Tryd.results25, go_sem]) rfl ⟨rfl, ((Below.refl _ _).alloc (Nat.le_refl _) _).alloc (by simp) _⟩

theorem At_any (s : ByteArray) (i : Int) (w : World) (hs : s.size ≤ 9223372036854775807) (hk0 : min (max i 0).toNat s.size ≤ 9223372036854775806) :
    Calls Tryd.prog 23 #[.string s, .int .i64 i] w fun e w' => e = .returned (.agg #[.int .i64 ((pos (bl s) (min (max i 0).toNat s.size)).1 : Int), .int .i64 ((pos (bl s) (min (max i 0).toNat s.size)).2 : Int)]) ∧ Below w.heap.size w w' := by
  obtain ⟨k, hk⟩ : ∃ k : Nat, k = min (max i 0).toNat s.size := ⟨_, rfl⟩
  rw [← hk] at hk0 ⊢
  have hk1 : k ≤ s.size := by omega
  have hz : (s.extract 0 k).size = k := by rw [size_ext s 0 k (by omega) hk1]; omega
  have hp : adv (1, 1) (bl (s.extract 0 k)) = pos (bl s) k := by rw [bl_ext]; rfl
  have HP := Lib.hid hp
  have HZ := Lib.hid hz
  have hkk : (min (max i 0) (s.size : Int)).toNat = k := by omega
  have HK := Lib.hid hkk
  clear hp hz hk hkk
  go_enter Tryd.func23, Tryd.ntmps23
  go_wp2_with fail
  rw [HK.out]
  refine (behind_any (s.extract 0 k) (1, 1) _ (by simp) (by simp) (by rw [HZ.out]; simp; omega) (by rw [HZ.out]; simp; omega)).mono ?_
  rw [HP.out]
  rintro e w1 ⟨rfl, hb⟩
  rename_i hK
  refine hK _ _ ?_
  have HA := Lib.hid ((At.new w 38 _).below hb (by simp))
  refine wpList_store_at rfl _ _ _ rfl rfl w.heap.size _ _ [_, _] rfl rfl HA.out 2 Tryd.sizePos rfl rfl rfl ?_
  intro w2 hat hg
  go_wp2_with fail
  exact bodyPost_ret (results_cell_row rfl _ _ w.heap.size _ _ (0, 0) _ rfl hat Tryd.underlying38 rfl Tryd.sizePos) rfl ⟨rfl, below_grown (((Below.refl _ _).alloc (Nat.le_refl _) _).trans (hb.mono (by simp))) hg (by have := hb.size; simp at this; omega) (by omega)⟩

theorem name_cons (c : UInt8) (r : List UInt8) : nameOf (c :: r) = if isLetter c then (c :: r).takeWhile isName else [] := rfl
theorem letter_name {c : UInt8} (h : isLetter c = true) : isName c = true := by unfold isName; rw [h]; rfl

theorem nameSize_any (s : ByteArray) (w : World) (hs : s.size ≤ 9223372036854775807) :
    Calls Tryd.prog 53 #[.string s] w fun e w' => e = .returned (.int .i64 ((nameOf (bl s)).length : Int)) ∧ w = w' := by
  go_enter Tryd.func53, Tryd.ntmps53
  go_wp2_with fail
  go_loop [3] (fun i => ∃ k : Nat, k ≤ s.size ∧ i = .int .i64 (k : Int) ∧ (nameOf (bl s)).length = k + (if k = 0 then nameOf (bl s) else ((bl s).drop k).takeWhile isName).length) (fun i => s.size - (intOf i).toNat)
  case atStart => exact ⟨0, by omega, rfl, by simp⟩
  case round =>
    obtain ⟨k, hk, rfl, hn⟩ := hrel
    have HN := Lib.hid hn
    clear hn
    by_cases hlt : k < s.size
    · have HD := Lib.hid (bl_drop s k hlt)
      by_cases hl : isLetter s[k] = true
      · go_wp2_with (go_at_call 83; refine (letter_any _ _).mono ?_; rintro e w' ⟨rfl, rfl⟩)
        go_round
        case rel =>
          refine ⟨k + 1, by omega, by go_num, ?_⟩
          rw [HN.out]
          by_cases h0 : k = 0
          · subst h0
            have e := HD.out
            simp only [List.drop_zero] at e
            rw [if_pos rfl, if_neg (by omega), e, name_cons, if_pos hl, List.takeWhile_cons_of_pos (letter_name hl)]
            simp; omega
          · rw [if_neg h0, if_neg (by omega), HD.out, List.takeWhile_cons_of_pos (letter_name hl)]
            simp; omega
        case measure => simp [intOf]; omega
      · have hl : isLetter s[k] = false := by simpa using hl
        by_cases h0 : k = 0
        · have hn : (nameOf (bl s)).length = k := by
            rw [HN.out, if_pos h0]
            subst h0
            have e := HD.out
            simp only [List.drop_zero] at e
            rw [e, name_cons, hl]; rfl
          have H := Lib.hid hn
          clear hn
          have hg : decide (0 < k) = false := by simp; omega
          clear h0
          go_wp2_with (go_at_call 83; refine (letter_any _ _).mono ?_; rintro e w' ⟨rfl, rfl⟩)
          go_ret
          exact ⟨by rw [H.out]; rfl, rfl⟩
        · have hg : (0 : Int) < (k : Int) := by omega
          by_cases hd : isDigit s[k] = true
          · go_wp2_with (first | (go_at_call 83; refine (letter_any _ _).mono ?_; rintro e w' ⟨rfl, rfl⟩) | (go_at_call 84; refine (digit_any _ _).mono ?_; rintro e w' ⟨rfl, rfl⟩))
            go_round
            case rel =>
              refine ⟨k + 1, by omega, by go_num, ?_⟩
              have hnm : isName s[k] = true := by unfold isName; rw [hd]; simp
              rw [HN.out, if_neg h0, if_neg (by omega), HD.out, List.takeWhile_cons_of_pos hnm]
              simp; omega
            case measure => simp [intOf]; omega
          · have hd : isDigit s[k] = false := by simpa using hd
            have hn : (nameOf (bl s)).length = k := by
              have hnm : ¬ isName s[k] = true := by unfold isName; rw [hd, hl]; simp
              rw [HN.out, if_neg h0, HD.out, List.takeWhile_cons_of_neg hnm]; simp
            have H := Lib.hid hn
            clear hn
            go_wp2_with (first | (go_at_call 83; refine (letter_any _ _).mono ?_; rintro e w' ⟨rfl, rfl⟩) | (go_at_call 84; refine (digit_any _ _).mono ?_; rintro e w' ⟨rfl, rfl⟩))
            go_ret
            exact ⟨by rw [H.out]; rfl, rfl⟩
    · have hn : (nameOf (bl s)).length = k := by
        rw [HN.out]
        have e : (bl s).drop k = [] := List.drop_of_length_le (by rw [bl_length]; omega)
        by_cases h0 : k = 0
        · subst h0
          simp only [List.drop_zero] at e
          rw [e]; simp [nameOf]
        · rw [if_neg h0, e]; simp
      have H := Lib.hid hn
      clear hn
      go_wp2_with fail
      go_ret
      exact ⟨by rw [H.out]; rfl, rfl⟩

structure Blank (l : List UInt8) (w : World) (e : Ending) (w' : World) : Prop where
  ex : ∃ k n : Nat, e = .returned (.int .i64 (k : Int)) ∧ Skips l k ∧ Firm (l.drop k) ∧ w' = w.drewN n
theorem u8_ne {c d : UInt8} (h : c ≠ d) : ((c.toNat : Int) == (d.toNat : Int)) = false := by
  rw [beq_eq_false_iff_ne]; intro e; apply h; rw [← UInt8.toNat_inj]; omega
theorem u8_is {c d : UInt8} (h : c = d) : ((c.toNat : Int) == (d.toNat : Int)) = true := by rw [h]; simp
theorem blank_any (s : ByteArray) (w : World) (hs : s.size ≤ 4000) :
    Calls Tryd.prog 24 #[.string s] w (Blank (bl s) w) := by
  go_enter Tryd.func24, Tryd.ntmps24
  go_wp2_with fail
  go_loopw [3] (fun i wr => ∃ (k n : Nat), i = .int .i64 (k : Int) ∧ Skips (bl s) k ∧ wr = w.drewN n) (fun i _ => s.size - (intOf i).toNat)
  case atStart => exact ⟨0, 0, rfl, Skips.zero _, rfl⟩
  case round =>
    obtain ⟨k, n, rfl, hk, rfl⟩ := hrel
    have HK := Lib.hid hk
    have hle := hk.le
    rw [bl_length] at hle
    clear hk
    by_cases hlt : k < s.size
    · have HD := Lib.hid (bl_drop s k hlt)
      by_cases h35 : s[k] = 35
      · have c1 : ((s[k].toNat : Int) == 35) = true := u8_is h35
        have hnote : Lx.step ((bl s).drop k) = .skip (((bl s).drop k).takeWhile (· != 10)).length := by rw [HD.out, h35]; exact step_note _
        have H35 := Lib.hid h35
        clear h35
        obtain ⟨m, hm⟩ : ∃ m, m = (((bl s).drop k).takeWhile (· != 10)).length := ⟨_, rfl⟩
        have hm1 : 1 ≤ m := by rw [hm, HD.out, H35.out]; simp
        have hm2 : m ≤ s.size - k := by
          have := takeWhile_le (· != 10) ((bl s).drop k)
          rw [List.length_drop, bl_length] at this
          omega
        have HN := Lib.hid hnote
        have HM := Lib.hid hm
        clear hnote hm
        have hz : (s.extract k s.size).size ≤ 9223372036854775807 := by rw [size_ext s k _ (by omega) (by omega)]; omega
        go_wp2_with (go_at_call 48; refine (line_any _ _ hz).mono ?_; rw [bl_end, ← HM.out]; rintro e w' ⟨rfl, n', rfl⟩)
        go_roundw
        case rel => exact ⟨k + m, _, by first | go_num | (congr 1; omega), HK.out.more (by rw [HD.out]; simp) (by rw [HN.out, HM.out]) (by omega) (by rw [bl_length]; omega), rfl⟩
        case measure => simp [intOf]; omega
      · have c1 : ((s[k].toNat : Int) == 35) = false := u8_ne h35
        have H35 := Lib.hid h35
        clear h35
        by_cases hsp : isSpace s[k] = true
        · have HS := Lib.hid hsp
          have h4 : s[k] = 32 ∨ s[k] = 9 ∨ s[k] = 10 ∨ s[k] = 13 := by unfold isSpace at hsp; simpa [or_assoc] using hsp
          clear hsp
          have hstep : Lx.step ((bl s).drop k) = .skip 1 := by rw [HD.out]; exact step_space _ HS.out
          have HT := Lib.hid hstep
          clear hstep
          have hnum : IntKind.i64.wrap ((k : Int) + 1) = (k : Int) + 1 := IntWalk.i64_in _ (by omega)
          rcases h4 with h | h | h | h
          · have c2 : ((s[k].toNat : Int) == 32) = true := by rw [h]; rfl
            clear h
            go_wp2_with fail
            go_roundw
            case rel => exact ⟨k + 1, _, by go_num, HK.out.more (by rw [HD.out]; simp) HT.out (by omega) (by rw [bl_length]; omega), rfl⟩
            case measure => simp [intOf]; omega
          · have c2 : ((s[k].toNat : Int) == 32) = false := by rw [h]; rfl
            have c3 : ((s[k].toNat : Int) == 9) = true := by rw [h]; rfl
            clear h
            go_wp2_with fail
            go_roundw
            case rel => exact ⟨k + 1, _, by go_num, HK.out.more (by rw [HD.out]; simp) HT.out (by omega) (by rw [bl_length]; omega), rfl⟩
            case measure => simp [intOf]; omega
          · have c2 : ((s[k].toNat : Int) == 32) = false := by rw [h]; rfl
            have c3 : ((s[k].toNat : Int) == 9) = false := by rw [h]; rfl
            have c4 : ((s[k].toNat : Int) == 10) = true := by rw [h]; rfl
            clear h
            go_wp2_with fail
            go_roundw
            case rel => exact ⟨k + 1, _, by go_num, HK.out.more (by rw [HD.out]; simp) HT.out (by omega) (by rw [bl_length]; omega), rfl⟩
            case measure => simp [intOf]; omega
          · have c2 : ((s[k].toNat : Int) == 32) = false := by rw [h]; rfl
            have c3 : ((s[k].toNat : Int) == 9) = false := by rw [h]; rfl
            have c4 : ((s[k].toNat : Int) == 10) = false := by rw [h]; rfl
            have c5 : ((s[k].toNat : Int) == 13) = true := by rw [h]; rfl
            clear h
            go_wp2_with fail
            go_roundw
            case rel => exact ⟨k + 1, _, by go_num, HK.out.more (by rw [HD.out]; simp) HT.out (by omega) (by rw [bl_length]; omega), rfl⟩
            case measure => simp [intOf]; omega
        · have hsp : isSpace s[k] = false := by simpa using hsp
          have HS := Lib.hid hsp
          have h4 : s[k] ≠ 32 ∧ s[k] ≠ 9 ∧ s[k] ≠ 10 ∧ s[k] ≠ 13 := by unfold isSpace at hsp; simpa [and_assoc] using hsp
          have c2 : ((s[k].toNat : Int) == 32) = false := u8_ne h4.1
          have c3 : ((s[k].toNat : Int) == 9) = false := u8_ne h4.2.1
          have c4 : ((s[k].toNat : Int) == 10) = false := u8_ne h4.2.2.1
          have c5 : ((s[k].toNat : Int) == 13) = false := u8_ne h4.2.2.2
          clear hsp h4
          go_wp2_with fail
          go_ret
          exact ⟨k, n, rfl, HK.out, .inr (fun m => by rw [HD.out]; exact step_firm _ HS.out H35.out m), rfl⟩
    · obtain rfl : s.size = k := by omega
      go_wp2_with fail
      go_ret
      exact ⟨_, n, rfl, HK.out, .inl (List.drop_of_length_le (by rw [bl_length]; omega)), rfl⟩

end Go.Proofs.YtgmihbfikggkjaaDoor
