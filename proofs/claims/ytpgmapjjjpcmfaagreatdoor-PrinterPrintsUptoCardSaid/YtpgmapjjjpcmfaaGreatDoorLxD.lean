/-
  The walks of lexer's word, and of what it calls.
-/
import Derived.Test.YtpgmapjjjpcmfaaGreatDoorLxAA
import Derived.Deep.RegionHeld3
import Derived.Deep.DrawnRows
namespace Go.Proofs.YtpgmapjjjpcmfaaGreatDoor
open Go.RowKit
open Lx
set_option linter.unusedVariables false
set_option linter.unusedSimpArgs false

def wordAt (j : Nat) : List UInt8 := words.getD j []
def wordsCells : Array Value := (words.map fun x => Value.string (str x)).toArray
/-- Block b holds the words. -/
def WordsAt (w : World) (b : Nat) : Prop := At w b 9 wordsCells
theorem WordsAt.cell {w : World} {b : Nat} (h : WordsAt w b) {j : Nat} (hj : j < 8) : w.cell? ⟨b, j, none⟩ = some (.string (str (wordAt j))) := by
  have h := At.cell h j
  rw [h]
  match j, hj with
  | 0, _ => rfl
  | 1, _ => rfl
  | 2, _ => rfl
  | 3, _ => rfl
  | 4, _ => rfl
  | 5, _ => rfl
  | 6, _ => rfl
  | 7, _ => rfl

theorem words_any (w : World) :
    Calls Tryz.prog 127 #[] w fun e w' => e = .returned (.slice (some ⟨w.heap.size, 0, none⟩) 8 8) ∧ w' = w.alloc (.cells wordsCells 9) := by
  go_enter Tryz.func127, Tryz.ntmps127
  go_wp2_with fail
  go_ret
  exact ⟨rfl, rfl⟩

theorem mem_words {l : List UInt8} : l ∈ words ↔ ∃ j, j < 8 ∧ wordAt j = l := by
  constructor
  · intro h
    obtain ⟨j, hj, he⟩ := List.getElem_of_mem h
    have hj8 : j < 8 := hj
    exact ⟨j, hj8, by simp [wordAt, List.getD, hj, he]⟩
  · rintro ⟨j, hj, rfl⟩
    match j, hj with
    | 0, _ => decide
    | 1, _ => decide
    | 2, _ => decide
    | 3, _ => decide
    | 4, _ => decide
    | 5, _ => decide
    | 6, _ => decide
    | 7, _ => decide

theorem toList_eq (s : ByteArray) : s.toList = bl s := Lib.toList_data s
theorem str_beq (x : ByteArray) (l : List UInt8) : (x.toList == (str l).toList) = (bl x == l) := by
  rw [toList_eq, toList_eq, bl_str]

/-- The word's place among the words, or -1. -/
structure Found8 (x : ByteArray) (w : World) (e : Ending) (w' : World) : Prop where
  ex : ∃ i : Int, e = .returned (.int .i64 i) ∧ (0 ≤ i ↔ bl x ∈ words) ∧ -1 ≤ i ∧ i < 8 ∧ w' = w

theorem windex_any (b : Nat) (x : ByteArray) (w : World) (hw : WordsAt w b) :
    Calls Tryz.prog 139 #[.slice (some ⟨b, 0, none⟩) 8 8, .string x] w (Found8 x w) := by
  have HW := Lib.hid hw
  clear hw
  go_enter Tryz.func139, Tryz.ntmps139
  go_wp2_with fail
  go_loop [8] (fun i => ∃ k : Nat, k ≤ 8 ∧ i = .int .i64 (k : Int) ∧ ∀ j, j < k → wordAt j ≠ bl x) (fun i => 8 - (intOf i).toNat)
  case atStart => exact ⟨0, by omega, rfl, fun j hj => by omega⟩
  case round =>
    obtain ⟨k, hk, rfl, hno⟩ := hrel
    have HN := Lib.hid hno
    clear hno
    by_cases hlt : k < 8
    · have cc := HW.out.cell hlt
      have e := str_beq x (wordAt k)
      by_cases h : wordAt k = bl x
      · have e1 : (x.toList == (str (wordAt k)).toList) = true := by rw [e, h]; simp
        have H := Lib.hid h
        clear h e
        go_wp2_with fail
        go_ret
        exact ⟨k, rfl, ⟨fun _ => mem_words.2 ⟨k, hlt, H.out⟩, fun _ => by omega⟩, by omega, by omega, rfl⟩
      · have e1 : (x.toList == (str (wordAt k)).toList) = false := by
          rw [e, beq_eq_false_iff_ne]; exact fun h' => h h'.symm
        have H := Lib.hid h
        clear h e
        go_wp2_with fail
        go_round
        case rel => exact ⟨k + 1, by omega, by go_num, fun j hj => by
          by_cases ej : j = k
          · subst ej; exact H.out
          · exact HN.out j (by omega)⟩
        case measure => simp [intOf]; omega
    · obtain rfl : k = 8 := by omega
      go_wp2_with fail
      go_ret
      refine ⟨-1, rfl, ⟨fun h => by omega, fun h => ?_⟩, by omega, by omega, rfl⟩
      obtain ⟨j, hj, he⟩ := mem_words.1 h
      exact absurd he (HN.out j hj)

theorem contains_any (b : Nat) (x : ByteArray) (w : World) (hw : WordsAt w b) :
    Calls Tryz.prog 122 #[.slice (some ⟨b, 0, none⟩) 8 8, .string x] w fun e w' => e = .returned (.bool (decide (bl x ∈ words))) ∧ w = w' := by
  go_enter Tryz.func122, Tryz.ntmps122
  go_wp2_with fail
  refine (windex_any b x _ hw).mono ?_
  rintro e w' ⟨i, rfl, hi, h1, h2, rfl⟩
  have HI := Lib.hid hi
  clear hi
  go_wp2_with fail
  go_ret
  refine ⟨?_, rfl⟩
  have e : decide (bl x ∈ words) = decide (0 ≤ i) := by rw [decide_eq_decide]; exact HI.out.symm
  rw [e]; rfl

theorem prefix2_any (s : ByteArray) (w : World) (hs : s.size ≤ 9223372036854775807) :
    Calls Tryz.prog 141 #[.string s, .string ⟨#[37, 37]⟩] w fun e w' => e = .returned (.bool (decide ((bl s).take 2 = [37, 37]))) ∧ w = w' := by
  by_cases h : s.size < 2
  · have e : decide ((bl s).take 2 = [37, 37]) = false := by
      rw [decide_eq_false_iff_not]; intro e
      have := congrArg List.length e
      rw [List.length_take, bl_length] at this
      simp at this; omega
    have E := Lib.hid e
    clear e
    go_enter Tryz.func141, Tryz.ntmps141
    go_wp2_with fail
    go_ret
    exact ⟨by rw [E.out]; rfl, rfl⟩
  · have h2 : (2 : Int) ≤ (s.size : Int) := by omega
    have e : decide ((bl s).take 2 = [37, 37]) = ((s.extract 0 2).toList == [37, 37]) := by
      rw [toList_eq, bl_ext, Bool.eq_iff_iff]; simp
    have E := Lib.hid e
    clear e
    go_enter Tryz.func141, Tryz.ntmps141
    go_wp2_with fail
    go_ret
    exact ⟨by rw [E.out]; rfl, rfl⟩
theorem prefix_any (s : ByteArray) (w : World) (hs : s.size ≤ 9223372036854775807) :
    Calls Tryz.prog 126 #[.string s, .string ⟨#[37, 37]⟩] w fun e w' => e = .returned (.bool (decide ((bl s).take 2 = [37, 37]))) ∧ w = w' := by
  go_enter Tryz.func126, Tryz.ntmps126
  go_wp2_with fail
  refine (prefix2_any s _ hs).mono ?_
  rintro e w' ⟨rfl, rfl⟩
  go_wp2_with fail
  go_ret
  exact ⟨rfl, rfl⟩

theorem words_new2 (w : World) (o : Obj) : WordsAt ((w.alloc o).alloc (.cells wordsCells 9)).drew (w.heap.size + 1) := by
  have := At.new (w.alloc o) 9 wordsCells
  simp at this
  exact this

theorem below_drew {B : Nat} {a w : World} (h : Below B a w) : Below B a w.drew := ⟨h.os, h.tape, h.output, h.size, h.block⟩
set_option maxHeartbeats 1000000 in
theorem word_any (s : ByteArray) (w : World) (hs : s.size ≤ 4000) (h1 : 1 ≤ s.size) (hp : s[0] = 37) :
    Calls Tryz.prog 112 #[.string s] w fun e w' => e = .returned (pieceV (word ((bl s).drop 1))) ∧ Below w.heap.size w w' := by
  have hd := bl_drop s 0 (by omega)
  rw [List.drop_zero, hp] at hd
  have HD := Lib.hid hd
  clear hd hp
  generalize hst : word ((bl s).drop 1) = st
  have HST := Lib.hid hst
  clear hst
  obtain ⟨W, hW⟩ : ∃ W, wordOf ((bl s).drop 1) = W := ⟨_, rfl⟩
  have HWW := Lib.hid hW
  clear hW
  by_cases hpp : (bl s).take 2 = [37, 37]
  · have h2 : 2 ≤ s.size := by
      have := congrArg List.length hpp
      rw [List.length_take, bl_length] at this
      simp at this; omega
    have hh : ((bl s).drop 1).head? = some 37 := by
      rw [HD.out] at hpp
      cases hx : (bl s).drop 1 with
      | nil => rw [hx] at hpp; simp at hpp
      | cons a r => rw [hx] at hpp; simp at hpp; simp [hpp]
    have hw : wordOf ((bl s).drop 1) = [37] := by unfold wordOf; rw [if_pos hh]
    obtain ⟨n, hn⟩ : ∃ n : Nat, n = 2 := ⟨2, rfl⟩
    have hN : bl (s.extract 1 n) = W := by
      rw [← HWW.out, hw, bl_ext, hn]
      rw [HD.out] at hpp ⊢
      simpa using hpp
    have HPP : Hid (decide ((bl s).take 2 = [37, 37]) = true) := Lib.hid (decide_eq_true hpp)
    have HN := Lib.hid hN
    have HNN := Lib.hid hn
    have hn2 : n ≤ s.size := by omega
    have hn1 : 1 ≤ n := by omega
    clear hN hw hpp hn hh
    go_enter Tryz.func112, Tryz.ntmps112
    go_wp2_with fail
    refine (prefix_any s _ (by omega)).mono ?_
    rw [HPP.out]
    rintro e w' ⟨rfl, rfl⟩
    go_wp2_with fail
    rw [show (2 : Int) = (n : Int) by have := HNN.out; omega]
    have hz : s.extract 1 n = str W := by rw [← HN.out]; exact (str_bl _).symm
    have HZ := Lib.hid hz
    clear hz
    have b1 : (1 : Int) ≤ (n : Int) := by omega
    have b2 : (n : Int) ≤ (s.size : Int) := by omega
    have HSZ := Lib.hid (size_ext s 1 n hn1 hn2)
    have HB0 := Lib.hid ((Below.refl w.heap.size w).alloc (Nat.le_refl _) (.cells #[.int .i64 0, .string ⟨#[]⟩, .int .i64 0, .int .i64 0] 131))
    by_cases hin : bl (s.extract 1 n) ∈ words
    · have hd : decide (bl (s.extract 1 n) ∈ words) = true := decide_eq_true hin
      have hs2 : st = .mark 2 W n := by
        rw [← HST.out]
        unfold word
        rw [HN.out] at hin
        rw [HWW.out, if_pos hin]
        congr 1
        rw [← HN.out, bl_length, HSZ.out]; omega
      have HS2 := Lib.hid hs2
      have HDD := Lib.hid hd
      clear hin hd hs2
      go_region_held3 (fun w' => True) (trivial) (first
        | (go_at_call 127; refine Calls.mono (words_any _) ?_; rintro e w' ⟨rfl, rfl⟩)
        | (go_at_call 122; refine Calls.mono (contains_any _ _ _ (words_new2 _ _)) ?_; rw [HDD.out]; rintro e w' ⟨rfl, rfl⟩))
      go_wp2_with fail
      refine bodyPost_ret (v := pieceV st) (by rw [HS2.out]; simp [results, Tryz.results112, go_sem]; rw [HZ.out]; rfl) rfl ⟨rfl, below_drew (((Below.refl _ _).alloc (Nat.le_refl _) _).alloc (by simp) _)⟩
    · have hd : decide (bl (s.extract 1 n) ∈ words) = false := decide_eq_false hin
      have hs2 : st = .bad 10 0 := by
        rw [← HST.out]
        unfold word
        rw [HN.out] at hin
        rw [HWW.out, if_neg hin]
      have HS2 := Lib.hid hs2
      have HDD := Lib.hid hd
      clear hin hd hs2
      go_region_held3 (fun w' => True) (trivial) (first
        | (go_at_call 127; refine Calls.mono (words_any _) ?_; rintro e w' ⟨rfl, rfl⟩)
        | (go_at_call 122; refine Calls.mono (contains_any _ _ _ (words_new2 _ _)) ?_; rw [HDD.out]; rintro e w' ⟨rfl, rfl⟩))
      have HAT := Lib.hid (((At.new w 131 #[.int .i64 0, .string ⟨#[]⟩, .int .i64 0, .int .i64 0]).alloc (.cells wordsCells 9)).drew)
      have HBEL := Lib.hid (below_drew (HB0.out.alloc (by simp) (.cells wordsCells 9)))
      go_wp2_with fail
      refine (fault_any 10 0 _).mono ?_
      rintro e w1 ⟨rfl, hb⟩
      first | (rename_i hK; refine hK _ _ ?_) | (rename_i hK _; refine hK _ _ ?_) | (rename_i hK _ _; refine hK _ _ ?_) | (rename_i hK _ _ _; refine hK _ _ ?_)
      have HA := Lib.hid (HAT.out.below hb HAT.out.lt)
      refine wpList_store_at rfl _ _ _ rfl rfl w.heap.size _ _ [_, _, _, _] rfl rfl HA.out 4 Tryz.sizePiece rfl rfl rfl ?_
      intro w2 hat hg
      go_wp2_with fail
      exact bodyPost_ret (results_cell_row rfl _ _ w.heap.size _ _ (0, 0) _ rfl hat Tryz.underlying131 rfl Tryz.sizePiece) rfl ⟨by rw [HS2.out]; rfl, below_grown (HBEL.out.trans (hb.mono HBEL.out.size)) hg (by have := hb.size; have := HBEL.out.size; omega) (Nat.le_refl _)⟩
  · have hh : ((bl s).drop 1).head? ≠ some 37 := by
      rw [HD.out] at hpp
      cases hx : (bl s).drop 1 with
      | nil => simp
      | cons a r => rw [hx] at hpp; simp at hpp; simp [hpp]
    have hw : wordOf ((bl s).drop 1) = ((bl s).drop 1).takeWhile isSmall := by unfold wordOf; rw [if_neg hh]
    have HPP : Hid (decide ((bl s).take 2 = [37, 37]) = false) := Lib.hid (decide_eq_false hpp)
    have HW := Lib.hid hw
    clear hw hpp hh
    go_enter Tryz.func112, Tryz.ntmps112
    go_wp2_with fail
    refine (prefix_any s _ (by omega)).mono ?_
    rw [HPP.out]
    rintro e w' ⟨rfl, rfl⟩
    go_wp2_with fail
    go_loop [3] (fun i => ∃ k : Nat, 1 ≤ k ∧ k ≤ s.size ∧ i = .int .i64 (k : Int) ∧ ((bl s).drop 1).takeWhile isSmall = ((bl s).drop 1).take (k - 1) ++ ((bl s).drop k).takeWhile isSmall) (fun i => s.size - (intOf i).toNat)
    case atStart => exact ⟨1, by omega, h1, rfl, by simp⟩
    case round =>
      obtain ⟨k, hk1, hk, rfl, ht⟩ := hrel
      have HT := Lib.hid ht
      clear ht
      by_cases hlt : k < s.size
      · have HDK := Lib.hid (bl_drop s k hlt)
        by_cases hsm : isSmall s[k] = true
        · go_wp2_with (go_at_call 124; refine (small_any _ _).mono ?_; rintro e w' ⟨rfl, rfl⟩)
          go_round
          case rel =>
            refine ⟨k + 1, by omega, by omega, by go_num, ?_⟩
            rw [HT.out, HDK.out, List.takeWhile_cons_of_pos hsm]
            have e : ((bl s).drop 1).take (k + 1 - 1) = ((bl s).drop 1).take (k - 1) ++ [s[k]] := by
              have e1 : k + 1 - 1 = (k - 1) + 1 := by omega
              rw [e1, List.take_succ_eq_append_getElem (by rw [List.length_drop, bl_length]; omega)]
              congr 2
              rw [List.getElem_drop]
              have : 1 + (k - 1) = k := by omega
              simp only [this]; rfl
            rw [e]; simp
          case measure => simp [intOf]; omega
        · have hsm : isSmall s[k] = false := by simpa using hsm
          have HW2 : Hid (W = ((bl s).drop 1).take (k - 1)) := Lib.hid (by
            rw [← HWW.out, HW.out, HT.out, HDK.out, List.takeWhile_cons_of_neg (by rw [hsm]; simp)]; simp)
          go_wp2_with (go_at_call 124; refine (small_any _ _).mono ?_; rintro e w' ⟨rfl, rfl⟩)
          obtain ⟨n, hn⟩ : ∃ n : Nat, n = k := ⟨k, rfl⟩
          have hN : bl (s.extract 1 n) = W := by rw [HW2.out, bl_ext, hn]
          have HN := Lib.hid hN
          have hn2 : n ≤ s.size := by omega
          have hn1 : 1 ≤ n := by omega
          clear hN
          subst hn
          have hz : s.extract 1 n = str W := by rw [← HN.out]; exact (str_bl _).symm
          have HZ := Lib.hid hz
          clear hz
          have b1 : (1 : Int) ≤ (n : Int) := by omega
          have b2 : (n : Int) ≤ (s.size : Int) := by omega
          have HSZ := Lib.hid (size_ext s 1 n hn1 hn2)
          have HB0 := Lib.hid ((Below.refl w.heap.size w).alloc (Nat.le_refl _) (.cells #[.int .i64 0, .string ⟨#[]⟩, .int .i64 0, .int .i64 0] 131))
          by_cases hin : bl (s.extract 1 n) ∈ words
          · have hd : decide (bl (s.extract 1 n) ∈ words) = true := decide_eq_true hin
            have hs2 : st = .mark 2 W n := by
              rw [← HST.out]
              unfold word
              rw [HN.out] at hin
              rw [HWW.out, if_pos hin]
              congr 1
              rw [← HN.out, bl_length, HSZ.out]; omega
            have HS2 := Lib.hid hs2
            have HDD := Lib.hid hd
            clear hin hd hs2
            go_region_held3 (fun w' => True) (trivial) (first
              | (go_at_call 127; refine Calls.mono (words_any _) ?_; rintro e w' ⟨rfl, rfl⟩)
              | (go_at_call 122; refine Calls.mono (contains_any _ _ _ (words_new2 _ _)) ?_; rw [HDD.out]; rintro e w' ⟨rfl, rfl⟩))
            go_wp2_with fail
            refine bodyPost_ret (v := pieceV st) (by rw [HS2.out]; simp [results, Tryz.results112, go_sem]; rw [HZ.out]; rfl) rfl ⟨rfl, below_drew (((Below.refl _ _).alloc (Nat.le_refl _) _).alloc (by simp) _)⟩
          · have hd : decide (bl (s.extract 1 n) ∈ words) = false := decide_eq_false hin
            have hs2 : st = .bad 10 0 := by
              rw [← HST.out]
              unfold word
              rw [HN.out] at hin
              rw [HWW.out, if_neg hin]
            have HS2 := Lib.hid hs2
            have HDD := Lib.hid hd
            clear hin hd hs2
            go_region_held3 (fun w' => True) (trivial) (first
              | (go_at_call 127; refine Calls.mono (words_any _) ?_; rintro e w' ⟨rfl, rfl⟩)
              | (go_at_call 122; refine Calls.mono (contains_any _ _ _ (words_new2 _ _)) ?_; rw [HDD.out]; rintro e w' ⟨rfl, rfl⟩))
            have HAT := Lib.hid (((At.new w 131 #[.int .i64 0, .string ⟨#[]⟩, .int .i64 0, .int .i64 0]).alloc (.cells wordsCells 9)).drew)
            have HBEL := Lib.hid (below_drew (HB0.out.alloc (by simp) (.cells wordsCells 9)))
            go_wp2_with fail
            refine (fault_any 10 0 _).mono ?_
            rintro e w1 ⟨rfl, hb⟩
            first | (rename_i hK; refine hK _ _ ?_) | (rename_i hK _; refine hK _ _ ?_) | (rename_i hK _ _; refine hK _ _ ?_) | (rename_i hK _ _ _; refine hK _ _ ?_)
            have HA := Lib.hid (HAT.out.below hb HAT.out.lt)
            refine wpList_store_at rfl _ _ _ rfl rfl w.heap.size _ _ [_, _, _, _] rfl rfl HA.out 4 Tryz.sizePiece rfl rfl rfl ?_
            intro w2 hat hg
            go_wp2_with fail
            exact bodyPost_ret (results_cell_row rfl _ _ w.heap.size _ _ (0, 0) _ rfl hat Tryz.underlying131 rfl Tryz.sizePiece) rfl ⟨by rw [HS2.out]; rfl, below_grown (HBEL.out.trans (hb.mono HBEL.out.size)) hg (by have := hb.size; have := HBEL.out.size; omega) (Nat.le_refl _)⟩
      · have HW2 : Hid (W = ((bl s).drop 1).take (k - 1)) := Lib.hid (by
          have e : (bl s).drop k = [] := List.drop_of_length_le (by rw [bl_length]; omega)
          rw [← HWW.out, HW.out, HT.out, e]; simp)
        go_wp2_with fail
        obtain ⟨n, hn⟩ : ∃ n : Nat, n = k := ⟨k, rfl⟩
        have hN : bl (s.extract 1 n) = W := by rw [HW2.out, bl_ext, hn]
        have HN := Lib.hid hN
        have hn2 : n ≤ s.size := by omega
        have hn1 : 1 ≤ n := by omega
        clear hN
        subst hn
        have hz : s.extract 1 n = str W := by rw [← HN.out]; exact (str_bl _).symm
        have HZ := Lib.hid hz
        clear hz
        have b1 : (1 : Int) ≤ (n : Int) := by omega
        have b2 : (n : Int) ≤ (s.size : Int) := by omega
        have HSZ := Lib.hid (size_ext s 1 n hn1 hn2)
        have HB0 := Lib.hid ((Below.refl w.heap.size w).alloc (Nat.le_refl _) (.cells #[.int .i64 0, .string ⟨#[]⟩, .int .i64 0, .int .i64 0] 131))
        by_cases hin : bl (s.extract 1 n) ∈ words
        · have hd : decide (bl (s.extract 1 n) ∈ words) = true := decide_eq_true hin
          have hs2 : st = .mark 2 W n := by
            rw [← HST.out]
            unfold word
            rw [HN.out] at hin
            rw [HWW.out, if_pos hin]
            congr 1
            rw [← HN.out, bl_length, HSZ.out]; omega
          have HS2 := Lib.hid hs2
          have HDD := Lib.hid hd
          clear hin hd hs2
          go_region_held3 (fun w' => True) (trivial) (first
            | (go_at_call 127; refine Calls.mono (words_any _) ?_; rintro e w' ⟨rfl, rfl⟩)
            | (go_at_call 122; refine Calls.mono (contains_any _ _ _ (words_new2 _ _)) ?_; rw [HDD.out]; rintro e w' ⟨rfl, rfl⟩))
          go_wp2_with fail
          refine bodyPost_ret (v := pieceV st) (by rw [HS2.out]; simp [results, Tryz.results112, go_sem]; rw [HZ.out]; rfl) rfl ⟨rfl, below_drew (((Below.refl _ _).alloc (Nat.le_refl _) _).alloc (by simp) _)⟩
        · have hd : decide (bl (s.extract 1 n) ∈ words) = false := decide_eq_false hin
          have hs2 : st = .bad 10 0 := by
            rw [← HST.out]
            unfold word
            rw [HN.out] at hin
            rw [HWW.out, if_neg hin]
          have HS2 := Lib.hid hs2
          have HDD := Lib.hid hd
          clear hin hd hs2
          go_region_held3 (fun w' => True) (trivial) (first
            | (go_at_call 127; refine Calls.mono (words_any _) ?_; rintro e w' ⟨rfl, rfl⟩)
            | (go_at_call 122; refine Calls.mono (contains_any _ _ _ (words_new2 _ _)) ?_; rw [HDD.out]; rintro e w' ⟨rfl, rfl⟩))
          have HAT := Lib.hid (((At.new w 131 #[.int .i64 0, .string ⟨#[]⟩, .int .i64 0, .int .i64 0]).alloc (.cells wordsCells 9)).drew)
          have HBEL := Lib.hid (below_drew (HB0.out.alloc (by simp) (.cells wordsCells 9)))
          go_wp2_with fail
          refine (fault_any 10 0 _).mono ?_
          rintro e w1 ⟨rfl, hb⟩
          first | (rename_i hK; refine hK _ _ ?_) | (rename_i hK _; refine hK _ _ ?_) | (rename_i hK _ _; refine hK _ _ ?_) | (rename_i hK _ _ _; refine hK _ _ ?_)
          have HA := Lib.hid (HAT.out.below hb HAT.out.lt)
          refine wpList_store_at rfl _ _ _ rfl rfl w.heap.size _ _ [_, _, _, _] rfl rfl HA.out 4 Tryz.sizePiece rfl rfl rfl ?_
          intro w2 hat hg
          go_wp2_with fail
          exact bodyPost_ret (results_cell_row rfl _ _ w.heap.size _ _ (0, 0) _ rfl hat Tryz.underlying131 rfl Tryz.sizePiece) rfl ⟨by rw [HS2.out]; rfl, below_grown (HBEL.out.trans (hb.mono HBEL.out.size)) hg (by have := hb.size; have := HBEL.out.size; omega) (Nat.le_refl _)⟩

end Go.Proofs.YtpgmapjjjpcmfaaGreatDoor
