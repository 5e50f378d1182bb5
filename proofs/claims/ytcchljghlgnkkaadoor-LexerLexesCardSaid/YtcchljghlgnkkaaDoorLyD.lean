/-
  The walk of tronageref05's Next; what class tells is a premise here (its own contract: LyE).
-/
import Derived.Test.YtcchljghlgnkkaaDoorLyC
namespace Go.Proofs.YtcchljghlgnkkaaDoor
open Go.RowKit
open Lx
set_option linter.unusedVariables false
set_option linter.unusedSimpArgs false

theorem takeWhile_take {α : Type} (p : α → Bool) : ∀ l : List α, l.take (l.takeWhile p).length = l.takeWhile p
  | [] => rfl
  | a :: l => by
    by_cases h : p a = true
    · rw [List.takeWhile_cons_of_pos h]; simp [takeWhile_take p l]
    · rw [List.takeWhile_cons_of_neg h]; rfl
/-- What class is asked to tell. -/
def ClassTells (s : ByteArray) (i0 : Nat) : Prop := ∀ w : World, Calls Tryd.prog 40 #[.string s, .int .i64 (i0 : Int)] w fun e w' => e = .returned (foundV i0 (cls ((bl s).drop (i0 + 1)) 1 none_)) ∧ Below w.heap.size w w'

set_option maxHeartbeats 1500000 in
theorem next_any (s : ByteArray) (i0 : Nat) (w : World) (hs : s.size ≤ 4000) (hi : i0 < s.size) (hcls : ClassTells s i0) :
    Calls Tryd.prog 26 #[.string s, .int .i64 (i0 : Int)] w fun e w' => e = .returned (foundV i0 (Lx.step ((bl s).drop i0))) ∧ Below w.heap.size w w' := by
  have hd := bl_drop s i0 hi
  generalize hr : (bl s).drop (i0 + 1) = r at hd
  rw [hd]
  have HD0 := Lib.hid hd
  have HR := Lib.hid hr
  obtain ⟨c, hc⟩ : ∃ c, s[i0] = c := ⟨_, rfl⟩
  have HC := Lib.hid hc
  have HCL := Lib.hid hcls
  rw [HC.out]
  clear hd hr hcls
  go_enter Tryd.func26, Tryd.ntmps26
  have HF0 := Lib.hid (At.new w 52 #[.int .i64 0, .string ⟨#[]⟩, .int .i64 0, .int .i64 0, .int .i64 0])
  have HB0 := Lib.hid ((Below.refl w.heap.size w).alloc (Nat.le_refl _) (.cells #[.int .i64 0, .string ⟨#[]⟩, .int .i64 0, .int .i64 0, .int .i64 0] 52))
  by_cases s1 : c = 32
  · have c1 : ((c.toNat : Int) == 32) = true := u8_is s1
    have E := Lib.hid s1
    clear s1
    go_wp2_with fail
    refine bodyPost_ret (v := foundV i0 (.skip 1)) (by simp [results, Tryd.results26, go_sem]; rfl) rfl ⟨?_, (Below.refl _ _).alloc (Nat.le_refl _) _⟩
    rw [E.out]; rfl
  have c1 : ((c.toNat : Int) == 32) = false := u8_ne s1
  by_cases s2 : c = 9
  · have c2 : ((c.toNat : Int) == 9) = true := u8_is s2
    have E := Lib.hid s2
    clear s1 s2
    go_wp2_with fail
    refine bodyPost_ret (v := foundV i0 (.skip 1)) (by simp [results, Tryd.results26, go_sem]; rfl) rfl ⟨?_, (Below.refl _ _).alloc (Nat.le_refl _) _⟩
    rw [E.out]; rfl
  have c2 : ((c.toNat : Int) == 9) = false := u8_ne s2
  by_cases s3 : c = 10
  · have c3 : ((c.toNat : Int) == 10) = true := u8_is s3
    have E := Lib.hid s3
    clear s1 s2 s3
    go_wp2_with fail
    refine bodyPost_ret (v := foundV i0 (.skip 1)) (by simp [results, Tryd.results26, go_sem]; rfl) rfl ⟨?_, (Below.refl _ _).alloc (Nat.le_refl _) _⟩
    rw [E.out]; rfl
  have c3 : ((c.toNat : Int) == 10) = false := u8_ne s3
  by_cases s4 : c = 13
  · have c4 : ((c.toNat : Int) == 13) = true := u8_is s4
    have E := Lib.hid s4
    clear s1 s2 s3 s4
    go_wp2_with fail
    refine bodyPost_ret (v := foundV i0 (.skip 1)) (by simp [results, Tryd.results26, go_sem]; rfl) rfl ⟨?_, (Below.refl _ _).alloc (Nat.le_refl _) _⟩
    rw [E.out]; rfl
  have c4 : ((c.toNat : Int) == 13) = false := u8_ne s4
  have hsp : isSpace c = false := by unfold isSpace; simp [s1, s2, s3, s4]
  have HSP := Lib.hid hsp
  clear s1 s2 s3 s4 hsp
  by_cases s5 : c = 35
  · have c5 : ((c.toNat : Int) == 35) = true := u8_is s5
    have hst : Lx.step (c :: r) = .skip ((((bl s).drop i0).takeWhile (· != 10)).length) := by rw [HD0.out, HC.out, s5]; exact step_note r
    generalize hN : (((bl s).drop i0).takeWhile (· != 10)).length = N at hst
    have HST := Lib.hid hst
    have HN := Lib.hid hN
    clear s5 hst hN
    go_wp2_with fail
    generalize w.alloc (.cells #[.int .i64 0, .string ⟨#[]⟩, .int .i64 0, .int .i64 0, .int .i64 0] 52) = W1 at HF0 HB0 ⊢
    go_loop [6] (fun i => ∃ k : Nat, i = .int .i64 (k : Int) ∧ i0 ≤ k ∧ k ≤ s.size ∧ k - i0 + (((bl s).drop k).takeWhile (· != 10)).length = N) (fun i => s.size - (intOf i).toNat)
    case atStart => exact ⟨i0, rfl, by omega, by omega, by rw [HN.out]; omega⟩
    case round =>
      obtain ⟨k, rfl, hik, hks, hn⟩ := hrel
      have HN2 := Lib.hid hn
      clear hn
      by_cases hlt : k < s.size
      · have HD := Lib.hid (bl_drop s k hlt)
        have hki : (k : Int) < (s.size : Int) := by omega
        by_cases h10 : s[k] = 10
        · have e1 : ((s[k].toNat : Int) == 10) = true := u8_is h10
          have hN : k - i0 = N := by rw [← HN2.out, HD.out, h10]; simp
          have HNN := Lib.hid hN
          clear h10 hN
          have cd0 := HF0.out.cell 0
          have cd1 := HF0.out.cell 1
          have cd2 := HF0.out.cell 2
          have cd3 := HF0.out.cell 3
          have cd4 := HF0.out.cell 4
          have cdf := HF0.out.frozen
          simp only [List.getElem?_toArray, List.getElem?_cons_zero, List.getElem?_cons_succ] at cd0 cd1 cd2 cd3 cd4
          go_wp2_with fail
          refine bodyPost_ret (results_cell_row rfl _ _ w.heap.size _ _ (0, 0) _ rfl (HF0.out.five _ _ _ _ _) Tryd.underlying52 rfl Tryd.sizeFound) rfl ⟨?_, below_grown HB0.out (grown_five _ _ _ _ _ _ _) HB0.out.size (Nat.le_refl _)⟩
          rw [HST.out, ← HNN.out]
          show _ = Ending.returned (.agg #[.int .i64 (-1), .string (str []), .int .i64 ((i0 + (k - i0) : Nat) : Int), .int .i64 0, .int .i64 0])
          rw [show i0 + (k - i0) = k by omega]
          rfl
        · have e1 : ((s[k].toNat : Int) == 10) = false := u8_ne h10
          have HX := Lib.hid h10
          clear h10
          go_wp2_with fail
          go_round
          case rel => exact ⟨k + 1, by go_num, by omega, by omega, by
            have := HN2.out
            rw [HD.out, List.takeWhile_cons_of_pos (by simpa using HX.out)] at this
            simp at this ⊢; omega⟩
          case measure => simp [intOf]; omega
      · have hN : k - i0 = N := by rw [← HN2.out, List.drop_of_length_le (by rw [bl_length]; omega)]; rfl
        have HNN := Lib.hid hN
        have hki : (s.size : Int) ≤ (k : Int) := by omega
        clear hN
        have cd0 := HF0.out.cell 0
        have cd1 := HF0.out.cell 1
        have cd2 := HF0.out.cell 2
        have cd3 := HF0.out.cell 3
        have cd4 := HF0.out.cell 4
        have cdf := HF0.out.frozen
        simp only [List.getElem?_toArray, List.getElem?_cons_zero, List.getElem?_cons_succ] at cd0 cd1 cd2 cd3 cd4
        go_wp2_with fail
        refine bodyPost_ret (results_cell_row rfl _ _ w.heap.size _ _ (0, 0) _ rfl (HF0.out.five _ _ _ _ _) Tryd.underlying52 rfl Tryd.sizeFound) rfl ⟨?_, below_grown HB0.out (grown_five _ _ _ _ _ _ _) HB0.out.size (Nat.le_refl _)⟩
        rw [HST.out, ← HNN.out]
        show _ = Ending.returned (.agg #[.int .i64 (-1), .string (str []), .int .i64 ((i0 + (k - i0) : Nat) : Int), .int .i64 0, .int .i64 0])
        rw [show i0 + (k - i0) = k by omega]
        rfl
  have c5 : ((c.toNat : Int) == 35) = false := u8_ne s5
  by_cases hlet : isLetter c = true
  · have hN0 : (nameOf (c :: r)) = (((bl s).drop i0).takeWhile isName) := by rw [HD0.out, HC.out, name_cons, if_pos hlet]
    have hst := step_letter r hlet
    rw [hN0] at hst
    generalize hL : ((bl s).drop i0).takeWhile isName = L at hst
    have hlet0 : isLetter s[i0] = true := by rw [HC.out]; exact hlet
    have HST := Lib.hid hst
    have HL := Lib.hid hL
    have HLT := Lib.hid hlet
    clear s5 hst hL hN0 hlet hlet0
    have hlt1 := HLT.out
    go_wp2_with (go_at_call 28; refine (letter2_any _ _).mono ?_; rintro e w' ⟨rfl, rfl⟩)
    generalize w.alloc (.cells #[.int .i64 0, .string ⟨#[]⟩, .int .i64 0, .int .i64 0, .int .i64 0] 52) = W1 at HF0 HB0 ⊢
    go_loop [7] (fun i => ∃ k : Nat, i = .int .i64 (k : Int) ∧ i0 ≤ k ∧ k ≤ s.size ∧ k - i0 + (((bl s).drop k).takeWhile isName).length = L.length) (fun i => s.size - (intOf i).toNat)
    case atStart => exact ⟨i0, rfl, by omega, by omega, by rw [HL.out]; omega⟩
    case round =>
      obtain ⟨k, rfl, hik, hks, hn⟩ := hrel
      have HN2 := Lib.hid hn
      clear hn
      by_cases hlt : k < s.size
      · have HD := Lib.hid (bl_drop s k hlt)
        have hki : (k : Int) < (s.size : Int) := by omega
        obtain ⟨d, hd⟩ : ∃ d, s[k] = d := ⟨_, rfl⟩
        have HDD := Lib.hid hd
        by_cases h1 : isLetter d = true
        · have HX := Lib.hid (letter_name h1)
          go_wp2_with (go_at_call 28; refine (letter2_any _ _).mono ?_; rintro e w' ⟨rfl, rfl⟩)
          go_round
          case rel => exact ⟨k + 1, by go_num, by omega, by omega, by
            have := HN2.out
            rw [HD.out, HDD.out, List.takeWhile_cons_of_pos HX.out] at this
            simp at this ⊢; omega⟩
          case measure => simp [intOf]; omega
        · have h1 : isLetter d = false := by simpa using h1
          by_cases h2 : isDigit d = true
          · have hnm : isName d = true := by unfold isName; rw [h2]; simp
            have HX := Lib.hid hnm
            clear hnm
            go_wp2_with (first | (go_at_call 28; refine (letter2_any _ _).mono ?_; rintro e w' ⟨rfl, rfl⟩) | (go_at_call 29; refine (digit2_any _ _).mono ?_; rintro e w' ⟨rfl, rfl⟩))
            go_round
            case rel => exact ⟨k + 1, by go_num, by omega, by omega, by
              have := HN2.out
              rw [HD.out, HDD.out, List.takeWhile_cons_of_pos HX.out] at this
              simp at this ⊢; omega⟩
            case measure => simp [intOf]; omega
          · have h2 : isDigit d = false := by simpa using h2
            have hnm : ¬ isName d = true := by unfold isName; rw [h2, h1]; simp
            have hN : k - i0 = L.length := by rw [← HN2.out, HD.out, HDD.out, List.takeWhile_cons_of_neg hnm]; rfl
            have HNN := Lib.hid hN
            clear hnm hN
            have hx : s.extract i0 k = str L := by
              rw [ext_str, HNN.out]
              have e := takeWhile_take isName ((bl s).drop i0)
              rw [HL.out] at e
              rw [e]
            have HX := Lib.hid hx
            clear hx
            by_cases h32 : 32 < L.length
            · have hl2 : (32 : Int) < (k : Int) - (i0 : Int) := by have := HNN.out; omega
              have hst2 : Lx.step (c :: r) = .bad 12 0 := by rw [HST.out, if_pos h32]
              have HS2 := Lib.hid hst2
              clear hst2
              go_wp2_with (first | (go_at_call 28; refine (letter2_any _ _).mono ?_; rintro e w' ⟨rfl, rfl⟩) | (go_at_call 29; refine (digit2_any _ _).mono ?_; rintro e w' ⟨rfl, rfl⟩))
              refine (bad_any 12 i0 _).mono ?_
              rintro e w1 ⟨rfl, hb⟩
              first | (rename_i hK; refine hK _ _ ?_) | (rename_i hK _; refine hK _ _ ?_) | (rename_i hK _ _; refine hK _ _ ?_) | (rename_i hK _ _ _; refine hK _ _ ?_)
              have HA := Lib.hid (HF0.out.below hb HF0.out.lt)
              refine wpList_store_at rfl _ _ _ rfl rfl w.heap.size _ _ [_, _, _, _, _] rfl rfl HA.out 5 Tryd.sizeFound rfl rfl rfl ?_
              intro w2 hat hg
              go_wp2_with fail
              exact bodyPost_ret (results_cell_row rfl _ _ w.heap.size _ _ (0, 0) _ rfl hat Tryd.underlying52 rfl Tryd.sizeFound) rfl ⟨by rw [HS2.out]; rfl, below_grown (HB0.out.trans (hb.mono HB0.out.size)) hg (by have := hb.size; have := HB0.out.size; omega) (Nat.le_refl _)⟩
            · have hl2 : (k : Int) - (i0 : Int) ≤ 32 := by have := HNN.out; omega
              have hst2 : Lx.step (c :: r) = .mark 1 L L.length := by rw [HST.out, if_neg h32]
              have HS2 := Lib.hid hst2
              have hik2 : (i0 : Int) ≤ (k : Int) := by omega
              clear hst2
              have cd0 := HF0.out.cell 0
              have cd1 := HF0.out.cell 1
              have cd2 := HF0.out.cell 2
              have cd3 := HF0.out.cell 3
              have cd4 := HF0.out.cell 4
              have cdf := HF0.out.frozen
              simp only [List.getElem?_toArray, List.getElem?_cons_zero, List.getElem?_cons_succ] at cd0 cd1 cd2 cd3 cd4
              go_wp2_with (first | (go_at_call 28; refine (letter2_any _ _).mono ?_; rintro e w' ⟨rfl, rfl⟩) | (go_at_call 29; refine (digit2_any _ _).mono ?_; rintro e w' ⟨rfl, rfl⟩))
              rw [HX.out]
              refine bodyPost_ret (results_cell_row rfl _ _ w.heap.size _ _ (0, 0) _ rfl (HF0.out.five _ _ _ _ _) Tryd.underlying52 rfl Tryd.sizeFound) rfl ⟨?_, below_grown HB0.out (grown_five _ _ _ _ _ _ _) HB0.out.size (Nat.le_refl _)⟩
              rw [HS2.out, foundV_mark, show i0 + L.length = k by have := HNN.out; omega]
              rfl
      · have hN : k - i0 = L.length := by rw [← HN2.out, List.drop_of_length_le (by rw [bl_length]; omega)]; rfl
        have HNN := Lib.hid hN
        have hki : (s.size : Int) ≤ (k : Int) := by omega
        clear hN
        have hx : s.extract i0 k = str L := by
          rw [ext_str, HNN.out]
          have e := takeWhile_take isName ((bl s).drop i0)
          rw [HL.out] at e
          rw [e]
        have HX := Lib.hid hx
        clear hx
        by_cases h32 : 32 < L.length
        · have hl2 : (32 : Int) < (k : Int) - (i0 : Int) := by have := HNN.out; omega
          have hst2 : Lx.step (c :: r) = .bad 12 0 := by rw [HST.out, if_pos h32]
          have HS2 := Lib.hid hst2
          clear hst2
          go_wp2_with fail
          refine (bad_any 12 i0 _).mono ?_
          rintro e w1 ⟨rfl, hb⟩
          first | (rename_i hK; refine hK _ _ ?_) | (rename_i hK _; refine hK _ _ ?_) | (rename_i hK _ _; refine hK _ _ ?_) | (rename_i hK _ _ _; refine hK _ _ ?_)
          have HA := Lib.hid (HF0.out.below hb HF0.out.lt)
          refine wpList_store_at rfl _ _ _ rfl rfl w.heap.size _ _ [_, _, _, _, _] rfl rfl HA.out 5 Tryd.sizeFound rfl rfl rfl ?_
          intro w2 hat hg
          go_wp2_with fail
          exact bodyPost_ret (results_cell_row rfl _ _ w.heap.size _ _ (0, 0) _ rfl hat Tryd.underlying52 rfl Tryd.sizeFound) rfl ⟨by rw [HS2.out]; rfl, below_grown (HB0.out.trans (hb.mono HB0.out.size)) hg (by have := hb.size; have := HB0.out.size; omega) (Nat.le_refl _)⟩
        · have hl2 : (k : Int) - (i0 : Int) ≤ 32 := by have := HNN.out; omega
          have hst2 : Lx.step (c :: r) = .mark 1 L L.length := by rw [HST.out, if_neg h32]
          have HS2 := Lib.hid hst2
          have hik2 : (i0 : Int) ≤ (k : Int) := by omega
          clear hst2
          have cd0 := HF0.out.cell 0
          have cd1 := HF0.out.cell 1
          have cd2 := HF0.out.cell 2
          have cd3 := HF0.out.cell 3
          have cd4 := HF0.out.cell 4
          have cdf := HF0.out.frozen
          simp only [List.getElem?_toArray, List.getElem?_cons_zero, List.getElem?_cons_succ] at cd0 cd1 cd2 cd3 cd4
          go_wp2_with fail
          rw [HX.out]
          refine bodyPost_ret (results_cell_row rfl _ _ w.heap.size _ _ (0, 0) _ rfl (HF0.out.five _ _ _ _ _) Tryd.underlying52 rfl Tryd.sizeFound) rfl ⟨?_, below_grown HB0.out (grown_five _ _ _ _ _ _ _) HB0.out.size (Nat.le_refl _)⟩
          rw [HS2.out, foundV_mark, show i0 + L.length = k by have := HNN.out; omega]
          rfl
  have hlet : isLetter c = false := by simpa using hlet
  have HLF := Lib.hid hlet
  have HRR := Lib.hid (show (bl s).drop (i0 + 1) = r from HR.out)
  by_cases t1 : c = 37
  · have d1 : ((c.toNat : Int) == 37) = true := u8_is t1
    have E := Lib.hid t1
    clear s5 hlet t1
    have HS := Lib.hid (show Lx.step (c :: r) = word r by rw [E.out]; rfl)
    go_wp2_with (go_at_call 28; refine (letter2_any _ _).mono ?_; rw [HLF.out]; rintro e w' ⟨rfl, rfl⟩)
    refine (rword_any s i0 _ hs hi).mono ?_
    rw [HRR.out]
    cases hstep : word r with
    | skip n =>
      rintro e w1 ⟨rfl, hb⟩
      unfold foundV
      first | (rename_i hK; refine hK _ _ ?_) | (rename_i hK _; refine hK _ _ ?_) | (rename_i hK _ _; refine hK _ _ ?_) | (rename_i hK _ _ _; refine hK _ _ ?_)
      have HA := Lib.hid (HF0.out.below hb HF0.out.lt)
      refine wpList_store_at rfl _ _ _ rfl rfl w.heap.size _ _ [_, _, _, _, _] rfl rfl HA.out 5 Tryd.sizeFound rfl rfl rfl ?_
      intro w2 hat hg
      go_wp2_with fail
      exact bodyPost_ret (results_cell_row rfl _ _ w.heap.size _ _ (0, 0) _ rfl hat Tryd.underlying52 rfl Tryd.sizeFound) rfl ⟨by rw [HS.out, hstep]; rfl, below_grown (HB0.out.trans (hb.mono HB0.out.size)) hg (by have := hb.size; have := HB0.out.size; omega) (Nat.le_refl _)⟩
    | mark k t n =>
      rintro e w1 ⟨rfl, hb⟩
      unfold foundV
      first | (rename_i hK; refine hK _ _ ?_) | (rename_i hK _; refine hK _ _ ?_) | (rename_i hK _ _; refine hK _ _ ?_) | (rename_i hK _ _ _; refine hK _ _ ?_)
      have HA := Lib.hid (HF0.out.below hb HF0.out.lt)
      refine wpList_store_at rfl _ _ _ rfl rfl w.heap.size _ _ [_, _, _, _, _] rfl rfl HA.out 5 Tryd.sizeFound rfl rfl rfl ?_
      intro w2 hat hg
      go_wp2_with fail
      exact bodyPost_ret (results_cell_row rfl _ _ w.heap.size _ _ (0, 0) _ rfl hat Tryd.underlying52 rfl Tryd.sizeFound) rfl ⟨by rw [HS.out, hstep]; rfl, below_grown (HB0.out.trans (hb.mono HB0.out.size)) hg (by have := hb.size; have := HB0.out.size; omega) (Nat.le_refl _)⟩
    | bad c n =>
      rintro e w1 ⟨rfl, hb⟩
      unfold foundV
      first | (rename_i hK; refine hK _ _ ?_) | (rename_i hK _; refine hK _ _ ?_) | (rename_i hK _ _; refine hK _ _ ?_) | (rename_i hK _ _ _; refine hK _ _ ?_)
      have HA := Lib.hid (HF0.out.below hb HF0.out.lt)
      refine wpList_store_at rfl _ _ _ rfl rfl w.heap.size _ _ [_, _, _, _, _] rfl rfl HA.out 5 Tryd.sizeFound rfl rfl rfl ?_
      intro w2 hat hg
      go_wp2_with fail
      exact bodyPost_ret (results_cell_row rfl _ _ w.heap.size _ _ (0, 0) _ rfl hat Tryd.underlying52 rfl Tryd.sizeFound) rfl ⟨by rw [HS.out, hstep]; rfl, below_grown (HB0.out.trans (hb.mono HB0.out.size)) hg (by have := hb.size; have := HB0.out.size; omega) (Nat.le_refl _)⟩
  have d1 : ((c.toNat : Int) == 37) = false := u8_ne t1
  by_cases t2 : c = 34
  · have d2 : ((c.toNat : Int) == 34) = true := u8_is t2
    have E := Lib.hid t2
    clear s5 hlet t1 t2
    have HS := Lib.hid (show Lx.step (c :: r) = text r [] 1 by rw [E.out]; rfl)
    go_wp2_with (go_at_call 28; refine (letter2_any _ _).mono ?_; rw [HLF.out]; rintro e w' ⟨rfl, rfl⟩)
    refine (rtext_any s i0 _ hs hi).mono ?_
    rw [HRR.out]
    cases hstep : text r [] 1 with
    | skip n =>
      rintro e w1 ⟨rfl, hb⟩
      unfold foundV
      first | (rename_i hK; refine hK _ _ ?_) | (rename_i hK _; refine hK _ _ ?_) | (rename_i hK _ _; refine hK _ _ ?_) | (rename_i hK _ _ _; refine hK _ _ ?_)
      have HA := Lib.hid (HF0.out.below hb HF0.out.lt)
      refine wpList_store_at rfl _ _ _ rfl rfl w.heap.size _ _ [_, _, _, _, _] rfl rfl HA.out 5 Tryd.sizeFound rfl rfl rfl ?_
      intro w2 hat hg
      go_wp2_with fail
      exact bodyPost_ret (results_cell_row rfl _ _ w.heap.size _ _ (0, 0) _ rfl hat Tryd.underlying52 rfl Tryd.sizeFound) rfl ⟨by rw [HS.out, hstep]; rfl, below_grown (HB0.out.trans (hb.mono HB0.out.size)) hg (by have := hb.size; have := HB0.out.size; omega) (Nat.le_refl _)⟩
    | mark k t n =>
      rintro e w1 ⟨rfl, hb⟩
      unfold foundV
      first | (rename_i hK; refine hK _ _ ?_) | (rename_i hK _; refine hK _ _ ?_) | (rename_i hK _ _; refine hK _ _ ?_) | (rename_i hK _ _ _; refine hK _ _ ?_)
      have HA := Lib.hid (HF0.out.below hb HF0.out.lt)
      refine wpList_store_at rfl _ _ _ rfl rfl w.heap.size _ _ [_, _, _, _, _] rfl rfl HA.out 5 Tryd.sizeFound rfl rfl rfl ?_
      intro w2 hat hg
      go_wp2_with fail
      exact bodyPost_ret (results_cell_row rfl _ _ w.heap.size _ _ (0, 0) _ rfl hat Tryd.underlying52 rfl Tryd.sizeFound) rfl ⟨by rw [HS.out, hstep]; rfl, below_grown (HB0.out.trans (hb.mono HB0.out.size)) hg (by have := hb.size; have := HB0.out.size; omega) (Nat.le_refl _)⟩
    | bad c n =>
      rintro e w1 ⟨rfl, hb⟩
      unfold foundV
      first | (rename_i hK; refine hK _ _ ?_) | (rename_i hK _; refine hK _ _ ?_) | (rename_i hK _ _; refine hK _ _ ?_) | (rename_i hK _ _ _; refine hK _ _ ?_)
      have HA := Lib.hid (HF0.out.below hb HF0.out.lt)
      refine wpList_store_at rfl _ _ _ rfl rfl w.heap.size _ _ [_, _, _, _, _] rfl rfl HA.out 5 Tryd.sizeFound rfl rfl rfl ?_
      intro w2 hat hg
      go_wp2_with fail
      exact bodyPost_ret (results_cell_row rfl _ _ w.heap.size _ _ (0, 0) _ rfl hat Tryd.underlying52 rfl Tryd.sizeFound) rfl ⟨by rw [HS.out, hstep]; rfl, below_grown (HB0.out.trans (hb.mono HB0.out.size)) hg (by have := hb.size; have := HB0.out.size; omega) (Nat.le_refl _)⟩
  have d2 : ((c.toNat : Int) == 34) = false := u8_ne t2
  by_cases t3 : c = 91
  · have d3 : ((c.toNat : Int) == 91) = true := u8_is t3
    have E := Lib.hid t3
    clear s5 hlet t1 t2 t3
    have HS := Lib.hid (show Lx.step (c :: r) = cls r 1 none_ by rw [E.out]; rfl)
    go_wp2_with (go_at_call 28; refine (letter2_any _ _).mono ?_; rw [HLF.out]; rintro e w' ⟨rfl, rfl⟩)
    refine (HCL.out _).mono ?_
    rw [HRR.out]
    cases hstep : cls r 1 none_ with
    | skip n =>
      rintro e w1 ⟨rfl, hb⟩
      unfold foundV
      first | (rename_i hK; refine hK _ _ ?_) | (rename_i hK _; refine hK _ _ ?_) | (rename_i hK _ _; refine hK _ _ ?_) | (rename_i hK _ _ _; refine hK _ _ ?_)
      have HA := Lib.hid (HF0.out.below hb HF0.out.lt)
      refine wpList_store_at rfl _ _ _ rfl rfl w.heap.size _ _ [_, _, _, _, _] rfl rfl HA.out 5 Tryd.sizeFound rfl rfl rfl ?_
      intro w2 hat hg
      go_wp2_with fail
      exact bodyPost_ret (results_cell_row rfl _ _ w.heap.size _ _ (0, 0) _ rfl hat Tryd.underlying52 rfl Tryd.sizeFound) rfl ⟨by rw [HS.out, hstep]; rfl, below_grown (HB0.out.trans (hb.mono HB0.out.size)) hg (by have := hb.size; have := HB0.out.size; omega) (Nat.le_refl _)⟩
    | mark k t n =>
      rintro e w1 ⟨rfl, hb⟩
      unfold foundV
      first | (rename_i hK; refine hK _ _ ?_) | (rename_i hK _; refine hK _ _ ?_) | (rename_i hK _ _; refine hK _ _ ?_) | (rename_i hK _ _ _; refine hK _ _ ?_)
      have HA := Lib.hid (HF0.out.below hb HF0.out.lt)
      refine wpList_store_at rfl _ _ _ rfl rfl w.heap.size _ _ [_, _, _, _, _] rfl rfl HA.out 5 Tryd.sizeFound rfl rfl rfl ?_
      intro w2 hat hg
      go_wp2_with fail
      exact bodyPost_ret (results_cell_row rfl _ _ w.heap.size _ _ (0, 0) _ rfl hat Tryd.underlying52 rfl Tryd.sizeFound) rfl ⟨by rw [HS.out, hstep]; rfl, below_grown (HB0.out.trans (hb.mono HB0.out.size)) hg (by have := hb.size; have := HB0.out.size; omega) (Nat.le_refl _)⟩
    | bad c n =>
      rintro e w1 ⟨rfl, hb⟩
      unfold foundV
      first | (rename_i hK; refine hK _ _ ?_) | (rename_i hK _; refine hK _ _ ?_) | (rename_i hK _ _; refine hK _ _ ?_) | (rename_i hK _ _ _; refine hK _ _ ?_)
      have HA := Lib.hid (HF0.out.below hb HF0.out.lt)
      refine wpList_store_at rfl _ _ _ rfl rfl w.heap.size _ _ [_, _, _, _, _] rfl rfl HA.out 5 Tryd.sizeFound rfl rfl rfl ?_
      intro w2 hat hg
      go_wp2_with fail
      exact bodyPost_ret (results_cell_row rfl _ _ w.heap.size _ _ (0, 0) _ rfl hat Tryd.underlying52 rfl Tryd.sizeFound) rfl ⟨by rw [HS.out, hstep]; rfl, below_grown (HB0.out.trans (hb.mono HB0.out.size)) hg (by have := hb.size; have := HB0.out.size; omega) (Nat.le_refl _)⟩
  have d3 : ((c.toNat : Int) == 91) = false := u8_ne t3
  by_cases t4 : c = 123
  · have d4 : ((c.toNat : Int) == 123) = true := u8_is t4
    have E := Lib.hid t4
    clear s5 hlet t1 t2 t3 t4
    have h123 : s[i0] = 123 := by rw [HC.out, E.out]
    have H123 := Lib.hid h123
    clear h123
    have HS := Lib.hid (show Lx.step (c :: r) = act r [] 1 by rw [E.out]; rfl)
    go_wp2_with (go_at_call 28; refine (letter2_any _ _).mono ?_; rw [HLF.out]; rintro e w' ⟨rfl, rfl⟩)
    refine (raction_any s i0 _ hs hi H123.out).mono ?_
    rw [HRR.out]
    cases hstep : act r [] 1 with
    | skip n =>
      rintro e w1 ⟨rfl, hb⟩
      unfold foundV
      first | (rename_i hK; refine hK _ _ ?_) | (rename_i hK _; refine hK _ _ ?_) | (rename_i hK _ _; refine hK _ _ ?_) | (rename_i hK _ _ _; refine hK _ _ ?_)
      have HA := Lib.hid (HF0.out.below hb HF0.out.lt)
      refine wpList_store_at rfl _ _ _ rfl rfl w.heap.size _ _ [_, _, _, _, _] rfl rfl HA.out 5 Tryd.sizeFound rfl rfl rfl ?_
      intro w2 hat hg
      go_wp2_with fail
      exact bodyPost_ret (results_cell_row rfl _ _ w.heap.size _ _ (0, 0) _ rfl hat Tryd.underlying52 rfl Tryd.sizeFound) rfl ⟨by rw [HS.out, hstep]; rfl, below_grown (HB0.out.trans (hb.mono HB0.out.size)) hg (by have := hb.size; have := HB0.out.size; omega) (Nat.le_refl _)⟩
    | mark k t n =>
      rintro e w1 ⟨rfl, hb⟩
      unfold foundV
      first | (rename_i hK; refine hK _ _ ?_) | (rename_i hK _; refine hK _ _ ?_) | (rename_i hK _ _; refine hK _ _ ?_) | (rename_i hK _ _ _; refine hK _ _ ?_)
      have HA := Lib.hid (HF0.out.below hb HF0.out.lt)
      refine wpList_store_at rfl _ _ _ rfl rfl w.heap.size _ _ [_, _, _, _, _] rfl rfl HA.out 5 Tryd.sizeFound rfl rfl rfl ?_
      intro w2 hat hg
      go_wp2_with fail
      exact bodyPost_ret (results_cell_row rfl _ _ w.heap.size _ _ (0, 0) _ rfl hat Tryd.underlying52 rfl Tryd.sizeFound) rfl ⟨by rw [HS.out, hstep]; rfl, below_grown (HB0.out.trans (hb.mono HB0.out.size)) hg (by have := hb.size; have := HB0.out.size; omega) (Nat.le_refl _)⟩
    | bad c n =>
      rintro e w1 ⟨rfl, hb⟩
      unfold foundV
      first | (rename_i hK; refine hK _ _ ?_) | (rename_i hK _; refine hK _ _ ?_) | (rename_i hK _ _; refine hK _ _ ?_) | (rename_i hK _ _ _; refine hK _ _ ?_)
      have HA := Lib.hid (HF0.out.below hb HF0.out.lt)
      refine wpList_store_at rfl _ _ _ rfl rfl w.heap.size _ _ [_, _, _, _, _] rfl rfl HA.out 5 Tryd.sizeFound rfl rfl rfl ?_
      intro w2 hat hg
      go_wp2_with fail
      exact bodyPost_ret (results_cell_row rfl _ _ w.heap.size _ _ (0, 0) _ rfl hat Tryd.underlying52 rfl Tryd.sizeFound) rfl ⟨by rw [HS.out, hstep]; rfl, below_grown (HB0.out.trans (hb.mono HB0.out.size)) hg (by have := hb.size; have := HB0.out.size; omega) (Nat.le_refl _)⟩
  have d4 : ((c.toNat : Int) == 123) = false := u8_ne t4
  by_cases t5 : c = 43
  · have d5 : ((c.toNat : Int) == 43) = true := u8_is t5
    have E := Lib.hid t5
    clear s5 hlet t1 t2 t3 t4 t5
    go_wp2_with (go_at_call 28; refine (letter2_any _ _).mono ?_; rw [HLF.out]; rintro e w' ⟨rfl, rfl⟩)
    refine bodyPost_ret (v := foundV i0 (.mark 5 [] 1)) (by simp [results, Tryd.results26, go_sem]; rfl) rfl ⟨by rw [E.out]; rfl, (Below.refl _ _).alloc (Nat.le_refl _) _⟩
  have d5 : ((c.toNat : Int) == 43) = false := u8_ne t5
  by_cases t6 : c = 58
  · have d6 : ((c.toNat : Int) == 58) = true := u8_is t6
    have E := Lib.hid t6
    clear s5 hlet t1 t2 t3 t4 t5 t6
    go_wp2_with (go_at_call 28; refine (letter2_any _ _).mono ?_; rw [HLF.out]; rintro e w' ⟨rfl, rfl⟩)
    refine bodyPost_ret (v := foundV i0 (.mark 6 [] 1)) (by simp [results, Tryd.results26, go_sem]; rfl) rfl ⟨by rw [E.out]; rfl, (Below.refl _ _).alloc (Nat.le_refl _) _⟩
  have d6 : ((c.toNat : Int) == 58) = false := u8_ne t6
  by_cases t7 : c = 124
  · have d7 : ((c.toNat : Int) == 124) = true := u8_is t7
    have E := Lib.hid t7
    clear s5 hlet t1 t2 t3 t4 t5 t6 t7
    go_wp2_with (go_at_call 28; refine (letter2_any _ _).mono ?_; rw [HLF.out]; rintro e w' ⟨rfl, rfl⟩)
    refine bodyPost_ret (v := foundV i0 (.mark 7 [] 1)) (by simp [results, Tryd.results26, go_sem]; rfl) rfl ⟨by rw [E.out]; rfl, (Below.refl _ _).alloc (Nat.le_refl _) _⟩
  have d7 : ((c.toNat : Int) == 124) = false := u8_ne t7
  by_cases t8 : c = 59
  · have d8 : ((c.toNat : Int) == 59) = true := u8_is t8
    have E := Lib.hid t8
    clear s5 hlet t1 t2 t3 t4 t5 t6 t7 t8
    go_wp2_with (go_at_call 28; refine (letter2_any _ _).mono ?_; rw [HLF.out]; rintro e w' ⟨rfl, rfl⟩)
    refine bodyPost_ret (v := foundV i0 (.mark 8 [] 1)) (by simp [results, Tryd.results26, go_sem]; rfl) rfl ⟨by rw [E.out]; rfl, (Below.refl _ _).alloc (Nat.le_refl _) _⟩
  have d8 : ((c.toNat : Int) == 59) = false := u8_ne t8
  have HS := Lib.hid (step_else r HSP.out s5 hlet t1 t2 t3 t4 t5 t6 t7 t8)
  clear s5 hlet t1 t2 t3 t4 t5 t6 t7 t8
  go_wp2_with (go_at_call 28; refine (letter2_any _ _).mono ?_; rw [HLF.out]; rintro e w' ⟨rfl, rfl⟩)
  refine (bad_any 10 i0 _).mono ?_
  rintro e w1 ⟨rfl, hb⟩
  first | (rename_i hK; refine hK _ _ ?_) | (rename_i hK _; refine hK _ _ ?_) | (rename_i hK _ _; refine hK _ _ ?_) | (rename_i hK _ _ _; refine hK _ _ ?_)
  have HA := Lib.hid (HF0.out.below hb HF0.out.lt)
  refine wpList_store_at rfl _ _ _ rfl rfl w.heap.size _ _ [_, _, _, _, _] rfl rfl HA.out 5 Tryd.sizeFound rfl rfl rfl ?_
  intro w2 hat hg
  go_wp2_with fail
  exact bodyPost_ret (results_cell_row rfl _ _ w.heap.size _ _ (0, 0) _ rfl hat Tryd.underlying52 rfl Tryd.sizeFound) rfl ⟨by rw [HS.out]; rfl, below_grown (HB0.out.trans (hb.mono HB0.out.size)) hg (by have := hb.size; have := HB0.out.size; omega) (Nat.le_refl _)⟩

end Go.Proofs.YtcchljghlgnkkaaDoor
