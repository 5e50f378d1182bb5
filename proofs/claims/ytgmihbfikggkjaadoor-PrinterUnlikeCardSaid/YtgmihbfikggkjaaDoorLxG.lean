/-
  The walks of lexer's cut, and Lex.
-/
import Derived.Test.YtgmihbfikggkjaaDoorLxD
import Derived.Test.YtgmihbfikggkjaaDoorLxF
import Derived.Test.YtgmihbfikggkjaaDoorLxQ
namespace Go.Proofs.YtgmihbfikggkjaaDoor
open Go.RowKit
open Lx
set_option linter.unusedVariables false
set_option linter.unusedSimpArgs false

set_option maxHeartbeats 1000000 in
theorem cut_piece (s : ByteArray) (w : World) (hs : s.size ≤ 4000) (h1 : 1 ≤ s.size) (hf : Firm (bl s)) (hT : Tab w) (h0 : 0 < w.heap.size) :
    Calls Tryd.prog 26 #[.string s] w fun e w' => e = .returned (pieceV (Lx.step (bl s))) ∧ Below w.heap.size w w' := by
  have hd : bl s = s[0] :: (bl s).drop 1 := by
    have h := bl_drop s 0 (by omega)
    rw [List.drop_zero] at h
    exact h
  rw [hd] at hf
  have hfh := firm_head hf
  have HFH := Lib.hid hfh
  have HD := Lib.hid hd
  clear hfh hf
  have HT := Lib.hid hT
  have HAT := Lib.hid (At.new w 77 #[.int .i64 0, .string ⟨#[]⟩, .int .i64 0, .int .i64 0])
  have HBEL := Lib.hid ((Below.refl w.heap.size w).alloc (Nat.le_refl _) (.cells #[.int .i64 0, .string ⟨#[]⟩, .int .i64 0, .int .i64 0] 77))
  have HT1 := Lib.hid (hT.alloc h0 (.cells #[.int .i64 0, .string ⟨#[]⟩, .int .i64 0, .int .i64 0] 77))
  clear hT
  generalize hst : Lx.step (bl s) = st
  have HST := Lib.hid hst
  clear hst hd
  by_cases hc : s[0] = 37
  · have c1 : ((s[0].toNat : Int) == 37) = true := u8_is hc
    have HC := Lib.hid hc
    have HM := Lib.hid ((HST.out.symm.trans (congrArg Lx.step (HD.out.trans (congrArg (· :: (bl s).drop 1) HC.out)))).trans (step_word ((bl s).drop 1)))
    clear hc
    go_enter Tryd.func26, Tryd.ntmps26
    go_wp2_with fail
    refine (word_any s _ hs h1 HC.out).mono ?_
    rw [← HM.out]
    rintro e w1 ⟨rfl, hb⟩
    unfold pieceV
    first | (rename_i hK; refine hK _ _ ?_) | (rename_i hK _; refine hK _ _ ?_) | (rename_i hK _ _; refine hK _ _ ?_) | (rename_i hK _ _ _; refine hK _ _ ?_)
    have HA := Lib.hid (HAT.out.below hb HAT.out.lt)
    refine wpList_store_at rfl _ _ _ rfl rfl w.heap.size _ _ [_, _, _, _] rfl rfl HA.out 4 Tryd.sizePiece rfl rfl rfl ?_
    intro w2 hat hg
    go_wp2_with fail
    exact bodyPost_ret (results_cell_row rfl _ _ w.heap.size _ _ (0, 0) _ rfl hat Tryd.underlying77 rfl Tryd.sizePiece) rfl ⟨rfl, below_grown (HBEL.out.trans (hb.mono HBEL.out.size)) hg (by have := hb.size; have := HBEL.out.size; omega) (Nat.le_refl _)⟩
  have c1 : ((s[0].toNat : Int) == 37) = false := u8_ne hc
  have H1 := Lib.hid hc
  clear hc
  by_cases hc : s[0] = 34
  · have c2 : ((s[0].toNat : Int) == 34) = true := u8_is hc
    have HC := Lib.hid hc
    have HM := Lib.hid ((HST.out.symm.trans (congrArg Lx.step (HD.out.trans (congrArg (· :: (bl s).drop 1) HC.out)))).trans (step_text ((bl s).drop 1)))
    clear hc
    go_enter Tryd.func26, Tryd.ntmps26
    go_wp2_with fail
    refine (text_any s _ hs HT1.out (by simp)).mono ?_
    rw [← HM.out]
    rintro e w1 ⟨rfl, hb⟩
    unfold pieceV
    first | (rename_i hK; refine hK _ _ ?_) | (rename_i hK _; refine hK _ _ ?_) | (rename_i hK _ _; refine hK _ _ ?_) | (rename_i hK _ _ _; refine hK _ _ ?_)
    have HA := Lib.hid (HAT.out.below hb HAT.out.lt)
    refine wpList_store_at rfl _ _ _ rfl rfl w.heap.size _ _ [_, _, _, _] rfl rfl HA.out 4 Tryd.sizePiece rfl rfl rfl ?_
    intro w2 hat hg
    go_wp2_with fail
    exact bodyPost_ret (results_cell_row rfl _ _ w.heap.size _ _ (0, 0) _ rfl hat Tryd.underlying77 rfl Tryd.sizePiece) rfl ⟨rfl, below_grown (HBEL.out.trans (hb.mono HBEL.out.size)) hg (by have := hb.size; have := HBEL.out.size; omega) (Nat.le_refl _)⟩
  have c2 : ((s[0].toNat : Int) == 34) = false := u8_ne hc
  have H2 := Lib.hid hc
  clear hc
  by_cases hc : s[0] = 91
  · have c3 : ((s[0].toNat : Int) == 91) = true := u8_is hc
    have HC := Lib.hid hc
    have HM := Lib.hid ((HST.out.symm.trans (congrArg Lx.step (HD.out.trans (congrArg (· :: (bl s).drop 1) HC.out)))).trans (step_cls ((bl s).drop 1)))
    clear hc
    go_enter Tryd.func26, Tryd.ntmps26
    go_wp2_with fail
    refine (class_any s _ hs HT1.out (by simp)).mono ?_
    rw [← HM.out]
    rintro e w1 ⟨rfl, hb⟩
    unfold pieceV
    first | (rename_i hK; refine hK _ _ ?_) | (rename_i hK _; refine hK _ _ ?_) | (rename_i hK _ _; refine hK _ _ ?_) | (rename_i hK _ _ _; refine hK _ _ ?_)
    have HA := Lib.hid (HAT.out.below hb HAT.out.lt)
    refine wpList_store_at rfl _ _ _ rfl rfl w.heap.size _ _ [_, _, _, _] rfl rfl HA.out 4 Tryd.sizePiece rfl rfl rfl ?_
    intro w2 hat hg
    go_wp2_with fail
    exact bodyPost_ret (results_cell_row rfl _ _ w.heap.size _ _ (0, 0) _ rfl hat Tryd.underlying77 rfl Tryd.sizePiece) rfl ⟨rfl, below_grown (HBEL.out.trans (hb.mono HBEL.out.size)) hg (by have := hb.size; have := HBEL.out.size; omega) (Nat.le_refl _)⟩
  have c3 : ((s[0].toNat : Int) == 91) = false := u8_ne hc
  have H3 := Lib.hid hc
  clear hc
  by_cases hc : s[0] = 123
  · have c4 : ((s[0].toNat : Int) == 123) = true := u8_is hc
    have HC := Lib.hid hc
    have HM := Lib.hid ((HST.out.symm.trans (congrArg Lx.step (HD.out.trans (congrArg (· :: (bl s).drop 1) HC.out)))).trans (step_act ((bl s).drop 1)))
    clear hc
    go_enter Tryd.func26, Tryd.ntmps26
    go_wp2_with fail
    refine (action_any s _ hs h1 HC.out).mono ?_
    rw [← HM.out]
    rintro e w1 ⟨rfl, hb⟩
    unfold pieceV
    first | (rename_i hK; refine hK _ _ ?_) | (rename_i hK _; refine hK _ _ ?_) | (rename_i hK _ _; refine hK _ _ ?_) | (rename_i hK _ _ _; refine hK _ _ ?_)
    have HA := Lib.hid (HAT.out.below hb HAT.out.lt)
    refine wpList_store_at rfl _ _ _ rfl rfl w.heap.size _ _ [_, _, _, _] rfl rfl HA.out 4 Tryd.sizePiece rfl rfl rfl ?_
    intro w2 hat hg
    go_wp2_with fail
    exact bodyPost_ret (results_cell_row rfl _ _ w.heap.size _ _ (0, 0) _ rfl hat Tryd.underlying77 rfl Tryd.sizePiece) rfl ⟨rfl, below_grown (HBEL.out.trans (hb.mono HBEL.out.size)) hg (by have := hb.size; have := HBEL.out.size; omega) (Nat.le_refl _)⟩
  have c4 : ((s[0].toNat : Int) == 123) = false := u8_ne hc
  have H4 := Lib.hid hc
  clear hc
  by_cases hc : s[0] = 43
  · have c5 : ((s[0].toNat : Int) == 43) = true := u8_is hc
    have HC := Lib.hid hc
    have HM := Lib.hid ((HST.out.symm.trans (congrArg Lx.step (HD.out.trans (congrArg (· :: (bl s).drop 1) HC.out)))).trans (step_43 ((bl s).drop 1)))
    clear hc
    go_enter Tryd.func26, Tryd.ntmps26
    go_wp2_with fail
    exact bodyPost_ret (v := pieceV st) (by rw [HM.out]; simp [results, Tryd.results26, go_sem]; rfl) rfl ⟨rfl, (Below.refl _ _).alloc (Nat.le_refl _) _⟩
  have c5 : ((s[0].toNat : Int) == 43) = false := u8_ne hc
  have H5 := Lib.hid hc
  clear hc
  by_cases hc : s[0] = 58
  · have c6 : ((s[0].toNat : Int) == 58) = true := u8_is hc
    have HC := Lib.hid hc
    have HM := Lib.hid ((HST.out.symm.trans (congrArg Lx.step (HD.out.trans (congrArg (· :: (bl s).drop 1) HC.out)))).trans (step_58 ((bl s).drop 1)))
    clear hc
    go_enter Tryd.func26, Tryd.ntmps26
    go_wp2_with fail
    exact bodyPost_ret (v := pieceV st) (by rw [HM.out]; simp [results, Tryd.results26, go_sem]; rfl) rfl ⟨rfl, (Below.refl _ _).alloc (Nat.le_refl _) _⟩
  have c6 : ((s[0].toNat : Int) == 58) = false := u8_ne hc
  have H6 := Lib.hid hc
  clear hc
  by_cases hc : s[0] = 124
  · have c7 : ((s[0].toNat : Int) == 124) = true := u8_is hc
    have HC := Lib.hid hc
    have HM := Lib.hid ((HST.out.symm.trans (congrArg Lx.step (HD.out.trans (congrArg (· :: (bl s).drop 1) HC.out)))).trans (step_124 ((bl s).drop 1)))
    clear hc
    go_enter Tryd.func26, Tryd.ntmps26
    go_wp2_with fail
    exact bodyPost_ret (v := pieceV st) (by rw [HM.out]; simp [results, Tryd.results26, go_sem]; rfl) rfl ⟨rfl, (Below.refl _ _).alloc (Nat.le_refl _) _⟩
  have c7 : ((s[0].toNat : Int) == 124) = false := u8_ne hc
  have H7 := Lib.hid hc
  clear hc
  by_cases hc : s[0] = 59
  · have c8 : ((s[0].toNat : Int) == 59) = true := u8_is hc
    have HC := Lib.hid hc
    have HM := Lib.hid ((HST.out.symm.trans (congrArg Lx.step (HD.out.trans (congrArg (· :: (bl s).drop 1) HC.out)))).trans (step_59 ((bl s).drop 1)))
    clear hc
    go_enter Tryd.func26, Tryd.ntmps26
    go_wp2_with fail
    exact bodyPost_ret (v := pieceV st) (by rw [HM.out]; simp [results, Tryd.results26, go_sem]; rfl) rfl ⟨rfl, (Below.refl _ _).alloc (Nat.le_refl _) _⟩
  have c8 : ((s[0].toNat : Int) == 59) = false := u8_ne hc
  have H8 := Lib.hid hc
  clear hc
  obtain ⟨N, hN⟩ : ∃ N, nameOf (bl s) = N := ⟨_, rfl⟩
  have hNl : N.length ≤ s.size := by rw [← hN]; have := nameOf_le (bl s); rwa [bl_length] at this
  have HN := Lib.hid hN
  clear hN
  by_cases hl : isLetter s[0] = true
  · have hpos : 0 < N.length := by rw [← HN.out, HD.out]; exact nameOf_pos hl
    have hpi : (0 : Int) < (N.length : Int) := by omega
    have hle : (N.length : Int) ≤ (s.size : Int) := by omega
    have hm : st = if 32 < N.length then .bad 12 0 else .mark 1 N N.length := by
      rw [← HST.out, ← HN.out]
      conv => lhs; rw [HD.out]
      rw [step_letter _ hl]
      rw [← HD.out]
    have hx : s.extract 0 N.length = str N := by
      rw [ext_str, List.drop_zero, Nat.sub_zero]
      congr 1
      rw [← HN.out, HD.out]
      simp only [nameOf, hl, if_true]
      exact (List.prefix_iff_eq_take.1 (List.takeWhile_prefix isName)).symm
    have hz : (s.extract 0 N.length).size = N.length := by rw [size_ext _ _ _ (by omega) hNl]; omega
    have hq : (if 32 < (s.extract 0 N.length).size then Step.bad 12 0 else Step.mark 1 (s.extract 0 N.length).data.toList N.length) = st := by
      rw [hm, hz, hx]; rfl
    have HQ := Lib.hid hq
    have HZ := Lib.hid hz
    clear hm hx hz hq hl
    go_enter Tryd.func26, Tryd.ntmps26
    go_wp2_with fail
    refine (nameSize_any s _ (by omega)).mono ?_
    rw [HN.out]
    rintro e w1 ⟨rfl, rfl⟩
    go_wp2_with fail
    refine (limited_any 1 N.length 32 (s.extract 0 N.length) _ (by rw [HZ.out]; omega)).mono ?_
    rw [HQ.out]
    rintro e w1 ⟨rfl, hb⟩
    unfold pieceV
    first | (rename_i hK; refine hK _ _ ?_) | (rename_i hK _; refine hK _ _ ?_) | (rename_i hK _ _; refine hK _ _ ?_) | (rename_i hK _ _ _; refine hK _ _ ?_)
    have HA := Lib.hid (HAT.out.below hb HAT.out.lt)
    refine wpList_store_at rfl _ _ _ rfl rfl w.heap.size _ _ [_, _, _, _] rfl rfl HA.out 4 Tryd.sizePiece rfl rfl rfl ?_
    intro w2 hat hg
    go_wp2_with fail
    exact bodyPost_ret (results_cell_row rfl _ _ w.heap.size _ _ (0, 0) _ rfl hat Tryd.underlying77 rfl Tryd.sizePiece) rfl ⟨rfl, below_grown (HBEL.out.trans (hb.mono HBEL.out.size)) hg (by have := hb.size; have := HBEL.out.size; omega) (Nat.le_refl _)⟩
  · have hl : isLetter s[0] = false := by simpa using hl
    have hm : st = .bad 10 0 := by
      rw [← HST.out, HD.out]
      exact step_else _ HFH.out.1 HFH.out.2 hl H1.out H2.out H3.out H4.out H5.out H6.out H7.out H8.out
    have hn0 : N = [] := by rw [← HN.out, HD.out]; simp [nameOf, hl]
    subst hn0
    have HM := Lib.hid hm
    clear hm hl
    go_enter Tryd.func26, Tryd.ntmps26
    go_wp2_with fail
    refine (nameSize_any s _ (by omega)).mono ?_
    rw [HN.out]
    rintro e w1 ⟨rfl, rfl⟩
    go_wp2_with fail
    refine (fault_any 10 0 _).mono ?_
    rintro e w1 ⟨rfl, hb⟩
    first | (rename_i hK; refine hK _ _ ?_) | (rename_i hK _; refine hK _ _ ?_) | (rename_i hK _ _; refine hK _ _ ?_) | (rename_i hK _ _ _; refine hK _ _ ?_)
    have HA := Lib.hid (HAT.out.below hb HAT.out.lt)
    refine wpList_store_at rfl _ _ _ rfl rfl w.heap.size _ _ [_, _, _, _] rfl rfl HA.out 4 Tryd.sizePiece rfl rfl rfl ?_
    intro w2 hat hg
    go_wp2_with fail
    exact bodyPost_ret (results_cell_row rfl _ _ w.heap.size _ _ (0, 0) _ rfl hat Tryd.underlying77 rfl Tryd.sizePiece) rfl ⟨by rw [HM.out]; rfl, below_grown (HBEL.out.trans (hb.mono HBEL.out.size)) hg (by have := hb.size; have := HBEL.out.size; omega) (Nat.le_refl _)⟩

end Go.Proofs.YtgmihbfikggkjaaDoor
