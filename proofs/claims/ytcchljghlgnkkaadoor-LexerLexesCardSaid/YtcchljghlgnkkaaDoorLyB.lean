/-
  The walk of tronageref05's text.
-/
import Derived.Test.YtcchljghlgnkkaaDoorLyA
import Derived.Test.YtcchljghlgnkkaaDoorLwI
import Derived.Test.YtcchljghlgnkkaaDoorLwJ
namespace Go.Proofs.YtcchljghlgnkkaaDoor
open Go.RowKit
open Lx
set_option linter.unusedVariables false
set_option linter.unusedSimpArgs false

theorem ext_one (s : ByteArray) (k : Nat) (h : k < s.size) : s.extract k (k + 1) = str [s[k]] := by
  rw [ext_str, bl_drop s k h, show k + 1 - k = 1 by omega]; rfl
theorem rtext_lf (r told : List UInt8) (i : Nat) : text (10 :: r) told i = .bad 11 0 := by
  conv => lhs; unfold text
  rw [if_neg (by decide), if_pos rfl]
theorem rtext_end (r told : List UInt8) (i : Nat) : text (34 :: r) told i = if told = [] then .bad 10 0 else if 32 < told.length then .bad 12 0 else .mark 3 told (i + 1) := by
  conv => lhs; unfold text
  rw [if_pos rfl]
theorem rtext_esc (r told : List UInt8) (i : Nat) : text (92 :: r) told i = match escAt r 3 with
    | none => .bad 10 i
    | some b => text (r.drop 1) (told ++ [b]) (i + 2) := by
  conv => lhs; unfold text
  rw [if_neg (by decide), if_neg (by decide), if_pos rfl]
  cases r with
  | nil => rfl
  | cons d r => rfl
theorem rtext_else {c : UInt8} (h1 : c ≠ 34) (h2 : c ≠ 10) (h3 : c ≠ 92) (r told : List UInt8) (i : Nat) : text (c :: r) told i = text r (told ++ [c]) (i + 1) := by
  conv => lhs; unfold text
  rw [if_neg h1, if_neg h2, if_neg h3]

set_option maxHeartbeats 2000000 in
theorem rtext_any (s : ByteArray) (i0 : Nat) (w : World) (hs : s.size ≤ 4000) (hi : i0 < s.size) :
    Calls Tryd.prog 39 #[.string s, .int .i64 (i0 : Int)] w fun e w' => e = .returned (foundV i0 (text ((bl s).drop (i0 + 1)) [] 1)) ∧ Below w.heap.size w w' := by
  generalize hst : text ((bl s).drop (i0 + 1)) [] 1 = st
  have HST := Lib.hid hst
  clear hst
  go_enter Tryd.func39, Tryd.ntmps39
  go_wp2_with fail
  have HF0 := Lib.hid (At.new w 52 #[.int .i64 0, .string ⟨#[]⟩, .int .i64 0, .int .i64 0, .int .i64 0])
  have HB0 := Lib.hid ((Below.refl w.heap.size w).alloc (Nat.le_refl _) (.cells #[.int .i64 0, .string ⟨#[]⟩, .int .i64 0, .int .i64 0, .int .i64 0] 52))
  go_loopw [5, 6] (fun vt vi wr => ∃ (k : Nat) (tt : ByteArray), vt = .string tt ∧ vi = .int .i64 (k : Int) ∧ i0 < k ∧ k ≤ s.size ∧ tt.size ≤ k ∧ text ((bl s).drop k) (bl tt) (k - i0) = st ∧ At wr w.heap.size 52 #[.int .i64 0, .string ⟨#[]⟩, .int .i64 0, .int .i64 0, .int .i64 0] ∧ Below w.heap.size w wr) (fun _ i _ => s.size - (intOf i).toNat)
  case atStart => exact ⟨i0 + 1, _, rfl, by go_num, by omega, by omega, Nat.zero_le _, by rw [show i0 + 1 - i0 = 1 by omega]; exact HST.out, HF0.out, HB0.out⟩
  case round =>
    obtain ⟨k, tt, rfl, rfl, hik, hks, htk, htx, hat, hbel⟩ := hrel
    have HAT := Lib.hid hat
    have HBEL := Lib.hid hbel
    have hsz := hat.lt
    have HTX := Lib.hid htx
    have hBs := hbel.size
    clear hat hbel htx
    by_cases hlt : k < s.size
    · have HD := Lib.hid (bl_drop s k hlt)
      obtain ⟨c, hc⟩ : ∃ c, s[k] = c := ⟨_, rfl⟩
      have HC := Lib.hid hc
      by_cases e1 : c = 10
      · have c1 : ((c.toNat : Int) == 10) = true := u8_is e1
        have hm := HTX.out
        rw [HD.out, HC.out, e1, rtext_lf] at hm
        have HM := Lib.hid hm
        clear hm e1
        go_wp2_with fail
        refine (bad_any 11 i0 _).mono ?_
        rintro e w1 ⟨rfl, hb⟩
        first | (rename_i hK; refine hK _ _ ?_) | (rename_i hK _; refine hK _ _ ?_) | (rename_i hK _ _; refine hK _ _ ?_) | (rename_i hK _ _ _; refine hK _ _ ?_)
        have HA := Lib.hid (HAT.out.below hb HAT.out.lt)
        refine wpList_store_at rfl _ _ _ rfl rfl w.heap.size _ _ [_, _, _, _, _] rfl rfl HA.out 5 Tryd.sizeFound rfl rfl rfl ?_
        intro w2 hat hg
        go_wp2_with fail
        exact bodyPost_ret (results_cell_row rfl _ _ w.heap.size _ _ (0, 0) _ rfl hat Tryd.underlying52 rfl Tryd.sizeFound) rfl ⟨by rw [← HM.out]; rfl, below_grown (HBEL.out.trans (hb.mono HBEL.out.size)) hg (by have := hb.size; have := HBEL.out.size; omega) (Nat.le_refl _)⟩
      · have c1 : ((c.toNat : Int) == 10) = false := u8_ne e1
        by_cases e2 : c = 34
        · have c2 : ((c.toNat : Int) == 34) = true := u8_is e2
          have hm := HTX.out
          rw [HD.out, HC.out, e2, rtext_end] at hm
          have hemp : tt.toList.isEmpty = decide (bl tt = []) := by rw [toList_eq]; cases bl tt <;> rfl
          by_cases e3 : bl tt = []
          · rw [if_pos e3] at hm
            have HM := Lib.hid hm
            have c3 : tt.toList.isEmpty = true := by rw [hemp]; simpa using e3
            clear hm e1 e2 e3 hemp
            go_wp2_with fail
            refine (bad_any 10 i0 _).mono ?_
            rintro e w1 ⟨rfl, hb⟩
            first | (rename_i hK; refine hK _ _ ?_) | (rename_i hK _; refine hK _ _ ?_) | (rename_i hK _ _; refine hK _ _ ?_) | (rename_i hK _ _ _; refine hK _ _ ?_)
            have HA := Lib.hid (HAT.out.below hb HAT.out.lt)
            refine wpList_store_at rfl _ _ _ rfl rfl w.heap.size _ _ [_, _, _, _, _] rfl rfl HA.out 5 Tryd.sizeFound rfl rfl rfl ?_
            intro w2 hat hg
            go_wp2_with fail
            exact bodyPost_ret (results_cell_row rfl _ _ w.heap.size _ _ (0, 0) _ rfl hat Tryd.underlying52 rfl Tryd.sizeFound) rfl ⟨by rw [← HM.out]; rfl, below_grown (HBEL.out.trans (hb.mono HBEL.out.size)) hg (by have := hb.size; have := HBEL.out.size; omega) (Nat.le_refl _)⟩
          · rw [if_neg e3] at hm
            have c3 : tt.toList.isEmpty = false := by rw [hemp]; simpa using e3
            rw [bl_length] at hm
            by_cases hl : 32 < tt.size
            · rw [if_pos hl] at hm
              have HM := Lib.hid hm
              have hl2 : (32 : Int) < (tt.size : Int) := by omega
              clear hm e1 e2 e3 hemp
              go_wp2_with fail
              refine (bad_any 12 i0 _).mono ?_
              rintro e w1 ⟨rfl, hb⟩
              first | (rename_i hK; refine hK _ _ ?_) | (rename_i hK _; refine hK _ _ ?_) | (rename_i hK _ _; refine hK _ _ ?_) | (rename_i hK _ _ _; refine hK _ _ ?_)
              have HA := Lib.hid (HAT.out.below hb HAT.out.lt)
              refine wpList_store_at rfl _ _ _ rfl rfl w.heap.size _ _ [_, _, _, _, _] rfl rfl HA.out 5 Tryd.sizeFound rfl rfl rfl ?_
              intro w2 hat hg
              go_wp2_with fail
              exact bodyPost_ret (results_cell_row rfl _ _ w.heap.size _ _ (0, 0) _ rfl hat Tryd.underlying52 rfl Tryd.sizeFound) rfl ⟨by rw [← HM.out]; rfl, below_grown (HBEL.out.trans (hb.mono HBEL.out.size)) hg (by have := hb.size; have := HBEL.out.size; omega) (Nat.le_refl _)⟩
            · rw [if_neg hl] at hm
              have HM := Lib.hid hm
              have hl2 : (tt.size : Int) ≤ 32 := by omega
              clear hm e1 e2 e3 hemp
              have cd0 := HAT.out.cell 0
              have cd1 := HAT.out.cell 1
              have cd2 := HAT.out.cell 2
              have cd3 := HAT.out.cell 3
              have cd4 := HAT.out.cell 4
              have cdf := HAT.out.frozen
              simp only [List.getElem?_toArray, List.getElem?_cons_zero, List.getElem?_cons_succ] at cd0 cd1 cd2 cd3 cd4
              go_wp2_with fail
              refine bodyPost_ret (results_cell_row rfl _ _ w.heap.size _ _ (0, 0) _ rfl (HAT.out.five _ _ _ _ _) Tryd.underlying52 rfl Tryd.sizeFound) rfl ⟨?_, below_grown HBEL.out (grown_five _ _ _ _ _ _ _) HBEL.out.size (Nat.le_refl _)⟩
              rw [← HM.out, foundV_mark, str_bl, show i0 + (k - i0 + 1) = k + 1 by omega]
              rfl
        · have c2 : ((c.toNat : Int) == 34) = false := u8_ne e2
          by_cases e3 : c = 92
          · have c3 : ((c.toNat : Int) == 92) = true := u8_is e3
            have hm := HTX.out
            rw [HD.out, HC.out, e3, rtext_esc] at hm
            cases hea : escAt ((bl s).drop (k + 1)) 3 with
            | none =>
              rw [hea] at hm
              have HM := Lib.hid hm
              have HEA := Lib.hid hea
              clear hm e1 e2 e3 hea
              go_wp2_with fail
              refine (told_any s k false _ hs hlt).mono ?_
              rw [show (if false = true then 4 else 3) = 3 from rfl, HEA.out]
              rintro e w' ⟨rfl, rfl⟩
              unfold toldV
              go_wp2_with fail
              refine (bad_any 10 k _).mono ?_
              rintro e w1 ⟨rfl, hb⟩
              first | (rename_i hK; refine hK _ _ ?_) | (rename_i hK _; refine hK _ _ ?_) | (rename_i hK _ _; refine hK _ _ ?_) | (rename_i hK _ _ _; refine hK _ _ ?_)
              have HA := Lib.hid (HAT.out.below hb HAT.out.lt)
              refine wpList_store_at rfl _ _ _ rfl rfl w.heap.size _ _ [_, _, _, _, _] rfl rfl HA.out 5 Tryd.sizeFound rfl rfl rfl ?_
              intro w2 hat hg
              go_wp2_with fail
              exact bodyPost_ret (results_cell_row rfl _ _ w.heap.size _ _ (0, 0) _ rfl hat Tryd.underlying52 rfl Tryd.sizeFound) rfl ⟨by rw [← HM.out, foundV_bad i0, show i0 + (k - i0) = k by omega]; rfl, below_grown (HBEL.out.trans (hb.mono HBEL.out.size)) hg (by have := hb.size; have := HBEL.out.size; omega) (Nat.le_refl _)⟩
            | some b =>
              rw [hea] at hm
              have HM := Lib.hid hm
              have HEA := Lib.hid hea
              have hk2 : k + 1 < s.size := by
                refine Nat.lt_of_not_le fun h => ?_
                have e : (bl s).drop (k + 1) = [] := List.drop_of_length_le (by rw [bl_length]; exact h)
                rw [e] at hea; cases hea
              obtain ⟨E, hE⟩ : ∃ E, str [b] = E := ⟨_, rfl⟩
              have hEs : E.size = 1 := by rw [← hE]; rfl
              have HE := Lib.hid hE
              have hif : ¬ (9223372036854775807 < tt.size + E.size) := by omega
              clear hm e1 e2 e3 hea hE
              go_wp2_with fail
              refine (told_any s k false _ hs hlt).mono ?_
              rw [show (if false = true then 4 else 3) = 3 from rfl, HEA.out]
              rintro e w' ⟨rfl, rfl⟩
              unfold toldV
              go_wp2_with fail
              rw [conv_at b (by simp [go_sem])]
              rw [HE.out]
              go_wp2_with fail
              go_roundw
              case rel => exact ⟨k + 2, _, rfl, by go_num, by omega, by omega, by rw [ByteArray.size_append]; omega, by rw [bl_append, ← HE.out, bl_str, show k + 2 - i0 = k - i0 + 2 by omega]; rw [← HM.out]; show _ = text _ _ _; rw [List.drop_drop], HAT.out.alloc _, HBEL.out.alloc hBs _⟩
              case measure => simp [intOf]; omega
          · have c3 : ((c.toNat : Int) == 92) = false := u8_ne e3
            have hm := HTX.out
            rw [HD.out, HC.out, rtext_else e2 e1 e3] at hm
            have HM := Lib.hid hm
            obtain ⟨E, hE⟩ : ∃ E, s.extract k (k + 1) = E := ⟨_, rfl⟩
            have hEs : E.size = 1 := by rw [← hE, size_ext _ _ _ (by omega) (by omega)]; omega
            have hEb : bl E = [c] := by rw [← hE, ext_one s k hlt, bl_str, HC.out]
            have HE := Lib.hid hEb
            have hif : ¬ (9223372036854775807 < tt.size + E.size) := by omega
            have hk1 : ((k : Int) + 1).toNat = k + 1 := by omega
            clear hm e1 e2 e3 hEb
            go_wp2_with fail
            go_roundw
            case rel => exact ⟨k + 1, _, rfl, by go_num, by omega, by omega, by rw [ByteArray.size_append]; omega, by rw [bl_append, HE.out, show k + 1 - i0 = k - i0 + 1 by omega]; exact HM.out, HAT.out, HBEL.out⟩
            case measure => simp [intOf]; omega
    · have hk : k = s.size := by omega
      have hd : (bl s).drop k = [] := List.drop_of_length_le (by rw [bl_length]; omega)
      have hm := HTX.out
      rw [hd] at hm
      have HM := Lib.hid hm
      clear hm hd
      subst hk
      go_wp2_with fail
      refine (bad_any 11 i0 _).mono ?_
      rintro e w1 ⟨rfl, hb⟩
      first | (rename_i hK; refine hK _ _ ?_) | (rename_i hK _; refine hK _ _ ?_) | (rename_i hK _ _; refine hK _ _ ?_) | (rename_i hK _ _ _; refine hK _ _ ?_)
      have HA := Lib.hid (HAT.out.below hb HAT.out.lt)
      refine wpList_store_at rfl _ _ _ rfl rfl w.heap.size _ _ [_, _, _, _, _] rfl rfl HA.out 5 Tryd.sizeFound rfl rfl rfl ?_
      intro w2 hat hg
      go_wp2_with fail
      exact bodyPost_ret (results_cell_row rfl _ _ w.heap.size _ _ (0, 0) _ rfl hat Tryd.underlying52 rfl Tryd.sizeFound) rfl ⟨by rw [← HM.out]; rfl, below_grown (HBEL.out.trans (hb.mono HBEL.out.size)) hg (by have := hb.size; have := HBEL.out.size; omega) (Nat.le_refl _)⟩

end Go.Proofs.YtcchljghlgnkkaaDoor
