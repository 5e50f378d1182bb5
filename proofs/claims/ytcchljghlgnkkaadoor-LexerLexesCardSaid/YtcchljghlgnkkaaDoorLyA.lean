/-
  The walks of tronageref05's told, action.
-/
import Derived.Test.YtcchljghlgnkkaaDoorLwC
import Derived.Test.YtcchljghlgnkkaaDoorLwB
namespace Go.Proofs.YtcchljghlgnkkaaDoor
open Go.RowKit
open Lx
set_option linter.unusedVariables false
set_option linter.unusedSimpArgs false

theorem At.five {w : World} {g : Nat} {t : TypeId} {a b c d e : Value} (h : At w g t #[a, b, c, d, e]) (a' b' c' d' e' : Value) :
    At (((((w.setCell ⟨g, 0, none⟩ a').setCell ⟨g, 1, none⟩ b').setCell ⟨g, 2, none⟩ c').setCell ⟨g, 3, none⟩ d').setCell ⟨g, 4, none⟩ e') g t #[a', b', c', d', e'] := by
  have := ((((h.set 0 a').set 1 b').set 2 c').set 3 d').set 4 e'
  simpa using this
theorem grown_five (w : World) (g : Nat) (a' b' c' d' e' : Value) : w.grownBy (((((w.setCell ⟨g, 0, none⟩ a').setCell ⟨g, 1, none⟩ b').setCell ⟨g, 2, none⟩ c').setCell ⟨g, 3, none⟩ d').setCell ⟨g, 4, none⟩ e') (some g) :=
  grown_set (grown_set (grown_set (grown_set (grown_set (grown_refl _ _) _ _) _ _) _ _) _ _) _ _

namespace Lx
def escAt (l : List UInt8) (kind : Nat) : Option UInt8 :=
  match l with
  | [] => none
  | d :: _ => esc kind d
end Lx
def toldV : Option UInt8 → Value
  | none => .tuple #[.int .u8 0, .bool false]
  | some b => .tuple #[.int .u8 (b.toNat : Int), .bool true]

theorem told_any (s : ByteArray) (i : Nat) (cl : Bool) (w : World) (hs : s.size ≤ 4000) (hi : i < s.size) :
    Calls Tryd.prog 51 #[.string s, .int .i64 (i : Int), .bool cl] w fun e w' => e = .returned (toldV (escAt ((bl s).drop (i + 1)) (if cl then 4 else 3))) ∧ w = w' := by
  obtain ⟨kd, hkd⟩ : ∃ kd, (if cl then 4 else 3) = kd := ⟨_, rfl⟩
  rw [hkd]
  have HKD := Lib.hid hkd
  clear hkd
  go_enter Tryd.func51, Tryd.ntmps51
  by_cases h : s.size ≤ i + 1
  · have h1 : (s.size : Int) ≤ (i : Int) + 1 := by omega
    have hd : (bl s).drop (i + 1) = [] := List.drop_of_length_le (by rw [bl_length]; exact h)
    have HD := Lib.hid hd
    clear hd
    go_wp2_with fail
    go_ret2
    exact ⟨by rw [HD.out]; rfl, rfl⟩
  · have hlt : i + 1 < s.size := by omega
    have h1 : (i : Int) + 1 < (s.size : Int) := by omega
    have hj : ((i : Int) + 1).toNat = i + 1 := by omega
    have HD := Lib.hid (bl_drop s (i + 1) hlt)
    obtain ⟨d, hd⟩ : ∃ d, s[i + 1] = d := ⟨_, rfl⟩
    have HDD := Lib.hid hd
    by_cases e1 : d = 110
    · have c1 : ((d.toNat : Int) == 110) = true := u8_is e1
      have E := Lib.hid e1
      clear e1
      go_wp2_with fail
      go_ret2
      exact ⟨by rw [HD.out, HDD.out, E.out]; rfl, rfl⟩
    · have c1 : ((d.toNat : Int) == 110) = false := u8_ne e1
      by_cases e2 : d = 116
      · have c2 : ((d.toNat : Int) == 116) = true := u8_is e2
        have E := Lib.hid e2
        clear e1 e2
        go_wp2_with fail
        go_ret2
        exact ⟨by rw [HD.out, HDD.out, E.out]; rfl, rfl⟩
      · have c2 : ((d.toNat : Int) == 116) = false := u8_ne e2
        by_cases e3 : d = 92
        · have c3 : ((d.toNat : Int) == 92) = true := u8_is e3
          have E := Lib.hid e3
          clear e1 e2 e3
          go_wp2_with fail
          go_ret2
          exact ⟨by rw [HD.out, HDD.out, E.out]; rfl, rfl⟩
        · have c3 : ((d.toNat : Int) == 92) = false := u8_ne e3
          have hsc : ∀ k, esc k d = if k = 3 then (if d = 34 then some 34 else none) else (if d = 93 then some 93 else if d = 45 then some 45 else none) := fun k => by
            unfold esc; rw [if_neg e1, if_neg e2, if_neg e3]
          have HSC := Lib.hid hsc
          clear hsc e1 e2 e3
          cases cl with
          | true =>
            have hk4 : kd = 4 := HKD.out.symm
            subst hk4
            by_cases e4 : d = 93
            · have c4 : ((d.toNat : Int) == 93) = true := u8_is e4
              have c5 : ((d.toNat : Int) == 34) = false := u8_ne (c := d) (d := 34) (by rw [e4]; decide)
              have E := Lib.hid e4
              clear e4
              go_wp2_with fail
              go_ret2
              exact ⟨by rw [HD.out, HDD.out]; show _ = Ending.returned (toldV (esc 4 d)); rw [HSC.out, E.out]; rfl, rfl⟩
            · have c4 : ((d.toNat : Int) == 93) = false := u8_ne e4
              by_cases e5 : d = 45
              · have c5 : ((d.toNat : Int) == 45) = true := u8_is e5
                have c6 : ((d.toNat : Int) == 34) = false := u8_ne (c := d) (d := 34) (by rw [e5]; decide)
                have E := Lib.hid e5
                clear e4 e5
                go_wp2_with fail
                go_ret2
                exact ⟨by rw [HD.out, HDD.out]; show _ = Ending.returned (toldV (esc 4 d)); rw [HSC.out, E.out]; rfl, rfl⟩
              · have c5 : ((d.toNat : Int) == 45) = false := u8_ne e5
                have hn : esc 4 d = none := by rw [HSC.out, if_neg (by decide), if_neg e4, if_neg e5]
                have HN := Lib.hid hn
                clear e4 e5 hn
                by_cases e6 : d = 34
                · have c6 : ((d.toNat : Int) == 34) = true := u8_is e6
                  clear e6
                  go_wp2_with fail
                  go_ret2
                  exact ⟨by rw [HD.out, HDD.out]; show _ = Ending.returned (toldV (esc 4 d)); rw [HN.out]; rfl, rfl⟩
                · have c6 : ((d.toNat : Int) == 34) = false := u8_ne e6
                  clear e6
                  go_wp2_with fail
                  go_ret2
                  exact ⟨by rw [HD.out, HDD.out]; show _ = Ending.returned (toldV (esc 4 d)); rw [HN.out]; rfl, rfl⟩
          | false =>
            have hk3 : kd = 3 := HKD.out.symm
            subst hk3
            by_cases e4 : d = 34
            · have c4 : ((d.toNat : Int) == 34) = true := u8_is e4
              have E := Lib.hid e4
              clear e4
              go_wp2_with fail
              go_ret2
              exact ⟨by rw [HD.out, HDD.out]; show _ = Ending.returned (toldV (esc 3 d)); rw [HSC.out, E.out]; rfl, rfl⟩
            · have c4 : ((d.toNat : Int) == 34) = false := u8_ne e4
              have hn : esc 3 d = none := by rw [HSC.out, if_pos rfl, if_neg e4]
              have HN := Lib.hid hn
              clear e4 hn
              go_wp2_with fail
              all_goals
                go_ret2
                exact ⟨by rw [HD.out, HDD.out]; show _ = Ending.returned (toldV (esc 3 d)); rw [HN.out]; rfl, rfl⟩

theorem foundV_mark (i k n : Nat) (t : List UInt8) : foundV i (.mark k t n) = .agg #[.int .i64 k, .string (str t), .int .i64 ((i + n : Nat) : Int), .int .i64 0, .int .i64 0] := rfl
theorem foundV_bad (i c n : Nat) : foundV i (.bad c n) = foundV (i + n) (.bad c 0) := rfl
theorem bl_get (s : ByteArray) (k : Nat) (h : k < s.size) : (bl s)[k]'(by rw [bl_length]; exact h) = s[k] := by
  have e := bl_drop s k h
  rw [List.drop_eq_getElem_cons (by rw [bl_length]; exact h)] at e
  injection e

set_option maxHeartbeats 2000000 in
theorem raction_any (s : ByteArray) (i0 : Nat) (w : World) (hs : s.size ≤ 4000) (hi : i0 < s.size) (h0 : s[i0] = 123) :
    Calls Tryd.prog 41 #[.string s, .int .i64 (i0 : Int)] w fun e w' => e = .returned (foundV i0 (act ((bl s).drop (i0 + 1)) [] 1)) ∧ Below w.heap.size w w' := by
  generalize hst : act ((bl s).drop (i0 + 1)) [] 1 = st
  have HST := Lib.hid hst
  have HI0 := Lib.hid h0
  clear hst h0
  go_enter Tryd.func41, Tryd.ntmps41
  go_wp2_with fail
  have HF0 := Lib.hid (At.new w 52 #[.int .i64 0, .string ⟨#[]⟩, .int .i64 0, .int .i64 0, .int .i64 0])
  have HB0 := Lib.hid ((Below.refl w.heap.size w).alloc (Nat.le_refl _) (.cells #[.int .i64 0, .string ⟨#[]⟩, .int .i64 0, .int .i64 0, .int .i64 0] 52))
  go_loopw [5, 6] (fun vo vi wr => ∃ (k o : Nat), vo = .int .i64 (o : Int) ∧ vi = .int .i64 (k : Int) ∧ k ≤ s.size ∧ (k = i0 ∧ o = 0 ∨ i0 < k ∧ 1 ≤ o ∧ o ≤ 4 ∧ act ((bl s).drop k) (((bl s).drop (i0 + 1)).take (k - (i0 + 1))) o = st) ∧ At wr w.heap.size 52 #[.int .i64 0, .string ⟨#[]⟩, .int .i64 0, .int .i64 0, .int .i64 0] ∧ Below w.heap.size w wr) (fun _ i _ => s.size - (intOf i).toNat)
  case atStart => exact ⟨i0, 0, rfl, rfl, by omega, .inl ⟨rfl, rfl⟩, HF0.out, HB0.out⟩
  case round =>
    obtain ⟨k, o, rfl, rfl, hks, hor, hat, hbel⟩ := hrel
    have HAT := Lib.hid hat
    have HBEL := Lib.hid hbel
    have hsz := hat.lt
    clear hat hbel
    by_cases hlt : k < s.size
    · have HD := Lib.hid (bl_drop s k hlt)
      rcases hor with ⟨rfl, rfl⟩ | ⟨hik, ho1, ho4, hact⟩
      · have c1 : ((s[k].toNat : Int) == 123) = true := u8_is HI0.out
        have c2 : ((s[k].toNat : Int) == 125) = false := by rw [HI0.out]; rfl
        go_wp2_with fail
        go_roundw
        case rel => exact ⟨k + 1, 1, rfl, by go_num, by omega, .inr ⟨by omega, by omega, by omega, by rw [Nat.sub_self, List.take_zero]; exact HST.out⟩, HAT.out, HBEL.out⟩
        case measure => simp [intOf]; omega
      · obtain ⟨ac, hac⟩ : ∃ ac, ((bl s).drop (i0 + 1)).take (k - (i0 + 1)) = ac := ⟨_, rfl⟩
        have hacl : i0 + 1 + ac.length = k := by rw [← hac, List.length_take, List.length_drop, bl_length]; omega
        have hnx : ((bl s).drop (i0 + 1)).take (k + 1 - (i0 + 1)) = ac ++ [s[k]] := by
          rw [← hac, show k + 1 - (i0 + 1) = (k - (i0 + 1)) + 1 by omega]
          rw [List.take_succ_eq_append_getElem (by rw [List.length_drop, bl_length]; omega)]
          congr 2
          rw [List.getElem_drop]
          have : i0 + 1 + (k - (i0 + 1)) = k := by omega
          simp only [this]
          exact bl_get s k hlt
        rw [hac, HD.out] at hact
        have HACT := Lib.hid hact
        have HNX := Lib.hid hnx
        have HAC := Lib.hid hac
        clear hact hnx hac
        by_cases e1 : s[k] = 123
        · have c1 : ((s[k].toNat : Int) == 123) = true := u8_is e1
          have c2 : ((s[k].toNat : Int) == 125) = false := by rw [e1]; rfl
          have hm := HACT.out
          rw [e1, act_open] at hm
          by_cases ho : o = 4
          · rw [if_pos ho] at hm
            have HM := Lib.hid hm
            subst ho
            clear hm e1
            go_wp2_with fail
            refine (bad_any 13 k _).mono ?_
            rintro e w1 ⟨rfl, hb⟩
            first | (rename_i hK; refine hK _ _ ?_) | (rename_i hK _; refine hK _ _ ?_) | (rename_i hK _ _; refine hK _ _ ?_) | (rename_i hK _ _ _; refine hK _ _ ?_)
            have HA := Lib.hid (HAT.out.below hb HAT.out.lt)
            refine wpList_store_at rfl _ _ _ rfl rfl w.heap.size _ _ [_, _, _, _, _] rfl rfl HA.out 5 Tryd.sizeFound rfl rfl rfl ?_
            intro w2 hat hg
            go_wp2_with fail
            exact bodyPost_ret (results_cell_row rfl _ _ w.heap.size _ _ (0, 0) _ rfl hat Tryd.underlying52 rfl Tryd.sizeFound) rfl ⟨by rw [← HM.out, foundV_bad i0, show i0 + (ac.length + 1) = k by omega]; rfl, below_grown (HBEL.out.trans (hb.mono HBEL.out.size)) hg (by have := hb.size; have := HBEL.out.size; omega) (Nat.le_refl _)⟩
          · rw [if_neg ho] at hm
            have HM := Lib.hid hm
            have HE := Lib.hid e1
            have ho3 : (o : Int) + 1 ≤ 4 := by omega
            clear hm e1
            go_wp2_with fail
            go_roundw
            case rel => exact ⟨k + 1, o + 1, by go_num, by go_num, by omega, .inr ⟨by omega, by omega, by omega, by rw [HNX.out, HE.out]; exact HM.out⟩, HAT.out, HBEL.out⟩
            case measure => simp [intOf]; omega
        · have c1 : ((s[k].toNat : Int) == 123) = false := u8_ne e1
          have ho4' : (o : Int) ≤ 4 := by omega
          by_cases e2 : s[k] = 125
          · have c2 : ((s[k].toNat : Int) == 125) = true := u8_is e2
            have hm := HACT.out
            rw [e2, act_close] at hm
            by_cases ho : o = 1
            · rw [if_pos ho] at hm
              subst ho
              by_cases hl : 200 < ac.length
              · rw [if_pos hl] at hm
                have HM := Lib.hid hm
                have hl2 : (200 : Int) < (k : Int) - (i0 : Int) - 1 := by omega
                clear hm e1 e2
                go_wp2_with fail
                refine (bad_any 12 i0 _).mono ?_
                rintro e w1 ⟨rfl, hb⟩
                first | (rename_i hK; refine hK _ _ ?_) | (rename_i hK _; refine hK _ _ ?_) | (rename_i hK _ _; refine hK _ _ ?_) | (rename_i hK _ _ _; refine hK _ _ ?_)
                have HA := Lib.hid (HAT.out.below hb HAT.out.lt)
                refine wpList_store_at rfl _ _ _ rfl rfl w.heap.size _ _ [_, _, _, _, _] rfl rfl HA.out 5 Tryd.sizeFound rfl rfl rfl ?_
                intro w2 hat hg
                go_wp2_with fail
                exact bodyPost_ret (results_cell_row rfl _ _ w.heap.size _ _ (0, 0) _ rfl hat Tryd.underlying52 rfl Tryd.sizeFound) rfl ⟨by rw [← HM.out]; rfl, below_grown (HBEL.out.trans (hb.mono HBEL.out.size)) hg (by have := hb.size; have := HBEL.out.size; omega) (Nat.le_refl _)⟩
              · rw [if_neg hl] at hm
                have HM := Lib.hid hm
                have hl2 : (k : Int) - (i0 : Int) - 1 ≤ 200 := by omega
                have hik2 : (i0 : Int) + 1 ≤ (k : Int) := by omega
                have hn1 : ((i0 : Int) + 1).toNat = i0 + 1 := by omega
                have hx : s.extract (i0 + 1) k = str ac := by rw [ext_str, HAC.out]
                have HX := Lib.hid hx
                clear hm e1 e2 hx
                have cd0 := HAT.out.cell 0
                have cd1 := HAT.out.cell 1
                have cd2 := HAT.out.cell 2
                have cd3 := HAT.out.cell 3
                have cd4 := HAT.out.cell 4
                have cdf := HAT.out.frozen
                simp only [List.getElem?_toArray, List.getElem?_cons_zero, List.getElem?_cons_succ] at cd0 cd1 cd2 cd3 cd4
                go_wp2_with fail
                rw [HX.out]
                refine bodyPost_ret (results_cell_row rfl _ _ w.heap.size _ _ (0, 0) _ rfl (HAT.out.five _ _ _ _ _) Tryd.underlying52 rfl Tryd.sizeFound) rfl ⟨?_, below_grown HBEL.out (grown_five _ _ _ _ _ _ _) HBEL.out.size (Nat.le_refl _)⟩
                rw [← HM.out, foundV_mark, show i0 + (ac.length + 2) = k + 1 by omega]
                rfl
            · rw [if_neg ho] at hm
              have HM := Lib.hid hm
              have HE := Lib.hid e2
              have ho3 : ((o : Int) - 1 == 0) = false := by rw [beq_eq_false_iff_ne]; omega
              have ho5 : (1 : Int) ≤ (o : Int) := by omega
              clear hm e1 e2
              go_wp2_with fail
              go_roundw
              case rel => exact ⟨k + 1, o - 1, by go_num, by go_num, by omega, .inr ⟨by omega, by omega, by omega, by rw [HNX.out, HE.out]; exact HM.out⟩, HAT.out, HBEL.out⟩
              case measure => simp [intOf]; omega
          · have c2 : ((s[k].toNat : Int) == 125) = false := u8_ne e2
            have hm := HACT.out
            rw [act_else _ _ _ e1 e2] at hm
            have HM := Lib.hid hm
            have ho3 : ((o : Int) == 0) = false := by rw [beq_eq_false_iff_ne]; omega
            have ho6 : (o == 0) = false := by rw [beq_eq_false_iff_ne]; omega
            clear hm e1 e2
            go_wp2_with fail
            go_roundw
            case rel => exact ⟨k + 1, o, by go_num, by go_num, by omega, .inr ⟨by omega, by omega, by omega, by rw [HNX.out]; exact HM.out⟩, HAT.out, HBEL.out⟩
            case measure => simp [intOf]; omega
    · have hk : k = s.size := by omega
      rcases hor with ⟨rfl, rfl⟩ | ⟨hik, ho1, ho4, hact⟩
      · omega
      · have hd : (bl s).drop k = [] := List.drop_of_length_le (by rw [bl_length]; omega)
        rw [hd] at hact
        have HACT := Lib.hid hact
        clear hact hd
        subst hk
        go_wp2_with fail
        refine (bad_any 11 i0 _).mono ?_
        rintro e w1 ⟨rfl, hb⟩
        first | (rename_i hK; refine hK _ _ ?_) | (rename_i hK _; refine hK _ _ ?_) | (rename_i hK _ _; refine hK _ _ ?_) | (rename_i hK _ _ _; refine hK _ _ ?_)
        have HA := Lib.hid (HAT.out.below hb HAT.out.lt)
        refine wpList_store_at rfl _ _ _ rfl rfl w.heap.size _ _ [_, _, _, _, _] rfl rfl HA.out 5 Tryd.sizeFound rfl rfl rfl ?_
        intro w2 hat hg
        go_wp2_with fail
        exact bodyPost_ret (results_cell_row rfl _ _ w.heap.size _ _ (0, 0) _ rfl hat Tryd.underlying52 rfl Tryd.sizeFound) rfl ⟨by rw [← HACT.out]; rfl, below_grown (HBEL.out.trans (hb.mono HBEL.out.size)) hg (by have := hb.size; have := HBEL.out.size; omega) (Nat.le_refl _)⟩

end Go.Proofs.YtcchljghlgnkkaaDoor
