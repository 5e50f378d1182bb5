/-
  The walk of LexerActions.
-/
import Derived.Test.YtcchljghlgnkkaaDoorLwA
import Derived.Test.YtcchljghlgnkkaaDoorLwM
namespace Go.Proofs.YtcchljghlgnkkaaDoor
open Go.RowKit
open Lx
set_option linter.unusedVariables false
set_option linter.unusedSimpArgs false

theorem bl_append (a b : ByteArray) : bl (a ++ b) = bl a ++ bl b := by
  unfold bl; rw [ByteArray.data_append]; simp
theorem bl_opens {d : Nat} (hd : d ≤ 6) : bl ((⟨#[123, 123, 123, 123, 123, 123]⟩ : ByteArray).extract 0 d) = List.replicate d 123 := by
  rw [bl_ext]
  match d, hd with
  | 0, _ => rfl
  | 1, _ => rfl
  | 2, _ => rfl
  | 3, _ => rfl
  | 4, _ => rfl
  | 5, _ => rfl
  | 6, _ => rfl
theorem bl_closes {d : Nat} (hd : d ≤ 6) : bl ((⟨#[125, 125, 125, 125, 125, 125]⟩ : ByteArray).extract 0 d) = List.replicate d 125 := by
  rw [bl_ext]
  match d, hd with
  | 0, _ => rfl
  | 1, _ => rfl
  | 2, _ => rfl
  | 3, _ => rfl
  | 4, _ => rfl
  | 5, _ => rfl
  | 6, _ => rfl

set_option maxHeartbeats 2000000 in
set_option maxRecDepth 100000 in
theorem actions_law (s : ByteArray) (hs : s.size ≤ 9223372036854775807) (deep : Int) (hdeep : -9223372036854775808 ≤ deep ∧ deep ≤ 9223372036854775807) (W : World) (hT : Tab W) (h0 : 0 < W.heap.size) :
    Calls Tryd.prog 8 #[.string s, .int .i64 deep] W fun e w' => e = .returned (.bool true) ∧ Below W.heap.size W w' := by
  have HT := Lib.hid hT
  clear hT
  go_enter Tryd.func8, Tryd.ntmps8
  go_wp2_with fail
  refine (awake_any _ HT.out h0).mono ?_
  rintro e w1 ⟨rfl, hb1⟩
  have HB1 := Lib.hid hb1
  have HT1 := Lib.hid (HT.out.below hb1 h0)
  have hs1 := hb1.size
  clear hb1
  by_cases hrange : s.size ≤ 210 ∧ 1 ≤ deep ∧ deep ≤ 6
  · obtain ⟨q1, q2, q3⟩ := hrange
    obtain ⟨d, rfl⟩ : ∃ d : Nat, deep = (d : Int) := ⟨deep.toNat, by omega⟩
    have q1' : (s.size : Int) ≤ 210 := by omega
    go_wp2_with fail
    go_loop [6] (fun i => ∃ k : Nat, k ≤ s.size ∧ i = .int .i64 (k : Int) ∧ ∀ c ∈ (bl s).take k, c ≠ 123 ∧ c ≠ 125) (fun i => s.size - (intOf i).toNat)
    case atStart => exact ⟨0, by omega, rfl, by simp⟩
    case round =>
      obtain ⟨k, hk, rfl, hno⟩ := hrel
      have HNO := Lib.hid hno
      clear hno
      by_cases hlt : k < s.size
      · have HTK := Lib.hid (bl_take s k hlt)
        by_cases h123 : s[k] = 123
        · have c1 : ((s[k].toNat : Int) == 123) = true := u8_is h123
          clear h123
          go_wp2_with fail
          go_ret
          exact ⟨rfl, HB1.out⟩
        · have c1 : ((s[k].toNat : Int) == 123) = false := u8_ne h123
          by_cases h125 : s[k] = 125
          · have c2 : ((s[k].toNat : Int) == 125) = true := u8_is h125
            clear h123 h125
            go_wp2_with fail
            go_ret
            exact ⟨rfl, HB1.out⟩
          · have c2 : ((s[k].toNat : Int) == 125) = false := u8_ne h125
            have HA := Lib.hid h123
            have HB := Lib.hid h125
            clear h123 h125
            go_wp2_with fail
            go_round
            case rel => exact ⟨k + 1, by omega, by go_num, fun c hc => by
              rw [HTK.out] at hc
              rcases List.mem_append.1 hc with h | h
              · exact HNO.out c h
              · simp at h; subst h; exact ⟨HA.out, HB.out⟩⟩
            case measure => simp [intOf]; omega
      · have hno : ∀ c ∈ bl s, c ≠ 123 ∧ c ≠ 125 := by
          have := HNO.out
          rwa [List.take_of_length_le (by rw [bl_length]; omega)] at this
        obtain ⟨t, ht⟩ : ∃ t, (⟨#[123, 123, 123, 123, 123, 123]⟩ : ByteArray).extract 0 d ++ s ++ (⟨#[125, 125, 125, 125, 125, 125]⟩ : ByteArray).extract 0 d = t := ⟨_, rfl⟩
        have hbt : bl t = braced d (bl s) := by
          rw [← ht, bl_append, bl_append, bl_opens (by omega), bl_closes (by omega)]; rfl
        have htl : t.size = 2 * d + s.size := by rw [← bl_length, hbt, braced_len, bl_length]
        have HNO2 := Lib.hid hno
        have HTT := Lib.hid ht
        have HBT := Lib.hid hbt
        clear hno ht hbt
        go_wp2_with fail
        go_quiet (fail)
        go_wp2_with fail
        rw [HTT.out]
        have hT2 := HT1.out.drewN nq
        by_cases h5 : 5 ≤ d
        · have hm : (lex (bl t)).marks (bl t) = [] := by rw [HBT.out, lex_braced5 h5 (by rw [braced_len, bl_length]; omega)]; rfl
          have hd : (lex (bl t)).diag (bl t) = (13, 1, 5) := by
            rw [HBT.out, lex_braced5 h5 (by rw [braced_len, bl_length]; omega)]
            unfold Out.diag; simp only [pos_braced5 h5]
          have hd4 : (4 : Int) < (d : Int) := by omega
          refine (lex_is t _ _ _ (by omega) hT2 (by simp; omega) hm hd).mono ?_
          rintro e w2 ⟨⟨A, cap, rfl, hm2⟩, hb2⟩
          simp only [List.length_nil, diagV]
          have HB2 := Lib.hid ((below_drewN HB1.out nq).trans (hb2.mono hs1))
          have hs2 := HB2.out.size
          clear hm hd hT2 hm2 hb2
          go_wp2_with fail
          go_ret
          exact ⟨rfl, HB2.out.alloc HB2.out.size _⟩
        · have hd4 : (d : Int) ≤ 4 := by omega
          by_cases hlong : 200 < t.size - 2
          · have hlex : lex (bl t) = .bad 12 0 := by rw [HBT.out]; exact lex_braced_long (by omega) (by omega) HNO2.out (by rw [braced_len, bl_length]; omega) (by rw [braced_len, bl_length]; omega)
            have hm : (lex (bl t)).marks (bl t) = [] := by rw [hlex]; rfl
            have hd : (lex (bl t)).diag (bl t) = (12, 1, 1) := by rw [hlex]; rfl
            have hl1 : (200 : Int) < (t.size : Int) - 2 := by omega
            refine (lex_is t _ _ _ (by omega) hT2 (by simp; omega) hm hd).mono ?_
            rintro e w2 ⟨⟨A, cap, rfl, hm2⟩, hb2⟩
            simp only [List.length_nil, diagV]
            have HB2 := Lib.hid ((below_drewN HB1.out nq).trans (hb2.mono hs1))
            have hs2 := HB2.out.size
            have htb : (t.size : Int) ≤ 300 := by omega
            clear hm hd hlex hT2 hm2 hb2
            go_wp2_with fail
            go_ret
            exact ⟨rfl, HB2.out.alloc HB2.out.size _⟩
          · have hlex : lex (bl t) = .ok [(9, inner d (bl s), 0), (0, [], (braced d (bl s)).length)] := by rw [HBT.out]; exact lex_braced (by omega) (by omega) HNO2.out (by rw [braced_len, bl_length]; omega) (by rw [braced_len, bl_length]; omega)
            obtain ⟨m2, hm2⟩ : ∃ m2, mkOf (bl t) (0, [], (braced d (bl s)).length) = m2 := ⟨_, rfl⟩
            have hm : (lex (bl t)).marks (bl t) = [⟨9, inner d (bl s), 1, 1⟩, m2] := by rw [hlex, ← hm2]; rfl
            have hd : (lex (bl t)).diag (bl t) = (0, 0, 0) := by rw [hlex]; rfl
            have hl1 : (t.size : Int) - 2 ≤ 200 := by omega
            have hin : (t.extract 1 (t.size - 1)) = str (inner d (bl s)) := by
              rw [ext_str]
              congr 1
              rw [HBT.out, braced_inner _ (by omega)]
              have e : t.size - 1 - 1 = (inner d (bl s)).length := by
                have := braced_len (d := d) (bl s)
                rw [braced_inner (bl s) (by omega), bl_length] at this
                simp at this; omega
              rw [e]
              simp
            refine (lex_is t _ _ _ (by omega) hT2 (by simp; omega) hm hd).mono ?_
            rintro e w2 ⟨⟨A, cap, rfl, hmm⟩, hb2⟩
            simp only [List.length_cons, List.length_nil, diagV]
            obtain ⟨b1, rfl, q4, c11, c12, c13, c14⟩ := hmm.cell (i := 0) (by simp)
            have c11' : w2.cell? ⟨b1, 0, none⟩ = some (.int .i64 9) := c11
            have c12' : w2.cell? ⟨b1, 1, none⟩ = some (.string (str (inner d (bl s)))) := c12
            clear c11 c12
            have HB2 := Lib.hid ((below_drewN HB1.out nq).trans (hb2.mono hs1))
            have hs2 := HB2.out.size
            have he : ((str (inner d (bl s))).toList == (t.extract 1 (t.size - 1)).toList) = true := by rw [hin]; simp
            have hn : ((t.size : Int) - 1).toNat = t.size - 1 := by omega
            have hw : IntKind.i64.wrap ((t.size : Int) - 1) = (t.size : Int) - 1 := IntWalk.i64_in _ (by omega)
            have hn1 : (1 : Int) ≤ (t.size : Int) - 1 := by omega
            have hn2 : (t.size : Int) - 1 ≤ (t.size : Int) := by omega
            have hn3 : (0 : Int) ≤ (t.size : Int) - 1 := by omega
            have htb : (t.size : Int) ≤ 300 := by omega
            have ht2 : (2 : Int) ≤ (t.size : Int) := by omega
            have HTL := Lib.hid htl
            clear hm hd hlex hT2 hb2 hin hm2 hmm c13 c14 htl
            go_wp2_with fail
            go_quiet (fail)
            go_wp2_with fail
            go_ret
            exact ⟨rfl, below_drewN (HB2.out.alloc HB2.out.size _) _⟩
  · by_cases hn1 : (210 : Int) < (s.size : Int)
    · go_wp2_with fail
      go_ret
      exact ⟨rfl, HB1.out⟩
    · have hn1 : (s.size : Int) ≤ 210 := by omega
      by_cases hn2 : deep < 1
      · go_wp2_with fail
        go_ret
        exact ⟨rfl, HB1.out⟩
      · have hn2 : 1 ≤ deep := by omega
        have hn3 : 6 < deep := by omega
        go_wp2_with fail
        go_ret
        exact ⟨rfl, HB1.out⟩

end Go.Proofs.YtcchljghlgnkkaaDoor
