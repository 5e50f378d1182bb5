/-
  The walk of LexerSpaces.
-/
import Derived.Test.YtcchljghlgnkkaaDoorLwC
import Derived.Test.YtcchljghlgnkkaaDoorLwN
namespace Go.Proofs.YtcchljghlgnkkaaDoor
open Go.RowKit
open Lx
set_option linter.unusedVariables false
set_option linter.unusedSimpArgs false

theorem run_code : ∀ (f : Nat) (l : List UInt8) (i : Nat) (acc : List M0) (c p : Nat), Lx.run f l i acc = .bad c p → 10 ≤ c ∧ c ≤ 13 := by
  intro f
  induction f with
  | zero => intro l i acc c p h; simp [Lx.run] at h
  | succ f ih =>
    intro l i acc c p h
    by_cases hl : l = []
    · subst hl; simp [Lx.run] at h
    · obtain ⟨c0, r0, rfl⟩ := List.exists_cons_of_ne_nil hl
      have hfit := step_fits c0 r0
      cases hs : Lx.step (c0 :: r0) with
      | skip m => rw [Lx.run_skip (by omega) hl hs] at h; exact ih _ _ _ _ _ h
      | mark k t m => rw [Lx.run_mark (by omega) hl hs] at h; exact ih _ _ _ _ _ h
      | bad c' m =>
        rw [Lx.run_bad (by omega) hl hs] at h
        rw [hs] at hfit
        injection h with h1 h2
        subst h1
        exact hfit.2
theorem lex_code {l : List UInt8} {c p : Nat} (h : lex l = .bad c p) : 10 ≤ c ∧ c ≤ 13 := by
  unfold lex at h
  split at h
  · injection h with h1 h2; omega
  · exact run_code _ _ _ _ _ _ h
theorem run_count : ∀ (f : Nat) (l : List UInt8) (i : Nat) (acc : List M0) (ms : List M0), l.length < f → Lx.run f l i acc = .ok ms → ms.length ≤ acc.length + l.length + 1 := by
  intro f
  induction f with
  | zero => intro l i acc ms hf h; omega
  | succ f ih =>
    intro l i acc ms hf h
    by_cases hl : l = []
    · subst hl
      rw [Lx.run_end (by omega)] at h
      injection h with h
      rw [← h]; simp
    · obtain ⟨c0, r0, rfl⟩ := List.exists_cons_of_ne_nil hl
      have hfit := step_fits c0 r0
      cases hs : Lx.step (c0 :: r0) with
      | skip m =>
        rw [hs] at hfit
        obtain ⟨m1, m2⟩ := hfit
        rw [Lx.run_skip (by omega) hl hs] at h
        have hd : ((c0 :: r0).drop m).length = (c0 :: r0).length - m := List.length_drop ..
        have := ih _ _ _ _ (by rw [hd]; omega) h
        rw [hd] at this; omega
      | mark k t m =>
        rw [hs] at hfit
        obtain ⟨m1, m2, _⟩ := hfit
        rw [Lx.run_mark (by omega) hl hs] at h
        have hd : ((c0 :: r0).drop m).length = (c0 :: r0).length - m := List.length_drop ..
        have := ih _ _ _ _ (by rw [hd]; omega) h
        rw [hd] at this; simp at this ⊢; omega
      | bad c' m =>
        rw [Lx.run_bad (by omega) hl hs] at h
        cases h
theorem lex_count {l : List UInt8} {ms : List M0} (h : lex l = .ok ms) : ms.length ≤ l.length + 1 := by
  unfold lex at h
  split at h
  · cases h
  · have := run_count _ _ _ _ _ (by omega) h; simpa using this
theorem bl_blank {m : Nat} (hm : m < 4) : ∃ x, bl ((⟨#[32, 9, 13, 10]⟩ : ByteArray).extract m (m + 1)) = [x] ∧ isSpace x = true := by
  match m, hm with
  | 0, _ => exact ⟨32, rfl, rfl⟩
  | 1, _ => exact ⟨9, rfl, rfl⟩
  | 2, _ => exact ⟨13, rfl, rfl⟩
  | 3, _ => exact ⟨10, rfl, rfl⟩

set_option maxHeartbeats 4000000 in
set_option maxRecDepth 100000 in
theorem spaces_law (s : ByteArray) (hs : s.size ≤ 9223372036854775807) (n : Int) (hn : -9223372036854775808 ≤ n ∧ n ≤ 9223372036854775807) (cm : ByteArray) (hcm : cm.size ≤ 9223372036854775807) (W : World) (hT : Tab W) (h0 : 0 < W.heap.size) :
    Calls Tryd.prog 6 #[.string s, .int .i64 n, .string cm] W fun e w' => e = .returned (.bool true) ∧ Below W.heap.size W w' := by
  have HT := Lib.hid hT
  clear hT
  go_enter Tryd.func6, Tryd.ntmps6
  go_wp2_with fail
  refine (awake_any _ HT.out h0).mono ?_
  rintro e w1 ⟨rfl, hb1⟩
  have HB1 := Lib.hid hb1
  have HT1 := Lib.hid (HT.out.below hb1 h0)
  have hs1 := hb1.size
  clear hb1
  by_cases hrange : s.size ≤ 300 ∧ 0 ≤ n ∧ n ≤ 9 ∧ cm.size ≤ 50
  · obtain ⟨q1, q2, q3, q4⟩ := hrange
    obtain ⟨d, rfl⟩ : ∃ d : Nat, n = (d : Int) := ⟨n.toNat, by omega⟩
    have q1' : (s.size : Int) ≤ 300 := by omega
    have q4' : (cm.size : Int) ≤ 50 := by omega
    go_wp2_with fail
    go_loop [8] (fun i => ∃ k : Nat, k ≤ cm.size ∧ i = .int .i64 (k : Int) ∧ ∀ c ∈ (bl cm).take k, c ≠ 10) (fun i => cm.size - (intOf i).toNat)
    case atStart => exact ⟨0, by omega, rfl, by simp⟩
    case round =>
      obtain ⟨k, hk, rfl, hno⟩ := hrel
      have HNO := Lib.hid hno
      clear hno
      by_cases hlt : k < cm.size
      · have HTK := Lib.hid (bl_take cm k hlt)
        by_cases h10 : cm[k] = 10
        · have c1 : ((cm[k].toNat : Int) == 10) = true := u8_is h10
          clear h10
          go_wp2_with fail
          go_ret
          exact ⟨rfl, HB1.out⟩
        · have c1 : ((cm[k].toNat : Int) == 10) = false := u8_ne h10
          have HA := Lib.hid h10
          clear h10
          go_wp2_with fail
          go_round
          case rel => exact ⟨k + 1, by omega, by go_num, fun c hc => by
            rw [HTK.out] at hc
            rcases List.mem_append.1 hc with h | h
            · exact HNO.out c h
            · simp at h; subst h; exact HA.out⟩
          case measure => simp [intOf]; omega
      · have hno : ∀ c ∈ bl cm, c ≠ 10 := by
          have := HNO.out
          rwa [List.take_of_length_le (by rw [bl_length]; omega)] at this
        have HNO2 := Lib.hid hno
        clear hno
        go_wp2_with fail
        go_loop [9, 10] (fun t i => ∃ (k : Nat) (tt : ByteArray) (sp : List UInt8), k ≤ d ∧ i = .int .i64 (k : Int) ∧ t = .string tt ∧ bl tt = lead (bl cm) sp ∧ sp.length = k ∧ ∀ c ∈ sp, isSpace c = true) (fun _ i => d - (intOf i).toNat)
        case atStart => exact ⟨0, _, [], by omega, rfl, rfl, by rw [bl_append, bl_append]; rfl, rfl, by simp⟩
        case round =>
          obtain ⟨k2, tt, sp, hk2, rfl, rfl, htt, hspl, hsp⟩ := hrel
          have httl : tt.size ≤ 61 := by
            rw [← bl_length, htt]
            simp [lead, bl_length]; omega
          have HTT := Lib.hid htt
          have HSP := Lib.hid hsp
          have HSPL := Lib.hid hspl
          clear htt hsp hspl
          by_cases hlt2 : k2 < d
          · obtain ⟨m, hm⟩ : ∃ m : Nat, (k2 : Int) % 4 = (m : Int) := ⟨k2 % 4, by omega⟩
            have hm4 : m < 4 := by omega
            obtain ⟨x, hx, hxs⟩ := bl_blank hm4
            obtain ⟨E, hE⟩ : ∃ E, (⟨#[32, 9, 13, 10]⟩ : ByteArray).extract m (m + 1) = E := ⟨_, rfl⟩
            rw [hE] at hx
            have hEs : E.size ≤ 1 := by rw [← bl_length, hx]; simp
            have HX := Lib.hid hx
            have HXS := Lib.hid hxs
            have hm1 : ((m : Int) + 1).toNat = m + 1 := by omega
            have hm2 : (m : Int) + 1 ≤ 4 := by omega
            have hif1 : ¬ (9223372036854775807 < tt.size + E.size) := by omega
            clear hx hxs
            go_wp2_with fail
            go_round
            case rel => exact ⟨k2 + 1, _, sp ++ [x], by omega, by go_num, rfl, by rw [bl_append, HTT.out, HX.out]; simp [lead], by rw [List.length_append, HSPL.out]; rfl, fun c hc => by
              rcases List.mem_append.1 hc with h | h
              · exact HSP.out c h
              · simp at h; subst h; exact HXS.out⟩
            case measure => simp [intOf]; omega
          · obtain ⟨MS1, hMS1⟩ : ∃ MS, (lex (bl s)).marks (bl s) = MS := ⟨_, rfl⟩
            obtain ⟨d1, d2, d3, hD1⟩ : ∃ d1 d2 d3, (lex (bl s)).diag (bl s) = (d1, d2, d3) := ⟨_, _, _, rfl⟩
            have HMS1 := Lib.hid hMS1
            have HDG1 := Lib.hid hD1
            obtain ⟨X, hX⟩ : ∃ X, tt ++ s ++ (⟨#[10]⟩ : ByteArray) ++ tt ++ (⟨#[35]⟩ : ByteArray) ++ cm = X := ⟨_, rfl⟩
            have hbX : bl X = spaced (bl s) (bl cm) sp := by
              rw [← hX]
              simp only [bl_append, HTT.out]
              unfold spaced
              have e1 : bl (⟨#[10]⟩ : ByteArray) = [10] := rfl
              have e2 : bl (⟨#[35]⟩ : ByteArray) = [35] := rfl
              rw [e1, e2]; simp
            have hXs : X.size ≤ 500 := by
              rw [← bl_length, hbX]
              have := HSPL.out
              simp [spaced, lead, bl_length]; omega
            obtain ⟨MS2, hMS2⟩ : ∃ MS, (lex (bl X)).marks (bl X) = MS := ⟨_, rfl⟩
            obtain ⟨e1, e2, e3, hD2⟩ : ∃ d1 d2 d3, (lex (bl X)).diag (bl X) = (d1, d2, d3) := ⟨_, _, _, rfl⟩
            have HMS2 := Lib.hid hMS2
            have HDG2 := Lib.hid hD2
            have hlx := lex_spaced (bl s) (bl cm) sp HNO2.out HSP.out (by rw [bl_length]; omega) (by rw [← hbX, bl_length]; omega)
            rw [← hbX] at hlx
            have HLX := Lib.hid hlx
            have HX := Lib.hid hX
            clear hX hbX hlx hMS1 hMS2 hD1 hD2
            have g1 : ¬ (9223372036854775807 < tt.size + s.size) := by omega
            go_wp2_with fail
            refine (lex_is s MS1 (d1, d2, d3) _ (by omega) HT1.out (by omega) HMS1.out HDG1.out).mono ?_
            rintro e w2 ⟨⟨A1, cap1, rfl, hm1⟩, hb2⟩
            simp only [diagV]
            have hs2 := hb2.size
            have HM1 := Lib.hid (hm1.below ((Below.refl _ _).alloc (Nat.le_refl _) (.cells #[.int .i64 (d1 : Int), .int .i64 (d2 : Int), .int .i64 (d3 : Int)] 28)))
            have HB2 := Lib.hid ((HB1.out.trans (hb2.mono hs1)).alloc (by omega) (.cells #[.int .i64 (d1 : Int), .int .i64 (d2 : Int), .int .i64 (d3 : Int)] 28))
            have HT2 := Lib.hid ((HT1.out.below hb2 (by omega)).alloc (by omega) (.cells #[.int .i64 (d1 : Int), .int .i64 (d2 : Int), .int .i64 (d3 : Int)] 28))
            have HD1 := Lib.hid (At.new w2 28 #[.int .i64 (d1 : Int), .int .i64 (d2 : Int), .int .i64 (d3 : Int)])
            have hl2 := HD1.out.lt
            clear hm1 hb2
            go_wp2_with fail
            generalize (w2.alloc (.cells #[.int .i64 (d1 : Int), .int .i64 (d2 : Int), .int .i64 (d3 : Int)] 28)) = W2 at HM1 HB2 HT2 HD1 hl2 ⊢
            generalize hg1 : w2.heap.size = g1 at HD1 hl2 ⊢
            have hg1' : W.heap.size ≤ g1 := by omega
            clear hg1
            rw [HX.out]
            refine (lex_is X MS2 (e1, e2, e3) _ (by omega) HT2.out (by omega) HMS2.out HDG2.out).mono ?_
            rintro e w3 ⟨⟨A2, cap2, rfl, hm2⟩, hb3⟩
            simp only [diagV]
            have hs3 := hb3.size
            have dd := HD1.out.below hb3 hl2
            have hg3 : g1 < w3.heap.size := by omega
            have d10 := dd.cell 0
            simp only [List.getElem?_toArray, List.getElem?_cons_zero] at d10
            have HM1b := Lib.hid (HM1.out.below hb3)
            have HM2 := Lib.hid hm2
            have HB3 := Lib.hid (HB2.out.trans (hb3.mono HB2.out.size))
            have hs33 := HB3.out.size
            clear hm2 hb3 dd
            rcases HLX.out with ⟨ms, ms', g1, g2, g3⟩ | ⟨c, p, g1, g2⟩
            · have hm1 : ms.map (mkOf (bl s)) = MS1 := by rw [← HMS1.out, g1]; rfl
              have hm2 : ms'.map (mkOf (bl X)) = MS2 := by rw [← HMS2.out, g2]; rfl
              have hd1 : (0, 0, 0) = (d1, d2, d3) := by rw [← HDG1.out, g1]; rfl
              have hd2 : (0, 0, 0) = (e1, e2, e3) := by rw [← HDG2.out, g2]; rfl
              simp only [Prod.mk.injEq] at hd1 hd2
              obtain ⟨rfl, rfl, rfl⟩ := hd1
              obtain ⟨rfl, rfl, rfl⟩ := hd2
              have hcnt : MS1.length ≤ 301 := by
                have := lex_count g1
                rw [bl_length] at this
                rw [← hm1]; simp; omega
              have hlen : MS2.length = MS1.length := by
                have := congrArg List.length g3
                rw [← hm1, ← hm2]; simpa using this.symm
              have hsame : ∀ i, i < MS1.length → (MS1.getD i ⟨0, [], 0, 0⟩).kind = (MS2.getD i ⟨0, [], 0, 0⟩).kind ∧ (MS1.getD i ⟨0, [], 0, 0⟩).text = (MS2.getD i ⟨0, [], 0, 0⟩).text := by
                intro i hi
                have h1 : i < ms.length := by rw [← hm1] at hi; simpa using hi
                have h2 : i < ms'.length := by have := congrArg List.length g3; simp at this; omega
                have h3 : kt ms[i] = kt ms'[i] := by
                  have := congrArg (·[i]?) g3
                  simpa [h1, h2] using this
                rw [← hm1, ← hm2]
                simp only [List.getD, List.getElem?_map, List.getElem?_eq_getElem h1, List.getElem?_eq_getElem h2, Option.map_some, Option.getD_some]
                unfold kt at h3
                simp only [Prod.mk.injEq] at h3
                exact h3
              have HS := Lib.hid hsame
              have HLEN := Lib.hid hlen
              rw [hlen]
              clear hsame g1 g2 g3 hm1 hm2 hlen
              have d10' : w3.cell? ⟨g1, 0, none⟩ = some (.int .i64 0) := d10
              clear d10
              go_wp2_with fail
              have HM1c := Lib.hid (HM1b.out.below ((Below.refl _ _).alloc (Nat.le_refl _) (.cells #[.int .i64 0, .int .i64 0, .int .i64 0] 28)))
              have HM2c := Lib.hid (HM2.out.below ((Below.refl _ _).alloc (Nat.le_refl _) (.cells #[.int .i64 0, .int .i64 0, .int .i64 0] 28)))
              have HB4 := Lib.hid (HB3.out.alloc hs33 (.cells #[.int .i64 0, .int .i64 0, .int .i64 0] 28))
              generalize hW4 : w3.alloc (.cells #[.int .i64 0, .int .i64 0, .int .i64 0] 28) = W4 at HM1c HM2c HB4 ⊢
              generalize hN : MS1.length = N at HS hcnt ⊢
              have HN := Lib.hid hN
              clear hN hW4
              go_loopw [15] (fun i wr => ∃ k n : Nat, k ≤ N ∧ i = .int .i64 (k : Int) ∧ wr = W4.drewN n) (fun i _ => N - (intOf i).toNat)
              case atStart => exact ⟨0, 0, by omega, rfl, rfl⟩
              case round =>
                obtain ⟨j, nn, hj, rfl, rfl⟩ := hrel
                by_cases hlt3 : j < N
                · obtain ⟨b1, rfl, y1, x11, x12, _, _⟩ := HM1c.out.cell (i := j) (by rw [HN.out]; exact hlt3)
                  obtain ⟨b2, rfl, y2, x21, x22, _, _⟩ := HM2c.out.cell (i := j) (by rw [HLEN.out, HN.out]; exact hlt3)
                  obtain ⟨z1, z2⟩ := HS.out j hlt3
                  rw [← z1] at x21
                  rw [← z2] at x22
                  generalize (MS1.getD j ⟨0, [], 0, 0⟩).kind = K at x11 x21
                  generalize str (MS1.getD j ⟨0, [], 0, 0⟩).text = T at x12 x22
                  have hji : (j : Int) < (N : Int) := by omega
                  have hj0 : (0 : Int) ≤ (j : Int) := by omega
                  clear z1 z2
                  go_wp2_with fail
                  go_quiet (fail)
                  go_wp2_with fail
                  go_roundw
                  case rel => exact ⟨j + 1, _, by omega, by go_num, rfl⟩
                  case measure => simp [intOf]; omega
                · obtain rfl : N = j := by omega
                  go_wp2_with fail
                  go_ret
                  exact ⟨rfl, below_drewN HB4.out _⟩
            · have hd1 : (lex (bl s)).diag (bl s) = (c, (pos (bl s) p).1, (pos (bl s) p).2) := by rw [g1]; rfl
              rw [HDG1.out] at hd1
              simp only [Prod.mk.injEq] at hd1
              obtain ⟨hd11, _, _⟩ := hd1
              have hcc := lex_code g1
              by_cases h11 : d1 = 11
              · have n1 : ((d1 : Int) != 0) = true := by rw [bne_iff_ne]; omega
                have n2 : ((d1 : Int) != 11) = false := by rw [bne_eq_false_iff_eq]; omega
                clear g1 g2 h11 hd11
                go_wp2_with fail
                go_ret
                exact ⟨rfl, HB3.out.alloc hs33 _⟩
              · rcases g2 with g2 | ⟨p', g2⟩
                · exact absurd (hd11.trans g2) h11
                · have hd2 : (lex (bl X)).diag (bl X) = (c, (pos (bl X) p').1, (pos (bl X) p').2) := by rw [g2]; rfl
                  rw [HDG2.out] at hd2
                  simp only [Prod.mk.injEq] at hd2
                  obtain ⟨hd21, _, _⟩ := hd2
                  have n1 : ((d1 : Int) != 0) = true := by rw [bne_iff_ne]; omega
                  have n2 : ((d1 : Int) != 11) = true := by rw [bne_iff_ne]; omega
                  have n3 : ((e1 : Int) == (d1 : Int)) = true := by rw [hd11, hd21]; simp
                  have n4 : (e1 == d1) = true := by rw [hd11, hd21]; simp
                  clear g1 g2 h11 hd11 hd21
                  go_wp2_with fail
                  go_ret
                  exact ⟨by first | rfl | simp, HB3.out.alloc hs33 _⟩
  · by_cases hn1 : (300 : Int) < (s.size : Int)
    · go_wp2_with fail
      go_ret
      exact ⟨rfl, HB1.out⟩
    · have hn1 : (s.size : Int) ≤ 300 := by omega
      by_cases hn2 : n < 0
      · go_wp2_with fail
        go_ret
        exact ⟨rfl, HB1.out⟩
      · have hn2 : 0 ≤ n := by omega
        by_cases hn3 : 9 < n
        · go_wp2_with fail
          go_ret
          exact ⟨rfl, HB1.out⟩
        · have hn3 : n ≤ 9 := by omega
          have hn4 : (50 : Int) < (cm.size : Int) := by omega
          go_wp2_with fail
          go_ret
          exact ⟨rfl, HB1.out⟩

end Go.Proofs.YtcchljghlgnkkaaDoor
