/-
  The walk of LexerQuotes.
-/
import Derived.Test.YtcchljghlgnkkaaDoorLwC
namespace Go.Proofs.YtcchljghlgnkkaaDoor
open Go.RowKit
open Lx
set_option linter.unusedVariables false
set_option linter.unusedSimpArgs false

theorem quote_cons (c : UInt8) (r : List UInt8) : quote (c :: r) = (if c = 10 then [92, 110] else if c = 34 ∨ c = 92 then [92, c] else [c]) ++ quote r := by
  rw [quote]
  split
  · rfl
  · split <;> rfl
theorem quote_append (a b : List UInt8) : quote (a ++ b) = quote a ++ quote b := by
  induction a with
  | nil => rfl
  | cons c r ih => rw [List.cons_append, quote_cons, quote_cons, ih, List.append_assoc]
theorem one_ext (s : ByteArray) (k : Nat) (h : k < s.size) : bl (s.extract k (k + 1)) = [s[k]] := by
  rw [bl_ext, bl_drop s k h]; simp

theorem quoted_any (s : ByteArray) (w : World) (hs : s.size ≤ 40) :
    Calls Tryd.prog 22 #[.string s] w fun e w' => e = .returned (.string (str (34 :: (quote (bl s) ++ [34])))) ∧ w = w' := by
  go_enter Tryd.func22, Tryd.ntmps22
  go_wp2_with fail
  go_loop [3, 4] (fun o i => ∃ (k : Nat) (t : ByteArray), k ≤ s.size ∧ i = .int .i64 (k : Int) ∧ o = .string t ∧ bl t = quote ((bl s).take k)) (fun _ i => s.size - (intOf i).toNat)
  case atStart => exact ⟨0, ⟨#[]⟩, by omega, rfl, rfl, rfl⟩
  case round =>
    obtain ⟨k, t, hk, rfl, rfl, ht⟩ := hrel
    have HT := Lib.hid ht
    clear ht
    by_cases hlt : k < s.size
    · have HTK := Lib.hid (bl_take s k hlt)
      have HOE := Lib.hid (one_ext s k hlt)
      have hlen : t.size ≤ 80 := by
        rw [← bl_length, HT.out]
        have := (quote_len ((bl s).take k)).2
        simp [bl_length] at this; omega
      have e1 : ((k : Int) + 1).toNat = k + 1 := by omega
      by_cases h10 : s[k] = 10
      · have c1 : ((s[k].toNat : Int) == 10) = true := u8_is h10
        have H10 := Lib.hid h10
        clear h10
        go_wp2_with fail
        go_round
        case rel => exact ⟨k + 1, _, by omega, by go_num, rfl, by rw [HTK.out, quote_append, bl_append, HT.out, H10.out]; rfl⟩
        case measure => simp [intOf]; omega
      · have c1 : ((s[k].toNat : Int) == 10) = false := u8_ne h10
        by_cases h34 : s[k] = 34
        · have c2 : ((s[k].toNat : Int) == 34) = true := u8_is h34
          have H34 := Lib.hid h34
          clear h10 h34
          go_wp2_with fail
          go_round
          case rel => exact ⟨k + 1, _, by omega, by go_num, rfl, by rw [HTK.out, quote_append, bl_append, bl_append, HT.out, HOE.out, H34.out]; rw [List.append_assoc]; rfl⟩
          case measure => simp [intOf]; omega
        · have c2 : ((s[k].toNat : Int) == 34) = false := u8_ne h34
          by_cases h92 : s[k] = 92
          · have c3 : ((s[k].toNat : Int) == 92) = true := u8_is h92
            have H92 := Lib.hid h92
            clear h10 h34 h92
            go_wp2_with fail
            go_round
            case rel => exact ⟨k + 1, _, by omega, by go_num, rfl, by rw [HTK.out, quote_append, bl_append, bl_append, HT.out, HOE.out, H92.out]; rw [List.append_assoc]; rfl⟩
            case measure => simp [intOf]; omega
          · have c3 : ((s[k].toNat : Int) == 92) = false := u8_ne h92
            have hq : quote [s[k]] = [s[k]] := by
              rw [quote_cons, if_neg h10, if_neg (fun h => h.elim h34 h92)]; rfl
            have HQ := Lib.hid hq
            clear h10 h34 h92 hq
            go_wp2_with fail
            go_round
            case rel => exact ⟨k + 1, _, by omega, by go_num, rfl, by rw [HTK.out, quote_append, bl_append, HT.out, HOE.out, HQ.out]⟩
            case measure => simp [intOf]; omega
    · obtain rfl : s.size = k := by omega
      have hb : bl t = quote (bl s) := by rw [HT.out, List.take_of_length_le (by rw [bl_length]; omega)]
      have hlen : t.size ≤ 80 := by
        rw [← bl_length, hb]
        have := (quote_len (bl s)).2
        rw [bl_length] at this; omega
      have HB := Lib.hid hb
      clear hb
      go_wp2_with fail
      go_ret
      refine ⟨?_, rfl⟩
      have e : (⟨#[34]⟩ ++ t ++ ⟨#[34]⟩ : ByteArray) = str (34 :: (quote (bl s) ++ [34])) := by
        rw [← str_bl (⟨#[34]⟩ ++ t ++ ⟨#[34]⟩), bl_append, bl_append, HB.out]; rfl
      rw [← e]; rfl

theorem bl_spaces {d : Nat} (hd : d ≤ 9) : bl ((⟨#[32, 32, 32, 32, 32, 32, 32, 32, 32]⟩ : ByteArray).extract 0 d) = List.replicate d 32 := by
  rw [bl_ext]
  match d, hd with
  | 0, _ => rfl
  | 1, _ => rfl
  | 2, _ => rfl
  | 3, _ => rfl
  | 4, _ => rfl
  | 5, _ => rfl
  | 6, _ => rfl
  | 7, _ => rfl
  | 8, _ => rfl
  | 9, _ => rfl

set_option maxHeartbeats 2000000 in
set_option maxRecDepth 100000 in
theorem quotes_law (s : ByteArray) (hs : s.size ≤ 9223372036854775807) (n : Int) (hn : -9223372036854775808 ≤ n ∧ n ≤ 9223372036854775807) (W : World) (hT : Tab W) (h0 : 0 < W.heap.size) :
    Calls Tryd.prog 7 #[.string s, .int .i64 n] W fun e w' => e = .returned (.bool true) ∧ Below W.heap.size W w' := by
  have HT := Lib.hid hT
  clear hT
  go_enter Tryd.func7, Tryd.ntmps7
  go_wp2_with fail
  refine (awake_any _ HT.out h0).mono ?_
  rintro e w1 ⟨rfl, hb1⟩
  have HB1 := Lib.hid hb1
  have HT1 := Lib.hid (HT.out.below hb1 h0)
  have hs1 := hb1.size
  clear hb1
  by_cases hrange : s.size ≤ 40 ∧ 0 ≤ n ∧ n ≤ 9
  · obtain ⟨q1, q2, q3⟩ := hrange
    obtain ⟨d, rfl⟩ : ∃ d : Nat, n = (d : Int) := ⟨n.toNat, by omega⟩
    have q1' : (s.size : Int) ≤ 40 := by omega
    have hql := (quote_len (bl s)).2
    rw [bl_length] at hql
    obtain ⟨q, hq⟩ : ∃ q, str (34 :: (quote (bl s) ++ [34])) = q := ⟨_, rfl⟩
    have hqs : q.size ≤ 90 := by rw [← hq, ← bl_length, bl_str]; simp; omega
    have HQ := Lib.hid hq
    obtain ⟨E, hE⟩ : ∃ E, (⟨#[32, 32, 32, 32, 32, 32, 32, 32, 32]⟩ : ByteArray).extract 0 d = E := ⟨_, rfl⟩
    have hbE : bl E = List.replicate d 32 := by rw [← hE]; exact bl_spaces (by omega)
    have hEs : E.size ≤ 9 := by rw [← bl_length, hbE]; simp; omega
    obtain ⟨t, ht⟩ : ∃ t, E ++ q = t := ⟨_, rfl⟩
    have hbt : bl t = List.replicate d 32 ++ (34 :: (quote (bl s) ++ [34])) := by
      rw [← ht, bl_append, hbE, ← hq]; rfl
    have hif1 : ¬ (9223372036854775807 < E.size + q.size) := by omega
    have hif2 : (E.size + q.size > 9223372036854775807) = False := by simp; omega
    clear hq hbE
    have hlex := lex_quote (n := d) (l := bl s) (by omega)
    rw [← hbt] at hlex
    have htl : t.size = d + (quote (bl s)).length + 2 := by rw [← bl_length, hbt]; simp; omega
    have hpos : pos (bl t) d = (1, d + 1) := by rw [hbt]; exact pos_spaces _ _
    obtain ⟨MS, hMS⟩ : ∃ MS, (lex (bl t)).marks (bl t) = MS := ⟨_, rfl⟩
    obtain ⟨d1, d2, d3, hD⟩ : ∃ d1 d2 d3, (lex (bl t)).diag (bl t) = (d1, d2, d3) := ⟨_, _, _, rfl⟩
    have HMS := Lib.hid hMS
    have HDG := Lib.hid hD
    have HLEX := Lib.hid hlex
    have HPOS := Lib.hid hpos
    have HTT := Lib.hid ht
    have hts : t.size ≤ 9223372036854775807 := by omega
    clear ht hbt hlex hpos hMS hD htl
    go_wp2_with fail
    go_region_held3 (fun w' => True) (trivial) (first
      | (go_at_call 22; refine Calls.mono (quoted_any s _ q1) ?_; rw [HQ.out]; rintro e w' ⟨rfl, rfl⟩)
      | (go_at_call 11; rw [HTT.out]; refine Calls.mono (lex_is t MS (d1, d2, d3) _ hts (by first | exact HT1.out.drewN _ | exact (HT1.out.alloc (by omega) _).drewN _ | exact (HT1.out.alloc (by omega) _)) (by first | (simp; done) | (simp; omega) | omega) HMS.out HDG.out) ?_; rintro e w2 ⟨⟨A, cap, rfl, hm2⟩, hb2⟩
         simp only [diagV]
         have hk2 : Below w1.heap.size w1 w2 := by first | exact (below_undrew hb2).mono (by simp) | exact ((Below.refl _ _).alloc (by simp) _).trans ((below_undrew hb2).mono (by simp))
         try (have ha2 : At w2 w1.heap.size 28 #[.int .i64 0, .int .i64 0, .int .i64 0] := ((At.new w1 _ _).drew).below hb2 (by simp); have c60 := ha2.cell 0; have c61 := ha2.cell 1; have c62 := ha2.cell 2; have c6f := ha2.frozen; simp only [List.getElem?_toArray, List.getElem?_cons_zero, List.getElem?_cons_succ] at c60 c61 c62)))
    all_goals
      first
        | (have hn7 := ha2.three (.int .i64 (d1 : Int)) (.int .i64 (d2 : Int)) (.int .i64 (d3 : Int))
           have hm7 := hm2.far ha2 (by decide) (grown_three w2 w1.heap.size (.int .i64 (d1 : Int)) (.int .i64 (d2 : Int)) (.int .i64 (d3 : Int)))
           have hk7 := below_grown hk2 (grown_three w2 w1.heap.size (.int .i64 (d1 : Int)) (.int .i64 (d2 : Int)) (.int .i64 (d3 : Int))) hk2.size (Nat.le_refl _)
           clear c60 c61 c62 c6f ha2
           generalize ((w2.setCell ⟨w1.heap.size, 0, none⟩ (.int .i64 (d1 : Int))).setCell ⟨w1.heap.size, 1, none⟩ (.int .i64 (d2 : Int))).setCell ⟨w1.heap.size, 2, none⟩ (.int .i64 (d3 : Int)) = W7 at hn7 hm7 hk7 ⊢
           generalize hgd : w1.heap.size = gd at hn7 ⊢
           have hgd2 : W.heap.size ≤ gd := by omega
           clear hgd)
        | (have hn7 := At.new w2 28 #[.int .i64 (d1 : Int), .int .i64 (d2 : Int), .int .i64 (d3 : Int)]
           have hm7 := hm2.below ((Below.refl _ _).alloc (Nat.le_refl _) (.cells #[.int .i64 (d1 : Int), .int .i64 (d2 : Int), .int .i64 (d3 : Int)] 28))
           have hk7 := hk2.alloc hk2.size (.cells #[.int .i64 (d1 : Int), .int .i64 (d2 : Int), .int .i64 (d3 : Int)] 28)
           have hs22 := hk2.size
           generalize w2.alloc (.cells #[.int .i64 (d1 : Int), .int .i64 (d2 : Int), .int .i64 (d3 : Int)] 28) = W7 at hn7 hm7 hk7 ⊢
           generalize hgd : w2.heap.size = gd at hn7 ⊢
           have hgd2 : W.heap.size ≤ gd := by omega
           clear hgd hs22)
    all_goals
      have HN7 := Lib.hid hn7
      have HM7 := Lib.hid hm7
      have HB7 := Lib.hid (HB1.out.trans (hk7.mono hs1))
      clear hn7 hm7 hk7 hb2 hk2 hm2
      have hsz7 := HB7.out.size
      have hg7 := HN7.out.lt
      have e0 := HN7.out.cell 0
      have e1 := HN7.out.cell 1
      have e2 := HN7.out.cell 2
      simp only [List.getElem?_toArray, List.getElem?_cons_zero, List.getElem?_cons_succ] at e0 e1 e2
    all_goals
      by_cases hz : s.size = 0
      · have hb0 : bl s = [] := List.eq_nil_of_length_eq_zero (by rw [bl_length]; exact hz)
        have hlex : lex (bl t) = .bad 10 d := by rw [HLEX.out, if_pos hb0]
        have hm : [] = MS := by rw [← HMS.out, hlex]; rfl
        have hd : (10, 1, d + 1) = (d1, d2, d3) := by rw [← HDG.out, hlex]; unfold Out.diag; simp only [HPOS.out]
        simp only [Prod.mk.injEq] at hd
        obtain ⟨rfl, rfl, rfl⟩ := hd
        subst hm
        have he1 : s.toList.isEmpty = true := by rw [toList_eq, hb0]; rfl
        have he2 : s.toList = [] := by rw [toList_eq, hb0]
        clear hlex hb0 hif2
        go_wp2_with fail
        go_ret
        exact ⟨by first | rfl | simp, by first | exact HB7.out.alloc HB7.out.size _ | exact below_drewN (HB7.out.alloc HB7.out.size _) _⟩
      · have hne : bl s ≠ [] := fun e => by have := bl_length s; rw [e] at this; simp at this; omega
        have he1 : s.toList.isEmpty = false := by rw [toList_eq, List.isEmpty_eq_false_iff]; exact hne
        by_cases hlong : 32 < s.size
        · have hlex : lex (bl t) = .bad 12 d := by rw [HLEX.out, if_neg hne, if_pos (by rw [bl_length]; exact hlong)]
          have hm : [] = MS := by rw [← HMS.out, hlex]; rfl
          have hd : (12, 1, d + 1) = (d1, d2, d3) := by rw [← HDG.out, hlex]; unfold Out.diag; simp only [HPOS.out]
          simp only [Prod.mk.injEq] at hd
          obtain ⟨rfl, rfl, rfl⟩ := hd
          subst hm
          have hl32 : (32 : Int) < (s.size : Int) := by omega
          clear hlex hne hif2
          go_wp2_with fail
          go_ret
          exact ⟨by first | rfl | simp, by first | exact HB7.out.alloc HB7.out.size _ | exact below_drewN (HB7.out.alloc HB7.out.size _) _⟩
        · have hlex : lex (bl t) = .ok [(3, bl s, d), (0, [], d + (quote (bl s)).length + 2)] := by rw [HLEX.out, if_neg hne, if_neg (by rw [bl_length]; exact hlong)]
          obtain ⟨m2, hm2⟩ : ∃ m2, mkOf (bl t) (0, [], d + (quote (bl s)).length + 2) = m2 := ⟨_, rfl⟩
          have hm : [⟨3, bl s, 1, d + 1⟩, m2] = MS := by rw [← HMS.out, hlex, ← hm2]; unfold Out.marks mkOf; simp [HPOS.out]
          have hd : (0, 0, 0) = (d1, d2, d3) := by rw [← HDG.out, hlex]; rfl
          simp only [Prod.mk.injEq] at hd
          obtain ⟨rfl, rfl, rfl⟩ := hd
          subst hm
          have hl32 : (s.size : Int) ≤ 32 := by omega
          obtain ⟨b1, rfl, q4, c11, c12, c13, c14⟩ := HM7.out.cell (i := 0) (by simp)
          have c11' : W7.cell? ⟨b1, 0, none⟩ = some (.int .i64 3) := c11
          have c12' : W7.cell? ⟨b1, 1, none⟩ = some (.string s) := c12
          have c13' : W7.cell? ⟨b1, 2, none⟩ = some (.int .i64 1) := c13
          have c14' : W7.cell? ⟨b1, 3, none⟩ = some (.int .i64 ((d : Int) + 1)) := c14
          simp only [List.length_cons, List.length_nil]
          clear c11 c12 c13 c14 hlex hne hm2 hif2
          go_wp2_with fail
          go_quiet (fail)
          go_wp2_with fail
          go_ret
          exact ⟨by first | rfl | simp, by first | exact HB7.out.alloc HB7.out.size _ | exact below_drewN (HB7.out.alloc HB7.out.size _) _⟩
  · by_cases hn1 : (40 : Int) < (s.size : Int)
    · go_wp2_with fail
      go_ret
      exact ⟨rfl, HB1.out⟩
    · have hn1 : (s.size : Int) ≤ 40 := by omega
      by_cases hn2 : n < 0
      · go_wp2_with fail
        go_ret
        exact ⟨rfl, HB1.out⟩
      · have hn2 : 0 ≤ n := by omega
        have hn3 : 9 < n := by omega
        go_wp2_with fail
        go_ret
        exact ⟨rfl, HB1.out⟩

end Go.Proofs.YtcchljghlgnkkaaDoor
