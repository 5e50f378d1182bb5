/-
  The walk of tronageref05's Lex.
-/
import Derived.Test.YtcchljghlgnkkaaDoorLyD
namespace Go.Proofs.YtcchljghlgnkkaaDoor
open Go.RowKit
open Lx
set_option linter.unusedVariables false
set_option linter.unusedSimpArgs false

/-- append onto a row of one's own, as one step of a region that draws. -/
theorem step_append_own2 {P : Program} {ops : Array Oper} {o : Oper} {a : Act} {w : World} {K : Act → World → Prop} {Q : Exit → Act → World → Prop} {E : Prop}
    (hg : o.guard = none) (s x : Operand) (t : TypeId) (hop : o.op = Op.call { callee := Callee.builtin Builtin.append, args := #[s, x], argTypes := #[t, t] })
    (base : Nat) (e : TypeId) (i : TypeInfo) (z : Value) (size bytes : Nat) (h1 : P.underlying t = some (.slice e)) (h2 : P.info? e = some i) (h3 : i.zero = some z) (h4 : i.size = size) (h5 : i.bytes = bytes) (h6 : z.cells.size = size) (h7 : 0 < size)
    (v : Value) (n : Nat) (xs : List Value) (hs : a.eval s = v) (hown : w.ownsRow base e size v n xs)
    (ad : Addr) (m c : Nat) (news : List Value) (hx : a.eval x = .slice (some ad) m c) (hn : news.length = m * size) (hc : ∀ j u, news[j]? = some u → w.cell? (ad.add j) = some u) (h1c : ∀ u ∈ news, u.oneCell' = true)
    (b1 : n + m ≤ maxLen) (b2 : (n + m) * bytes ≤ 140737488355328) (b3 : base ≤ w.heap.size)
    (hK : ∀ v' w', w'.ownsRow base e size v' (n + m) (xs ++ news) → w.grownBy w' v.ownBlock → SameOrNew w v v' → K (a.put o.dst v') w') :
    if Region.wanted o (yielded ops a.tmps) = true then Oper.wp P o a w K Q else E := by
  have hw : Region.wanted o (yielded ops a.tmps) = true := by simp [Region.wanted, hg]
  rw [if_pos hw]
  obtain ⟨v', w', hr, r1, r2, r3⟩ := run_append_own2 (P := P) w base t o.type e i z size bytes h1 h2 h3 h4 h5 h6 h7 v n xs hown ad m c news hn hc h1c b1 b2 b3
  unfold Oper.wp
  simp [execOp, hop, resolve, invoke, builtin, hs, hx, hr, Result.andThen]
  exact hK _ _ r1 r2 r3

theorem four_cellsV (w : World) (a b c d : Value) (t : TypeId) : ∀ j u, [a, b, c, d][j]? = some u → (w.alloc (.cells #[a, b, c, d] t)).cell? ((⟨w.heap.size, 0, none⟩ : Addr).add j) = some u := by
  intro j u h
  rw [Addr.add_mid, Nat.zero_add, (At.new w t #[a, b, c, d]).cell]
  simpa using h

set_option maxHeartbeats 1000000 in
theorem rlex_far (s : ByteArray) (w : World) (hs : 4000 < s.size) (hm : s.size ≤ 9223372036854775807) :
    Calls Tryd.prog 12 #[.string s] w (Lexed (bl s) w) := by
  have HL := Lib.hid (lex_long (L := bl s) (by rw [bl_length]; exact hs))
  have hs2 : (4000 : Int) < (s.size : Int) := by omega
  go_enter Tryd.func12, Tryd.ntmps12
  go_wp2_with fail
  refine bodyPost_ret (results_tmp_cell rfl _ _ _ rfl w.heap.size _ _ _ rfl (At.new w 28 #[.int .i64 12, .int .i64 1, .int .i64 1]) Tryd.underlying28 rfl Tryd.sizeDiag) rfl ⟨⟨none, 0, ?_, ?_⟩, ?_⟩
  · rw [HL.out]; rfl
  · rw [HL.out]; exact MAt.nil _ _
  · exact (Below.refl _ _).alloc (Nat.le_refl _) _

set_option maxHeartbeats 4000000 in
theorem rlex_near (s : ByteArray) (w : World) (hs : s.size ≤ 4000) (hcls : ∀ i, i < s.size → ClassTells s i) :
    Calls Tryd.prog 12 #[.string s] w (Lexed (bl s) w) := by
  have HCL := Lib.hid hcls
  have HL := Lib.hid (lex_short (L := bl s) (by rw [bl_length]; exact hs))
  have hs2 : (s.size : Int) ≤ 4000 := by omega
  clear hcls
  obtain ⟨i0, hi, hz0, hz1, hzb⟩ := info_parts markinfo
  go_enter Tryd.func12, Tryd.ntmps12
  go_wp2_with fail
  have HD0 := Lib.hid (At.new w 28 #[.int .i64 0, .int .i64 0, .int .i64 0])
  have HB0 := Lib.hid ((Below.refl w.heap.size w).alloc (Nat.le_refl _) (.cells #[.int .i64 0, .int .i64 0, .int .i64 0] 28))
  go_loopw [4, 5] (fun v4 v5 wr => ∃ (i f : Nat) (acc : List (Nat × List UInt8 × Nat)) (ao : Option Addr) (cap : Nat), v5 = .int .i64 (i : Int) ∧ v4 = .slice ao acc.length cap ∧ i ≤ s.size ∧ lex (bl s) = Lx.run f ((bl s).drop i) i acc ∧ s.size - i < f ∧ acc.length ≤ i ∧ wr.ownsRow (w.heap.size + 1) 40 4 (.slice ao acc.length cap) acc.length (marksV (acc.map (mkOf (bl s)))) ∧ At wr w.heap.size 28 #[.int .i64 0, .int .i64 0, .int .i64 0] ∧ Below w.heap.size w wr) (fun _ v _ => s.size - (intOf v).toNat)
  case atStart => exact ⟨0, (bl s).length + 1, [], none, 0, rfl, rfl, by omega, HL.out, by rw [bl_length]; omega, by simp, World.ownsRow_nil _ _ _ _, HD0.out, HB0.out⟩
  case round =>
    obtain ⟨i, f, acc, ao, cap, rfl, rfl, his, hrun, hf, hacc, hown, hat, hbel⟩ := hrel
    have HRUN := Lib.hid hrun
    have HOWN := Lib.hid hown
    have HDG := Lib.hid hat
    have HB := Lib.hid hbel
    have hbs := hbel.size
    clear hrun hown hat hbel
    by_cases hlt : i < s.size
    · have hfit : (Lx.step ((bl s).drop i)).Fits 0 (s.size - i) := by
        have h := step_fits s[i] ((bl s).drop (i + 1))
        rw [← bl_drop s i hlt, List.length_drop, bl_length] at h
        exact h
      have hne : (bl s).drop i ≠ [] := by rw [bl_drop s i hlt]; simp
      have hki : (i : Int) < (s.size : Int) := by omega
      have HNE := Lib.hid hne
      clear hne
      go_wp2_with fail
      refine (next_any s i _ hs hlt (HCL.out i hlt)).mono ?_
      generalize hst : Lx.step ((bl s).drop i) = st at hfit
      have HST := Lib.hid hst
      clear hst
      cases st with
      | skip n =>
        obtain ⟨n1, n2⟩ := hfit
        have hr2 := HRUN.out
        rw [Lx.run_skip (by omega) HNE.out HST.out, List.drop_drop] at hr2
        have HR2 := Lib.hid hr2
        clear hr2
        rintro e w2 ⟨rfl, hb2⟩
        have hs3 := hb2.size
        have HB2 := Lib.hid (HB.out.trans (hb2.mono HB.out.size))
        have HD2 := Lib.hid (HDG.out.below hb2 HDG.out.lt)
        have HO2 := Lib.hid (own_below HOWN.out hb2 (fun j hj => (own_lt HOWN.out j hj).2))
        have hbs2 := HB2.out.size
        clear hb2
        unfold foundV
        go_wp2_with fail
        go_roundw
        case rel => exact ⟨i + n, f - 1, acc, ao, cap, by go_num, rfl, by omega, HR2.out, by omega, by omega, HO2.out.alloc _, HD2.out.alloc _, HB2.out.alloc hbs2 _⟩
        case measure => simp [intOf]; omega
      | mark k t n =>
        obtain ⟨n1, n2, n3, n4, _⟩ := hfit
        have hr2 := HRUN.out
        rw [Lx.run_mark (by omega) HNE.out HST.out, List.drop_drop] at hr2
        have HR2 := Lib.hid hr2
        clear hr2
        rintro e w2 ⟨rfl, hb2⟩
        have hs3 := hb2.size
        have HB2 := Lib.hid (HB.out.trans (hb2.mono HB.out.size))
        have HD2 := Lib.hid (HDG.out.below hb2 HDG.out.lt)
        have HO2 := Lib.hid (own_below HOWN.out hb2 (fun j hj => (own_lt HOWN.out j hj).2))
        have hbs2 := HB2.out.size
        have hdl := HD2.out.lt
        clear hb2
        unfold foundV
        have hk0 : (0 : Int) ≤ (k : Int) := by omega
        obtain ⟨q, hq⟩ : ∃ q, i + n = q := ⟨_, rfl⟩
        simp only [hq]
        obtain ⟨P, hP⟩ : ∃ P, pos (bl s) (min (max (i : Int) 0).toNat s.size) = P := ⟨_, rfl⟩
        have HP := Lib.hid hP
        have HP2 := Lib.hid (show pos (bl s) i = P by rw [← hP]; congr 1; omega)
        clear hP
        obtain ⟨T, hT⟩ : ∃ T, str t = T := ⟨_, rfl⟩
        rw [hT]
        have HTT := Lib.hid hT
        clear hT
        go_wp2_with fail
        have HF := Lib.hid (At.new w2 52 #[.int .i64 (k : Int), .string T, .int .i64 (q : Int), .int .i64 0, .int .i64 0])
        have HD3 := Lib.hid (HD2.out.alloc (.cells #[.int .i64 (k : Int), .string T, .int .i64 (q : Int), .int .i64 0, .int .i64 0] 52))
        have HB3 := Lib.hid (HB2.out.alloc hbs2 (.cells #[.int .i64 (k : Int), .string T, .int .i64 (q : Int), .int .i64 0, .int .i64 0] 52))
        have HO3 := Lib.hid (HO2.out.alloc (.cells #[.int .i64 (k : Int), .string T, .int .i64 (q : Int), .int .i64 0, .int .i64 0] 52))
        generalize (w2.alloc (.cells #[.int .i64 (k : Int), .string T, .int .i64 (q : Int), .int .i64 0, .int .i64 0] 52)) = W3 at HF HD3 HB3 HO3 ⊢
        generalize hgf : w2.heap.size = gf at HF hdl hbs2 ⊢
        clear hgf
        have hfl := HF.out.lt
        have hdl3 := HD3.out.lt
        have f0 := HF.out.cell 0
        have f1 := HF.out.cell 1
        have f2 := HF.out.cell 2
        simp only [List.getElem?_toArray, List.getElem?_cons_zero, List.getElem?_cons_succ] at f0 f1 f2
        have hc3 : acc.length + 1 ≤ maxLen := by unfold maxLen; omega
        have hc4 : (acc.length + 1) * 40 ≤ 140737488355328 := by omega
        go_region_held3 (fun w' => w'.cell? ⟨gf, 0, none⟩ = some (.int .i64 (k : Int)) ∧ w'.cell? ⟨gf, 1, none⟩ = some (.string T)) (first | go_keep | exact hkk) (first
          | (go_at_call 16; refine Calls.mono (rAt_any s i _ (by omega) (by omega)) ?_; rw [HP.out]; rintro e w4 ⟨rfl, hb4⟩
             have hk4 : Below W3.heap.size W3 w4 := by first | exact hb4 | exact below_undrew hb4
             have hF4 := HF.out.below hk4 hfl
             have g0 := hF4.cell 0
             have g1 := hF4.cell 1
             have g2 := hF4.cell 2
             simp only [List.getElem?_toArray, List.getElem?_cons_zero, List.getElem?_cons_succ] at g0 g1 g2
             have HO4 := own_below HO3.out hk4 (fun j hj => (own_lt HO3.out j hj).2)
             have hs4 := hk4.size)
          | (refine step_append_own2 rfl _ _ 23 rfl (w.heap.size + 1) 40 i0 _ 4 40 Tryd.underlying23 hi hz0 hz1 hzb rfl (by decide) _ acc.length (marksV (acc.map (mkOf (bl s)))) rfl (HO4.alloc _) ⟨w4.heap.size, 0, none⟩ 1 1 [.int .i64 (k : Int), .string T, .int .i64 (P.1 : Int), .int .i64 (P.2 : Int)] rfl rfl (four_cellsV _ _ _ _ _ _) (by simp [Value.oneCell']) hc3 hc4 (by simp; omega) ?_
             intro v' w5 hown' hgrow hsn
             have hF5 := (hF4.alloc (.cells #[.int .i64 (k : Int), .string T, .int .i64 (P.1 : Int), .int .i64 (P.2 : Int)] 40)).grown hgrow (fun e => own_apart HO4 hF4 (by decide) e.symm)
             have hkk : w5.cell? ⟨gf, 0, none⟩ = some (.int .i64 (k : Int)) ∧ w5.cell? ⟨gf, 1, none⟩ = some (.string T) := ⟨hF5.cell 0, hF5.cell 1⟩
             have h2 := hF5.cell 2
             simp only [List.getElem?_toArray, List.getElem?_cons_zero, List.getElem?_cons_succ] at h2))
        obtain ⟨ao', cap', rfl⟩ := own_form hown'
        have R1 := Lib.hid (show w5.ownsRow (w.heap.size + 1) 40 4 (.slice ao' (acc.length + 1) cap') (acc.length + 1) (marksV ((acc ++ [(k, t, i)]).map (mkOf (bl s)))) by
          rw [List.map_append, List.map_cons, List.map_nil, marksV_snoc]; unfold mkOf; simp only [HP2.out]; unfold Mk.cells; simp only [HTT.out]; exact hown')
        have hD4 := HD3.out.below hk4 hdl3
        have hB4 := HB3.out.trans (hk4.mono HB3.out.size)
        have R2 := Lib.hid ((hD4.alloc (.cells #[.int .i64 (k : Int), .string T, .int .i64 (P.1 : Int), .int .i64 (P.2 : Int)] 40)).grown hgrow (fun e => by have := (own_lt HO4 _ e.symm).1; omega))
        have R3 := Lib.hid ((hB4.alloc hB4.size (.cells #[.int .i64 (k : Int), .string T, .int .i64 (P.1 : Int), .int .i64 (P.2 : Int)] 40)).grown hgrow (by have := hB4.size; simp; omega) (fun j hj => by have := (own_lt HO4 _ hj).1; omega))
        have hal : acc.length + 1 = (acc ++ [(k, t, i)]).length := by simp
        clear hown' hgrow hsn hD4 hB4
        go_wp2_with fail
        go_roundw
        case rel => exact ⟨q, f - 1, acc ++ [(k, t, i)], ao', cap', rfl, by rw [← hal], by omega, by rw [← hq]; exact HR2.out, by omega, by rw [← hal]; omega, by rw [← hal]; exact R1.out, R2.out, R3.out⟩
        case measure => simp [intOf]; omega
      | bad c n =>
        obtain ⟨n2, n3, n4⟩ := hfit
        have hr2 := HRUN.out
        rw [Lx.run_bad (by omega) HNE.out HST.out] at hr2
        have HR2 := Lib.hid hr2
        clear hr2
        rintro e w2 ⟨rfl, hb2⟩
        have hs3 := hb2.size
        have HB2 := Lib.hid (HB.out.trans (hb2.mono HB.out.size))
        have HD2 := Lib.hid (HDG.out.below hb2 HDG.out.lt)
        have hbs2 := HB2.out.size
        have hdl := HD2.out.lt
        clear hb2
        unfold foundV
        have hc0 : ((c : Int) != 0) = true := by rw [bne_iff_ne]; omega
        have hc1 : (c != 0) = true := by rw [bne_iff_ne]; omega
        obtain ⟨q, hq⟩ : ∃ q, i + n = q := ⟨_, rfl⟩
        simp only [hq]
        obtain ⟨P, hP⟩ : ∃ P, pos (bl s) (min (max (q : Int) 0).toNat s.size) = P := ⟨_, rfl⟩
        have HP := Lib.hid hP
        have HP' := Lib.hid (show pos (bl s) (i + n) = P by rw [← hP, hq]; congr 1; omega)
        clear hP
        go_wp2_with fail
        have HF := Lib.hid (At.new w2 52 #[.int .i64 0, .string (str []), .int .i64 0, .int .i64 (c : Int), .int .i64 (q : Int)])
        have HD3 := Lib.hid (HD2.out.alloc (.cells #[.int .i64 0, .string (str []), .int .i64 0, .int .i64 (c : Int), .int .i64 (q : Int)] 52))
        have HB3 := Lib.hid (HB2.out.alloc hbs2 (.cells #[.int .i64 0, .string (str []), .int .i64 0, .int .i64 (c : Int), .int .i64 (q : Int)] 52))
        generalize (w2.alloc (.cells #[.int .i64 0, .string (str []), .int .i64 0, .int .i64 (c : Int), .int .i64 (q : Int)] 52)) = W3 at HF HD3 HB3 ⊢
        generalize hgf : w2.heap.size = gf at HF hdl hbs2 ⊢
        generalize hgd : w.heap.size = gd at HD3 hdl ⊢
        have HGD := Lib.hid hgd
        clear hgf hgd
        have hne1 : ¬ (gf = gd) := by omega
        have hne2 : ¬ (gd = gf) := by omega
        have hfl := HF.out.lt
        have hdl3 := HD3.out.lt
        have f3 := HF.out.cell 3
        have f4 := HF.out.cell 4
        have e0 := HD3.out.cell 0
        have e1 := HD3.out.cell 1
        have e2 := HD3.out.cell 2
        have efz := HD3.out.frozen
        simp only [List.getElem?_toArray, List.getElem?_cons_zero, List.getElem?_cons_succ] at f3 f4 e0 e1 e2
        go_region_held3 (fun w' => w'.cell? ⟨gf, 3, none⟩ = some (.int .i64 (c : Int)) ∧ w'.cell? ⟨gf, 4, none⟩ = some (.int .i64 (q : Int))) (go_keep) (
          (go_at_call 16; refine Calls.mono (rAt_any s q _ (by omega) (by omega)) ?_; rw [HP.out]; rintro e w4 ⟨rfl, hb4⟩
           have hk4 : Below W3.heap.size W3 w4 := by first | exact hb4 | exact below_undrew hb4
           have hF4 := HF.out.below hk4 hfl
           have hD4 := HD3.out.below hk4 hdl3
           have g3 := hF4.cell 3
           have g4 := hF4.cell 4
           have h0 := hD4.cell 0
           have h1 := hD4.cell 1
           have h2 := hD4.cell 2
           have hfz := hD4.frozen
           simp only [List.getElem?_toArray, List.getElem?_cons_zero, List.getElem?_cons_succ] at g3 g4 h0 h1 h2))
        go_wp2_with fail
        have hB4 := HB3.out.trans (hk4.mono HB3.out.size)
        refine bodyPost_ret (results_tmp_cell rfl _ _ _ rfl gd _ _ _ rfl (hD4.three _ _ _) Tryd.underlying28 rfl Tryd.sizeDiag) rfl ⟨⟨none, 0, ?_, ?_⟩, ?_⟩
        · rw [HR2.out]
          show _ = Ending.returned (.tuple #[.slice none 0 0, .agg #[.int .i64 (c : Int), .int .i64 ((pos (bl s) (i + n)).1 : Int), .int .i64 ((pos (bl s) (i + n)).2 : Int)]])
          rw [HP'.out]
          rfl
        · rw [HR2.out]; exact MAt.nil _ _
        · exact below_grown hB4 (grown_three _ _ _ _ _) hB4.size (by rw [← HGD.out]; exact Nat.le_refl _)
    · have hd : (bl s).drop i = [] := List.drop_of_length_le (by rw [bl_length]; omega)
      have hii : i = s.size := by omega
      have hlex : lex (bl s) = .ok (acc ++ [(0, [], i)]) := by rw [HRUN.out, hd]; exact Lx.run_end (by omega)
      have HLEX := Lib.hid hlex
      clear hd hlex
      obtain ⟨P2, hP⟩ : ∃ P, pos (bl s) (min (max (s.size : Int) 0).toNat s.size) = P := ⟨_, rfl⟩
      have HP := Lib.hid hP
      have HP2 := Lib.hid (show pos (bl s) i = P2 by rw [← hP, hii]; congr 1; omega)
      have hki : (s.size : Int) ≤ (i : Int) := by omega
      clear hP
      go_wp2_with fail
      refine (rAt_any s s.size _ (by omega) (by omega)).mono ?_
      rw [HP.out]
      rintro e w2 ⟨rfl, hb2⟩
      have HB2 := Lib.hid (HB.out.trans (hb2.mono HB.out.size))
      have HD2 := Lib.hid (HDG.out.below hb2 HDG.out.lt)
      have HO2 := Lib.hid (own_below HOWN.out hb2 (fun j hj => (own_lt HOWN.out j hj).2))
      have hbs2 := HB2.out.size
      have hdl := HD2.out.lt
      have hc3 : acc.length + 1 ≤ maxLen := by unfold maxLen; omega
      have hc4 : (acc.length + 1) * 40 ≤ 140737488355328 := by omega
      have hc5 : ∀ o, w.heap.size + 1 ≤ (w2.alloc o).heap.size := fun o => by simp; omega
      clear hb2
      go_wp2_with (at_builtin; refine wpList_append_own2 _ rfl (.tmp 45) (.tmp 51) 23 rfl (w.heap.size + 1) 40 i0 _ 4 40 Tryd.underlying23 hi hz0 hz1 hzb rfl (by decide) _ acc.length (marksV (acc.map (mkOf (bl s)))) rfl (HO2.out.alloc _) ⟨w2.heap.size, 0, none⟩ 1 1 (Mk.cells ⟨0, [], P2.1, P2.2⟩) rfl rfl (four_cells _ _ _) (four_one _) hc3 hc4 (hc5 _) ?_)
      intro v' w5 hown' hgrow hsn
      obtain ⟨ao', cap', rfl⟩ := own_form hown'
      have R1 := Lib.hid (show w5.ownsRow (w.heap.size + 1) 40 4 (.slice ao' (acc.length + 1) cap') (acc.length + 1) (marksV ((acc ++ [(0, [], i)]).map (mkOf (bl s)))) by
        rw [List.map_append, List.map_cons, List.map_nil, marksV_snoc]; unfold mkOf; simp only [HP2.out]; exact hown')
      have R2 := Lib.hid ((HD2.out.alloc (.cells #[.int .i64 0, .string ⟨#[]⟩, .int .i64 (P2.1 : Int), .int .i64 (P2.2 : Int)] 40)).grown hgrow (fun e => by have := (own_lt HO2.out _ e.symm).1; omega))
      have R3 := Lib.hid ((HB2.out.alloc HB2.out.size (.cells #[.int .i64 0, .string ⟨#[]⟩, .int .i64 (P2.1 : Int), .int .i64 (P2.2 : Int)] 40)).grown hgrow (by simp; omega) (fun j hj => by have := (own_lt HO2.out _ hj).1; omega))
      clear hown' hgrow hsn
      have cd0 := R2.out.cell 0
      have cd1 := R2.out.cell 1
      have cd2 := R2.out.cell 2
      have cdf := R2.out.frozen
      simp only [List.getElem?_toArray, List.getElem?_cons_zero, List.getElem?_cons_succ] at cd0 cd1 cd2
      go_wp2_with fail
      have hal : acc.length + 1 = ((lex (bl s)).marks (bl s)).length := by rw [HLEX.out]; simp [Out.marks]
      refine bodyPost_ret (results_tmp_cell rfl _ _ _ rfl w.heap.size _ _ _ rfl (R2.out.three _ _ _) Tryd.underlying28 rfl Tryd.sizeDiag) rfl ⟨⟨ao', cap', ?_, ?_⟩, ?_⟩
      · rw [← hal, HLEX.out]; rfl
      · rw [HLEX.out]
        refine MAt.of_own (B := w.heap.size + 1) (cap := cap') (n := acc.length + 1) ?_
        exact own_keeps R1.out ((((Keeps.refl [w.heap.size] w5).set (.inl (by simp)) _).set (.inl (by simp)) _).set (.inl (by simp)) _) (fun j hj hm => by have := (own_lt R1.out j hj).1; simp at hm; omega)
      · exact below_grown R3.out (grown_three _ _ _ _ _) R3.out.size (Nat.le_refl _)

end Go.Proofs.YtcchljghlgnkkaaDoor
