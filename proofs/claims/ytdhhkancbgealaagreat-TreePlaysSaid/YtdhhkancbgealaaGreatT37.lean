import Derived.Test.YtdhhkancbgealaaGreatT34
import Derived.Test.YtdhhkancbgealaaGreatT36
import Derived.Test.YtdhhkancbgealaaGreatT14
import Derived.Test.YtdhhkancbgealaaGreatT31
import Derived.DeepKeys
import Derived.Test.YtdhhkancbgealaaGreatT20
import Derived.Test.YtdhhkancbgealaaGreatT25
section
namespace Go.Proofs.YtdhhkancbgealaaGreat
open Go.RowKit Go.Shelf
open Lx
set_option linter.unusedVariables false
set_option linter.unusedSimpArgs false
set_option maxRecDepth 100000
def tokC (x : Tr.Tok) : List Value := [.int .i64 x.t, .int .i64 x.a, .int .i64 x.b]
def toksC (l : List Tr.Tok) : List Value := l.flatMap tokC
theorem tokC_len (x : Tr.Tok) : (tokC x).length = 3 := rfl
theorem toksC_at {l : List Tr.Tok} {k r : Nat} {x : Tr.Tok} (h : l[k]? = some x) (hr : r < 3) : (toksC l)[k * 3 + r]? = (tokC x)[r]? := flatN_at tokC 3 tokC_len l k r x h hr
theorem toksC_append (l m : List Tr.Tok) : toksC (l ++ m) = toksC l ++ toksC m := by simp [toksC]
theorem infoTokT : (Tryz.prog.info? 50).map (fun i => (i.zero, i.size, i.bytes)) = some (some (.agg #[.int .i64 0, .int .i64 0, .int .i64 0]), 3, 24) := by kernel_rfl
set_option maxHeartbeats 8000000 in
theorem tyield_any (i : Int) (w : World) (B tg g mb : Nat) (l m : Int) (S : List Sl) (h : TreeIs w B tg g mb l m S) (hG : Tr.Good (nds S)) (hN : (nds S).length ≤ 300000) :
    Calls Tryz.prog 29 #[.pointer (some ⟨tg, 0, none⟩), .int .i64 i] w fun e w' => ∃ A c, e = .returned (.slice A (Tr.yield (nds S) i).length c) ∧ w'.ownsRow w.heap.size 50 3 (.slice A (Tr.yield (nds S) i).length c) (Tr.yield (nds S) i).length (toksC (Tr.yield (nds S) i)) ∧ Below w.heap.size w w' := by
  have hbl := hG.bel_len i
  have HBE := Lib.hid (tbelow_any i w B tg g mb l m S h hG.down (by omega))
  have HAT := Lib.hid (fun (i : Int) (w' : World) (hb : Below w.heap.size w w') => tat_parts i w' B tg g mb l m S (h.below hb))
  obtain ⟨L, hL⟩ : ∃ L, nds S = L := ⟨_, rfl⟩
  rw [hL] at HBE HAT hbl hN ⊢
  have hbn : (Tr.below L i).length ≤ 300001 := by unfold Tr.below; split; · omega
                                                  · simp
  obtain ⟨Y, hY⟩ : ∃ Y, Tr.yield L i = Y := ⟨_, rfl⟩
  rw [hY]
  have HY := Lib.hid (show (Tr.below L i).flatMap (Tr.tokOf L) = Y from hY)
  obtain ⟨K, hK⟩ : ∃ K, Tr.below L i = K := ⟨_, rfl⟩
  rw [hK] at HBE HY hbn
  obtain ⟨kn, hkn⟩ : ∃ kn, K.length = kn := ⟨_, rfl⟩
  rw [hkn] at HBE hbn
  have HKN := Lib.hid hkn
  obtain ⟨j0, hj0, hj1, hj2, hj3⟩ := info_parts infoTokT
  have hfd := nfield_leaf
  clear h hG hL hY hK hkn hbl
  go_enter Tryz.func29, Tryz.ntmps29
  go_wp2_with fail
  refine HBE.out.mono ?_
  rintro e w1 ⟨KA, kc, rfl, hko, hb1⟩
  have HB1 := Lib.hid hb1
  have HKL := Lib.hid (Lie.own hko)
  clear hko hb1 HBE
  go_wp2_with fail
  go_loopw [5, 13] (fun l i wr => ∃ (j : Nat) (X : List Tr.Tok) (A : Option Addr) (c : Nat), j ≤ kn ∧ i = .int .i64 (j : Int) ∧ l = .slice A X.length c ∧ X.length ≤ j ∧ (K.take j).flatMap (Tr.tokOf L) = X ∧ wr.ownsRow w.heap.size 50 3 (.slice A X.length c) X.length (toksC X) ∧ Below w.heap.size w wr ∧ Lie wr 3 KA (vals K)) (fun _ i _ => kn - (intOf i).toNat)
  case atStart => exact ⟨0, [], none, 0, by omega, rfl, rfl, by simp, rfl, World.ownsRow_nil _ _ _ _, HB1.out, HKL.out⟩
  case round =>
    obtain ⟨j, X, A, c, hj, rfl, rfl, hXj, hX, ho, hb, hkl⟩ := hrel
    have HX := Lib.hid hX
    have HO := Lib.hid ho
    have HB := Lib.hid hb
    have HL := Lib.hid hkl
    obtain ⟨m0, hm0⟩ : ∃ m0, X.length = m0 := ⟨_, rfl⟩
    rw [hm0] at HO hXj ⊢
    have HM := Lib.hid hm0
    clear hX ho hb hkl hm0
    by_cases hlt : j < kn
    · have hji : (j : Int) < (kn : Int) := by omega
      have hj0' : (0 : Int) ≤ (j : Int) := by omega
      obtain ⟨x, hx⟩ : ∃ x, K[j]? = some x := ⟨_, List.getElem?_eq_getElem (by rw [HKN.out]; exact hlt)⟩
      obtain ⟨b, o, rfl, hbl, hc⟩ := lie_at HL.out hx
      have HC := Lib.hid (HAT.out x wr HB.out)
      have HT := Lib.hid (show (K.take (j + 1)).flatMap (Tr.tokOf L) = X ++ Tr.tokOf L x by rw [take_snocT hx, List.flatMap_append, HX.out]; simp)
      have HTO := Lib.hid (show Tr.tokOf L x = if (Tr.at_ L x).leaf = true then [(Tr.at_ L x).tok] else [] from rfl)
      obtain ⟨⟨q0, q1, q2, q3, ⟨q4, q5, q6⟩, q7⟩, hq⟩ : ∃ y, Tr.at_ L x = y := ⟨_, rfl⟩
      rw [hq] at HC HTO
      dsimp only at HC HTO
      generalize q7.length = qn at HC
      generalize (slAt S x).A = qa at HC
      generalize (slAt S x).c = qc at HC
      clear hx hq
      go_wp2_with fail
      refine HC.out.mono ?_
      rintro e w2 ⟨rfl, hb2⟩
      obtain ⟨w3, hw3⟩ : ∃ w3, w2.alloc (.cells #[.bool q0, .bool q1, .int .i64 q2, .int .i64 q3, .int .i64 q4, .int .i64 q5, .int .i64 q6, .slice qa qn qc] 91) = w3 := ⟨_, rfl⟩
      have hb3 : Below wr.heap.size wr w3 := by rw [← hw3]; exact hb2.alloc hb2.size _
      have hA3 : At w3 w2.heap.size 91 #[.bool q0, .bool q1, .int .i64 q2, .int .i64 q3, .int .i64 q4, .int .i64 q5, .int .i64 q6, .slice qa qn qc] := by rw [← hw3]; exact At.new _ _ _
      have r0 := hA3.cell 0
      have r4 := hA3.cell 4
      have r5 := hA3.cell 5
      have r6 := hA3.cell 6
      simp only [List.getElem?_toArray, List.getElem?_cons_zero, List.getElem?_cons_succ] at r0 r4 r5 r6
      have hs3e : w2.heap.size + 1 = w3.heap.size := by rw [← hw3]; simp
      have HS3 := Lib.hid hs3e
      have HW3 := Lib.hid hw3
      have HB3 := Lib.hid hb3
      have HO3 := Lib.hid (own_below HO.out hb3 (fun k hk => (HO.out.lt k hk).2))
      have HL3 := Lib.hid (HL.out.below hb3)
      have HBB := Lib.hid (HB.out.trans (hb3.mono HB.out.size))
      have hs3 := hA3.lt
      clear hb2 hw3 hb3 hA3 HC hs3e
      cases q0 with
      | false =>
        go_wp2_with fail
        rw [HW3.out]
        go_roundw
        case rel => exact ⟨j + 1, X, A, c, by omega, by go_num, by rw [HM.out], by rw [HM.out]; omega, by rw [HT.out, HTO.out]; simp, by rw [HM.out]; exact HO3.out, HBB.out, HL3.out⟩
        case measure => simp [intOf]; omega
      | true =>
        go_wp2_with (at_builtin; (rw [HW3.out, HS3.out]; refine wpList_append_own3T _ rfl (.tmp 22) (.tmp 25) 63 rfl w.heap.size 50 j0 _ 3 24 Tryz.underlying63 hj0 hj1 hj2 hj3 rfl (by decide) _ m0 (toksC X) rfl (HO3.out.alloc (.cells #[.int .i64 q4, .int .i64 q5, .int .i64 q6] 50)) (some ⟨w3.heap.size, 0, none⟩) 1 1 (tokC ⟨q4, q5, q6⟩) rfl rfl (LiesT_lie (lie_new w3 50 (tokC ⟨q4, q5, q6⟩))) (by simp [tokC, Value.oneCell']) (by unfold maxLen; omega) (by omega) (by have := HBB.out.size; simp; omega) ?_; intro v5 w5 ho5 hg5 hn5; obtain ⟨a5, c5, rfl⟩ := own_form ho5; have hb5 := (HBB.out.alloc HBB.out.size (.cells #[.int .i64 q4, .int .i64 q5, .int .i64 q6] 50)).grown hg5 (by have := HBB.out.size; simp; omega) (fun k hk => (HO3.out.lt k hk).1); have hl5 : Lie w5 3 (some ⟨b, o, none⟩) (vals K) := (HL3.out.alloc _).stay (Stay.own (HO3.out.alloc (.cells #[.int .i64 q4, .int .i64 q5, .int .i64 q6] 50)) (by decide) hg5); have HO5 := Lib.hid ho5; have HB5 := Lib.hid hb5; have HL5 := Lib.hid hl5; clear ho5 hg5 hn5 hb5 hl5))
        go_roundw
        case rel =>
          refine ⟨j + 1, X ++ [⟨q4, q5, q6⟩], a5, c5, by omega, by go_num, by rw [List.length_append, HM.out]; rfl, by rw [List.length_append, HM.out]; simp; omega, by rw [HT.out, HTO.out]; simp, ?_, HB5.out, HL5.out⟩
          rw [List.length_append, HM.out, toksC_append]; exact HO5.out
        case measure => simp [intOf]; omega
    · obtain rfl : kn = j := by omega
      rw [List.take_of_length_le (by rw [HKN.out]; exact Nat.le_refl _), HY.out] at HX
      obtain rfl : Y = X := HX.out
      go_wp2_with fail
      go_ret
      rw [HM.out]
      exact ⟨A, c, rfl, HO.out, HB.out⟩
def tokIn (x : Tr.Tok) : Prop := inI x.t ∧ inI x.a ∧ inI x.b
theorem cTokT : Tryz.prog.cellsOf 50 = 3 := by kernel_rfl
theorem cIntT : Tryz.prog.cellsOf 3 = 1 := by kernel_rfl
theorem lits_intT (n : Int) (h : inI n) : Tryz.prog.keyLits 2 3 [.int .i64 n] = some [Lit.int .i64 n] := by
 have hw : (Lit.int .i64 n).wf = true := by
  unfold inI at h
  simp [Lit.wf, IntKind.min, IntKind.max, IntKind.signed, IntKind.bits]; omega
 simp [Program.keyLits, Tryz.underlying3, hw]
theorem lits_tokT (x : Tr.Tok) (h : tokIn x) : Tryz.prog.keyLits 3 50 (tokC x) = some [Lit.int .i64 x.t, Lit.int .i64 x.a, Lit.int .i64 x.b] := by
 have h1 := lits_intT x.t h.1
 have h2 := lits_intT x.a h.2.1
 have h3 := lits_intT x.b h.2.2
 unfold Program.keyLits
 simp [Tryz.underlying50, cTokT, cIntT, tokC, h1, h2, h3]
theorem eq_toksT (x y : Tr.Tok) (hx : tokIn x) (hy : tokIn y) : ∀ w, (Op.equalIn 10000 50 (.agg (tokC x).toArray) (.agg (tokC y).toArray)).run Tryz.prog w = .ok (decide (x = y)) w := by
 intro w
 have h := run_equalIn_deep (P := Tryz.prog) 9997 3 50 (by kernel_rfl)
 obtain ⟨r, hr, hiff⟩ := h w 3 3 (.agg (tokC x).toArray) (.agg (tokC y).toArray) _ _ (by kernel_rfl) (by kernel_rfl) (lits_tokT x hx) (lits_tokT y hy)
 have : r = decide (x = y) := by
  rw [Bool.eq_iff_iff, hiff, decide_eq_true_iff]
  obtain ⟨a, b, c⟩ := x
  obtain ⟨a', b', c'⟩ := y
  simp
 rw [← this]; exact hr
theorem neq_toksT (x y : Tr.Tok) (hx : tokIn x) (hy : tokIn y) (w : World) : (binOp .neq 50 (.agg #[.int .i64 x.t, .int .i64 x.a, .int .i64 x.b]) (.agg #[.int .i64 y.t, .int .i64 y.a, .int .i64 y.b])).run Tryz.prog w = .ok (.bool (!decide (x = y))) w := by
 have h := eq_toksT x y hx hy w
 unfold tokC at h
 simp only [binOp]
 simp [Op.equal, Op.maxDepth, h]
set_option maxHeartbeats 4000000 in
theorem toks_any (A1 A2 : Option Addr) (n1 n2 c1 c2 : Nat) (l1 l2 : List Tr.Tok) (w : World) (hn1 : l1.length = n1) (hn2 : l2.length = n2) (h1 : Lie w 50 A1 (toksC l1)) (h2 : Lie w 50 A2 (toksC l2)) (hN : n1 ≤ 1000000000) (hs1 : ∀ x ∈ l1, tokIn x) (hs2 : ∀ x ∈ l2, tokIn x) :
    Calls Tryz.prog 28 #[.slice A1 n1 c1, .slice A2 n2 c2] w fun e w' => e = .returned (.bool (decide (l1 = l2))) ∧ Below w.heap.size w w' := by
  have H1 := Lib.hid h1
  have H2 := Lib.hid h2
  have HS1 := Lib.hid hs1
  have HS2 := Lib.hid hs2
  have HN1 := Lib.hid hn1
  have HN2 := Lib.hid hn2
  obtain ⟨Q, hQ⟩ : ∃ Q : Bool, decide (l1 = l2) = Q := ⟨_, rfl⟩
  rw [hQ]
  have HQ := Lib.hid hQ
  clear h1 h2 hn1 hn2 hQ hs1 hs2
  by_cases hnn : n1 = n2
  case neg =>
    have hne : ((n1 : Int) == (n2 : Int)) = false := by simp; omega
    have hq : Q = false := by rw [← HQ.out]; exact decide_eq_false (fun h => hnn (by rw [← HN1.out, ← HN2.out, h]))
    subst hq
    clear hnn
    go_enter Tryz.func28, Tryz.ntmps28
    go_wp2_with fail
    go_ret
    exact ⟨rfl, Below.refl _ _⟩
  case pos =>
  subst hnn
  go_enter Tryz.func28, Tryz.ntmps28
  go_wp2_with fail
  go_loopw [5] (fun i wr => ∃ j : Nat, j ≤ n1 ∧ i = .int .i64 (j : Int) ∧ l1.take j = l2.take j ∧ ∃ q, wr = w.drewN q) (fun i _ => n1 - (intOf i).toNat)
  case atStart => exact ⟨0, by omega, rfl, rfl, 0, rfl⟩
  case round =>
    obtain ⟨j, hj, rfl, he, q, rfl⟩ := hrel
    have HE := Lib.hid he
    clear he
    by_cases hlt : j < n1
    · obtain ⟨⟨x0, x1, x2⟩, hx⟩ : ∃ x, l1[j]? = some x := ⟨_, List.getElem?_eq_getElem (by rw [HN1.out]; exact hlt)⟩
      obtain ⟨⟨y0, y1, y2⟩, hy⟩ : ∃ y, l2[j]? = some y := ⟨_, List.getElem?_eq_getElem (by rw [HN2.out]; exact hlt)⟩
      obtain ⟨b1, o1, _, rfl, hat1, hc1⟩ := H1.out.ex (by intro e; have := toksC_at hx (r := 0) (by omega); rw [e] at this; simp [tokC] at this)
      obtain ⟨b2, o2, _, rfl, hat2, hc2⟩ := H2.out.ex (by intro e; have := toksC_at hy (r := 0) (by omega); rw [e] at this; simp [tokC] at this)
      have hbl1 := hat1.lt
      have hbl2 := hat2.lt
      have p0 := (hat1.cell _).trans (hc1 _ _ (toksC_at hx (r := 0) (by omega)))
      have p1 := (hat1.cell _).trans (hc1 _ _ (toksC_at hx (r := 1) (by omega)))
      have p2 := (hat1.cell _).trans (hc1 _ _ (toksC_at hx (r := 2) (by omega)))
      have s0 := (hat2.cell _).trans (hc2 _ _ (toksC_at hy (r := 0) (by omega)))
      have s1 := (hat2.cell _).trans (hc2 _ _ (toksC_at hy (r := 1) (by omega)))
      have s2 := (hat2.cell _).trans (hc2 _ _ (toksC_at hy (r := 2) (by omega)))
      simp only [Nat.add_zero, tokC, List.getElem?_cons_zero, List.getElem?_cons_succ] at p0 p1 p2 s0 s1 s2
      rw [← Nat.add_assoc] at p1 p2 s1 s2
      have hji : (j : Int) < (n1 : Int) := by omega
      have hj0 : (0 : Int) ≤ (j : Int) := by omega
      have HXX := Lib.hid (take_snocT hx)
      have HYY := Lib.hid (take_snocT hy)
      have HX := Lib.hid hx
      have HY := Lib.hid hy
      have hnq := neq_toksT ⟨x0, x1, x2⟩ ⟨y0, y1, y2⟩ (HS1.out _ (List.mem_of_getElem? hx)) (HS2.out _ (List.mem_of_getElem? hy))
      dsimp only at hnq
      clear hx hy hc1 hc2 hat1 hat2
      by_cases hee : (⟨x0, x1, x2⟩ : Tr.Tok) = ⟨y0, y1, y2⟩
      · rw [decide_eq_true hee] at hnq
        have HE2 := Lib.hid hee
        clear hee
        go_wp2_with fail
        go_quiet (fail)
        go_wp2_with fail
        go_roundw
        case rel => exact ⟨j + 1, by omega, by go_num, by rw [HXX.out, HYY.out, HE.out, HE2.out], _, rfl⟩
        case measure => simp [intOf]; omega
      · rw [decide_eq_false hee] at hnq
        have hq : Q = false := by
          rw [← HQ.out]
          refine decide_eq_false fun h => hee ?_
          have h1 := HX.out
          rw [h, HY.out] at h1
          injection h1 with h1
          exact h1.symm
        subst hq
        clear hee
        go_wp2_with fail
        go_quiet (fail)
        go_wp2_with fail
        go_ret
        exact ⟨rfl, by rw [World.drewN_drewN]; exact below_drewN (Below.refl _ _) _⟩
    · obtain rfl : n1 = j := by omega
      rw [List.take_of_length_le (by rw [HN1.out]; exact Nat.le_refl _), List.take_of_length_le (by rw [HN2.out]; exact Nat.le_refl _)] at HE
      have hq : Q = true := by rw [← HQ.out]; exact decide_eq_true HE.out
      subst hq
      go_wp2_with fail
      go_ret
      exact ⟨rfl, below_drewN (Below.refl _ _) _⟩
end Go.Proofs.YtdhhkancbgealaaGreat
end
section
namespace Go.Proofs.YtdhhkancbgealaaGreat
open Go.RowKit Go.Shelf
open Lx
set_option linter.unusedVariables false
set_option linter.unusedSimpArgs false
set_option maxRecDepth 100000
def ToksIn (L : List Tr.Nd) : Prop := ∀ i : Int, tokIn (Tr.at_ L i).tok
namespace Tr
theorem at_tok_mem {L : List Nd} {p : Tok → Prop} (h0 : p Tok.zero) (h : ∀ x ∈ L, p x.tok) (i : Int) : p (at_ L i).tok := by
 unfold at_
 split
 ·cases hh : L[i.toNat]? with
  | none => exact h0
  | some x => exact h x (List.mem_of_getElem? hh)
 ·exact h0
theorem mark_tok {L : List Nd} {p : Tok → Prop} (h : ∀ x ∈ L, p x.tok) (k : Int) : ∀ x ∈ mark L k, p x.tok := by
 unfold mark
 split
 ·intro x hx
  obtain ⟨j, hj⟩ := List.getElem?_of_mem hx
  rw [List.getElem?_modify] at hj
  obtain ⟨y, hy, rfl⟩ := Option.map_eq_some_iff.1 hj
  have := h y (List.mem_of_getElem? hy)
  split <;> exact this
 ·exact h
theorem marks_tok {p : Tok → Prop} : ∀ (ks : List Int) {L : List Nd}, (∀ x ∈ L, p x.tok) → ∀ x ∈ marks L ks, p x.tok
 | [], _, h => h
 | k :: ks, _, h => marks_tok ks (mark_tok h k)
theorem step_tok {L : List Nd} {p : Tok → Prop} (h0 : p Tok.zero) (h : ∀ x ∈ L, p x.tok) (l : Int) (o : Op) (ho : p o.x) : ∀ x ∈ step l L o, p x.tok := by
 unfold step
 split
 ·unfold leaf
  split
  ·exact h
  ·intro x hx
   rcases List.mem_append.1 hx with hx | hx
   ·exact h x hx
   ·simp at hx; subst hx; exact ho
 ·split
  ·unfold node
   split
   ·split
    ·exact h
    ·intro x hx
     rcases List.mem_append.1 hx with hx | hx
     ·exact marks_tok o.ks h x hx
     ·simp at hx; subst hx; exact h0
   ·exact h
  ·split
   ·intro x hx; cases hx
   ·exact h
theorem run_tok {p : Tok → Prop} (h0 : p Tok.zero) (P : Nm.Plan) (l : Int) : ∀ (os : List Op) (L : List Nd), (∀ x ∈ L, p x.tok) → (∀ o ∈ os, p o.x) → ∀ x ∈ run P l L os, p x.tok
 | [], L, h, _ => h
 | o :: os, L, h, ho => by
  refine run_tok h0 P l os (step l L (told P L o)) (step_tok h0 h l _ ?_) (fun q hq => ho q (by simp [hq]))
  unfold told
  split
  ·exact h0
  ·exact ho o (by simp)
end Tr
theorem tokIn_zero : tokIn Tr.Tok.zero := ⟨⟨by decide, by decide⟩, ⟨by decide, by decide⟩, ⟨by decide, by decide⟩⟩
theorem toks_run {P : Nm.Plan} {l : Int} {os : List Tr.Op} (h : ∀ o ∈ os, opIn o) : ToksIn (Tr.run P l [] os) :=
 Tr.at_tok_mem tokIn_zero (Tr.run_tok (p := tokIn) tokIn_zero P l os [] (fun x hx => by cases hx) (fun o ho => ⟨(h o ho).2.2.2.1, (h o ho).2.2.2.2.1, (h o ho).2.2.2.2.2.1⟩))
theorem yield_in {L : List Tr.Nd} (h : ToksIn L) (i : Int) : ∀ x ∈ Tr.yield L i, tokIn x := fun x hx => by
 obtain ⟨k, _, hk⟩ := List.mem_flatMap.1 hx
 unfold Tr.tokOf at hk
 split at hk
 ·simp at hk; subst hk; exact h k
 ·cases hk
structure TellY (w : World) (tg : Nat) (L : List Tr.Nd) : Prop where
 yield : ∀ (i : Int) w', Below w.heap.size w w' → Calls Tryz.prog 29 #[.pointer (some ⟨tg, 0, none⟩), .int .i64 i] w' fun e w'' => ∃ A c, e = .returned (.slice A (Tr.yield L i).length c) ∧ w''.ownsRow w'.heap.size 50 3 (.slice A (Tr.yield L i).length c) (Tr.yield L i).length (toksC (Tr.yield L i)) ∧ Below w'.heap.size w' w''
 tok : ∀ (i : Int) w', Below w.heap.size w w' → Calls Tryz.prog 22 #[.pointer (some ⟨tg, 0, none⟩), .int .i64 i] w' fun e w'' => e = .returned (.agg #[.int .i64 (Tr.at_ L i).tok.t, .int .i64 (Tr.at_ L i).tok.a, .int .i64 (Tr.at_ L i).tok.b]) ∧ Below w'.heap.size w' w''
theorem Duo.tellY {w : World} {B tg g mb rt rm : Nat} {l : Int} {L M : List Tr.Nd} (h : Duo w B tg g mb rt rm l L M) (hg : Tr.Good L) (hl : L.length ≤ 40) : TellY w tg L := by
 obtain ⟨m, S, h1, rfl⟩ := h.tree
 exact ⟨fun i w' hb => tyield_any i w' B tg g mb l m S (h1.below hb) hg (by omega), fun i w' hb => ttok_any i w' B tg g mb l m S (h1.below hb)⟩
end Go.Proofs.YtdhhkancbgealaaGreat
end
section
namespace Go.Proofs.YtdhhkancbgealaaGreat
set_option linter.unusedVariables false
set_option linter.unusedSimpArgs false
namespace Tr
end Tr
end Go.Proofs.YtdhhkancbgealaaGreat
end
section
namespace Go.Proofs.YtdhhkancbgealaaGreat
open Go.RowKit Go.Shelf
open Lx
set_option linter.unusedVariables false
set_option linter.unusedSimpArgs false
set_option maxRecDepth 100000
structure TellR (w : World) (tg : Nat) (pv : Value) (P : Nm.Plan) (L : List Tr.Nd) : Prop where
 right : ∀ (i : Int) w', Below w.heap.size w w' → Calls Tryz.prog 31 #[.pointer (some ⟨tg, 0, none⟩), pv, .int .i64 i] w' fun e w'' => e = .returned (.bool (Tr.right P L i)) ∧ Below w'.heap.size w' w''
 sym : ∀ (i : Int) w', Below w.heap.size w w' → Calls Tryz.prog 20 #[.pointer (some ⟨tg, 0, none⟩), .int .i64 i] w' fun e w'' => e = .returned (.int .i64 (Tr.at_ L i).sym) ∧ Below w'.heap.size w' w''
 rule : ∀ (i : Int) w', Below w.heap.size w w' → Calls Tryz.prog 21 #[.pointer (some ⟨tg, 0, none⟩), .int .i64 i] w' fun e w'' => e = .returned (.int .i64 (Tr.at_ L i).rule) ∧ Below w'.heap.size w' w''
theorem Duo.tellR {w : World} {B tg g mb rt rm : Nat} {l : Int} {L M : List Tr.Nd} {pv : Value} {P : Nm.Plan} (h : Duo w B tg g mb rt rm l L M) (hp : PlanR w pv P) (hb : PlanB P) (hg : Tr.Good L) (hl : L.length ≤ 41) : TellR w tg pv P L := by
 obtain ⟨m, S, h1, rfl⟩ := h.tree
 have hbl := fun i => hg.bel_len i
 exact ⟨fun i w' hw => tright_any pv P i w' B tg g mb l m S (h1.below hw) (hp.below hw) hg.down (by have := hbl i; omega) hb.terms hb.rules, fun i w' hw => tsym_any i w' B tg g mb l m S (h1.below hw), fun i w' hw => trule_any i w' B tg g mb l m S (h1.below hw)⟩
end Go.Proofs.YtdhhkancbgealaaGreat
end
