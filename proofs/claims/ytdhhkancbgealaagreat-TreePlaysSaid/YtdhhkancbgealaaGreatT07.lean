import Derived.Test.YtdhhkancbgealaaGreatT06
import Derived.Test.YtdhhkancbgealaaGreatT05
import Derived.Shelf.Strings.OnBuilder
import Derived.Deep.RegionHeld3
section
namespace Go.Proofs.YtdhhkancbgealaaGreat
open Go.RowKit
open Lx
set_option linter.unusedVariables false
set_option linter.unusedSimpArgs false
set_option maxRecDepth 100000
set_option maxHeartbeats 16000000 in
theorem name8_any (v : Value) (T V : List Rd.Name) (i : Int) (B : Nat) (w : World) (h : SymC w B v T V) (hB : B ≤ w.heap.size) (hT : T.length ≤ 1000000) (hV : V.length ≤ 1000000) :
    Calls Tryz.prog 58 #[v, .int .i64 i] w fun e w' => e = .returned (.string (str (Nm.nameAt T V i))) ∧ Below w.heap.size w w' := by
  have hsym := h
  obtain ⟨A1, c1, A2, c2, A3, n3, c3, A4, n4, c4, A5, n5, c5, A6, n6, c6, rfl, h1, h2⟩ := h.ex
  have hb := (Below.refl w.heap.size w).alloc (Nat.le_refl _) (.cells #[.slice A1 T.length c1, .slice A2 V.length c2, .slice A3 n3 c3, .slice A4 n4 c4, .slice A5 n5 c5, .slice A6 n6 c6] 34)
  have hat := At.new w 34 #[.slice A1 T.length c1, .slice A2 V.length c2, .slice A3 n3 c3, .slice A4 n4 c4, .slice A5 n5 c5, .slice A6 n6 c6]
  have HAC := Lib.hid (fun w' (hw' : Below w.heap.size w w') => accept_any _ T V B w' (hsym.below (hw'.mono hB)) hT hV)
  have HTE := Lib.hid (fun w' (hw' : Below w.heap.size w w') => term_any _ T V i B w' (hsym.below (hw'.mono hB)) hT)
  have HC1 := Lib.hid h1
  have HC2 := Lib.hid h2
  have HNE := Lib.hid (show Nm.nameAt T V i = if i < 0 ∨ (T.length : Int) + (V.length : Int) < i then [] else if i = (T.length : Int) + (V.length : Int) then Nm.accN else if i < (T.length : Int) then T.getD i.toNat [] else V.getD (i - (T.length : Int)).toNat [] from rfl)
  have HG1 := Lib.hid (fun k (hk : k < T.length) => getD_get hk)
  have HG2 := Lib.hid (fun k (hk : k < V.length) => getD_get hk)
  obtain ⟨R, hR⟩ : ∃ R, str (Nm.nameAt T V i) = R := ⟨_, rfl⟩
  have HR := Lib.hid hR
  rw [hR]
  generalize T.length = NT at HAC HTE hb hat hT HNE HG1 ⊢
  generalize V.length = NV at HAC HTE hb hat hV HNE HG2 ⊢
  have HB := Lib.hid hb
  have HAT := Lib.hid hat
  clear h h1 h2 hb hat hR hsym
  by_cases h0 : i < 0
  · have hr : R = ⟨#[]⟩ := by rw [← HR.out, HNE.out, if_pos (.inl h0)]; rfl
    subst hr
    go_enter Tryz.func58, Tryz.ntmps58
    go_wp2_with fail
    go_ret
    exact ⟨rfl, HB.out⟩
  · go_enter Tryz.func58, Tryz.ntmps58
    go_wp2_with fail
    refine (HAC.out _ HB.out).mono ?_
    rintro e w2 ⟨rfl, hb2⟩
    have hat2 := HAT.out.below hb2 HAT.out.lt
    have HAT2 := Lib.hid hat2
    have HB2 := Lib.hid (HB.out.trans (hb2.mono HB.out.size))
    have x0 := hat2.cell 0
    have x1 := hat2.cell 1
    have x2 := hat2.cell 2
    have x3 := hat2.cell 3
    have x4 := hat2.cell 4
    have x5 := hat2.cell 5
    simp only [List.getElem?_toArray, List.getElem?_cons_zero, List.getElem?_cons_succ] at x0 x1 x2 x3 x4 x5
    clear hb2 hat2
    by_cases hhi : (NT : Int) + (NV : Int) < i
    · have hr : R = ⟨#[]⟩ := by rw [← HR.out, HNE.out, if_pos (.inr hhi)]; rfl
      subst hr
      clear x0 x1 x2 x3 x4 x5
      go_wp2_with fail
      go_ret
      exact ⟨rfl, HB2.out⟩
    · have HNO := Lib.hid (show ¬ (i < 0 ∨ (NT : Int) + (NV : Int) < i) by omega)
      go_wp2_with fail
      refine (HAC.out _ HB2.out).mono ?_
      rintro e w3 ⟨rfl, hb3⟩
      have hat3 := HAT2.out.below hb3 HAT2.out.lt
      have HAT3 := Lib.hid hat3
      have HB3 := Lib.hid (HB2.out.trans (hb3.mono HB2.out.size))
      have y0 := hat3.cell 0
      have y1 := hat3.cell 1
      have y2 := hat3.cell 2
      have y3 := hat3.cell 3
      have y4 := hat3.cell 4
      have y5 := hat3.cell 5
      simp only [List.getElem?_toArray, List.getElem?_cons_zero, List.getElem?_cons_succ] at y0 y1 y2 y3 y4 y5
      clear hb3 hat3 x0 x1 x2 x3 x4 x5
      by_cases hac : i = (NT : Int) + (NV : Int)
      · have HRR := Lib.hid (show R = str Nm.accN by rw [← HR.out, HNE.out, if_neg HNO.out, if_pos hac])
        have e1 : (i == (NT : Int) + (NV : Int)) = true := beq_iff_eq.2 hac
        clear hac y0 y1 y2 y3 y4 y5
        go_wp2_with fail
        go_ret
        exact ⟨by rw [HRR.out]; rfl, HB3.out⟩
      · have e1 : (i == (NT : Int) + (NV : Int)) = false := beq_eq_false_iff_ne.2 hac
        have HAN := Lib.hid hac
        clear hac
        go_wp2_with fail
        clear e1
        by_cases ht : i < (NT : Int)
        · have hd : decide (0 ≤ i ∧ i < (NT : Int)) = true := decide_eq_true ⟨by omega, ht⟩
          rw [hd] at HTE
          refine (HTE.out _ HB3.out).mono ?_
          rintro e w4 ⟨rfl, hb4⟩
          have hat4 := HAT3.out.below hb4 HAT3.out.lt
          have HB4 := Lib.hid (HB3.out.trans (hb4.mono HB3.out.size))
          have z0 := hat4.cell 0
          simp only [List.getElem?_toArray, List.getElem?_cons_zero] at z0
          obtain ⟨k, hk⟩ : ∃ k : Nat, i = (k : Int) := ⟨i.toNat, by omega⟩
          have hg := HG1.out k (by omega)
          obtain ⟨X, hX⟩ : ∃ X, T.getD k [] = X := ⟨_, rfl⟩
          rw [hX] at hg
          obtain ⟨b, o, rfl, hbb, z9⟩ := cl_get (HC1.out.below (HB4.out.mono hB)) hg
          have HRR := Lib.hid (show R = str X by rw [← HR.out, HNE.out, if_neg HNO.out, if_neg HAN.out, if_pos ht, hk, Int.toNat_natCast, hX])
          have hk0 : (0 : Int) ≤ (k : Int) := by omega
          generalize str X = XX at z9 HRR
          subst hk
          clear hb4 hat4 y0 y1 y2 y3 y4 y5 hg hX hd hhi h0
          go_wp2_with fail
          go_ret
          exact ⟨by rw [HRR.out]; rfl, HB4.out⟩
        · have hd : decide (0 ≤ i ∧ i < (NT : Int)) = false := decide_eq_false (fun h => ht h.2)
          rw [hd] at HTE
          refine (HTE.out _ HB3.out).mono ?_
          rintro e w4 ⟨rfl, hb4⟩
          have hat4 := HAT3.out.below hb4 HAT3.out.lt
          have HB4 := Lib.hid (HB3.out.trans (hb4.mono HB3.out.size))
          have z0 := hat4.cell 0
          have z1 := hat4.cell 1
          simp only [List.getElem?_toArray, List.getElem?_cons_zero, List.getElem?_cons_succ] at z0 z1
          obtain ⟨k, hk⟩ : ∃ k : Nat, i - (NT : Int) = (k : Int) := ⟨(i - (NT : Int)).toNat, by omega⟩
          have hg := HG2.out k (by have := HAN.out; omega)
          obtain ⟨X, hX⟩ : ∃ X, V.getD k [] = X := ⟨_, rfl⟩
          rw [hX] at hg
          obtain ⟨b, o, rfl, hbb, z9⟩ := cl_get (HC2.out.below (HB4.out.mono hB)) hg
          have HRR := Lib.hid (show R = str X by rw [← HR.out, HNE.out, if_neg HNO.out, if_neg HAN.out, if_neg ht, hk, Int.toNat_natCast, hX])
          have hk0 : (0 : Int) ≤ (k : Int) := by omega
          have hk1 : (k : Int) < (NV : Int) := by have := HAN.out; omega
          have hw : wrap64 (i - (NT : Int)) = (k : Int) := by rw [hk]; unfold wrap64; omega
          generalize str X = XX at z9 HRR
          clear hb4 hat4 y0 y1 y2 y3 y4 y5 hg hX hd hhi h0 ht
          go_wp2_with fail
          go_ret
          exact ⟨by rw [HRR.out]; rfl, HB4.out⟩
end Go.Proofs.YtdhhkancbgealaaGreat
end
section
namespace Go.Proofs.YtdhhkancbgealaaGreat
open Go.RowKit
open Lx
set_option linter.unusedVariables false
set_option linter.unusedSimpArgs false
set_option maxRecDepth 100000
end Go.Proofs.YtdhhkancbgealaaGreat
namespace Go.Proofs.YtdhhkancbgealaaGreat
open Go.RowKit
open Lx
set_option linter.unusedVariables false
set_option linter.unusedSimpArgs false
set_option maxRecDepth 100000
theorem own_built (w : World) (cs : List Value) (e : TypeId) (h : cs.length ≤ maxLen) : (w.alloc (.cells cs.toArray e)).ownsRow w.heap.size e 1 (.slice (some ⟨w.heap.size, 0, none⟩) cs.length cs.length) cs.length cs :=
  ⟨(Nat.mul_one _).symm, .inr ⟨w.heap.size, cs.length, cs.toArray, rfl, Nat.le_refl _, At.new w e cs.toArray, Nat.le_refl _, h, by simp, by simp⟩⟩
end Go.Proofs.YtdhhkancbgealaaGreat
end
section
namespace Go.Proofs.YtdhhkancbgealaaGreat
open Go.RowKit
open Lx
set_option linter.unusedVariables false
set_option linter.unusedSimpArgs false
set_option maxRecDepth 100000
def vals (l : List Int) : List Value := l.map (.int .i64 ·)
theorem vals_length (l : List Int) : (vals l).length = l.length := by simp [vals]
theorem vals_append (l m : List Int) : vals (l ++ m) = vals l ++ vals m := by simp [vals]
theorem vals_get {l : List Int} {k : Nat} {x : Int} (h : l[k]? = some x) : (vals l)[k]? = some (.int .i64 x) := by simp [vals, h]
def IntC (w : World) (B : Nat) (v : Value) (l : List Int) : Prop := ∃ A cap, v = .slice A l.length cap ∧ Cl w B A (vals l)
theorem IntC.below {w w' : World} {B : Nat} {v : Value} {l : List Int} (h : IntC w B v l) (hb : Below B w w') : IntC w' B v l := by
  obtain ⟨A, cap, h1, h2⟩ := h; exact ⟨A, cap, h1, h2.below hb⟩
theorem IntC.mono {w : World} {B B' : Nat} {v : Value} {l : List Int} (h : IntC w B v l) (hB : B ≤ B') : IntC w B' v l := by
  obtain ⟨A, cap, h1, h2⟩ := h; exact ⟨A, cap, h1, h2.mono hB⟩
def prodC (p : Nm.Prod × Value) : List Value := [.int .i64 p.1.left, p.2, .int .i64 p.1.level]
def prodsV (l : List (Nm.Prod × Value)) : List Value := l.flatMap prodC
theorem prodsV_append (l m : List (Nm.Prod × Value)) : prodsV (l ++ m) = prodsV l ++ prodsV m := by unfold prodsV; rw [List.flatMap_append]
theorem prodsV_length (l : List (Nm.Prod × Value)) : (prodsV l).length = l.length * 3 := by
  unfold prodsV
  induction l with
  | nil => rfl
  | cons a r ih => rw [List.flatMap_cons, List.length_append, ih, List.length_cons]; simp only [prodC, List.length_cons, List.length_nil]; omega
structure ProdsC (w : World) (B : Nat) (A : Option Addr) (L : List Nm.Prod) : Prop where
  ex : ∃ pl, Cl w B A (prodsV pl) ∧ pl.map (·.1) = L ∧ ∀ p ∈ pl, IntC w B p.2 p.1.right
theorem ProdsC.below {w w' : World} {B : Nat} {A : Option Addr} {L : List Nm.Prod} (h : ProdsC w B A L) (hb : Below B w w') : ProdsC w' B A L := by
  obtain ⟨pl, h1, h2, h3⟩ := h.ex
  exact ⟨pl, h1.below hb, h2, fun p hp => (h3 p hp).below hb⟩
theorem ProdsC.mono {w : World} {B B' : Nat} {A : Option Addr} {L : List Nm.Prod} (h : ProdsC w B A L) (hB : B ≤ B') : ProdsC w B' A L := by
  obtain ⟨pl, h1, h2, h3⟩ := h.ex
  exact ⟨pl, h1.mono hB, h2, fun p hp => (h3 p hp).mono hB⟩
theorem ProdsC.nil (w : World) (B : Nat) (A : Option Addr) : ProdsC w B A [] := ⟨[], Cl.nil _ _ _, rfl, fun p hp => by simp at hp⟩
theorem ProdsC.get {w : World} {B : Nat} {A : Option Addr} {L : List Nm.Prod} (h : ProdsC w B A L) {k : Nat} {x : Nm.Prod} (hk : L[k]? = some x) :
    ∃ b o A' c', A = some ⟨b, o, none⟩ ∧ b < B ∧ w.cell? ⟨b, o + k * 3, none⟩ = some (.int .i64 x.left) ∧ w.cell? ⟨b, o + k * 3 + 1, none⟩ = some (.slice A' x.right.length c') ∧ w.cell? ⟨b, o + k * 3 + 2, none⟩ = some (.int .i64 x.level) ∧ Cl w B A' (vals x.right) := by
  obtain ⟨pl, h1, h2, h3⟩ := h.ex
  have hk2 := hk
  rw [← h2, List.getElem?_map, Option.map_eq_some_iff] at hk2
  obtain ⟨p, hp, rfl⟩ := hk2
  obtain ⟨A', c', e, hc⟩ := h3 p (List.mem_of_getElem? hp)
  have hv := fun j u (hj : j < 3) (hu : (prodC p)[j]? = some u) => flat_get prodC 3 (fun _ => rfl) pl k j p u hp hj hu
  obtain ⟨b, o, rfl, hb, hcell⟩ := h1.ex (fun e => by
    have h : (prodsV pl)[k * 3 + 0]? = some (.int .i64 p.1.left) := hv 0 _ (by omega) rfl
    rw [e] at h; simp at h)
  refine ⟨b, o, A', c', rfl, hb, hcell _ _ (hv 0 _ (by omega) rfl), ?_, ?_, hc⟩
  · rw [Nat.add_assoc, ← e]
    exact hcell _ _ (hv 1 _ (by omega) rfl)
  · rw [Nat.add_assoc]
    exact hcell _ _ (hv 2 _ (by omega) rfl)
structure PlanC (w : World) (B : Nat) (v : Value) (P : Nm.Plan) : Prop where
  ex : ∃ A1 c1 A2 c2 A3 c3 A4 c4 A5 c5 A6 c6, v = .agg #[.slice A1 P.terms.length c1, .slice A2 P.vars.length c2, .slice A3 P.rules.length c3, .slice A4 P.levels.length c4, .slice A5 P.assocs.length c5, .slice A6 P.acts.length c6] ∧
    Cl w B A1 (namesV P.terms) ∧ Cl w B A2 (namesV P.vars) ∧ ProdsC w B A3 P.rules ∧ Cl w B A4 (vals P.levels) ∧ Cl w B A5 (vals P.assocs) ∧ Cl w B A6 (namesV P.acts)
theorem PlanC.below {w w' : World} {B : Nat} {v : Value} {P : Nm.Plan} (h : PlanC w B v P) (hb : Below B w w') : PlanC w' B v P := by
  obtain ⟨A1, c1, A2, c2, A3, c3, A4, c4, A5, c5, A6, c6, e, h1, h2, h3, h4, h5, h6⟩ := h.ex
  exact ⟨A1, c1, A2, c2, A3, c3, A4, c4, A5, c5, A6, c6, e, h1.below hb, h2.below hb, h3.below hb, h4.below hb, h5.below hb, h6.below hb⟩
theorem PlanC.mono {w : World} {B B' : Nat} {v : Value} {P : Nm.Plan} (h : PlanC w B v P) (hB : B ≤ B') : PlanC w B' v P := by
  obtain ⟨A1, c1, A2, c2, A3, c3, A4, c4, A5, c5, A6, c6, e, h1, h2, h3, h4, h5, h6⟩ := h.ex
  exact ⟨A1, c1, A2, c2, A3, c3, A4, c4, A5, c5, A6, c6, e, h1.mono hB, h2.mono hB, h3.mono hB, h4.mono hB, h5.mono hB, h6.mono hB⟩
theorem PlanC.sym {w : World} {B : Nat} {v : Value} {P : Nm.Plan} (h : PlanC w B v P) : SymC w B v P.terms P.vars := by
  obtain ⟨A1, c1, A2, c2, A3, c3, A4, c4, A5, c5, A6, c6, e, h1, h2, h3, h4, h5, h6⟩ := h.ex
  exact ⟨A1, c1, A2, c2, A3, _, c3, A4, _, c4, A5, _, c5, A6, _, c6, e, h1, h2⟩
theorem PlanC.empty (w : World) (B : Nat) : PlanC w B (.agg #[.slice none 0 0, .slice none 0 0, .slice none 0 0, .slice none 0 0, .slice none 0 0, .slice none 0 0]) Nm.empty :=
  ⟨none, 0, none, 0, none, 0, none, 0, none, 0, none, 0, rfl, Cl.nil _ _ _, Cl.nil _ _ _, ProdsC.nil _ _ _, Cl.nil _ _ _, Cl.nil _ _ _, Cl.nil _ _ _⟩
structure PSz (P : Nm.Plan) : Prop where
  t : P.terms.length ≤ 1000
  v : P.vars.length ≤ 1000
  r : P.rules.length ≤ 1000
  l : P.levels.length ≤ 1000
  a : P.assocs.length ≤ 1000
  c : P.acts.length ≤ 1000
  tn : ∀ n ∈ P.terms, n.length ≤ 32
  vn : ∀ n ∈ P.vars, n.length ≤ 32
  rr : ∀ x ∈ P.rules, x.right.length ≤ 1000
theorem PSz.empty : PSz Nm.empty := ⟨by decide, by decide, by decide, by decide, by decide, by decide, fun n hn => by simp [Nm.empty] at hn, fun n hn => by simp [Nm.empty] at hn, fun n hn => by simp [Nm.empty] at hn⟩
end Go.Proofs.YtdhhkancbgealaaGreat
end
section
namespace Go.Proofs.YtdhhkancbgealaaGreat
open Go.RowKit
open Lx
set_option linter.unusedVariables false
set_option linter.unusedSimpArgs false
set_option maxRecDepth 100000
theorem Tryz.sizePlan : (Tryz.prog.info? 34).map (·.size) = some 6 := by kernel_rfl
theorem At.six {w : World} {g : Nat} {t : TypeId} {a b c d e f : Value} (h : At w g t #[a, b, c, d, e, f]) (a' b' c' d' e' f' : Value) :
    At ((((((w.setCell ⟨g, 0, none⟩ a').setCell ⟨g, 1, none⟩ b').setCell ⟨g, 2, none⟩ c').setCell ⟨g, 3, none⟩ d').setCell ⟨g, 4, none⟩ e').setCell ⟨g, 5, none⟩ f') g t #[a', b', c', d', e', f'] := by
  have := (((((h.set 0 a').set 1 b').set 2 c').set 3 d').set 4 e').set 5 f'
  simpa using this
theorem grown_six (w : World) (g : Nat) (a' b' c' d' e' f' : Value) : w.grownBy ((((((w.setCell ⟨g, 0, none⟩ a').setCell ⟨g, 1, none⟩ b').setCell ⟨g, 2, none⟩ c').setCell ⟨g, 3, none⟩ d').setCell ⟨g, 4, none⟩ e').setCell ⟨g, 5, none⟩ f') (some g) :=
  grown_set (grown_set (grown_set (grown_set (grown_set (grown_set (grown_refl _ _) _ _) _ _) _ _) _ _) _ _) _ _
theorem GramC.parts {w : World} {B : Nat} {v : Value} {G : Rd.G} (h : GramC w B v G) : ∃ A1 c1 A2 c2 A3 c3 A4 c4 ql, v = .agg #[.slice A1 G.toks.length c1, .slice A2 G.skips.length c2, .slice A3 G.levels.length c3, .string (str G.start), .slice A4 G.rules.length c4] ∧
    Cl w B A1 (toksV G.toks) ∧ LevsC w B A3 G.levels ∧ Cl w B A4 (rulesV ql) ∧ ql.map (·.1) = G.rules ∧ ∀ p ∈ ql, NmC w B p.2 p.1.right := by
  obtain ⟨A1, c1, A2, c2, A3, c3, A4, c4, pl, ql, h0, h1, h2, h3, h4, h5, h6, h7, h8⟩ := h.ex
  exact ⟨A1, c1, A2, c2, A3, c3, A4, c4, ql, h0, h1, ⟨pl, h3, h4, fun p hp => (h5 p hp).2⟩, h6, h7, h8⟩
structure RulsC (w : World) (B : Nat) (A : Option Addr) (L : List Rd.Rule) : Prop where
  ex : ∃ ql, Cl w B A (rulesV ql) ∧ ql.map (·.1) = L ∧ ∀ p ∈ ql, NmC w B p.2 p.1.right
theorem RulsC.below {w w' : World} {B : Nat} {A : Option Addr} {L : List Rd.Rule} (h : RulsC w B A L) (hb : Below B w w') : RulsC w' B A L := by
  obtain ⟨pl, h1, h2, h3⟩ := h.ex
  exact ⟨pl, h1.below hb, h2, fun p hp => (h3 p hp).below hb⟩
theorem RulsC.get {w : World} {B : Nat} {A : Option Addr} {L : List Rd.Rule} (h : RulsC w B A L) {k : Nat} {x : Rd.Rule} (hk : L[k]? = some x) :
    ∃ b o A' c', A = some ⟨b, o, none⟩ ∧ b < B ∧ w.cell? ⟨b, o + k * 4, none⟩ = some (.string (str x.left)) ∧ w.cell? ⟨b, o + k * 4 + 1, none⟩ = some (.slice A' x.right.length c') ∧ w.cell? ⟨b, o + k * 4 + 2, none⟩ = some (.string (str x.prec)) ∧ w.cell? ⟨b, o + k * 4 + 3, none⟩ = some (.string (str x.action)) ∧ Cl w B A' (namesV x.right) := by
  obtain ⟨pl, h1, h2, h3⟩ := h.ex
  have hk2 := hk
  rw [← h2, List.getElem?_map, Option.map_eq_some_iff] at hk2
  obtain ⟨p, hp, rfl⟩ := hk2
  obtain ⟨A', c', e, hc⟩ := h3 p (List.mem_of_getElem? hp)
  have hv := fun j u (hj : j < 4) (hu : (ruleCells p)[j]? = some u) => flat_get ruleCells 4 (fun _ => rfl) pl k j p u hp hj hu
  obtain ⟨b, o, rfl, hb, hcell⟩ := h1.ex (fun e => by
    have h : (rulesV pl)[k * 4 + 0]? = some (.string (str p.1.left)) := hv 0 _ (by omega) rfl
    rw [e] at h; simp at h)
  refine ⟨b, o, A', c', rfl, hb, hcell _ _ (hv 0 _ (by omega) rfl), ?_, ?_, ?_, hc⟩
  · rw [Nat.add_assoc, ← e]
    exact hcell _ _ (hv 1 _ (by omega) rfl)
  · rw [Nat.add_assoc]
    exact hcell _ _ (hv 2 _ (by omega) rfl)
  · rw [Nat.add_assoc]
    exact hcell _ _ (hv 3 _ (by omega) rfl)
theorem tok_get {w : World} {B : Nat} {A : Option Addr} {L : List Rd.Tok} (h : Cl w B A (toksV L)) {k : Nat} {x : Rd.Tok} (hk : L[k]? = some x) :
    ∃ b o, A = some ⟨b, o, none⟩ ∧ b < B ∧ w.cell? ⟨b, o + k * 4, none⟩ = some (.string (str x.name)) ∧ w.cell? ⟨b, o + k * 4 + 1, none⟩ = some (.string (str x.pat.text)) ∧ w.cell? ⟨b, o + k * 4 + 2, none⟩ = some (.string (str x.pat.set)) ∧ w.cell? ⟨b, o + k * 4 + 3, none⟩ = some (.bool x.pat.many) := by
  have hv := fun j u (hj : j < 4) (hu : x.cells[j]? = some u) => flat_get Rd.Tok.cells 4 (fun _ => rfl) L k j x u hk hj hu
  obtain ⟨b, o, rfl, hb, hcell⟩ := h.ex (fun e => by
    have h : (toksV L)[k * 4 + 0]? = some (.string (str x.name)) := hv 0 _ (by omega) rfl
    rw [e] at h; simp at h)
  exact ⟨b, o, rfl, hb, hcell _ _ (hv 0 _ (by omega) rfl), by rw [Nat.add_assoc]; exact hcell _ _ (hv 1 _ (by omega) rfl), by rw [Nat.add_assoc]; exact hcell _ _ (hv 2 _ (by omega) rfl), by rw [Nat.add_assoc]; exact hcell _ _ (hv 3 _ (by omega) rfl)⟩
end Go.Proofs.YtdhhkancbgealaaGreat
end
section
namespace Go.Proofs.YtdhhkancbgealaaGreat
namespace Nm
open Rd (Name Pat Tok Lev Rule G)
set_option linter.unusedVariables false
set_option linter.unusedSimpArgs false
theorem end_not {n : Name} (h : Pr.nameOk n = true) : n ≠ endN := by
  obtain ⟨_, c, t, rfl, hc, _⟩ := Pr.nameOk_ex h
  intro e
  unfold endN at e
  injection e with e1 _
  subst e1
  revert hc; decide
section
variable {g : G}
theorem tok_ok (h : Pr.Right g) : ∀ t ∈ g.toks, Pr.nameOk t.name = true := fun t ht => by
  have := h.toks t ht
  unfold Pr.tokOk at this
  simp only [Bool.and_eq_true] at this
  exact this.1
theorem rule_ok (h : Pr.Right g) : ∀ r ∈ g.rules, Pr.nameOk r.left = true ∧ r.right.length ≤ 8 ∧ (∀ n ∈ r.right, Pr.nameOk n = true) ∧ (r.prec = [] ∨ Pr.nameOk r.prec = true) ∧ Pr.actOk r.action = true := fun r hr => by
  have := h.each r hr
  unfold Pr.ruleOk at this
  simpa only [Bool.and_eq_true, Bool.or_eq_true, decide_eq_true_eq, beq_iff_eq, List.all_eq_true] using this
theorem lev_ok (h : Pr.Right g) : ∀ v ∈ g.levels, 1 ≤ v.assoc ∧ v.assoc ≤ 3 ∧ v.names ≠ [] ∧ ∀ n ∈ v.names, Pr.nameOk n = true := fun v hv => by
  have := h.levels v hv
  unfold Pr.levOk at this
  simp only [Bool.and_eq_true, decide_eq_true_eq, bne_iff_ne, List.all_eq_true] at this
  exact ⟨this.1.1, this.1.2, this.2.1, this.2.2⟩
theorem left_mem {r : Rule} (hr : r ∈ g.rules) : r.left ∈ vars g := by
  unfold vars; rw [varsOf_mem]; exact List.mem_map.2 ⟨r, hr, rfl⟩
theorem level_end (h : Pr.Right g) : level g endN = 0 := by
  unfold level
  rw [find_none]
  · rfl
  · intro v hv
    unfold hasN
    rw [decide_eq_false_iff_not]
    intro hn
    exact end_not ((lev_ok h v hv).2.2.2 _ hn) rfl
structure Fine (g : G) : Prop where
  right : Pr.Right g
  apart : ∀ t ∈ g.toks, t.name ∉ vars g
  rules : ∀ r ∈ g.rules, (∀ n ∈ r.right, 0 ≤ symG g n) ∧ (r.prec = [] ∨ level g r.prec ≠ 0)
  start : g.start ∈ vars g
end
section
variable {T V : List Name}
end
section
variable {g : G}
end
end Nm
end Go.Proofs.YtdhhkancbgealaaGreat
end
section
namespace Go.Proofs.YtdhhkancbgealaaGreat
open Go.RowKit
open Lx
set_option linter.unusedVariables false
set_option linter.unusedSimpArgs false
set_option maxRecDepth 100000
theorem infoInts : (Tryz.prog.info? 3).map (fun i => (i.zero, i.size, i.bytes)) = some (some (.int .i64 0), 1, 8) := by kernel_rfl
structure LevsA (w : World) (B : Nat) (A : Option Addr) (L : List Rd.Lev) : Prop where
  ex : ∃ pl, Cl w B A (levsC pl) ∧ pl.map (·.1) = L ∧ (∀ p ∈ pl, NmC w B p.2.1 p.1.names) ∧ ∀ p ∈ pl, p.2.2 = (p.1.assoc : Int)
theorem LevsA.below {w w' : World} {B : Nat} {A : Option Addr} {L : List Rd.Lev} (h : LevsA w B A L) (hb : Below B w w') : LevsA w' B A L := by
  obtain ⟨pl, h1, h2, h3, h4⟩ := h.ex
  exact ⟨pl, h1.below hb, h2, fun p hp => (h3 p hp).below hb, h4⟩
theorem LevsA.get {w : World} {B : Nat} {A : Option Addr} {L : List Rd.Lev} (h : LevsA w B A L) {k : Nat} {v : Rd.Lev} (hk : L[k]? = some v) :
    ∃ b o A' c', A = some ⟨b, o, none⟩ ∧ b < B ∧ w.cell? ⟨b, o + k * 2, none⟩ = some (.int .i64 (v.assoc : Int)) ∧ w.cell? ⟨b, o + k * 2 + 1, none⟩ = some (.slice A' v.names.length c') ∧ Cl w B A' (namesV v.names) := by
  obtain ⟨pl, h1, h2, h3, h5⟩ := h.ex
  have hk2 := hk
  rw [← h2, List.getElem?_map, Option.map_eq_some_iff] at hk2
  obtain ⟨p, hp, rfl⟩ := hk2
  obtain ⟨A', c', e, hc⟩ := h3 p (List.mem_of_getElem? hp)
  have hv := fun j u (hj : j < 2) (hu : (levC p)[j]? = some u) => flat_get levC 2 (fun _ => rfl) pl k j p u hp hj hu
  obtain ⟨b, o, rfl, hb, hcell⟩ := h1.ex (fun e => by
    have h : (levsC pl)[k * 2 + 0]? = some (.int .i64 p.2.2) := hv 0 _ (by omega) rfl
    rw [e] at h; simp at h)
  refine ⟨b, o, A', c', rfl, hb, ?_, ?_, hc⟩
  · rw [← h5 p (List.mem_of_getElem? hp)]
    exact hcell _ _ (hv 0 _ (by omega) rfl)
  · rw [Nat.add_assoc, ← e]
    exact hcell _ _ (hv 1 _ (by omega) rfl)
theorem GramC.levsA {w : World} {B : Nat} {v : Value} {G : Rd.G} (h : GramC w B v G) (ha : ∀ x ∈ G.levels, 1 ≤ x.assoc) : ∃ A1 n1 c1 A2 n2 c2 A3 c3 st A4 n4 c4, v = .agg #[.slice A1 n1 c1, .slice A2 n2 c2, .slice A3 G.levels.length c3, .string st, .slice A4 n4 c4] ∧ LevsA w B A3 G.levels := by
  obtain ⟨A1, c1, A2, c2, A3, c3, A4, c4, pl, ql, h0, h1, h2, h3, h4, h5, h6, h7, h8⟩ := h.ex
  refine ⟨_, _, _, _, _, _, A3, c3, _, _, _, _, h0, pl, h3, h4, fun p hp => (h5 p hp).2, fun p hp => ?_⟩
  have h9 := ha p.1 (by rw [← h4]; exact List.mem_map.2 ⟨p, hp, rfl⟩)
  rw [(h5 p hp).1] at h9
  rw [(h5 p hp).1]
  exact encA_of h9
end Go.Proofs.YtdhhkancbgealaaGreat
end
