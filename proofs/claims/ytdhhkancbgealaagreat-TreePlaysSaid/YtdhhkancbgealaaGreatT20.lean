import Derived.Test.YtdhhkancbgealaaGreatT14
import Derived.Test.YtdhhkancbgealaaGreatT19
import Derived.Deep.RegionWith
import Derived.Deep.DeepCutAuto
import Derived.Deep.Cut
import Derived.Deep.CutRange
import Derived.Test.YtdhhkancbgealaaGreatT00
import Derived.Deep.Fields
section
namespace Go.Proofs.YtdhhkancbgealaaGreat
open Go.RowKit
open Lx
set_option linter.unusedVariables false
set_option linter.unusedSimpArgs false
set_option maxRecDepth 100000
namespace Tr
def fits (P : Nm.Plan) (L : List Nd) (x : Nd) : Bool :=
 if x.leaf = true then decide (0 < x.sym ∧ x.sym < (P.terms.length : Int))
 else if x.rule < 1 ∨ (P.rules.length : Int) ≤ x.rule then false
 else match P.rules[x.rule.toNat]? with
  | none => false
  | some r => decide (x.sym = r.left) && decide (x.kids.map (fun k => (at_ L k).sym) = r.right)
def right (P : Nm.Plan) (L : List Nd) (i : Int) : Bool := has L i && (Bel L i).all (fun k => fits P L (at_ L k))
end Tr
structure PlanR (w : World) (v : Value) (P : Nm.Plan) : Prop where
 ex : ∃ A1 c1 A2 c2 A3 c3 A4 c4 A5 c5 A6 c6, v = .agg #[.slice A1 P.terms.length c1, .slice A2 P.vars.length c2, .slice A3 P.rules.length c3, .slice A4 P.levels.length c4, .slice A5 P.assocs.length c5, .slice A6 P.acts.length c6] ∧
  Lie w 9 A1 (namesV P.terms) ∧ Lie w 9 A2 (namesV P.vars) ∧ (∃ pl, Lie w 72 A3 (prodsV pl) ∧ pl.map (·.1) = P.rules ∧ ∀ p ∈ pl, IntL w p.2 p.1.right)
theorem PlanL.planR {w : World} {v : Value} {P : Nm.Plan} (h : PlanL w v P) : PlanR w v P := by
 obtain ⟨A1, c1, A2, c2, A3, c3, A4, c4, A5, c5, A6, c6, e, h1, h2, h3, _⟩ := h.ex
 exact ⟨A1, c1, A2, c2, A3, c3, A4, c4, A5, c5, A6, c6, e, h1, h2, h3⟩
theorem PlanR.stay {w w' : World} {v : Value} {P : Nm.Plan} (h : PlanR w v P) (h1 : Stay 9 w w') (h2 : Stay 72 w w') (h3 : Stay 3 w w') : PlanR w' v P := by
 obtain ⟨A1, c1, A2, c2, A3, c3, A4, c4, A5, c5, A6, c6, e, q1, q2, ⟨pl, q3, q4, q5⟩⟩ := h.ex
 exact ⟨A1, c1, A2, c2, A3, c3, A4, c4, A5, c5, A6, c6, e, q1.stay h1, q2.stay h1, ⟨pl, q3.stay h2, q4, fun p hp => (q5 p hp).stay h3⟩⟩
theorem PlanR.below {w w' : World} {v : Value} {P : Nm.Plan} (h : PlanR w v P) (hb : Below w.heap.size w w') : PlanR w' v P := h.stay (Stay.below hb) (Stay.below hb) (Stay.below hb)
theorem PlanR.spares {w w' : World} {v : Value} {P : Nm.Plan} {ts : List TypeId} (h : PlanR w v P) (hs : Spares ts w w') (h1 : 9 ∉ ts) (h2 : 72 ∉ ts) (h3 : 3 ∉ ts) : PlanR w' v P := h.stay (stay_spares hs h1) (stay_spares hs h2) (stay_spares hs h3)
theorem PlanR.sym {w : World} {v : Value} {P : Nm.Plan} (h : PlanR w v P) : SymC w w.heap.size v P.terms P.vars := by
 obtain ⟨A1, c1, A2, c2, A3, c3, A4, c4, A5, c5, A6, c6, e, q1, q2, _⟩ := h.ex
 exact ⟨A1, c1, A2, c2, A3, P.rules.length, c3, A4, P.levels.length, c4, A5, P.assocs.length, c5, A6, P.acts.length, c6, e, q1.cl, q2.cl⟩
theorem map_take_succ {α β : Type} {l : List α} {j : Nat} {x : α} (f : α → β) (h : l[j]? = some x) : (l.take (j + 1)).map f = (l.take j).map f ++ [f x] := by
 rw [List.take_add_one, h]; simp
theorem take_snocT {α : Type} {l : List α} {j : Nat} {x : α} (h : l[j]? = some x) : l.take (j + 1) = l.take j ++ [x] := by rw [List.take_add_one, h]; rfl
set_option maxHeartbeats 4000000 in
theorem equalFunc_any (fe : FuncId) (ce : Array Value) (f : Int → Int) (A1 A2 : Option Addr) (n1 n2 c1 c2 : Nat) (l1 l2 : List Int) (w : World) (hn1 : l1.length = n1) (hn2 : l2.length = n2) (h1 : Lie w 3 A1 (vals l1)) (h2 : Lie w 3 A2 (vals l2)) (hN : n1 ≤ 1000000000)
  (hent : ∀ args w, (callFunc fe args).run Tryz.prog w = .ok (.enter fe args) w)
  (hf : ∀ a b W, Below w.heap.size w W → Calls Tryz.prog fe (#[.int .i64 a, .int .i64 b] ++ ce) W fun e W' => e = .returned (.bool (decide (f a = b))) ∧ Below W.heap.size W W') :
  Calls Tryz.prog 77 #[.slice A1 n1 c1, .slice A2 n2 c2, .func (.func fe) #[] ce] w fun e w' => e = .returned (.bool (decide (l1.map f = l2))) ∧ Below w.heap.size w w' := by
 have H1 := Lib.hid h1
 have H2 := Lib.hid h2
 have HN1 := Lib.hid hn1
 have HN2 := Lib.hid hn2
 have HF := Lib.hid hf
 obtain ⟨Q, hQ⟩ : ∃ Q : Bool, decide (l1.map f = l2) = Q := ⟨_, rfl⟩
 rw [hQ]
 have HQ := Lib.hid hQ
 clear h1 h2 hn1 hn2 hf hQ
 by_cases hne : n1 = n2
 ·subst hne
  go_enter Tryz.func77, Tryz.ntmps77
  go_wp2_with fail
  go_loopw [17] (fun i wr => ∃ j : Nat, j ≤ n1 ∧ i = .int .i64 (j : Int) ∧ (l1.take j).map f = l2.take j ∧ Below w.heap.size w wr) (fun i _ => n1 - (intOf i).toNat)
  case atStart => exact ⟨0, by omega, rfl, by simp, Below.refl _ _⟩
  case round =>
   obtain ⟨j, hj, rfl, he, hb⟩ := hrel
   have HE := Lib.hid he
   have HB := Lib.hid hb
   clear he hb
   by_cases hlt : j < n1
   ·obtain ⟨x, hx⟩ : ∃ x, l1[j]? = some x := ⟨_, List.getElem?_eq_getElem (by rw [HN1.out]; exact hlt)⟩
    obtain ⟨y, hy⟩ : ∃ y, l2[j]? = some y := ⟨_, List.getElem?_eq_getElem (by rw [HN2.out]; exact hlt)⟩
    obtain ⟨b1, o1, rfl, hbl1, e1⟩ := lieW_at (H1.out.below HB.out) hx
    obtain ⟨b2, o2, rfl, hbl2, e2⟩ := lieW_at (H2.out.below HB.out) hy
    have HX := Lib.hid hx
    have HY := Lib.hid hy
    have hji : (j : Int) < (n1 : Int) := by omega
    have hj0 : (0 : Int) ≤ (j : Int) := by omega
    have HC := Lib.hid (HF.out x y wr HB.out)
    clear hx hy
    by_cases hxy : f x = y
    ·have hd : decide (f x = y) = true := decide_eq_true hxy
     rw [hd] at HC
     have HXY := Lib.hid hxy
     clear hxy hd
     go_wp2_with fail
     refine HC.out.mono ?_
     rintro e w1 ⟨rfl, hb1⟩
     have HB1 := Lib.hid (HB.out.trans (hb1.mono HB.out.size))
     clear hb1
     go_wp2_with fail
     go_roundw
     case rel => exact ⟨j + 1, by omega, by go_num, by rw [map_take_succ f HX.out, take_snocT HY.out, HE.out, HXY.out], HB1.out⟩
     case measure => simp [intOf]; omega
    ·have hd : decide (f x = y) = false := decide_eq_false hxy
     rw [hd] at HC
     have hq : Q = false := by
      rw [← HQ.out]
      refine decide_eq_false fun e => hxy ?_
      have h5 : (l1.map f)[j]? = l2[j]? := by rw [e]
      rw [List.getElem?_map, HX.out, HY.out] at h5
      simpa using h5
     subst hq
     clear hxy hd
     go_wp2_with fail
     refine HC.out.mono ?_
     rintro e w1 ⟨rfl, hb1⟩
     have HB1 := Lib.hid (HB.out.trans (hb1.mono HB.out.size))
     clear hb1
     go_wp2_with fail
     go_ret
     exact ⟨rfl, HB1.out⟩
   ·obtain rfl : j = n1 := by omega
    have hq : Q = true := by
     rw [← HQ.out]
     have h5 := HE.out
     rw [List.take_of_length_le (by rw [HN1.out]; exact Nat.le_refl _), List.take_of_length_le (by rw [HN2.out]; exact Nat.le_refl _)] at h5
     exact decide_eq_true h5
    subst hq
    clear hlt
    go_wp2_with fail
    go_ret
    exact ⟨rfl, HB.out⟩
 ·have hq : Q = false := by
   rw [← HQ.out]
   refine decide_eq_false fun e => hne ?_
   rw [← HN1.out, ← HN2.out, ← e, List.length_map]
  subst hq
  have hne2 : ¬ (n1 : Int) = (n2 : Int) := by omega
  clear hne
  go_enter Tryz.func77, Tryz.ntmps77
  go_wp2_with fail
  go_ret
  exact ⟨rfl, Below.refl _ _⟩
set_option maxHeartbeats 1600000 in
theorem fits1_any (a b : Int) (bt : Nat) (w : World) (B tg g mb : Nat) (l m : Int) (S : List Sl) (h : TreeIs w B tg g mb l m S) (hA : At w bt 38 #[.pointer (some ⟨tg, 0, none⟩)]) :
  Calls Tryz.prog 76 #[.int .i64 a, .int .i64 b, .pointer (some ⟨bt, 0, none⟩)] w fun e w' => e = .returned (.bool (decide ((Tr.at_ (nds S) a).sym = b))) ∧ Below w.heap.size w w' := by
 have HC := Lib.hid (tsym_any a w B tg g mb l m S h)
 have c0 := hA.cell 0
 simp at c0
 obtain ⟨X, hX⟩ : ∃ X, (Tr.at_ (nds S) a).sym = X := ⟨_, rfl⟩
 rw [hX] at HC ⊢
 clear h hA hX
 go_enter Tryz.func76, Tryz.ntmps76
 go_wp2_with fail
 refine HC.out.mono ?_
 rintro e w1 ⟨rfl, hb⟩
 by_cases hx : X = b
 ·subst hx
  go_wp2_with fail
  go_ret
  exact ⟨by simp, hb⟩
 ·have hx2 : (X == b) = false := by simpa using hx
  go_wp2_with fail
  go_ret
  exact ⟨by simp [hx], hb⟩
theorem prods_at {w : World} {A : Option Addr} {pl : List (Nm.Prod × Value)} {k : Nat} {p : Nm.Prod × Value} (h : Lie w 72 A (prodsV pl)) (hk : pl[k]? = some p) :
  ∃ b o, A = some ⟨b, o, none⟩ ∧ b < w.heap.size ∧ w.cell? ⟨b, o + k * 3, none⟩ = some (.int .i64 p.1.left) ∧ w.cell? ⟨b, o + k * 3 + 1, none⟩ = some p.2 ∧ w.cell? ⟨b, o + k * 3 + 2, none⟩ = some (.int .i64 p.1.level) := by
 have hf : ∀ q : Nm.Prod × Value, (prodC q).length = 3 := fun _ => rfl
 have e0 := flatN_at prodC 3 hf pl k 0 p hk (by decide)
 have e1 := flatN_at prodC 3 hf pl k 1 p hk (by decide)
 have e2 := flatN_at prodC 3 hf pl k 2 p hk (by decide)
 obtain ⟨b, o, e, hlt, hc⟩ := h.cell (by intro e; unfold prodsV at e; rw [e] at e0; simp [prodC] at e0)
 have y0 := hc _ _ e0
 have y1 := hc _ _ e1
 have y2 := hc _ _ e2
 simp only [Nat.add_zero] at y0
 rw [← Nat.add_assoc] at y1 y2
 exact ⟨b, o, e, hlt, y0, y1, y2⟩
set_option maxHeartbeats 8000000 in
theorem tfits_any (pv : Value) (P : Nm.Plan) (x : Tr.Nd) (A : Option Addr) (c : Nat) (w : World) (B tg g mb : Nat) (l m : Int) (S : List Sl) (h : TreeIs w B tg g mb l m S) (hp : PlanR w pv P) (hk : Lie w 3 A (vals x.kids)) (hn : x.kids.length ≤ 1000000) (hT : P.terms.length ≤ 1000000) (hR : P.rules.length ≤ 1000000) :
  Calls Tryz.prog 54 #[.pointer (some ⟨tg, 0, none⟩), pv, .agg #[.bool x.leaf, .bool x.under, .int .i64 x.rule, .int .i64 x.sym, .int .i64 x.tok.t, .int .i64 x.tok.a, .int .i64 x.tok.b, .slice A x.kids.length c]] w fun e w' => e = .returned (.bool (Tr.fits P (nds S) x)) ∧ Below w.heap.size w w' := by
 obtain ⟨P1, c1, P2, c2, P3, c3, P4, c4, P5, c5, P6, c6, rfl, q1, q2, ⟨pl, q3, q4, q5⟩⟩ := hp.ex
 obtain ⟨W, hW⟩ : ∃ W, ((w.alloc (.cells #[.pointer (some ⟨tg, 0, none⟩)] 38)).alloc (.cells #[.slice P1 P.terms.length c1, .slice P2 P.vars.length c2, .slice P3 P.rules.length c3, .slice P4 P.levels.length c4, .slice P5 P.assocs.length c5, .slice P6 P.acts.length c6] 34)).alloc (.cells #[.bool x.leaf, .bool x.under, .int .i64 x.rule, .int .i64 x.sym, .int .i64 x.tok.t, .int .i64 x.tok.a, .int .i64 x.tok.b, .slice A x.kids.length c] 91) = W := ⟨_, rfl⟩
 have a1 := ((At.new w 38 #[.pointer (some ⟨tg, 0, none⟩)]).alloc (.cells #[.slice P1 P.terms.length c1, .slice P2 P.vars.length c2, .slice P3 P.rules.length c3, .slice P4 P.levels.length c4, .slice P5 P.assocs.length c5, .slice P6 P.acts.length c6] 34)).alloc (.cells #[.bool x.leaf, .bool x.under, .int .i64 x.rule, .int .i64 x.sym, .int .i64 x.tok.t, .int .i64 x.tok.a, .int .i64 x.tok.b, .slice A x.kids.length c] 91)
 have a2 := (At.new (w.alloc (.cells #[.pointer (some ⟨tg, 0, none⟩)] 38)) 34 #[.slice P1 P.terms.length c1, .slice P2 P.vars.length c2, .slice P3 P.rules.length c3, .slice P4 P.levels.length c4, .slice P5 P.assocs.length c5, .slice P6 P.acts.length c6]).alloc (.cells #[.bool x.leaf, .bool x.under, .int .i64 x.rule, .int .i64 x.sym, .int .i64 x.tok.t, .int .i64 x.tok.a, .int .i64 x.tok.b, .slice A x.kids.length c] 91)
 have a3 := At.new ((w.alloc (.cells #[.pointer (some ⟨tg, 0, none⟩)] 38)).alloc (.cells #[.slice P1 P.terms.length c1, .slice P2 P.vars.length c2, .slice P3 P.rules.length c3, .slice P4 P.levels.length c4, .slice P5 P.assocs.length c5, .slice P6 P.acts.length c6] 34)) 91 #[.bool x.leaf, .bool x.under, .int .i64 x.rule, .int .i64 x.sym, .int .i64 x.tok.t, .int .i64 x.tok.a, .int .i64 x.tok.b, .slice A x.kids.length c]
 have hb : Below w.heap.size w W := by
  rw [← hW]
  exact (((Below.refl w.heap.size w).alloc (Nat.le_refl _) _).alloc (by simp) _).alloc (by simp; omega) _
 rw [hW] at a1 a2
 rw [hW] at a3
 simp only [World.size_alloc] at a2 a3
 have hs := hb.size
 have hTW := h.below hb
 have hPW := hp.below hb
 have hkW := hk.below hb
 have n0 := a3.cell 0
 have n2 := a3.cell 2
 have n3 := a3.cell 3
 have n5 := a3.cell 7
 have p0 := a2.cell 0
 have p1 := a2.cell 1
 have p2 := a2.cell 2
 have p3 := a2.cell 3
 have p4 := a2.cell 4
 have p5 := a2.cell 5
 simp only [List.getElem?_toArray, List.getElem?_cons_zero, List.getElem?_cons_succ] at n0 n2 n3 n5 p0 p1 p2 p3 p4 p5
 have hsym := hPW.sym
 have HW := Lib.hid hW
 have HBW := Lib.hid hb
 have HA1 := Lib.hid a1
 obtain ⟨ANS, hANS⟩ : ∃ b, Tr.fits P (nds S) x = b := ⟨_, rfl⟩
 rw [hANS]
 have HANS := Lib.hid hANS
 cases hlf : x.leaf with
 | true =>
  have hterm := term_any _ P.terms P.vars x.sym W.heap.size W hsym hT
  have hans : ANS = decide (0 < x.sym ∧ x.sym < (P.terms.length : Int)) := by rw [← hANS]; unfold Tr.fits; rw [if_pos hlf]
  rw [hlf] at n0 HW
  obtain ⟨KN, hKN⟩ : ∃ n, x.kids.length = n := ⟨_, rfl⟩
  rw [hKN] at n5 HW ⊢
  obtain ⟨TN, hTN⟩ : ∃ n, P.terms.length = n := ⟨_, rfl⟩
  rw [hTN] at hterm hans p0 HW ⊢
  generalize P.vars.length = VN at hterm p1 HW ⊢
  generalize P.rules.length = RN at hterm p2 HW ⊢
  generalize P.levels.length = LN at hterm p3 HW ⊢
  generalize P.assocs.length = ON at hterm p4 HW ⊢
  generalize P.acts.length = CN at hterm p5 HW ⊢
  have HTM := Lib.hid hterm
  have HA := Lib.hid hans
  clear h hp hk hTW hPW hkW hsym q1 q2 q3 q4 q5 a1 a2 a3 hb hW hANS hlf hterm hans hKN hTN hn hT hR
  go_enter Tryz.func54, Tryz.ntmps54
  by_cases hs0 : 0 < x.sym
  ·have hd : decide (0 ≤ x.sym ∧ x.sym < (TN : Int)) = decide (0 < x.sym ∧ x.sym < (TN : Int)) := by
    by_cases h2 : x.sym < (TN : Int)
    ·rw [decide_eq_true (show _ from ⟨by omega, h2⟩), decide_eq_true (show _ from ⟨hs0, h2⟩)]
    ·rw [decide_eq_false (fun h => h2 h.2), decide_eq_false (fun h => h2 h.2)]
   rw [hd, ← HA.out] at HTM
   clear hd
   go_wp2_with fail
   rw [HW.out]
   refine HTM.out.mono ?_
   rintro e w1 ⟨rfl, hb1⟩
   have HB1 := Lib.hid (HBW.out.trans (hb1.mono HBW.out.size))
   clear hb1
   go_wp2_with fail
   go_ret
   exact ⟨rfl, HB1.out⟩
  ·have ha : ANS = false := by rw [HA.out]; exact decide_eq_false (fun h => hs0 h.1)
   subst ha
   go_wp2_with fail
   go_ret
   exact ⟨rfl, by rw [HW.out]; exact HBW.out⟩
 | false =>
  rw [hlf] at n0 HW
  obtain ⟨RN, hRN⟩ : ∃ n, P.rules.length = n := ⟨_, rfl⟩
  have HRN := Lib.hid hRN
  by_cases h1 : x.rule < 1
  ·have ha : ANS = false := by rw [← hANS]; unfold Tr.fits; rw [hlf]; simp [h1]
   subst ha
   rw [hRN] at HW p2 ⊢
   generalize x.kids.length = KN at n5 HW ⊢
   generalize P.terms.length = TN at p0 HW ⊢
   generalize P.vars.length = VN at p1 HW ⊢
   generalize P.levels.length = LN at p3 HW ⊢
   generalize P.assocs.length = ON at p4 HW ⊢
   generalize P.acts.length = CN at p5 HW ⊢
   clear h hp hk hTW hPW hkW hsym q1 q2 q3 q4 q5 a1 a2 a3 hb hW hANS hlf hRN hn hT hR
   go_enter Tryz.func54, Tryz.ntmps54
   go_wp2_with fail
   go_ret
   exact ⟨rfl, by rw [HW.out]; exact HBW.out⟩
  ·by_cases h2 : (RN : Int) ≤ x.rule
   ·have ha : ANS = false := by rw [← hANS]; unfold Tr.fits; rw [hlf, hRN]; simp [h2]
    subst ha
    rw [hRN] at HW p2 ⊢
    generalize x.kids.length = KN at n5 HW ⊢
    generalize P.terms.length = TN at p0 HW ⊢
    generalize P.vars.length = VN at p1 HW ⊢
    generalize P.levels.length = LN at p3 HW ⊢
    generalize P.assocs.length = ON at p4 HW ⊢
    generalize P.acts.length = CN at p5 HW ⊢
    clear h hp hk hTW hPW hkW hsym q1 q2 q3 q4 q5 a1 a2 a3 hb hW hANS hlf hRN hn hT hR
    go_enter Tryz.func54, Tryz.ntmps54
    go_wp2_with fail
    go_ret
    exact ⟨rfl, by rw [HW.out]; exact HBW.out⟩
   ·obtain ⟨k, hkr⟩ : ∃ k : Nat, x.rule = (k : Int) := ⟨x.rule.toNat, by omega⟩
    have hkRN : k < RN := by omega
    have hplk : ∀ k, k < RN → k < pl.length := fun k hk => by
     have : pl.length = P.rules.length := by rw [← q4, List.length_map]
     omega
    obtain ⟨p, hpl⟩ : ∃ p, pl[k]? = some p := ⟨_, List.getElem?_eq_getElem (hplk k hkRN)⟩
    have hpr : P.rules[k]? = some p.1 := by rw [← q4, List.getElem?_map, hpl]; rfl
    obtain ⟨pi, pw⟩ := p
    obtain ⟨RA, rc, hpw, hRA⟩ := q5 _ (List.mem_of_getElem? hpl)
    dsimp only at hpw hRA hpr
    subst hpw
    obtain ⟨b, o, rfl, hbl, y0, y1, y2⟩ := prods_at (q3.below hb) hpl
    dsimp only at y0 y1 y2
    have hans : ANS = (decide (x.sym = pi.left) && decide (x.kids.map (fun k => (Tr.at_ (nds S) k).sym) = pi.right)) := by
     rw [← hANS]; unfold Tr.fits; rw [hlf, hRN, hkr]
     simp only [Int.toNat_natCast, hpr]
     rw [if_neg (by simp), if_neg (by omega)]
    have HEQ := Lib.hid (fun W' (hb' : Below W.heap.size W W') => equalFunc_any 76 #[.pointer (some ⟨w.heap.size, 0, none⟩)] (fun k => (Tr.at_ (nds S) k).sym) A RA x.kids.length pi.right.length c rc x.kids pi.right W' rfl rfl (hkW.below hb') ((hRA.below hb).below hb') (by omega)
     (enters_of Tryz.func76 (by kernel_rfl) rfl)
     (fun a b W'' hb'' => fits1_any a b w.heap.size W'' B tg g mb l m S ((hTW.below hb').below hb'') ((a1.below hb' a1.lt).below hb'' (a1.below hb' a1.lt).lt)))
    rw [hkr] at HW n2 ⊢
    rw [hRN] at HW p2 ⊢
    generalize x.kids.map (fun k => (Tr.at_ (nds S) k).sym) = KS at HEQ hans
    obtain ⟨KN, hKN⟩ : ∃ n, x.kids.length = n := ⟨_, rfl⟩
    rw [hKN] at n5 HW HEQ ⊢
    obtain ⟨QN, hQN⟩ : ∃ n, pi.right.length = n := ⟨_, rfl⟩
    rw [hQN] at y1 HEQ
    generalize P.terms.length = TN at p0 HW ⊢
    generalize P.vars.length = VN at p1 HW ⊢
    generalize P.levels.length = LN at p3 HW ⊢
    generalize P.assocs.length = ON at p4 HW ⊢
    generalize P.acts.length = CN at p5 HW ⊢
    have HA := Lib.hid hans
    have hk1 : ¬ (k : Int) < 1 := by omega
    have hki : (k : Int) < (RN : Int) := by omega
    have hk0 : (0 : Int) ≤ (k : Int) := by omega
    have hr1 := a1.cell 0
    simp only [List.getElem?_toArray, List.getElem?_cons_zero] at hr1
    have hal := a1.lt
    have ha2l := a2.lt
    have ha3l := a3.lt
    obtain ⟨PL, hPLL⟩ : ∃ z, pi.left = z := ⟨_, rfl⟩
    rw [hPLL] at y0 hans HA
    generalize pi.level = PV at y2
    have hb2 := (Below.refl W.heap.size W).alloc (Nat.le_refl _) (.cells #[.int .i64 PL, .slice RA QN rc, .int .i64 PV] 72)
    have HB2 := Lib.hid hb2
    have HEQ2 := Lib.hid (HEQ.out _ hb2)
    clear h hp hk hTW hPW hkW hsym q1 q2 q3 q4 q5 a1 a2 a3 hb hW hANS hlf hRN hn hT hR h1 h2 hkr hpl hpr hRA hkRN hans hKN hQN hPLL hb2 HEQ hplk
    go_enter Tryz.func54, Tryz.ntmps54
    go_upto_region 1 with (fail)
    rw [HW.out]
    by_cases hsl : x.sym = PL
    ·have hse : (x.sym == PL) = true := by simpa using hsl
     have ha : ANS = decide (KS = pi.right) := by rw [HA.out, decide_eq_true hsl]; rfl
     rw [← ha] at HEQ2
     have HAN := Lib.hid ha
     clear ha hsl
     go_wp2_with fail
     refine HEQ2.out.mono ?_
     rintro e w1 ⟨rfl, hb1⟩
     have HB1 := Lib.hid (HBW.out.trans ((HB2.out.trans (hb1.mono HB2.out.size)).mono HBW.out.size))
     clear hb1
     go_wp2_with fail
     go_ret
     exact ⟨rfl, HB1.out⟩
    ·have hse : (x.sym == PL) = false := by simpa using hsl
     have ha : ANS = false := by rw [HA.out, decide_eq_false hsl]; rfl
     subst ha
     clear hsl
     go_wp2_with fail
     go_ret
     exact ⟨rfl, HBW.out.trans (HB2.out.mono HBW.out.size)⟩
end Go.Proofs.YtdhhkancbgealaaGreat
end
section
namespace Go.Proofs.YtdhhkancbgealaaGreat
open Go.RowKit Go.ChangeShapes Go.WideShapes Go.ChangeAt
section
variable {H : Type} {enc : TypeId × Value → H} {P : Program} {W : World} {base : Nat} {v : Value} {d : DataW H} {p : List MemPlace}
structure Ops3 (w : World) (B : Nat) (A : Option Addr) (n : Nat) (X Y Z : Nat → Int) : Prop where
  each : ∀ i, i < n → ∃ b o, A = some ⟨b, o, none⟩ ∧ b < B ∧ w.cell? ⟨b, o + i * 3, none⟩ = some (.int .i64 (X i)) ∧ w.cell? ⟨b, o + i * 3 + 1, none⟩ = some (.int .i64 (Y i)) ∧ w.cell? ⟨b, o + i * 3 + 2, none⟩ = some (.int .i64 (Z i))
  rx : ∀ i, i < n → -9223372036854775808 ≤ X i ∧ X i ≤ 9223372036854775807
  ry : ∀ i, i < n → -9223372036854775808 ≤ Y i ∧ Y i ≤ 9223372036854775807
  rz : ∀ i, i < n → -9223372036854775808 ≤ Z i ∧ Z i ≤ 9223372036854775807
  len : n ≤ 9223372036854775807
theorem Ops3.below {w w' : World} {B : Nat} {A : Option Addr} {n : Nat} {X Y Z : Nat → Int} (h : Ops3 w B A n X Y Z) (hb : Below B w w') : Ops3 w' B A n X Y Z :=
  ⟨fun i hi => by
    obtain ⟨b, o, h1, h2, h3, h4, h5⟩ := h.each i hi
    exact ⟨b, o, h1, h2, (hb.cell (p := ⟨b, _, none⟩) h2).trans h3, (hb.cell (p := ⟨b, _, none⟩) h2).trans h4, (hb.cell (p := ⟨b, _, none⟩) h2).trans h5⟩, h.rx, h.ry, h.rz, h.len⟩
theorem int_field {k : Nat} {t : TypeId} {u : Value} {y : DataW H × List MemPlace} (ht : P.underlying t = some (.int .i64)) (h : DataW.trod enc P W 0 (fun _ => true) true k t [u] = some y) :
    ∃ x : Int, u = .int .i64 x ∧ -9223372036854775808 ≤ x ∧ x ≤ 9223372036854775807 := by
  obtain ⟨x, e, _, hw⟩ := DataW.trod_int ht h
  simp at e
  exact ⟨x, e, by simpa [Lit.wf, IntKind.min, IntKind.max, IntKind.signed, IntKind.bits] using hw⟩
structure Ones (w : World) (B : Nat) (A : Option Addr) (n : Nat) (V : Nat → Value) : Prop where
  each : ∀ i, i < n → ∃ b o, A = some ⟨b, o, none⟩ ∧ b < B ∧ w.cell? ⟨b, o + i, none⟩ = some (V i)
  len : n ≤ 9223372036854775807
theorem Ones.below {w w' : World} {B : Nat} {A : Option Addr} {n : Nat} {V : Nat → Value} (h : Ones w B A n V) (hb : Below B w w') : Ones w' B A n V :=
  ⟨fun i hi => by
    obtain ⟨b, o, h1, h2, h3⟩ := h.each i hi
    exact ⟨b, o, h1, h2, (hb.cell (p := ⟨b, _, none⟩) h2).trans h3⟩, h.len⟩
structure Strs (w : World) (B : Nat) (A : Option Addr) (n : Nat) (S : Nat → ByteArray) : Prop where
  ones : Ones w B A n (fun i => .string (S i))
  size : ∀ i, i < n → (S i).size ≤ 9223372036854775807
theorem Strs.below {w w' : World} {B : Nat} {A : Option Addr} {n : Nat} {S : Nat → ByteArray} (h : Strs w B A n S) (hb : Below B w w') : Strs w' B A n S := ⟨h.ones.below hb, h.size⟩
def Bools (w : World) (B : Nat) (A : Option Addr) (n : Nat) (S : Nat → Bool) : Prop := Ones w B A n (fun i => .bool (S i))
end
end Go.Proofs.YtdhhkancbgealaaGreat
end
