import Derived.Test.YtdhhkancbgealaaGreatT16
import Derived.Test.YtdhhkancbgealaaGreatT17
import Derived.Test.YtdhhkancbgealaaGreatT18
import Derived.Deep.RegionLaw
import Derived.Deep.DeepCutAuto
import Derived.Deep.Cut
import Derived.Deep.CutRange
import Derived.BigQuiet
import Derived.Deep.QuietTactic
namespace Go.Proofs.YtdhhkancbgealaaGreat
open Go.RowKit
open Lx
set_option linter.unusedVariables false
set_option linter.unusedSimpArgs false
set_option maxRecDepth 100000
structure PlanL (w : World) (v : Value) (P : Nm.Plan) : Prop where
  ex : ∃ A1 c1 A2 c2 A3 c3 A4 c4 A5 c5 A6 c6, v = .agg #[.slice A1 P.terms.length c1, .slice A2 P.vars.length c2, .slice A3 P.rules.length c3, .slice A4 P.levels.length c4, .slice A5 P.assocs.length c5, .slice A6 P.acts.length c6] ∧
    Lie w 9 A1 (namesV P.terms) ∧ Lie w 9 A2 (namesV P.vars) ∧ (∃ pl, Lie w 72 A3 (prodsV pl) ∧ pl.map (·.1) = P.rules ∧ ∀ p ∈ pl, IntL w p.2 p.1.right) ∧ Lie w 3 A4 (vals P.levels) ∧ Lie w 3 A5 (vals P.assocs) ∧ Lie w 9 A6 (namesV P.acts)
theorem PlanL.stay {w w' : World} {v : Value} {P : Nm.Plan} (h : PlanL w v P) (hs : ∀ t, t ≠ 34 → Stay t w w') : PlanL w' v P := by
  obtain ⟨A1, c1, A2, c2, A3, c3, A4, c4, A5, c5, A6, c6, e, h1, h2, ⟨pl, h3, h4, h5⟩, h6, h7, h8⟩ := h.ex
  exact ⟨A1, c1, A2, c2, A3, c3, A4, c4, A5, c5, A6, c6, e, h1.stay (hs _ (by decide)), h2.stay (hs _ (by decide)), ⟨pl, h3.stay (hs _ (by decide)), h4, fun p hp => (h5 p hp).stay (hs _ (by decide))⟩, h6.stay (hs _ (by decide)), h7.stay (hs _ (by decide)), h8.stay (hs _ (by decide))⟩
theorem PlanL.below {w w' : World} {v : Value} {P : Nm.Plan} (h : PlanL w v P) (hb : Below w.heap.size w w') : PlanL w' v P := h.stay fun t _ => Stay.below hb
theorem PlanL.planC {w : World} {v : Value} {P : Nm.Plan} (h : PlanL w v P) : PlanC w w.heap.size v P := by
  obtain ⟨A1, c1, A2, c2, A3, c3, A4, c4, A5, c5, A6, c6, e, h1, h2, ⟨pl, h3, h4, h5⟩, h6, h7, h8⟩ := h.ex
  exact ⟨A1, c1, A2, c2, A3, c3, A4, c4, A5, c5, A6, c6, e, h1.cl, h2.cl, ⟨pl, h3.cl, h4, fun p hp => (h5 p hp).intC⟩, h6.cl, h7.cl, h8.cl⟩
theorem PlanL.empty (w : World) : PlanL w (.agg #[.slice none 0 0, .slice none 0 0, .slice none 0 0, .slice none 0 0, .slice none 0 0, .slice none 0 0]) Nm.empty :=
  ⟨none, 0, none, 0, none, 0, none, 0, none, 0, none, 0, rfl, Lie.nil _ _ _, Lie.nil _ _ _, ⟨[], Lie.nil _ _ _, rfl, fun p hp => absurd hp (by simp)⟩, Lie.nil _ _ _, Lie.nil _ _ _, Lie.nil _ _ _⟩
structure OfR (G : Rd.G) (w : World) (e : Ending) (w' : World) : Prop where
  ex : ∃ pv, e = .returned (.tuple #[pv, .int .i64 ((Nm.ofG G).2.1 : Int), .string (str (Nm.ofG G).2.2)]) ∧ PlanL w' pv (Nm.ofG G).1
  below : Below w.heap.size w w'
theorem own_one9 (w : World) (u : Value) (e : TypeId) : (w.alloc (.cells #[u] e)).ownsRow w.heap.size e 1 (.slice (some ⟨w.heap.size, 0, none⟩) 1 1) 1 [u] := own_built w [u] e (by unfold maxLen; simp)
theorem own_nil9 (w : World) (B : Nat) (e : TypeId) (size : Nat) : w.ownsRow B e size (.slice none 0 0) 0 [] := ⟨by simp, .inl ⟨rfl, rfl⟩⟩
def PlanCs (g : Nat) : Array Value := #[.slice (some ⟨g, 0, none⟩) 1 1, .slice none 0 0, .slice none 0 0, .slice (some ⟨g + 1, 0, none⟩) 1 1, .slice (some ⟨g + 1 + 1, 0, none⟩) 1 1, .slice (some ⟨g + 1 + 1 + 1, 0, none⟩) 1 1]
theorem Pk.start (w : World) : Pk w.heap.size w (w.heap.size + 1 + 1 + 1 + 1) (.slice (some ⟨w.heap.size, 0, none⟩) 1 1) 1 [Nm.endN] (.slice none 0 0) 0 [] (.slice none 0 0) 0 [] (.slice (some ⟨w.heap.size + 1, 0, none⟩) 1 1) 1 [0] (.slice (some ⟨w.heap.size + 1 + 1, 0, none⟩) 1 1) 1 [0] (.slice (some ⟨w.heap.size + 1 + 1 + 1, 0, none⟩) 1 1) 1 [[]]
    (((((w.alloc (.cells #[.string ⟨#[36, 101, 110, 100]⟩] 9)).alloc (.cells #[.int .i64 0] 3)).alloc (.cells #[.int .i64 0] 3)).alloc (.cells #[.string ⟨#[]⟩] 9)).alloc (.cells (PlanCs w.heap.size) 34)) := by
  obtain ⟨w1, h1⟩ : ∃ W, w.alloc (.cells #[.string ⟨#[36, 101, 110, 100]⟩] 9) = W := ⟨_, rfl⟩
  have o1 := own_one9 w (.string ⟨#[36, 101, 110, 100]⟩) 9
  have s1 : w1.heap.size = w.heap.size + 1 := by rw [← h1, World.size_alloc]
  have b1 := (Below.refl w.heap.size w).alloc (Nat.le_refl _) (.cells #[.string ⟨#[36, 101, 110, 100]⟩] 9)
  rw [h1] at o1 b1 ⊢
  obtain ⟨w2, h2⟩ : ∃ W, w1.alloc (.cells #[.int .i64 0] 3) = W := ⟨_, rfl⟩
  have o2 := own_one9 w1 (.int .i64 0) 3
  have s2 : w2.heap.size = w.heap.size + 1 + 1 := by rw [← h2, World.size_alloc, s1]
  have b2 := b1.alloc b1.size (.cells #[.int .i64 0] 3)
  have o1 := o1.alloc (.cells #[.int .i64 0] 3)
  rw [h2] at o1 o2 b2 ⊢
  rw [s1] at o2
  obtain ⟨w3, h3⟩ : ∃ W, w2.alloc (.cells #[.int .i64 0] 3) = W := ⟨_, rfl⟩
  have o3 := own_one9 w2 (.int .i64 0) 3
  have s3 : w3.heap.size = w.heap.size + 1 + 1 + 1 := by rw [← h3, World.size_alloc, s2]
  have b3 := b2.alloc b2.size (.cells #[.int .i64 0] 3)
  have o1 := o1.alloc (.cells #[.int .i64 0] 3)
  have o2 := o2.alloc (.cells #[.int .i64 0] 3)
  rw [h3] at o1 o2 o3 b3 ⊢
  rw [s2] at o3
  obtain ⟨w4, h4⟩ : ∃ W, w3.alloc (.cells #[.string ⟨#[]⟩] 9) = W := ⟨_, rfl⟩
  have o4 := own_one9 w3 (.string ⟨#[]⟩) 9
  have s4 : w4.heap.size = w.heap.size + 1 + 1 + 1 + 1 := by rw [← h4, World.size_alloc, s3]
  have b4 := b3.alloc b3.size (.cells #[.string ⟨#[]⟩] 9)
  have o1 := o1.alloc (.cells #[.string ⟨#[]⟩] 9)
  have o2 := o2.alloc (.cells #[.string ⟨#[]⟩] 9)
  have o3 := o3.alloc (.cells #[.string ⟨#[]⟩] 9)
  rw [h4] at o1 o2 o3 o4 b4 ⊢
  rw [s3] at o4
  have at5 := At.new w4 34 (PlanCs w.heap.size)
  rw [s4] at at5
  refine ⟨at5, o1.alloc _, own_nil9 _ _ _ _, own_nil9 _ _ _ _, own_base (o2.alloc _) (Nat.le_succ _), own_base (o3.alloc _) (by omega), own_base (o4.alloc _) (by omega), ?_, ?_, ?_, ?_, fun p hp => absurd hp (by simp), by omega, b4.alloc b4.size _, Nat.le_refl _⟩
  · intro k _ h; cases h
  · intro k h1 h2
    injection h1 with h1; injection h2 with h2; dsimp only at h1 h2; omega
  · intro k h; cases h
  · intro k h1 h2
    injection h1 with h1; injection h2 with h2; dsimp only at h1 h2; omega
theorem take9 {α : Type} {l : List α} {k : Nat} {x : α} (h : l[k]? = some x) : l.take (k + 1) = l.take k ++ [x] := by rw [List.take_add_one, h]; rfl
theorem gramC_got {w : World} {B m1 f1 m2 f2 m3 f3 m4 f4 : Nat} {E1 E2 E3 E4 : Option Addr} {st : ByteArray} {G : Rd.G} (h : GramC w B (.agg #[.slice E1 m1 f1, .slice E2 m2 f2, .slice E3 m3 f3, .string st, .slice E4 m4 f4]) G) :
    Cl w B E1 (toksV G.toks) ∧ (∃ pl, Cl w B E3 (levsC pl) ∧ pl.map (·.1) = G.levels ∧ ∀ p ∈ pl, p.1.assoc = encA p.2.2) ∧ RulsC w B E4 G.rules := by
  obtain ⟨A1, c1, A2, c2, A3, c3, A4, c4, pl, ql, e, h1, h2, h3, h4, h5, h6, h7, h8⟩ := h.ex
  simp only [Value.agg.injEq, Array.mk.injEq, List.cons.injEq, Value.slice.injEq, Value.string.injEq] at e
  obtain ⟨⟨a1, e1, _⟩, ⟨_, e2, _⟩, ⟨a3, e3, _⟩, e4, ⟨e5, e6, _⟩, _⟩ := e
  subst e5 a1 a3
  exact ⟨h1, ⟨pl, h3, h4, fun p hp => (h5 p hp).1⟩, ⟨ql, h6, h7, h8⟩⟩
theorem gramC_levsA {w : World} {B m1 f1 m2 f2 m3 f3 m4 f4 : Nat} {E1 E2 E3 E4 : Option Addr} {st : ByteArray} {G : Rd.G} (h : GramC w B (.agg #[.slice E1 m1 f1, .slice E2 m2 f2, .slice E3 m3 f3, .string st, .slice E4 m4 f4]) G) (ha : ∀ x ∈ G.levels, 1 ≤ x.assoc) : LevsA w B E3 G.levels := by
  obtain ⟨A1, n1, c1, A2, n2, c2, A3, c3, st', A4, n4, c4, e, hl⟩ := h.levsA ha
  simp only [Value.agg.injEq, Array.mk.injEq, List.cons.injEq, Value.slice.injEq, Value.string.injEq] at e
  obtain ⟨_, _, ⟨rfl, _, _⟩, _⟩ := e
  exact hl
theorem gramC_st {w : World} {B m1 f1 m2 f2 m3 f3 m4 f4 : Nat} {E1 E2 E3 E4 : Option Addr} {st : ByteArray} {G : Rd.G} (h : GramC w B (.agg #[.slice E1 m1 f1, .slice E2 m2 f2, .slice E3 m3 f3, .string st, .slice E4 m4 f4]) G) : str G.start = st := by
  obtain ⟨A1, c1, A2, c2, A3, c3, A4, c4, pl, ql, e, _⟩ := h.ex
  simp only [Value.agg.injEq, Array.mk.injEq, List.cons.injEq, Value.slice.injEq, Value.string.injEq] at e
  exact e.2.2.2.1.symm
theorem Pk.first {B g nT nV nL nA nC : Nat} {w0 w : World} {v1 v2 v4 v5 v6 : Value} {T V C : List Rd.Name} {L A : List Int} (h : Pk B w0 g v1 nT T v2 nV V (.slice none 0 0) 0 [] v4 nL L v5 nA A v6 nC C w) (ac sg : Int) :
    Pk B w0 g v1 nT T v2 nV V (.slice (some ⟨w.heap.size + 1, 0, none⟩) 1 1) 1 [(⟨ac, [sg], 0⟩, .slice (some ⟨w.heap.size, 0, none⟩) 1 1)] v4 nL L v5 nA A v6 nC C
      (((w.setCell ⟨g, 2, none⟩ (.slice (some ⟨w.heap.size + 1, 0, none⟩) 1 1)).alloc (.cells #[.int .i64 sg] 3)).alloc (.cells #[.int .i64 ac, .slice (some ⟨w.heap.size, 0, none⟩) 1 1, .int .i64 0] 72)) := by
  have hl := h.at_.lt
  have h1 := h.alloc (.cells #[.int .i64 sg] 3)
  have h2 := own_built3 (w.alloc (.cells #[.int .i64 sg] 3)) (prodsV ([] ++ [(⟨ac, [sg], 0⟩, .slice (some ⟨w.heap.size, 0, none⟩) 1 1)])) 72 1 rfl (by unfold maxLen; omega)
  rw [World.size_alloc] at h2
  have h3 := h1.putR (x := ⟨ac, [sg], 0⟩) (u := .slice (some ⟨w.heap.size, 0, none⟩) 1 1) (own_base h2 (Nat.le_trans h.size (Nat.le_succ _))) (grown_alloc (grown_refl _ _) _) ?_
  · rw [World.setCell_alloc_past _ _ _ _ (by rw [World.size_alloc]; omega), World.setCell_alloc_past _ _ _ _ hl] at h3
    exact h3
  · exact ⟨_, 1, rfl, Lie.own (own_one9 w (.int .i64 sg) 3)⟩
theorem Pk.symC {B g nT nV n3 nL nA nC c1 c2 c3 c4 c5 c6 : Nat} {w0 w : World} {a1 a2 a3 a4 a5 a6 : Option Addr} {T V C : List Rd.Name} {R : List (Nm.Prod × Value)} {L A : List Int}
    (h : Pk B w0 g (.slice a1 nT c1) nT T (.slice a2 nV c2) nV V (.slice a3 n3 c3) n3 R (.slice a4 nL c4) nL L (.slice a5 nA c5) nA A (.slice a6 nC c6) nC C w) :
    SymC w w.heap.size (.agg #[.slice a1 nT c1, .slice a2 nV c2, .slice a3 n3 c3, .slice a4 nL c4, .slice a5 nA c5, .slice a6 nC c6]) T V := by
  have e1 : nT = T.length := by have := h.tr.1; simp [namesV] at this; omega
  have e2 : nV = V.length := by have := h.vr.1; simp [namesV] at this; omega
  refine ⟨a1, c1, a2, c2, a3, n3, c3, a4, nL, c4, a5, nA, c5, a6, nC, c6, ?_, (Lie.own h.tr).cl, (Lie.own h.vr).cl⟩
  rw [← e1, ← e2]
theorem Pk.six {B g nT nV n3 nL nA nC : Nat} {w0 w : World} {v1 v2 v3 v4 v5 v6 : Value} {T V C : List Rd.Name} {R : List (Nm.Prod × Value)} {L A : List Int} (h : Pk B w0 g v1 nT T v2 nV V v3 n3 R v4 nL L v5 nA A v6 nC C w) :
    w.cell? ⟨g, 0, none⟩ = some v1 ∧ w.cell? ⟨g, 1, none⟩ = some v2 ∧ w.cell? ⟨g, 2, none⟩ = some v3 ∧ w.cell? ⟨g, 3, none⟩ = some v4 ∧ w.cell? ⟨g, 4, none⟩ = some v5 ∧ w.cell? ⟨g, 5, none⟩ = some v6 := by
  have p0 := h.at_.cell 0
  have p1 := h.at_.cell 1
  have p2 := h.at_.cell 2
  have p3 := h.at_.cell 3
  have p4 := h.at_.cell 4
  have p5 := h.at_.cell 5
  simp only [List.getElem?_toArray, List.getElem?_cons_zero, List.getElem?_cons_succ] at p0 p1 p2 p3 p4 p5
  exact ⟨p0, p1, p2, p3, p4, p5⟩
theorem Tryz.sizeRule : (Tryz.prog.info? 117).map (·.size) = some 4 := by kernel_rfl
theorem Tryz.sizeProd : (Tryz.prog.info? 72).map (·.size) = some 3 := by kernel_rfl
structure Rk (w0 : World) (gr gx : Nat) (rc : Array Value) (sl : Int) (vx : Value) (n : Nat) (X : List Int) (lv : Int) (w : World) : Prop where
  rule : At w gr 117 rc
  prod : At w gx 72 #[.int .i64 sl, vx, .int .i64 lv]
  row : w.ownsRow (gx + 1) 3 1 vx n (vals X)
  low : w0.heap.size ≤ gr
  far : gr < gx
  bel : Below w0.heap.size w0 w
theorem Rk.below {w0 w w' : World} {gr gx n : Nat} {rc : Array Value} {sl lv : Int} {vx : Value} {X : List Int} (h : Rk w0 gr gx rc sl vx n X lv w) (hb : Below w.heap.size w w') : Rk w0 gr gx rc sl vx n X lv w' :=
  ⟨h.rule.below hb h.rule.lt, h.prod.below hb h.prod.lt, own_stay h.row (Stay.below hb), h.low, h.far, h.bel.trans (hb.mono h.bel.size)⟩
theorem Rk.put {w0 w w7 : World} {gr gx n : Nat} {rc : Array Value} {sl lv y : Int} {vx v' : Value} {X : List Int} {o : Obj} (h : Rk w0 gr gx rc sl vx n X lv w) (hg : (w.alloc o).grownBy w7 vx.ownBlock) (ho : w7.ownsRow (gx + 1) 3 1 v' (n + 1) (vals X ++ [.int .i64 y])) :
    Rk w0 gr gx rc sl v' (n + 1) (X ++ [y]) lv (w7.setCell ⟨gx, 1, none⟩ v') := by
  have h1 := h.row.alloc o
  have ha := (h.prod.alloc o).grown hg (fun e => own_apart h1 (h.prod.alloc o) (by decide) e.symm)
  have hr := (h.rule.alloc o).grown hg (fun e => own_apart h1 (h.rule.alloc o) (by decide) e.symm)
  have hs := grown_set (grown_refl w7 (some gx)) 1 v'
  have hlx := h.prod.lt
  refine ⟨hr.far (by have := h.far; simp; omega) _, by simpa using ha.set 1 v', ?_, h.low, h.far, ?_⟩
  · rw [vals_append]
    exact own_stay ho (Stay.far ha (by decide) hs)
  · have hb1 := h.bel.alloc h.bel.size o
    refine below_grown (hb1.grown hg hb1.size (fun j hj => ?_)) hs (Nat.le_trans hb1.size hg.size) (by have := h.low; have := h.far; omega)
    have h2 := (own_lt h1 j hj).1
    have := h.low; have := h.far
    omega
theorem Rk.level {w0 w : World} {gr gx n : Nat} {rc : Array Value} {sl lv : Int} {vx : Value} {X : List Int} (h : Rk w0 gr gx rc sl vx n X lv w) (lv' : Int) : Rk w0 gr gx rc sl vx n X lv' (w.setCell ⟨gx, 2, none⟩ (.int .i64 lv')) :=
  ⟨h.rule.far (by have := h.far; simp; omega) _, by simpa using h.prod.set 2 (.int .i64 lv'), own_stay h.row (Stay.far h.prod (by decide) (grown_set (grown_refl w (some gx)) 2 _)), h.low, h.far,
    below_grown h.bel (grown_set (grown_refl w (some gx)) 2 _) h.bel.size (by have := h.low; have := h.far; omega)⟩
theorem int_get9 {w : World} {B n sL : Nat} {A : Option Addr} {L : List Int} (h : w.ownsRow B 3 1 (.slice A n sL) n (vals L)) {i : Nat} {x : Int} (hx : L[i]? = some x) :
    ∃ b o, A = some ⟨b, o, none⟩ ∧ b < w.heap.size ∧ w.cell? ⟨b, o + i, none⟩ = some (.int .i64 x) := by
  have hv := vals_get hx
  obtain ⟨b, o, rfl, hb, hcell⟩ := (Lie.own h).cl.ex (fun e => by rw [e] at hv; simp at hv)
  exact ⟨b, o, rfl, hb, hcell _ _ hv⟩
theorem Pk.planS {B g nT nV nR nL nA nC c1 c2 c3 c4 c5 c6 : Nat} {w0 w w' : World} {a1 a2 a3 a4 a5 a6 : Option Addr} {T V C : List Rd.Name} {R : List (Nm.Prod × Value)} {L A : List Int}
    (h : Pk B w0 g (.slice a1 nT c1) nT T (.slice a2 nV c2) nV V (.slice a3 nR c3) nR R (.slice a4 nL c4) nL L (.slice a5 nA c5) nA A (.slice a6 nC c6) nC C w) (Q : List Nm.Prod) (hQ : R.map (·.1) = Q) (hs : ∀ t, t ≠ 34 → Stay t w w') :
    PlanL w' (.agg #[.slice a1 nT c1, .slice a2 nV c2, .slice a3 nR c3, .slice a4 nL c4, .slice a5 nA c5, .slice a6 nC c6]) ⟨T, V, Q, L, A, C⟩ := by
  have e1 : nT = T.length := by have := h.tr.1; simp [namesV] at this; omega
  have e2 : nV = V.length := by have := h.vr.1; simp [namesV] at this; omega
  have e3 : nR = Q.length := by have := h.rr.1; rw [prodsV_length] at this; rw [← hQ, List.length_map]; omega
  have e4 : nL = L.length := by have := h.lr.1; rw [vals_length] at this; omega
  have e5 : nA = A.length := by have := h.ar.1; rw [vals_length] at this; omega
  have e6 : nC = C.length := by have := h.cr.1; simp [namesV] at this; omega
  refine ⟨a1, c1, a2, c2, a3, c3, a4, c4, a5, c5, a6, c6, ?_, Lie.own (own_stay h.tr (hs _ (by decide))), Lie.own (own_stay h.vr (hs _ (by decide))), ⟨R, Lie.own (own_stay h.rr (hs _ (by decide))), hQ, fun p hp => (h.rn p hp).stay (hs _ (by decide))⟩, Lie.own (own_stay h.lr (hs _ (by decide))), Lie.own (own_stay h.ar (hs _ (by decide))), Lie.own (own_stay h.cr (hs _ (by decide)))⟩
  show _ = Value.agg #[.slice a1 T.length c1, .slice a2 V.length c2, .slice a3 Q.length c3, .slice a4 L.length c4, .slice a5 A.length c5, .slice a6 C.length c6]
  rw [← e1, ← e2, ← e3, ← e4, ← e5, ← e6]
set_option maxHeartbeats 16000000 in
theorem rof_any (v : Value) (G : Rd.G) (w : World) (h : GramC w w.heap.size v G) (hs : Sz G) (hN : (Pr.lvl G).length ≤ 1000000) :
    Calls Tryz.prog 38 #[v] w (OfR G w) := by
  have HRT := Lib.hid (show ∀ w', Below w.heap.size w w' → Calls Tryz.prog 65 #[v] w' fun e w'' => e = .returned (.bool (Pr.rightB G)) ∧ Below w'.heap.size w' w'' from fun w' hw' => rright7_any v G w.heap.size w' (h.below hw') hw'.size hs hN)
  have HGC := Lib.hid h
  obtain ⟨A1, c1, A2, c2, A3, c3, A4, c4, ql, rfl, _, _, _, _, _⟩ := h.parts
  generalize hE1 : G.toks.length = n1 at HRT HGC ⊢
  generalize hE2 : G.skips.length = n2 at HRT HGC ⊢
  generalize hE3 : G.levels.length = n3 at HRT HGC ⊢
  generalize hE4 : G.rules.length = n4 at HRT HGC ⊢
  generalize str G.start = ST at HRT HGC ⊢
  have hgg := At.new w 84 #[.slice A1 n1 c1, .slice A2 n2 c2, .slice A3 n3 c3, .string ST, .slice A4 n4 c4]
  have b1 := (Below.refl w.heap.size w).alloc (Nat.le_refl _) (.cells #[.slice A1 n1 c1, .slice A2 n2 c2, .slice A3 n3 c3, .string ST, .slice A4 n4 c4] 84)
  obtain ⟨w1, hw1⟩ : ∃ w1, w.alloc (.cells #[.slice A1 n1 c1, .slice A2 n2 c2, .slice A3 n3 c3, .string ST, .slice A4 n4 c4] 84) = w1 := ⟨_, rfl⟩
  have hs1 : w1.heap.size = w.heap.size + 1 := by rw [← hw1]; simp
  rw [hw1] at hgg b1
  have hgr := At.new w1 34 #[.slice none 0 0, .slice none 0 0, .slice none 0 0, .slice none 0 0, .slice none 0 0, .slice none 0 0]
  have hgg2 := hgg.alloc (.cells #[.slice none 0 0, .slice none 0 0, .slice none 0 0, .slice none 0 0, .slice none 0 0, .slice none 0 0] 34)
  have b2 := b1.alloc b1.size (.cells #[.slice none 0 0, .slice none 0 0, .slice none 0 0, .slice none 0 0, .slice none 0 0, .slice none 0 0] 34)
  obtain ⟨W0, hW0⟩ : ∃ W0, w1.alloc (.cells #[.slice none 0 0, .slice none 0 0, .slice none 0 0, .slice none 0 0, .slice none 0 0, .slice none 0 0] 34) = W0 := ⟨_, rfl⟩
  rw [hW0] at hgr hgg2 b2
  have HWW := Lib.hid (show (w.alloc (.cells #[.slice A1 n1 c1, .slice A2 n2 c2, .slice A3 n3 c3, .string ST, .slice A4 n4 c4] 84)).alloc (.cells #[.slice none 0 0, .slice none 0 0, .slice none 0 0, .slice none 0 0, .slice none 0 0, .slice none 0 0] 34) = W0 by rw [hw1, hW0])
  obtain ⟨g0, hg0⟩ : ∃ g, w.heap.size = g := ⟨_, rfl⟩
  obtain ⟨g1, hg1⟩ : ∃ g, g0 + 1 = g := ⟨_, rfl⟩
  rw [hs1] at hgr
  rw [hg0] at hgr hgg2
  rw [hg1] at hgr
  have HGG := Lib.hid hgg2
  have HGR := Lib.hid hgr
  have HB0 := Lib.hid b2
  have HG := Lib.hid (show w.heap.size = g0 ∧ g0 + 1 = g1 from ⟨hg0, hg1⟩)
  have HSZ := Lib.hid hs
  clear h hgg hgg2 hgr b1 b2 hw1 hW0 hs1 hg0 hg1 hs hN
  cases hrb : Pr.rightB G with
  | false =>
    rw [hrb] at HRT
    have HOF := Lib.hid (ofG_bad hrb)
    clear hrb hE1 hE2 hE3 hE4
    go_enter Tryz.func38, Tryz.ntmps38
    go_wp2_with fail
    rw [HWW.out]
    obtain ⟨hg0, hg1⟩ := HG.out
    rw [hg0, hg1]
    clear hg0 hg1
    refine (HRT.out _ HB0.out).mono ?_
    rintro e w2 ⟨rfl, hb2⟩
    have hgr2 := HGR.out.below hb2 HGR.out.lt
    have HGR2 := Lib.hid hgr2
    have HB2 := Lib.hid (HB0.out.trans (hb2.mono HB0.out.size))
    have r0 := hgr2.cell 0
    have r1 := hgr2.cell 1
    have r2 := hgr2.cell 2
    have r3 := hgr2.cell 3
    have r4 := hgr2.cell 4
    have r5 := hgr2.cell 5
    have rf := hgr2.frozen
    have hlr := hgr2.lt
    simp only [List.getElem?_toArray, List.getElem?_cons_zero, List.getElem?_cons_succ] at r0 r1 r2 r3 r4 r5
    clear hb2 hgr2
    go_wp2_with fail
    refine bodyPost_ret (results_cell2 rfl _ _ _ _ rfl rfl g1 _ _ _ rfl (HGR2.out.six _ _ _ _ _ _) Tryz.underlying34 rfl Tryz.sizePlan) rfl ⟨⟨.agg #[.slice none 0 0, .slice none 0 0, .slice none 0 0, .slice none 0 0, .slice none 0 0, .slice none 0 0], ?_, ?_⟩, below_grown HB2.out (grown_six _ _ _ _ _ _ _ _) HB2.out.size (by have := HG.out; omega)⟩
    · rw [HOF.out]; rfl
    · rw [HOF.out]; exact PlanL.empty _
  | true =>
    rw [hrb] at HRT
    have hright := (Pr.rightB_iff G).1 hrb
    have HRI := Lib.hid hright
    have b1 : n1 ≤ 20 := hE1 ▸ hright.ntok
    have b4 : n4 ≤ 40 := hE4 ▸ hright.nrule
    have HE1 := Lib.hid hE1
    have HE3 := Lib.hid hE3
    have HE4 := Lib.hid hE4
    have HRB := Lib.hid hrb
    clear hright hrb hE1 hE2 hE3 hE4
    go_enter Tryz.func38, Tryz.ntmps38
    go_wp2_with fail
    rw [HWW.out]
    obtain ⟨hg0, hg1⟩ := HG.out
    rw [hg0, hg1]
    clear hg0 hg1
    refine (HRT.out _ HB0.out).mono ?_
    rintro e w2 ⟨rfl, hb2⟩
    have HGG2 := Lib.hid (HGG.out.below hb2 HGG.out.lt)
    have HGR2 := Lib.hid (HGR.out.below hb2 HGR.out.lt)
    have HB2 := Lib.hid (HB0.out.trans (hb2.mono HB0.out.size))
    clear hb2 HRT
    go_upto_region 5 with (fail)
    generalize hW2 : (((((w2.alloc _).alloc _).alloc _).alloc _).alloc _) = W2
    have hpk := Pk.start w2
    unfold PlanCs at hpk
    rw [hW2] at hpk
    clear hW2
    have hgbw := HB2.out.size
    have hg0b := HGG2.out.lt
    have hg1b := HGR2.out.lt
    obtain ⟨gp, hgp⟩ : ∃ g, w2.heap.size + 1 + 1 + 1 + 1 = g := ⟨_, rfl⟩
    obtain ⟨gl, hgl⟩ : ∃ g, w2.heap.size + 1 = g := ⟨_, rfl⟩
    obtain ⟨ga, hga⟩ : ∃ g, gl + 1 = g := ⟨_, rfl⟩
    obtain ⟨gc, hgc⟩ : ∃ g, ga + 1 = g := ⟨_, rfl⟩
    rw [hgp] at hpk ⊢
    rw [hgl, hga, hgc] at hpk ⊢
    obtain ⟨gb, hgb⟩ : ∃ g, w2.heap.size = g := ⟨_, rfl⟩
    rw [hgb] at hpk hgbw hg0b hg1b ⊢
    have HPK := Lib.hid hpk
    have HGB := Lib.hid hgb
    clear hgp hgl hga hgc hpk hgb
    obtain ⟨k1, ⟨pl, k3, k4, k5⟩, hru⟩ := gramC_got HGC.out
    have HK1 := Lib.hid k1
    have HRU := Lib.hid hru
    have HK3 := Lib.hid (show ∃ pl, Cl w w.heap.size A3 (levsC pl) ∧ pl.map (·.1) = G.levels ∧ ∀ p ∈ pl, p.1.assoc = encA p.2.2 from ⟨pl, k3, k4, k5⟩)
    clear k1 k3 k4 k5 hru
    obtain ⟨iS, hiS, hS0, hS1, hS2⟩ := info_parts strinfo
    obtain ⟨iI, hiI, hI0, hI1, hI2⟩ := info_parts infoInts
    obtain ⟨iP, hiP, hP0, hP1, hP2⟩ := info_parts infoProd
    go_wp2_with fail
    go_loopw [7] (fun i wr => ∃ (k nV : Nat) (aV : Option Addr) (sV : Nat) (aC : Option Addr) (sC : Nat), k ≤ n4 ∧ i = .int .i64 (k : Int) ∧ nV ≤ k ∧ Pk gb w2 gp (.slice (some ⟨gb, 0, none⟩) 1 1) 1 [Nm.endN] (.slice aV nV sV) nV (Nm.varsOf ((G.rules.take k).map Rd.Rule.left)) (.slice none 0 0) 0 [] (.slice (some ⟨gl, 0, none⟩) 1 1) 1 [0] (.slice (some ⟨ga, 0, none⟩) 1 1) 1 [0] (.slice aC (k + 1) sC) (k + 1) ([] :: (G.rules.take k).map Rd.Rule.action) wr) (fun i _ => n4 - (intOf i).toNat)
    case atStart => exact ⟨0, 0, none, 0, some ⟨gc, 0, none⟩, 1, by omega, rfl, by omega, HPK.out⟩
    case round =>
      clear HPK
      obtain ⟨k, nV, aV, sV, aC, sC, hk, rfl, hnv, hpk⟩ := hrel
      have HPK := Lib.hid hpk
      have x4 := (HGG2.out.below hpk.bel hg0b).cell 4
      have hgl0 := (HGG2.out.below hpk.bel hg0b).lt
      have p1 := hpk.at_.cell 1
      have hgl1 := hpk.at_.lt
      simp only [List.getElem?_toArray, List.getElem?_cons_zero, List.getElem?_cons_succ] at x4 p1
      by_cases hlt : k < n4
      · obtain ⟨x, hx⟩ := some_get (l := G.rules) (i := k) (by rw [HE4.out]; exact hlt)
        obtain ⟨b, o, A', c', hA, hbl, y0, _, _, y3, _⟩ := HRU.out.get hx
        subst hA
        have hbw := HB2.out.trans (hpk.bel.mono hgbw)
        obtain ⟨VK, hVK⟩ : ∃ V, Nm.varsOf ((G.rules.take k).map Rd.Rule.left) = V := ⟨_, rfl⟩
        obtain ⟨CK, hCK⟩ : ∃ V, [] :: (G.rules.take k).map Rd.Rule.action = V := ⟨_, rfl⟩
        rw [hVK, hCK] at hpk
        have hvl : VK.length = nV := by have := hpk.vr.1; simp [namesV] at this; omega
        have HPL := Lib.hid (fun q => rplace_any VK x.left aV sV _ (wr.drewN q) (((Lie.own hpk.vr).cl).below (below_drewN (Below.refl _ _) q)) (by omega))
        rw [hvl] at HPL
        obtain ⟨X0, hX0⟩ : ∃ X, str x.left = X := ⟨_, rfl⟩
        obtain ⟨X3, hX3⟩ : ∃ X, str x.action = X := ⟨_, rfl⟩
        rw [hX0] at y0 HPL
        rw [hX3] at y3
        have HX := Lib.hid hx
        have HVK := Lib.hid hVK
        have HCK := Lib.hid hCK
        have HX0 := Lib.hid hX0
        have HX3 := Lib.hid hX3
        have HY0 := Lib.hid y0
        have HY3 := Lib.hid y3
        have HBW := Lib.hid hbw
        have z0 := (hbw.cell (p := ⟨b, o + k * 4, none⟩) hbl).trans y0
        have hblr : b < wr.heap.size := Nat.lt_of_lt_of_le hbl hbw.size
        have hki : (k : Int) < (n4 : Int) := by omega
        have hk0 : (0 : Int) ≤ (k : Int) := by omega
        have hpge : -1 ≤ Nm.place VK x.left := Nm.find_ge _
        have HPK2 := Lib.hid hpk
        clear hx hVK hCK hX0 hX3 y0 y3 hbw hpk HPK
        by_cases hpl : 0 ≤ Nm.place VK x.left
        · have HPM := Lib.hid (Nm.place_ge.1 hpl)
          generalize Nm.place VK x.left = PL at HPL hpl hpge
          go_wp2_with fail
          go_quiet (first | (go_at_call 66; refine quiet_texts (HPL.out _)))
          go_upto_region 10 with (fail)
          generalize hWP : wr.drewN _ = WP
          have hbq : Below wr.heap.size wr WP := hWP ▸ below_drewN (Below.refl _ _) _
          clear hWP x4 hgl0 p1 hgl1 z0 hblr
          have hpkn := HPK2.out.below hbq
          have HPKN := Lib.hid hpkn
          have hbwn := HBW.out.trans (hbq.mono HBW.out.size)
          have x4 := (HGG2.out.below hpkn.bel hg0b).cell 4
          have hgl0 := (HGG2.out.below hpkn.bel hg0b).lt
          have p5 := hpkn.at_.cell 5
          have hgl1 := hpkn.at_.lt
          simp only [List.getElem?_toArray, List.getElem?_cons_zero, List.getElem?_cons_succ] at x4 p5
          have hblr : b < WP.heap.size := Nat.lt_of_lt_of_le hbl hbwn.size
          have z3 := (hbwn.cell (p := ⟨b, o + k * 4 + 3, none⟩) hbl).trans HY3.out
          clear hpkn hbwn
          have hc3 : k + 1 + 1 ≤ maxLen := by unfold maxLen; omega
          have hc4 : (k + 1 + 1) * 16 ≤ 140737488355328 := by omega
          have hz0 : Below WP.heap.size WP WP.drew := below_drew (Below.refl _ _)
          refine Zed.begin_ (fun w' => Below WP.heap.size WP w') [9, 11] (by kernel_rfl) ?_
          refine Zed.pure (i := 0) (v := ?va0) rfl (by kernel_rfl) (by kernel_rfl) (by kernel_rfl) (by kernel_rfl) (by kernel_rfl) (fun _ _ _ h => h) (Or.inl ⟨by rfl, ?hya0⟩) (.inr hz0) ?resta0
          case hya0 => (intro w _; go_simp; try with_reducible rfl)
          try simp only [Act.put, List.setIfInBounds_toArray, List.set_cons_zero, List.set_cons_succ]
          refine Zed.take (i := 1) (v := ?va1) rfl (by kernel_rfl) (by kernel_rfl) (by kernel_rfl) (by kernel_rfl) (by kernel_rfl) (fun _ _ _ h => h) (Or.inl ⟨by rfl, ?hya1⟩) hz0 ?resta1
          case hya1 => (intro w hSw; (try dsimp only at hSw); have hc := (hSw.cell (p := ⟨gp, 5, none⟩) hgl1).trans p5; go_simp; try with_reducible rfl)
          try simp only [Act.put, List.setIfInBounds_toArray, List.set_cons_zero, List.set_cons_succ]
          refine Zed.pure (i := 2) (v := ?va2) rfl (by kernel_rfl) (by kernel_rfl) (by kernel_rfl) (by kernel_rfl) (by kernel_rfl) (fun _ _ _ h => h) (Or.inl ⟨by rfl, ?hya2⟩) (.inr hz0) ?resta2
          case hya2 => (intro w _; go_simp; try with_reducible rfl)
          try simp only [Act.put, List.setIfInBounds_toArray, List.set_cons_zero, List.set_cons_succ]
          refine Zed.take (i := 3) (v := ?va3) rfl (by kernel_rfl) (by kernel_rfl) (by kernel_rfl) (by kernel_rfl) (by kernel_rfl) (fun _ _ _ h => h) (Or.inl ⟨by rfl, ?hya3⟩) hz0 ?resta3
          case hya3 => (intro w hSw; (try dsimp only at hSw); have hc := (hSw.cell (p := ⟨g0, 4, none⟩) hgl0).trans x4; go_simp; try with_reducible rfl)
          try simp only [Act.put, List.setIfInBounds_toArray, List.set_cons_zero, List.set_cons_succ]
          refine Zed.pure (i := 4) (v := ?va4) rfl (by kernel_rfl) (by kernel_rfl) (by kernel_rfl) (by kernel_rfl) (by kernel_rfl) (fun _ _ _ h => h) (Or.inl ⟨by rfl, ?hya4⟩) (.inr hz0) ?resta4
          case hya4 => (intro w _; go_simp; try with_reducible rfl)
          try simp only [Act.put, List.setIfInBounds_toArray, List.set_cons_zero, List.set_cons_succ]
          refine Zed.pure (i := 5) (v := ?va5) rfl (by kernel_rfl) (by kernel_rfl) (by kernel_rfl) (by kernel_rfl) (by kernel_rfl) (fun _ _ _ h => h) (Or.inl ⟨by rfl, ?hya5⟩) (.inr hz0) ?resta5
          case hya5 => (intro w _; go_simp; try with_reducible rfl)
          try simp only [Act.put, List.setIfInBounds_toArray, List.set_cons_zero, List.set_cons_succ]
          refine Zed.pure (i := 6) (v := ?va6) rfl (by kernel_rfl) (by kernel_rfl) (by kernel_rfl) (by kernel_rfl) (by kernel_rfl) (fun _ _ _ h => h) (Or.inl ⟨by rfl, ?hya6⟩) (.inr hz0) ?resta6
          case hya6 => (intro w _; go_simp; try with_reducible rfl)
          try simp only [Act.put, List.setIfInBounds_toArray, List.set_cons_zero, List.set_cons_succ]
          refine Zed.take (i := 7) (v := ?va7) rfl (by kernel_rfl) (by kernel_rfl) (by kernel_rfl) (by kernel_rfl) (by kernel_rfl) (fun _ _ _ h => h) (Or.inl ⟨by rfl, ?hya7⟩) hz0 ?resta7
          case hya7 => (intro w hSw; (try dsimp only at hSw); have hc := (hSw.cell (p := ⟨b, o + k * 4 + 3, none⟩) hblr).trans z3; go_simp; try with_reducible rfl)
          try simp only [Act.put, List.setIfInBounds_toArray, List.set_cons_zero, List.set_cons_succ]
          refine Zed.one (i := 8) (by kernel_rfl) rfl (fun K hK => ?_)
          go_simp
          have hz1 := hz0.alloc hz0.size (.cells #[.string X3] 9)
          refine hK.out _ _ (.inr hz1) ?_
          clear hK K
          try simp only [Act.put, List.setIfInBounds_toArray, List.set_cons_zero, List.set_cons_succ]
          refine Zed.one (i := 9) (by kernel_rfl) rfl (fun K hK => ?_)
          refine step_append_own2 rfl _ _ 30 rfl gb 9 iS _ 1 16 Tryz.underlying30 hiS hS0 hS1 hS2 rfl (by decide) _ _ _ rfl (HPKN.out.drew.alloc (.cells #[.string X3] 9)).cr ⟨WP.heap.size, 0, none⟩ 1 1 [.string X3] rfl rfl (cells_new _ _ _) (by simp [Value.oneCell']) hc3 hc4 (HPKN.out.drew.alloc (.cells #[.string X3] 9)).size ?_
          intro v' w5 hown5 hg5 hn5
          obtain ⟨a5, s5, rfl⟩ := own_form hown5
          have hA5 := (HPKN.out.drew.alloc (.cells #[.string X3] 9)).at_.grown hg5 (fun e => own_apart (HPKN.out.drew.alloc (.cells #[.string X3] 9)).cr (HPKN.out.drew.alloc (.cells #[.string X3] 9)).at_ (by decide) e.symm)
          have r5 := hA5.cell 5
          have rf := hA5.frozen
          simp only [List.getElem?_toArray, List.getElem?_cons_zero, List.getElem?_cons_succ] at r5
          refine hK.out _ _ (.inl (by kernel_rfl)) ?_
          clear hK K
          try simp only [Act.put, List.setIfInBounds_toArray, List.set_cons_zero, List.set_cons_succ]
          refine Zed.pure (i := 10) (v := ?va10) rfl (by kernel_rfl) (by kernel_rfl) (by kernel_rfl) (by kernel_rfl) (by kernel_rfl) (fun _ _ _ h => h) (Or.inl ⟨by rfl, ?hya10⟩) (.inl (by kernel_rfl)) ?resta10
          case hya10 => (intro w _; go_simp; try with_reducible rfl)
          try simp only [Act.put, List.setIfInBounds_toArray, List.set_cons_zero, List.set_cons_succ]
          refine Zed.one (i := 11) (by kernel_rfl) rfl (fun K hK => ?_)
          go_simp
          refine hK.out _ _ (.inl (by kernel_rfl)) ?_
          clear hK K
          try simp only [Act.put, List.setIfInBounds_toArray, List.set_cons_zero, List.set_cons_succ]
          refine Zed.all (by kernel_rfl) ?_ _
          have HM := Lib.hid (Pk.putC (HPKN.out.drew.alloc (.cells #[.string X3] 9)) (X' := CK ++ [x.action]) (show w5.ownsRow gb 9 1 (.slice a5 (k + 1 + 1) s5) (k + 1 + 1) (namesV (CK ++ [x.action])) by
            have e : namesV (CK ++ [x.action]) = namesV CK ++ [.string X3] := by unfold namesV; rw [List.map_append, ← HX3.out]; rfl
            rw [e]; exact hown5) hg5 hn5)
          clear hown5 hg5 hn5 hA5 r5 rf hz0 hz1
          go_wp2_with fail
          go_roundw
          case rel =>
            refine ⟨k + 1, nV, aV, sV, a5, s5, by omega, by go_num, by omega, ?_⟩
            rw [take9 HX.out, List.map_append, List.map_append, show [x].map Rd.Rule.left = [x.left] from rfl, Nm.varsOf_snoc, HVK.out, show Nm.addN VK x.left = VK from by unfold Nm.addN; rw [if_pos HPM.out], ← List.cons_append, HCK.out]
            exact HM.out
          case measure => simp [intOf]; omega
        · have HPM := Lib.hid (fun h => hpl (Nm.place_ge.2 h))
          generalize Nm.place VK x.left = PL at HPL hpl hpge
          go_wp2_with fail
          go_quiet (first | (go_at_call 66; refine quiet_texts (HPL.out _)))
          go_upto_region 9 with (fail)
          generalize hWP : wr.drewN _ = WP
          have hbq : Below wr.heap.size wr WP := hWP ▸ below_drewN (Below.refl _ _) _
          clear hWP x4 hgl0 p1 hgl1 z0 hblr
          have hpkn := HPK2.out.below hbq
          have HPKN := Lib.hid hpkn
          have hbwn := HBW.out.trans (hbq.mono HBW.out.size)
          have x4 := (HGG2.out.below hpkn.bel hg0b).cell 4
          have hgl0 := (HGG2.out.below hpkn.bel hg0b).lt
          have p1 := hpkn.at_.cell 1
          have hgl1 := hpkn.at_.lt
          simp only [List.getElem?_toArray, List.getElem?_cons_zero, List.getElem?_cons_succ] at x4 p1
          have hblr : b < WP.heap.size := Nat.lt_of_lt_of_le hbl hbwn.size
          have z0 := (hbwn.cell (p := ⟨b, o + k * 4, none⟩) hbl).trans HY0.out
          clear hpkn hbwn
          have hc3 : nV + 1 ≤ maxLen := by unfold maxLen; omega
          have hc4 : (nV + 1) * 16 ≤ 140737488355328 := by omega
          have hz0 : Below WP.heap.size WP WP.drew := below_drew (Below.refl _ _)
          refine Zed.begin_ (fun w' => Below WP.heap.size WP w') [9, 11] (by kernel_rfl) ?_
          refine Zed.pure (i := 0) (v := ?vb0) rfl (by kernel_rfl) (by kernel_rfl) (by kernel_rfl) (by kernel_rfl) (by kernel_rfl) (fun _ _ _ h => h) (Or.inl ⟨by rfl, ?hyb0⟩) (.inr hz0) ?restb0
          case hyb0 => (intro w _; go_simp; try with_reducible rfl)
          try simp only [Act.put, List.setIfInBounds_toArray, List.set_cons_zero, List.set_cons_succ]
          refine Zed.take (i := 1) (v := ?vb1) rfl (by kernel_rfl) (by kernel_rfl) (by kernel_rfl) (by kernel_rfl) (by kernel_rfl) (fun _ _ _ h => h) (Or.inl ⟨by rfl, ?hyb1⟩) hz0 ?restb1
          case hyb1 => (intro w hSw; (try dsimp only at hSw); have hc := (hSw.cell (p := ⟨gp, 1, none⟩) hgl1).trans p1; go_simp; try with_reducible rfl)
          try simp only [Act.put, List.setIfInBounds_toArray, List.set_cons_zero, List.set_cons_succ]
          refine Zed.pure (i := 2) (v := ?vb2) rfl (by kernel_rfl) (by kernel_rfl) (by kernel_rfl) (by kernel_rfl) (by kernel_rfl) (fun _ _ _ h => h) (Or.inl ⟨by rfl, ?hyb2⟩) (.inr hz0) ?restb2
          case hyb2 => (intro w _; go_simp; try with_reducible rfl)
          try simp only [Act.put, List.setIfInBounds_toArray, List.set_cons_zero, List.set_cons_succ]
          refine Zed.take (i := 3) (v := ?vb3) rfl (by kernel_rfl) (by kernel_rfl) (by kernel_rfl) (by kernel_rfl) (by kernel_rfl) (fun _ _ _ h => h) (Or.inl ⟨by rfl, ?hyb3⟩) hz0 ?restb3
          case hyb3 => (intro w hSw; (try dsimp only at hSw); have hc := (hSw.cell (p := ⟨g0, 4, none⟩) hgl0).trans x4; go_simp; try with_reducible rfl)
          try simp only [Act.put, List.setIfInBounds_toArray, List.set_cons_zero, List.set_cons_succ]
          refine Zed.pure (i := 4) (v := ?vb4) rfl (by kernel_rfl) (by kernel_rfl) (by kernel_rfl) (by kernel_rfl) (by kernel_rfl) (fun _ _ _ h => h) (Or.inl ⟨by rfl, ?hyb4⟩) (.inr hz0) ?restb4
          case hyb4 => (intro w _; go_simp; try with_reducible rfl)
          try simp only [Act.put, List.setIfInBounds_toArray, List.set_cons_zero, List.set_cons_succ]
          refine Zed.pure (i := 5) (v := ?vb5) rfl (by kernel_rfl) (by kernel_rfl) (by kernel_rfl) (by kernel_rfl) (by kernel_rfl) (fun _ _ _ h => h) (Or.inl ⟨by rfl, ?hyb5⟩) (.inr hz0) ?restb5
          case hyb5 => (intro w _; go_simp; try with_reducible rfl)
          try simp only [Act.put, List.setIfInBounds_toArray, List.set_cons_zero, List.set_cons_succ]
          refine Zed.pure (i := 6) (v := ?vb6) rfl (by kernel_rfl) (by kernel_rfl) (by kernel_rfl) (by kernel_rfl) (by kernel_rfl) (fun _ _ _ h => h) (Or.inl ⟨by rfl, ?hyb6⟩) (.inr hz0) ?restb6
          case hyb6 => (intro w _; go_simp; try with_reducible rfl)
          try simp only [Act.put, List.setIfInBounds_toArray, List.set_cons_zero, List.set_cons_succ]
          refine Zed.take (i := 7) (v := ?vb7) rfl (by kernel_rfl) (by kernel_rfl) (by kernel_rfl) (by kernel_rfl) (by kernel_rfl) (fun _ _ _ h => h) (Or.inl ⟨by rfl, ?hyb7⟩) hz0 ?restb7
          case hyb7 => (intro w hSw; (try dsimp only at hSw); have hc := (hSw.cell (p := ⟨b, o + k * 4, none⟩) hblr).trans z0; go_simp; try with_reducible rfl)
          try simp only [Act.put, List.setIfInBounds_toArray, List.set_cons_zero, List.set_cons_succ]
          refine Zed.one (i := 8) (by kernel_rfl) rfl (fun K hK => ?_)
          go_simp
          have hz1 := hz0.alloc hz0.size (.cells #[.string X0] 9)
          refine hK.out _ _ (.inr hz1) ?_
          clear hK K
          try simp only [Act.put, List.setIfInBounds_toArray, List.set_cons_zero, List.set_cons_succ]
          refine Zed.one (i := 9) (by kernel_rfl) rfl (fun K hK => ?_)
          refine step_append_own2 rfl _ _ 30 rfl gb 9 iS _ 1 16 Tryz.underlying30 hiS hS0 hS1 hS2 rfl (by decide) _ _ _ rfl (HPKN.out.drew.alloc (.cells #[.string X0] 9)).vr ⟨WP.heap.size, 0, none⟩ 1 1 [.string X0] rfl rfl (cells_new _ _ _) (by simp [Value.oneCell']) hc3 hc4 (HPKN.out.drew.alloc (.cells #[.string X0] 9)).size ?_
          intro v' w5 hown5 hg5 hn5
          obtain ⟨a5, s5, rfl⟩ := own_form hown5
          have hA5 := (HPKN.out.drew.alloc (.cells #[.string X0] 9)).at_.grown hg5 (fun e => own_apart (HPKN.out.drew.alloc (.cells #[.string X0] 9)).vr (HPKN.out.drew.alloc (.cells #[.string X0] 9)).at_ (by decide) e.symm)
          have r1 := hA5.cell 1
          have rf := hA5.frozen
          simp only [List.getElem?_toArray, List.getElem?_cons_zero, List.getElem?_cons_succ] at r1
          refine hK.out _ _ (.inl (by kernel_rfl)) ?_
          clear hK K
          try simp only [Act.put, List.setIfInBounds_toArray, List.set_cons_zero, List.set_cons_succ]
          refine Zed.pure (i := 10) (v := ?vb10) rfl (by kernel_rfl) (by kernel_rfl) (by kernel_rfl) (by kernel_rfl) (by kernel_rfl) (fun _ _ _ h => h) (Or.inl ⟨by rfl, ?hyb10⟩) (.inl (by kernel_rfl)) ?restb10
          case hyb10 => (intro w _; go_simp; try with_reducible rfl)
          try simp only [Act.put, List.setIfInBounds_toArray, List.set_cons_zero, List.set_cons_succ]
          refine Zed.one (i := 11) (by kernel_rfl) rfl (fun K hK => ?_)
          go_simp
          refine hK.out _ _ (.inl (by kernel_rfl)) ?_
          clear hK K
          try simp only [Act.put, List.setIfInBounds_toArray, List.set_cons_zero, List.set_cons_succ]
          refine Zed.all (by kernel_rfl) ?_ _
          have HM := Lib.hid (Pk.putV (HPKN.out.drew.alloc (.cells #[.string X0] 9)) (X' := VK ++ [x.left]) (show w5.ownsRow gb 9 1 (.slice a5 (nV + 1) s5) (nV + 1) (namesV (VK ++ [x.left])) by
            have e : namesV (VK ++ [x.left]) = namesV VK ++ [.string X0] := by unfold namesV; rw [List.map_append, ← HX0.out]; rfl
            rw [e]; exact hown5) hg5 hn5)
          clear hown5 hg5 hn5 hA5 r1 rf hz0 hz1
          have HV := HM
          clear HM
          obtain ⟨a6, ha6⟩ : ∃ a, a5 = a := ⟨_, rfl⟩
          obtain ⟨s6, hs6⟩ : ∃ s, s5 = s := ⟨_, rfl⟩
          obtain ⟨W9, hW9⟩ : ∃ W, w5.setCell ⟨gp, 1, none⟩ (.slice a5 (nV + 1) s5) = W := ⟨_, rfl⟩
          rw [hW9] at HV ⊢
          rw [ha6, hs6] at HV ⊢
          clear hW9 ha6 hs6 x4 hgl0 p1 hgl1 z0 hblr
          go_upto_region 10 with (fail)
          have hpkn := HV.out
          have HPKC := Lib.hid hpkn
          have hbwn := HB2.out.trans (HV.out.bel.mono hgbw)
          have x4 := (HGG2.out.below hpkn.bel hg0b).cell 4
          have hgl0 := (HGG2.out.below hpkn.bel hg0b).lt
          have p5 := hpkn.at_.cell 5
          have hgl1 := hpkn.at_.lt
          simp only [List.getElem?_toArray, List.getElem?_cons_zero, List.getElem?_cons_succ] at x4 p5
          have hblr : b < W9.heap.size := Nat.lt_of_lt_of_le hbl hbwn.size
          have z3 := (hbwn.cell (p := ⟨b, o + k * 4 + 3, none⟩) hbl).trans HY3.out
          clear hpkn hbwn
          have hc5 : k + 1 + 1 ≤ maxLen := by unfold maxLen; omega
          have hc6 : (k + 1 + 1) * 16 ≤ 140737488355328 := by omega
          have hz0 : Below W9.heap.size W9 W9.drew := below_drew (Below.refl _ _)
          refine Zed.begin_ (fun w' => Below W9.heap.size W9 w') [9, 11] (by kernel_rfl) ?_
          refine Zed.pure (i := 0) (v := ?vc0) rfl (by kernel_rfl) (by kernel_rfl) (by kernel_rfl) (by kernel_rfl) (by kernel_rfl) (fun _ _ _ h => h) (Or.inl ⟨by rfl, ?hyc0⟩) (.inr hz0) ?restc0
          case hyc0 => (intro w _; go_simp; try with_reducible rfl)
          try simp only [Act.put, List.setIfInBounds_toArray, List.set_cons_zero, List.set_cons_succ]
          refine Zed.take (i := 1) (v := ?vc1) rfl (by kernel_rfl) (by kernel_rfl) (by kernel_rfl) (by kernel_rfl) (by kernel_rfl) (fun _ _ _ h => h) (Or.inl ⟨by rfl, ?hyc1⟩) hz0 ?restc1
          case hyc1 => (intro w hSw; (try dsimp only at hSw); have hc := (hSw.cell (p := ⟨gp, 5, none⟩) hgl1).trans p5; go_simp; try with_reducible rfl)
          try simp only [Act.put, List.setIfInBounds_toArray, List.set_cons_zero, List.set_cons_succ]
          refine Zed.pure (i := 2) (v := ?vc2) rfl (by kernel_rfl) (by kernel_rfl) (by kernel_rfl) (by kernel_rfl) (by kernel_rfl) (fun _ _ _ h => h) (Or.inl ⟨by rfl, ?hyc2⟩) (.inr hz0) ?restc2
          case hyc2 => (intro w _; go_simp; try with_reducible rfl)
          try simp only [Act.put, List.setIfInBounds_toArray, List.set_cons_zero, List.set_cons_succ]
          refine Zed.take (i := 3) (v := ?vc3) rfl (by kernel_rfl) (by kernel_rfl) (by kernel_rfl) (by kernel_rfl) (by kernel_rfl) (fun _ _ _ h => h) (Or.inl ⟨by rfl, ?hyc3⟩) hz0 ?restc3
          case hyc3 => (intro w hSw; (try dsimp only at hSw); have hc := (hSw.cell (p := ⟨g0, 4, none⟩) hgl0).trans x4; go_simp; try with_reducible rfl)
          try simp only [Act.put, List.setIfInBounds_toArray, List.set_cons_zero, List.set_cons_succ]
          refine Zed.pure (i := 4) (v := ?vc4) rfl (by kernel_rfl) (by kernel_rfl) (by kernel_rfl) (by kernel_rfl) (by kernel_rfl) (fun _ _ _ h => h) (Or.inl ⟨by rfl, ?hyc4⟩) (.inr hz0) ?restc4
          case hyc4 => (intro w _; go_simp; try with_reducible rfl)
          try simp only [Act.put, List.setIfInBounds_toArray, List.set_cons_zero, List.set_cons_succ]
          refine Zed.pure (i := 5) (v := ?vc5) rfl (by kernel_rfl) (by kernel_rfl) (by kernel_rfl) (by kernel_rfl) (by kernel_rfl) (fun _ _ _ h => h) (Or.inl ⟨by rfl, ?hyc5⟩) (.inr hz0) ?restc5
          case hyc5 => (intro w _; go_simp; try with_reducible rfl)
          try simp only [Act.put, List.setIfInBounds_toArray, List.set_cons_zero, List.set_cons_succ]
          refine Zed.pure (i := 6) (v := ?vc6) rfl (by kernel_rfl) (by kernel_rfl) (by kernel_rfl) (by kernel_rfl) (by kernel_rfl) (fun _ _ _ h => h) (Or.inl ⟨by rfl, ?hyc6⟩) (.inr hz0) ?restc6
          case hyc6 => (intro w _; go_simp; try with_reducible rfl)
          try simp only [Act.put, List.setIfInBounds_toArray, List.set_cons_zero, List.set_cons_succ]
          refine Zed.take (i := 7) (v := ?vc7) rfl (by kernel_rfl) (by kernel_rfl) (by kernel_rfl) (by kernel_rfl) (by kernel_rfl) (fun _ _ _ h => h) (Or.inl ⟨by rfl, ?hyc7⟩) hz0 ?restc7
          case hyc7 => (intro w hSw; (try dsimp only at hSw); have hc := (hSw.cell (p := ⟨b, o + k * 4 + 3, none⟩) hblr).trans z3; go_simp; try with_reducible rfl)
          try simp only [Act.put, List.setIfInBounds_toArray, List.set_cons_zero, List.set_cons_succ]
          refine Zed.one (i := 8) (by kernel_rfl) rfl (fun K hK => ?_)
          go_simp
          have hz1 := hz0.alloc hz0.size (.cells #[.string X3] 9)
          refine hK.out _ _ (.inr hz1) ?_
          clear hK K
          try simp only [Act.put, List.setIfInBounds_toArray, List.set_cons_zero, List.set_cons_succ]
          refine Zed.one (i := 9) (by kernel_rfl) rfl (fun K hK => ?_)
          refine step_append_own2 rfl _ _ 30 rfl gb 9 iS _ 1 16 Tryz.underlying30 hiS hS0 hS1 hS2 rfl (by decide) _ _ _ rfl (HPKC.out.drew.alloc (.cells #[.string X3] 9)).cr ⟨W9.heap.size, 0, none⟩ 1 1 [.string X3] rfl rfl (cells_new _ _ _) (by simp [Value.oneCell']) hc5 hc6 (HPKC.out.drew.alloc (.cells #[.string X3] 9)).size ?_
          intro v' w5 hown5 hg5 hn5
          obtain ⟨a5, s5, rfl⟩ := own_form hown5
          have hA5 := (HPKC.out.drew.alloc (.cells #[.string X3] 9)).at_.grown hg5 (fun e => own_apart (HPKC.out.drew.alloc (.cells #[.string X3] 9)).cr (HPKC.out.drew.alloc (.cells #[.string X3] 9)).at_ (by decide) e.symm)
          have r5 := hA5.cell 5
          have rf := hA5.frozen
          simp only [List.getElem?_toArray, List.getElem?_cons_zero, List.getElem?_cons_succ] at r5
          refine hK.out _ _ (.inl (by kernel_rfl)) ?_
          clear hK K
          try simp only [Act.put, List.setIfInBounds_toArray, List.set_cons_zero, List.set_cons_succ]
          refine Zed.pure (i := 10) (v := ?vc10) rfl (by kernel_rfl) (by kernel_rfl) (by kernel_rfl) (by kernel_rfl) (by kernel_rfl) (fun _ _ _ h => h) (Or.inl ⟨by rfl, ?hyc10⟩) (.inl (by kernel_rfl)) ?restc10
          case hyc10 => (intro w _; go_simp; try with_reducible rfl)
          try simp only [Act.put, List.setIfInBounds_toArray, List.set_cons_zero, List.set_cons_succ]
          refine Zed.one (i := 11) (by kernel_rfl) rfl (fun K hK => ?_)
          go_simp
          refine hK.out _ _ (.inl (by kernel_rfl)) ?_
          clear hK K
          try simp only [Act.put, List.setIfInBounds_toArray, List.set_cons_zero, List.set_cons_succ]
          refine Zed.all (by kernel_rfl) ?_ _
          have HM := Lib.hid (Pk.putC (HPKC.out.drew.alloc (.cells #[.string X3] 9)) (X' := CK ++ [x.action]) (show w5.ownsRow gb 9 1 (.slice a5 (k + 1 + 1) s5) (k + 1 + 1) (namesV (CK ++ [x.action])) by
            have e : namesV (CK ++ [x.action]) = namesV CK ++ [.string X3] := by unfold namesV; rw [List.map_append, ← HX3.out]; rfl
            rw [e]; exact hown5) hg5 hn5)
          clear hown5 hg5 hn5 hA5 r5 rf hz0 hz1
          go_wp2_with fail
          go_roundw
          case rel =>
            refine ⟨k + 1, nV + 1, a6, s6, a5, s5, by omega, by go_num, by omega, ?_⟩
            rw [take9 HX.out, List.map_append, List.map_append, show [x].map Rd.Rule.left = [x.left] from rfl, Nm.varsOf_snoc, HVK.out, show Nm.addN VK x.left = VK ++ [x.left] from by unfold Nm.addN; rw [if_neg HPM.out], ← List.cons_append, HCK.out]
            exact HM.out
          case measure => simp [intOf]; omega
      · obtain rfl : n4 = k := by omega
        have hfull : G.rules.take n4 = G.rules := by rw [← HE4.out, List.take_length]
        rw [hfull] at hpk
        obtain ⟨VG, hVG⟩ : ∃ V, Nm.varsOf (G.rules.map Rd.Rule.left) = V := ⟨_, rfl⟩
        obtain ⟨CG, hCG⟩ : ∃ V, [] :: G.rules.map Rd.Rule.action = V := ⟨_, rfl⟩
        rw [hVG, hCG] at hpk
        have HVG := Lib.hid (show Nm.vars G = VG from hVG)
        have HCG := Lib.hid hCG
        have hvl : VG.length = nV := by have := hpk.vr.1; simp [namesV] at this; omega
        have HVL := Lib.hid hvl
        have HPK := Lib.hid hpk
        have HNV := Lib.hid hnv
        clear hfull hVG hCG hvl hpk hlt hk
        go_wp2_with fail
        clear x4 hgl0 p1 hgl1
        go_loopw [8] (fun i wr => ∃ (k : Nat) (aT : Option Addr) (sT : Nat) (aL : Option Addr) (sL : Nat), k ≤ n1 ∧ i = .int .i64 (k : Int) ∧ (∀ y ∈ G.toks.take k, Nm.wrongTok G y = false) ∧ Pk gb w2 gp (.slice aT (k + 1) sT) (k + 1) (Nm.endN :: (G.toks.take k).map Rd.Tok.name) (.slice aV nV sV) nV VG (.slice none 0 0) 0 [] (.slice aL (k + 1) sL) (k + 1) ((Nm.endN :: (G.toks.take k).map Rd.Tok.name).map (Nm.level G)) (.slice (some ⟨ga, 0, none⟩) 1 1) 1 [0] (.slice aC (n4 + 1) sC) (n4 + 1) CG wr) (fun i _ => n1 - (intOf i).toNat)
        case atStart => exact ⟨0, some ⟨gb, 0, none⟩, 1, some ⟨gl, 0, none⟩, 1, by omega, rfl, by simp, by
          rw [show (Nm.endN :: (G.toks.take 0).map Rd.Tok.name).map (Nm.level G) = [0] by rw [List.take_zero]; show [Nm.level G Nm.endN] = _; rw [Nm.level_end HRI.out]]
          exact HPK.out⟩
        case round =>
          clear HPK hnv
          obtain ⟨k, aT, sT, aL, sL, hk, rfl, hno, hpk⟩ := hrel
          have HNO := Lib.hid hno
          have HPK := Lib.hid hpk
          have x0 := (HGG2.out.below hpk.bel hg0b).cell 0
          have hgl0 := (HGG2.out.below hpk.bel hg0b).lt
          have p1 := hpk.at_.cell 1
          have hgl1 := hpk.at_.lt
          simp only [List.getElem?_toArray, List.getElem?_cons_zero, List.getElem?_cons_succ] at x0 p1
          by_cases hlt : k < n1
          · obtain ⟨x, hx⟩ := some_get (l := G.toks) (i := k) (by rw [HE1.out]; exact hlt)
            obtain ⟨b, o, hA, hbl, y0, _, _, _⟩ := tok_get HK1.out hx
            subst hA
            have hbw := HB2.out.trans (hpk.bel.mono hgbw)
            obtain ⟨TK, hTK⟩ : ∃ V, Nm.endN :: (G.toks.take k).map Rd.Tok.name = V := ⟨_, rfl⟩
            rw [hTK] at hpk
            have HPL := Lib.hid (fun q => rplace_any VG x.name aV sV _ (wr.drewN q) (((Lie.own hpk.vr).cl).below (below_drewN (Below.refl _ _) q)) (by rw [HVL.out]; have := HNV.out; omega))
            rw [HVL.out] at HPL
            obtain ⟨X0, hX0⟩ : ∃ X, str x.name = X := ⟨_, rfl⟩
            rw [hX0] at y0 HPL
            have HX := Lib.hid hx
            have HTK := Lib.hid hTK
            have HX0 := Lib.hid hX0
            have HY0 := Lib.hid y0
            have HBW := Lib.hid hbw
            have z0 := (hbw.cell (p := ⟨b, o + k * 4, none⟩) hbl).trans y0
            have hblr : b < wr.heap.size := Nat.lt_of_lt_of_le hbl hbw.size
            have hki : (k : Int) < (n1 : Int) := by omega
            have hk0 : (0 : Int) ≤ (k : Int) := by omega
            have hpge : -1 ≤ Nm.place VG x.name := Nm.find_ge _
            have HPK2 := Lib.hid hpk
            clear hx hTK hX0 y0 hbw hpk HPK hno
            by_cases hpl : 0 ≤ Nm.place VG x.name
            · have HOF := Lib.hid (show Nm.ofG G = (Nm.empty, 15, x.name) from by
                have hw := Nm.wrong_tok HX.out (by unfold Nm.wrongTok; rw [HVG.out, decide_eq_true hpl]) HNO.out
                have := ofG_wrong HRB.out (by rw [hw]; show (15 : Nat) ≠ 0; decide)
                rw [hw] at this; exact this)
              generalize Nm.place VG x.name = PL at HPL hpl hpge
              go_wp2_with fail
              go_quiet (first | (go_at_call 66; refine quiet_texts (HPL.out _)))
              go_upto_region 15 with (fail)
              generalize hWP : wr.drewN _ = WP
              have hbq : Below wr.heap.size wr WP := hWP ▸ below_drewN (Below.refl _ _) _
              clear hWP x0 hgl0 p1 hgl1 z0 hblr
              have hpkn := HPK2.out.below hbq
              have hgr := HGR2.out.below hpkn.bel hg1b
              have HGRN := Lib.hid hgr
              have HBN := Lib.hid (HBW.out.trans (hbq.mono HBW.out.size))
              have x0 := (HGG2.out.below hpkn.bel hg0b).cell 0
              have r0 := hgr.cell 0
              have r1 := hgr.cell 1
              have r2 := hgr.cell 2
              have r3 := hgr.cell 3
              have r4 := hgr.cell 4
              have r5 := hgr.cell 5
              have rf := hgr.frozen
              have hlr := hgr.lt
              simp only [List.getElem?_toArray, List.getElem?_cons_zero, List.getElem?_cons_succ] at x0 r0 r1 r2 r3 r4 r5
              have z0 := (HBN.out.cell (p := ⟨b, o + k * 4, none⟩) hbl).trans HY0.out
              have hg01 : g0 < g1 := by have := HG.out.2; omega
              have hbg1 : b < g1 := by have := HG.out; omega
              have hz0 : Below g1 WP WP.drew := below_drew (Below.refl _ _)
              clear hpkn hgr
              refine Zed.begin_ (fun w' => Below g1 WP w') [] (by kernel_rfl) ?_
              refine Zd.pureD (i := 0) (d := some 82) (v := ?ve0) rfl rfl (by kernel_rfl) (by kernel_rfl) (by kernel_rfl) (by kernel_rfl) (by kernel_rfl) (fun _ _ _ h => h) (Or.inl ⟨by kernel_rfl, ?hye0⟩) (.inr hz0) ?reste0
              case hye0 => (intro w _; go_simp; try with_reducible rfl)
              try simp only [Act.put, List.setIfInBounds_toArray, List.set_cons_zero, List.set_cons_succ]
              refine Zd.pureD (i := 1) (d := some 83) (v := ?ve1) rfl rfl (by kernel_rfl) (by kernel_rfl) (by kernel_rfl) (by kernel_rfl) (by kernel_rfl) (fun _ _ _ h => h) (Or.inl ⟨by kernel_rfl, ?hye1⟩) (.inr hz0) ?reste1
              case hye1 => (intro w _; go_simp; try with_reducible rfl)
              try simp only [Act.put, List.setIfInBounds_toArray, List.set_cons_zero, List.set_cons_succ]
              refine Zd.takeD (i := 2) (d := some 84) (v := ?ve2) rfl rfl (by kernel_rfl) (by kernel_rfl) (by kernel_rfl) (by kernel_rfl) (by kernel_rfl) (fun _ _ _ h => h) (Or.inl ⟨by kernel_rfl, ?hye2⟩) hz0 ?reste2
              case hye2 => (intro w hSw; (try dsimp only at hSw); have hc := (hSw.cell (p := ⟨g0, 0, none⟩) hg01).trans x0; go_simp; try with_reducible rfl)
              try simp only [Act.put, List.setIfInBounds_toArray, List.set_cons_zero, List.set_cons_succ]
              refine Zd.pureD (i := 3) (d := some 85) (v := ?ve3) rfl rfl (by kernel_rfl) (by kernel_rfl) (by kernel_rfl) (by kernel_rfl) (by kernel_rfl) (fun _ _ _ h => h) (Or.inl ⟨by kernel_rfl, ?hye3⟩) (.inr hz0) ?reste3
              case hye3 => (intro w _; go_simp; try with_reducible rfl)
              try simp only [Act.put, List.setIfInBounds_toArray, List.set_cons_zero, List.set_cons_succ]
              refine Zd.pureD (i := 4) (d := some 86) (v := ?ve4) rfl rfl (by kernel_rfl) (by kernel_rfl) (by kernel_rfl) (by kernel_rfl) (by kernel_rfl) (fun _ _ _ h => h) (Or.inl ⟨by kernel_rfl, ?hye4⟩) (.inr hz0) ?reste4
              case hye4 => (intro w _; go_simp; try with_reducible rfl)
              try simp only [Act.put, List.setIfInBounds_toArray, List.set_cons_zero, List.set_cons_succ]
              refine Zd.pureD (i := 5) (d := some 87) (v := ?ve5) rfl rfl (by kernel_rfl) (by kernel_rfl) (by kernel_rfl) (by kernel_rfl) (by kernel_rfl) (fun _ _ _ h => h) (Or.inl ⟨by kernel_rfl, ?hye5⟩) (.inr hz0) ?reste5
              case hye5 => (intro w _; go_simp; try with_reducible rfl)
              try simp only [Act.put, List.setIfInBounds_toArray, List.set_cons_zero, List.set_cons_succ]
              refine Zd.takeD (i := 6) (d := some 88) (v := ?ve6) rfl rfl (by kernel_rfl) (by kernel_rfl) (by kernel_rfl) (by kernel_rfl) (by kernel_rfl) (fun _ _ _ h => h) (Or.inl ⟨by kernel_rfl, ?hye6⟩) hz0 ?reste6
              case hye6 => (intro w hSw; (try dsimp only at hSw); have hc := (hSw.cell (p := ⟨b, o + k * 4, none⟩) hbg1).trans z0; go_simp; try with_reducible rfl)
              try simp only [Act.put, List.setIfInBounds_toArray, List.set_cons_zero, List.set_cons_succ]
              refine Zed.one (i := 7) (by kernel_rfl) rfl (fun K hK => ?_)
              go_simp
              have hz1 := below_drew (below_grown (Below.refl g1 WP) (grown_six WP g1 (.slice none 0 0) (.slice none 0 0) (.slice none 0 0) (.slice none 0 0) (.slice none 0 0) (.slice none 0 0)) (Nat.le_of_lt hlr) (Nat.le_refl _))
              refine hK.out _ _ (.inr hz1) ?_
              clear hK K
              try simp only [Act.put, List.setIfInBounds_toArray, List.set_cons_zero, List.set_cons_succ]
              refine Zd.pureD (i := 8) (d := some 3) (v := ?ve8) rfl rfl (by kernel_rfl) (by kernel_rfl) (by kernel_rfl) (by kernel_rfl) (by kernel_rfl) (fun _ _ _ h => h) (Or.inl ⟨by kernel_rfl, ?hye8⟩) (.inr hz1) ?reste8
              case hye8 => (intro w _; go_simp; try with_reducible rfl)
              try simp only [Act.put, List.setIfInBounds_toArray, List.set_cons_zero, List.set_cons_succ]
              refine Zd.pureD (i := 9) (d := some 4) (v := ?ve9) rfl rfl (by kernel_rfl) (by kernel_rfl) (by kernel_rfl) (by kernel_rfl) (by kernel_rfl) (fun _ _ _ h => h) (Or.inl ⟨by kernel_rfl, ?hye9⟩) (.inr hz1) ?reste9
              case hye9 => (intro w _; go_simp; try with_reducible rfl)
              try simp only [Act.put, List.setIfInBounds_toArray, List.set_cons_zero, List.set_cons_succ]
              refine Zed.all (by kernel_rfl) ?_ _
              go_wp2_with fail
              refine bodyPost_ret (results_cell2 rfl _ _ _ _ rfl rfl g1 _ _ _ rfl (HGRN.out.six _ _ _ _ _ _).drew Tryz.underlying34 rfl Tryz.sizePlan) rfl ⟨⟨.agg #[.slice none 0 0, .slice none 0 0, .slice none 0 0, .slice none 0 0, .slice none 0 0, .slice none 0 0], ?_, ?_⟩, below_drew (below_grown HBN.out (grown_six _ _ _ _ _ _ _ _) HBN.out.size (by have := HG.out; omega))⟩
              · rw [HOF.out, HX0.out]; rfl
              · rw [HOF.out]; exact PlanL.empty _
            · have HWT := Lib.hid (show Nm.wrongTok G x = false by unfold Nm.wrongTok; rw [HVG.out, decide_eq_false hpl])
              generalize Nm.place VG x.name = PL at HPL hpl hpge
              go_wp2_with fail
              go_quiet (first | (go_at_call 66; refine quiet_texts (HPL.out _)))
              go_upto_region 16 with (fail)
              generalize hWP : wr.drewN _ = WP
              have hbq : Below wr.heap.size wr WP := hWP ▸ below_drewN (Below.refl _ _) _
              clear hWP x0 hgl0 p1 hgl1 z0 hblr
              have hpkn := HPK2.out.below hbq
              have HPKN := Lib.hid hpkn
              have hbwn := HBW.out.trans (hbq.mono HBW.out.size)
              have x0 := (HGG2.out.below hpkn.bel hg0b).cell 0
              have hgl0 := (HGG2.out.below hpkn.bel hg0b).lt
              have p0 := hpkn.at_.cell 0
              have hgl1 := hpkn.at_.lt
              simp only [List.getElem?_toArray, List.getElem?_cons_zero, List.getElem?_cons_succ] at x0 p0
              have hblr : b < WP.heap.size := Nat.lt_of_lt_of_le hbl hbwn.size
              have z0 := (hbwn.cell (p := ⟨b, o + k * 4, none⟩) hbl).trans HY0.out
              clear hpkn hbwn
              have hc3 : k + 1 + 1 ≤ maxLen := by unfold maxLen; omega
              have hc4 : (k + 1 + 1) * 16 ≤ 140737488355328 := by omega
              have hz0 : Below WP.heap.size WP WP.drew := below_drew (Below.refl _ _)
              refine Zed.begin_ (fun w' => Below WP.heap.size WP w') [9, 11] (by kernel_rfl) ?_
              refine Zed.pure (i := 0) (v := ?vd0) rfl (by kernel_rfl) (by kernel_rfl) (by kernel_rfl) (by kernel_rfl) (by kernel_rfl) (fun _ _ _ h => h) (Or.inl ⟨by rfl, ?hyd0⟩) (.inr hz0) ?restd0
              case hyd0 => (intro w _; go_simp; try with_reducible rfl)
              try simp only [Act.put, List.setIfInBounds_toArray, List.set_cons_zero, List.set_cons_succ]
              refine Zed.take (i := 1) (v := ?vd1) rfl (by kernel_rfl) (by kernel_rfl) (by kernel_rfl) (by kernel_rfl) (by kernel_rfl) (fun _ _ _ h => h) (Or.inl ⟨by rfl, ?hyd1⟩) hz0 ?restd1
              case hyd1 => (intro w hSw; (try dsimp only at hSw); have hc := (hSw.cell (p := ⟨gp, 0, none⟩) hgl1).trans p0; go_simp; try with_reducible rfl)
              try simp only [Act.put, List.setIfInBounds_toArray, List.set_cons_zero, List.set_cons_succ]
              refine Zed.pure (i := 2) (v := ?vd2) rfl (by kernel_rfl) (by kernel_rfl) (by kernel_rfl) (by kernel_rfl) (by kernel_rfl) (fun _ _ _ h => h) (Or.inl ⟨by rfl, ?hyd2⟩) (.inr hz0) ?restd2
              case hyd2 => (intro w _; go_simp; try with_reducible rfl)
              try simp only [Act.put, List.setIfInBounds_toArray, List.set_cons_zero, List.set_cons_succ]
              refine Zed.take (i := 3) (v := ?vd3) rfl (by kernel_rfl) (by kernel_rfl) (by kernel_rfl) (by kernel_rfl) (by kernel_rfl) (fun _ _ _ h => h) (Or.inl ⟨by rfl, ?hyd3⟩) hz0 ?restd3
              case hyd3 => (intro w hSw; (try dsimp only at hSw); have hc := (hSw.cell (p := ⟨g0, 0, none⟩) hgl0).trans x0; go_simp; try with_reducible rfl)
              try simp only [Act.put, List.setIfInBounds_toArray, List.set_cons_zero, List.set_cons_succ]
              refine Zed.pure (i := 4) (v := ?vd4) rfl (by kernel_rfl) (by kernel_rfl) (by kernel_rfl) (by kernel_rfl) (by kernel_rfl) (fun _ _ _ h => h) (Or.inl ⟨by rfl, ?hyd4⟩) (.inr hz0) ?restd4
              case hyd4 => (intro w _; go_simp; try with_reducible rfl)
              try simp only [Act.put, List.setIfInBounds_toArray, List.set_cons_zero, List.set_cons_succ]
              refine Zed.pure (i := 5) (v := ?vd5) rfl (by kernel_rfl) (by kernel_rfl) (by kernel_rfl) (by kernel_rfl) (by kernel_rfl) (fun _ _ _ h => h) (Or.inl ⟨by rfl, ?hyd5⟩) (.inr hz0) ?restd5
              case hyd5 => (intro w _; go_simp; try with_reducible rfl)
              try simp only [Act.put, List.setIfInBounds_toArray, List.set_cons_zero, List.set_cons_succ]
              refine Zed.pure (i := 6) (v := ?vd6) rfl (by kernel_rfl) (by kernel_rfl) (by kernel_rfl) (by kernel_rfl) (by kernel_rfl) (fun _ _ _ h => h) (Or.inl ⟨by rfl, ?hyd6⟩) (.inr hz0) ?restd6
              case hyd6 => (intro w _; go_simp; try with_reducible rfl)
              try simp only [Act.put, List.setIfInBounds_toArray, List.set_cons_zero, List.set_cons_succ]
              refine Zed.take (i := 7) (v := ?vd7) rfl (by kernel_rfl) (by kernel_rfl) (by kernel_rfl) (by kernel_rfl) (by kernel_rfl) (fun _ _ _ h => h) (Or.inl ⟨by rfl, ?hyd7⟩) hz0 ?restd7
              case hyd7 => (intro w hSw; (try dsimp only at hSw); have hc := (hSw.cell (p := ⟨b, o + k * 4, none⟩) hblr).trans z0; go_simp; try with_reducible rfl)
              try simp only [Act.put, List.setIfInBounds_toArray, List.set_cons_zero, List.set_cons_succ]
              refine Zed.one (i := 8) (by kernel_rfl) rfl (fun K hK => ?_)
              go_simp
              have hz1 := hz0.alloc hz0.size (.cells #[.string X0] 9)
              refine hK.out _ _ (.inr hz1) ?_
              clear hK K
              try simp only [Act.put, List.setIfInBounds_toArray, List.set_cons_zero, List.set_cons_succ]
              refine Zed.one (i := 9) (by kernel_rfl) rfl (fun K hK => ?_)
              refine step_append_own2 rfl _ _ 30 rfl gb 9 iS _ 1 16 Tryz.underlying30 hiS hS0 hS1 hS2 rfl (by decide) _ _ _ rfl (HPKN.out.drew.alloc (.cells #[.string X0] 9)).tr ⟨WP.heap.size, 0, none⟩ 1 1 [.string X0] rfl rfl (cells_new _ _ _) (by simp [Value.oneCell']) hc3 hc4 (HPKN.out.drew.alloc (.cells #[.string X0] 9)).size ?_
              intro v' w5 hown5 hg5 hn5
              obtain ⟨a5, s5, rfl⟩ := own_form hown5
              have hA5 := (HPKN.out.drew.alloc (.cells #[.string X0] 9)).at_.grown hg5 (fun e => own_apart (HPKN.out.drew.alloc (.cells #[.string X0] 9)).tr (HPKN.out.drew.alloc (.cells #[.string X0] 9)).at_ (by decide) e.symm)
              have r0 := hA5.cell 0
              have rf := hA5.frozen
              simp only [List.getElem?_toArray, List.getElem?_cons_zero, List.getElem?_cons_succ] at r0
              refine hK.out _ _ (.inl (by kernel_rfl)) ?_
              clear hK K
              try simp only [Act.put, List.setIfInBounds_toArray, List.set_cons_zero, List.set_cons_succ]
              refine Zed.pure (i := 10) (v := ?vd10) rfl (by kernel_rfl) (by kernel_rfl) (by kernel_rfl) (by kernel_rfl) (by kernel_rfl) (fun _ _ _ h => h) (Or.inl ⟨by rfl, ?hyd10⟩) (.inl (by kernel_rfl)) ?restd10
              case hyd10 => (intro w _; go_simp; try with_reducible rfl)
              try simp only [Act.put, List.setIfInBounds_toArray, List.set_cons_zero, List.set_cons_succ]
              refine Zed.one (i := 11) (by kernel_rfl) rfl (fun K hK => ?_)
              go_simp
              refine hK.out _ _ (.inl (by kernel_rfl)) ?_
              clear hK K
              try simp only [Act.put, List.setIfInBounds_toArray, List.set_cons_zero, List.set_cons_succ]
              refine Zed.all (by kernel_rfl) ?_ _
              have HM := Lib.hid (Pk.putT (HPKN.out.drew.alloc (.cells #[.string X0] 9)) (X' := TK ++ [x.name]) (show w5.ownsRow gb 9 1 (.slice a5 (k + 1 + 1) s5) (k + 1 + 1) (namesV (TK ++ [x.name])) by
                have e : namesV (TK ++ [x.name]) = namesV TK ++ [.string X0] := by unfold namesV; rw [List.map_append, ← HX0.out]; rfl
                rw [e]; exact hown5) hg5 hn5)
              clear hown5 hg5 hn5 hA5 r0 rf hz0 hz1
              have HT := HM
              clear HM
              obtain ⟨a6, ha6⟩ : ∃ a, a5 = a := ⟨_, rfl⟩
              obtain ⟨s6, hs6⟩ : ∃ s, s5 = s := ⟨_, rfl⟩
              obtain ⟨W9, hW9⟩ : ∃ W, w5.setCell ⟨gp, 0, none⟩ (.slice a5 (k + 1 + 1) s5) = W := ⟨_, rfl⟩
              rw [hW9] at HT ⊢
              rw [ha6, hs6] at HT ⊢
              clear hW9 ha6 hs6 x0 hgl0 p0 hgl1 z0 hblr
              go_upto_region 17 with (fail)
              have hpkn := HT.out
              have HPKN := Lib.hid hpkn
              have hbwn := HB2.out.trans (HT.out.bel.mono hgbw)
              have HBN := Lib.hid hbwn
              have x0 := (HGG2.out.below hpkn.bel hg0b).cell 0
              have x1 := (HGG2.out.below hpkn.bel hg0b).cell 1
              have x2 := (HGG2.out.below hpkn.bel hg0b).cell 2
              have x3 := (HGG2.out.below hpkn.bel hg0b).cell 3
              have x4 := (HGG2.out.below hpkn.bel hg0b).cell 4
              have hgl0 := (HGG2.out.below hpkn.bel hg0b).lt
              have p3 := hpkn.at_.cell 3
              have hgl1 := hpkn.at_.lt
              simp only [List.getElem?_toArray, List.getElem?_cons_zero, List.getElem?_cons_succ] at x0 x1 x2 x3 x4 p3
              have hblr : b < W9.heap.size := Nat.lt_of_lt_of_le hbl hbwn.size
              have z0 := (hbwn.cell (p := ⟨b, o + k * 4, none⟩) hbl).trans HY0.out
              have hz0 : Below W9.heap.size W9 W9.drew := below_drew (Below.refl _ _)
              have hcall := rlevel_any _ G x.name w.heap.size W9.drew (HGC.out.below (below_drew HBN.out)) (below_drew HBN.out).size (by have := HRI.out.nlev; omega) (fun v hv => (HSZ.out.lev v hv).1)
              rw [HX0.out] at hcall
              have HCALL := Lib.hid hcall
              clear hpkn hbwn hcall
              refine Zed.begin_ (fun w' => Below W9.heap.size W9 w') [11, 13] (by kernel_rfl) ?_
              refine Zd.pureD (i := 0) (d := some 100) (v := ?vf0) rfl rfl (by kernel_rfl) (by kernel_rfl) (by kernel_rfl) (by kernel_rfl) (by kernel_rfl) (fun _ _ _ h => h) (Or.inl ⟨by kernel_rfl, ?hyf0⟩) (.inr hz0) ?restf0
              case hyf0 => (intro w _; go_simp; try with_reducible rfl)
              try simp only [Act.put, List.setIfInBounds_toArray, List.set_cons_zero, List.set_cons_succ]
              refine Zd.takeD (i := 1) (d := some 101) (v := ?vf1) rfl rfl (by kernel_rfl) (by kernel_rfl) (by kernel_rfl) (by kernel_rfl) (by kernel_rfl) (fun _ _ _ h => h) (Or.inl ⟨by kernel_rfl, ?hyf1⟩) hz0 ?restf1
              case hyf1 => (intro w hSw; (try dsimp only at hSw); have hc := (hSw.cell (p := ⟨gp, 3, none⟩) hgl1).trans p3; go_simp; try with_reducible rfl)
              try simp only [Act.put, List.setIfInBounds_toArray, List.set_cons_zero, List.set_cons_succ]
              refine Zd.takeD (i := 2) (d := some 102) (v := ?vf2) rfl rfl (by kernel_rfl) (by kernel_rfl) (by kernel_rfl) (by kernel_rfl) (by kernel_rfl) (fun _ _ _ h => h) (Or.inl ⟨by kernel_rfl, ?hyf2⟩) hz0 ?restf2
              case hyf2 => (intro w hSw; (try dsimp only at hSw); have hc0 := (hSw.cell (p := ⟨g0, 0, none⟩) hgl0).trans x0; have hc1 := (hSw.cell (p := ⟨g0, 1, none⟩) hgl0).trans x1; have hc2 := (hSw.cell (p := ⟨g0, 2, none⟩) hgl0).trans x2; have hc3 := (hSw.cell (p := ⟨g0, 3, none⟩) hgl0).trans x3; have hc4 := (hSw.cell (p := ⟨g0, 4, none⟩) hgl0).trans x4; go_simp; try with_reducible rfl)
              try simp only [Act.put, List.setIfInBounds_toArray, List.set_cons_zero, List.set_cons_succ]
              refine Zd.pureD (i := 3) (d := some 103) (v := ?vf3) rfl rfl (by kernel_rfl) (by kernel_rfl) (by kernel_rfl) (by kernel_rfl) (by kernel_rfl) (fun _ _ _ h => h) (Or.inl ⟨by kernel_rfl, ?hyf3⟩) (.inr hz0) ?restf3
              case hyf3 => (intro w _; go_simp; try with_reducible rfl)
              try simp only [Act.put, List.setIfInBounds_toArray, List.set_cons_zero, List.set_cons_succ]
              refine Zd.takeD (i := 4) (d := some 104) (v := ?vf4) rfl rfl (by kernel_rfl) (by kernel_rfl) (by kernel_rfl) (by kernel_rfl) (by kernel_rfl) (fun _ _ _ h => h) (Or.inl ⟨by kernel_rfl, ?hyf4⟩) hz0 ?restf4
              case hyf4 => (intro w hSw; (try dsimp only at hSw); have hc := (hSw.cell (p := ⟨g0, 0, none⟩) hgl0).trans x0; go_simp; try with_reducible rfl)
              try simp only [Act.put, List.setIfInBounds_toArray, List.set_cons_zero, List.set_cons_succ]
              refine Zd.pureD (i := 5) (d := some 105) (v := ?vf5) rfl rfl (by kernel_rfl) (by kernel_rfl) (by kernel_rfl) (by kernel_rfl) (by kernel_rfl) (fun _ _ _ h => h) (Or.inl ⟨by kernel_rfl, ?hyf5⟩) (.inr hz0) ?restf5
              case hyf5 => (intro w _; go_simp; try with_reducible rfl)
              try simp only [Act.put, List.setIfInBounds_toArray, List.set_cons_zero, List.set_cons_succ]
              refine Zd.pureD (i := 6) (d := some 106) (v := ?vf6) rfl rfl (by kernel_rfl) (by kernel_rfl) (by kernel_rfl) (by kernel_rfl) (by kernel_rfl) (fun _ _ _ h => h) (Or.inl ⟨by kernel_rfl, ?hyf6⟩) (.inr hz0) ?restf6
              case hyf6 => (intro w _; go_simp; try with_reducible rfl)
              try simp only [Act.put, List.setIfInBounds_toArray, List.set_cons_zero, List.set_cons_succ]
              refine Zd.pureD (i := 7) (d := some 107) (v := ?vf7) rfl rfl (by kernel_rfl) (by kernel_rfl) (by kernel_rfl) (by kernel_rfl) (by kernel_rfl) (fun _ _ _ h => h) (Or.inl ⟨by kernel_rfl, ?hyf7⟩) (.inr hz0) ?restf7
              case hyf7 => (intro w _; go_simp; try with_reducible rfl)
              try simp only [Act.put, List.setIfInBounds_toArray, List.set_cons_zero, List.set_cons_succ]
              refine Zd.takeD (i := 8) (d := some 108) (v := ?vf8) rfl rfl (by kernel_rfl) (by kernel_rfl) (by kernel_rfl) (by kernel_rfl) (by kernel_rfl) (fun _ _ _ h => h) (Or.inl ⟨by kernel_rfl, ?hyf8⟩) hz0 ?restf8
              case hyf8 => (intro w hSw; (try dsimp only at hSw); have hc := (hSw.cell (p := ⟨b, o + k * 4, none⟩) hblr).trans z0; go_simp; try with_reducible rfl)
              try simp only [Act.put, List.setIfInBounds_toArray, List.set_cons_zero, List.set_cons_succ]
              refine Zd.call (i := 9) (d := some 109) (by kernel_rfl) rfl rfl (by kernel_rfl) (by kernel_rfl) HCALL.out ?_
              clear HCALL
              rintro e wz ⟨rfl, hbz⟩
              have hz1 := hz0.trans (hbz.mono hz0.size)
              obtain ⟨LV, hLV⟩ : ∃ l, Nm.level G x.name = l := ⟨_, rfl⟩
              rw [hLV]
              have HLV := Lib.hid hLV
              clear hLV hbz
              have HPKZ := Lib.hid (HPKN.out.below hz1)
              refine ⟨_, rfl, hz1, ?_⟩
              try simp only [Act.put, List.setIfInBounds_toArray, List.set_cons_zero, List.set_cons_succ]
              have hz2 := hz1.alloc hz1.size (.cells #[.int .i64 LV] 3)
              refine Zed.one (i := 10) (by kernel_rfl) rfl (fun K hK => ?_)
              go_simp
              refine hK.out _ _ (.inr hz2) ?_
              clear hK K
              try simp only [Act.put, List.setIfInBounds_toArray, List.set_cons_zero, List.set_cons_succ]
              have hc5 : k + 1 + 1 ≤ maxLen := by unfold maxLen; omega
              have hc6 : (k + 1 + 1) * 8 ≤ 140737488355328 := by omega
              refine Zed.one (i := 11) (by kernel_rfl) rfl (fun K hK => ?_)
              refine step_append_own2 rfl _ _ 32 rfl gb 3 iI _ 1 8 Tryz.underlying32 hiI hI0 hI1 hI2 rfl (by decide) _ _ _ rfl (HPKZ.out.alloc (.cells #[.int .i64 LV] 3)).lr ⟨wz.heap.size, 0, none⟩ 1 1 [.int .i64 LV] rfl rfl (cells_new _ _ _) (by simp [Value.oneCell']) hc5 hc6 (HPKZ.out.alloc (.cells #[.int .i64 LV] 3)).size ?_
              intro v' w5 hown5 hg5 hn5
              obtain ⟨a5, s5, rfl⟩ := own_form hown5
              have hA5 := (HPKZ.out.alloc (.cells #[.int .i64 LV] 3)).at_.grown hg5 (fun e => own_apart (HPKZ.out.alloc (.cells #[.int .i64 LV] 3)).lr (HPKZ.out.alloc (.cells #[.int .i64 LV] 3)).at_ (by decide) e.symm)
              have r3 := hA5.cell 3
              have rf := hA5.frozen
              simp only [List.getElem?_toArray, List.getElem?_cons_zero, List.getElem?_cons_succ] at r3
              refine hK.out _ _ (.inl (by kernel_rfl)) ?_
              clear hK K
              try simp only [Act.put, List.setIfInBounds_toArray, List.set_cons_zero, List.set_cons_succ]
              refine Zd.pureD (i := 12) (d := some 112) (v := ?vf12) rfl rfl (by kernel_rfl) (by kernel_rfl) (by kernel_rfl) (by kernel_rfl) (by kernel_rfl) (fun _ _ _ h => h) (Or.inl ⟨by kernel_rfl, ?hyf12⟩) (.inl (by kernel_rfl)) ?restf12
              case hyf12 => (intro w _; go_simp; try with_reducible rfl)
              try simp only [Act.put, List.setIfInBounds_toArray, List.set_cons_zero, List.set_cons_succ]
              refine Zed.one (i := 13) (by kernel_rfl) rfl (fun K hK => ?_)
              go_simp
              refine hK.out _ _ (.inl (by kernel_rfl)) ?_
              clear hK K
              try simp only [Act.put, List.setIfInBounds_toArray, List.set_cons_zero, List.set_cons_succ]
              refine Zed.all (by kernel_rfl) ?_ _
              have HM := Lib.hid (Pk.putL (HPKZ.out.alloc (.cells #[.int .i64 LV] 3)) (Y' := (TK ++ [x.name]).map (Nm.level G)) (show w5.ownsRow gb 3 1 (.slice a5 (k + 1 + 1) s5) (k + 1 + 1) (vals ((TK ++ [x.name]).map (Nm.level G))) by
                rw [List.map_append, vals_append, show [x.name].map (Nm.level G) = [Nm.level G x.name] from rfl, HLV.out]
                exact hown5) hg5 hn5)
              clear hown5 hg5 hn5 hA5 r3 rf hz0 hz1 hz2
              go_wp2_with fail
              go_roundw
              case rel =>
                refine ⟨k + 1, a6, s6, a5, s5, by omega, by go_num, none_take HX.out HNO.out HWT.out, ?_⟩
                rw [take9 HX.out, List.map_append, show [x].map Rd.Tok.name = [x.name] from rfl, ← List.cons_append, HTK.out]
                exact HM.out
              case measure => simp [intOf]; omega
          · obtain rfl : n1 = k := by omega
            have hfull : G.toks.take n1 = G.toks := by rw [← HE1.out, List.take_length]
            rw [hfull] at hpk hno
            obtain ⟨TG, hTG⟩ : ∃ T, Nm.terms G = T := ⟨_, rfl⟩
            obtain ⟨LG, hLG⟩ : ∃ T, Nm.levelsG G = T := ⟨_, rfl⟩
            rw [show Nm.endN :: G.toks.map Rd.Tok.name = TG from hTG] at hpk
            rw [show TG.map (Nm.level G) = LG from by rw [← hTG, ← hLG]; rfl] at hpk
            have HTG := Lib.hid hTG
            have HLG := Lib.hid hLG
            have HNO := Lib.hid hno
            have htl : TG.length = n1 + 1 := by have := hpk.tr.1; simp [namesV] at this; omega
            have hll : LG.length = n1 + 1 := by have := hpk.lr.1; rw [vals_length] at this; omega
            have HTL := Lib.hid htl
            have HLL := Lib.hid hll
            have HLA := Lib.hid (gramC_levsA HGC.out (fun x hx => (Nm.lev_ok HRI.out x hx).1))
            have b3 : n3 ≤ 1000 := by have := HRI.out.nlev; have := HE3.out; omega
            have HPK := Lib.hid hpk
            clear hfull hTG hLG htl hll hpk hno hlt hk
            go_wp2_with fail
            clear x0 hgl0 p1 hgl1
            go_loopw [9] (fun i wr => ∃ (k : Nat) (aA : Option Addr) (sA : Nat), k ≤ n3 ∧ i = .int .i64 (k : Int) ∧ Pk gb w2 gp (.slice aT (n1 + 1) sT) (n1 + 1) TG (.slice aV nV sV) nV VG (.slice none 0 0) 0 [] (.slice aL (n1 + 1) sL) (n1 + 1) LG (.slice aA (k + 1) sA) (k + 1) (0 :: (G.levels.take k).map (fun v => (v.assoc : Int))) (.slice aC (n4 + 1) sC) (n4 + 1) CG wr) (fun i _ => n3 - (intOf i).toNat)
            case atStart => exact ⟨0, some ⟨ga, 0, none⟩, 1, by omega, rfl, by rw [List.take_zero]; exact HPK.out⟩
            case round =>
              clear HPK
              obtain ⟨k, aA, sA, hk, rfl, hpk⟩ := hrel
              have HPK := Lib.hid hpk
              have x2 := (HGG2.out.below hpk.bel hg0b).cell 2
              have hgl0 := (HGG2.out.below hpk.bel hg0b).lt
              simp only [List.getElem?_toArray, List.getElem?_cons_zero, List.getElem?_cons_succ] at x2
              by_cases hlt : k < n3
              · obtain ⟨x, hx⟩ := some_get (l := G.levels) (i := k) (by rw [HE3.out]; exact hlt)
                obtain ⟨b, o, _, _, hA, hbl, y0, _, _⟩ := HLA.out.get hx
                subst hA
                have hbw := HB2.out.trans (hpk.bel.mono hgbw)
                obtain ⟨AK, hAK⟩ : ∃ V, 0 :: (G.levels.take k).map (fun v => (v.assoc : Int)) = V := ⟨_, rfl⟩
                rw [hAK] at hpk
                obtain ⟨XA, hXA⟩ : ∃ X : Int, (x.assoc : Int) = X := ⟨_, rfl⟩
                rw [hXA] at y0
                have HX := Lib.hid hx
                have HAK := Lib.hid hAK
                have HXA := Lib.hid hXA
                have HY0 := Lib.hid y0
                have HBW := Lib.hid hbw
                have hki : (k : Int) < (n3 : Int) := by omega
                have hk0 : (0 : Int) ≤ (k : Int) := by omega
                have HPK2 := Lib.hid hpk
                clear hx hAK hXA y0 hbw hpk HPK
                go_upto_region 21 with (fail)
                clear x2 hgl0
                have hpkn := HPK2.out
                have HPKN := Lib.hid hpkn
                have hbwn := HBW.out
                have x2 := (HGG2.out.below hpkn.bel hg0b).cell 2
                have hgl0 := (HGG2.out.below hpkn.bel hg0b).lt
                have p4 := hpkn.at_.cell 4
                have hgl1 := hpkn.at_.lt
                simp only [List.getElem?_toArray, List.getElem?_cons_zero, List.getElem?_cons_succ] at x2 p4
                have hblr : b < wr.heap.size := Nat.lt_of_lt_of_le hbl hbwn.size
                have z0 := (hbwn.cell (p := ⟨b, o + k * 2, none⟩) hbl).trans HY0.out
                clear hpkn hbwn
                have hc3 : k + 1 + 1 ≤ maxLen := by unfold maxLen; omega
                have hc4 : (k + 1 + 1) * 8 ≤ 140737488355328 := by omega
                have hz0 : Below wr.heap.size wr wr.drew := below_drew (Below.refl _ _)
                refine Zed.begin_ (fun w' => Below wr.heap.size wr w') [9, 11] (by kernel_rfl) ?_
                refine Zd.pureD (i := 0) (d := some 120) (v := ?vh0) rfl rfl (by kernel_rfl) (by kernel_rfl) (by kernel_rfl) (by kernel_rfl) (by kernel_rfl) (fun _ _ _ h => h) (Or.inl ⟨by kernel_rfl, ?hyh0⟩) (.inr hz0) ?resth0
                case hyh0 => (intro w _; go_simp; try with_reducible rfl)
                try simp only [Act.put, List.setIfInBounds_toArray, List.set_cons_zero, List.set_cons_succ]
                refine Zd.takeD (i := 1) (d := some 121) (v := ?vh1) rfl rfl (by kernel_rfl) (by kernel_rfl) (by kernel_rfl) (by kernel_rfl) (by kernel_rfl) (fun _ _ _ h => h) (Or.inl ⟨by kernel_rfl, ?hyh1⟩) hz0 ?resth1
                case hyh1 => (intro w hSw; (try dsimp only at hSw); have hc := (hSw.cell (p := ⟨gp, 4, none⟩) hgl1).trans p4; go_simp; try with_reducible rfl)
                try simp only [Act.put, List.setIfInBounds_toArray, List.set_cons_zero, List.set_cons_succ]
                refine Zd.pureD (i := 2) (d := some 122) (v := ?vh2) rfl rfl (by kernel_rfl) (by kernel_rfl) (by kernel_rfl) (by kernel_rfl) (by kernel_rfl) (fun _ _ _ h => h) (Or.inl ⟨by kernel_rfl, ?hyh2⟩) (.inr hz0) ?resth2
                case hyh2 => (intro w _; go_simp; try with_reducible rfl)
                try simp only [Act.put, List.setIfInBounds_toArray, List.set_cons_zero, List.set_cons_succ]
                refine Zd.takeD (i := 3) (d := some 123) (v := ?vh3) rfl rfl (by kernel_rfl) (by kernel_rfl) (by kernel_rfl) (by kernel_rfl) (by kernel_rfl) (fun _ _ _ h => h) (Or.inl ⟨by kernel_rfl, ?hyh3⟩) hz0 ?resth3
                case hyh3 => (intro w hSw; (try dsimp only at hSw); have hc := (hSw.cell (p := ⟨g0, 2, none⟩) hgl0).trans x2; go_simp; try with_reducible rfl)
                try simp only [Act.put, List.setIfInBounds_toArray, List.set_cons_zero, List.set_cons_succ]
                refine Zd.pureD (i := 4) (d := some 124) (v := ?vh4) rfl rfl (by kernel_rfl) (by kernel_rfl) (by kernel_rfl) (by kernel_rfl) (by kernel_rfl) (fun _ _ _ h => h) (Or.inl ⟨by kernel_rfl, ?hyh4⟩) (.inr hz0) ?resth4
                case hyh4 => (intro w _; go_simp; try with_reducible rfl)
                try simp only [Act.put, List.setIfInBounds_toArray, List.set_cons_zero, List.set_cons_succ]
                refine Zd.pureD (i := 5) (d := some 125) (v := ?vh5) rfl rfl (by kernel_rfl) (by kernel_rfl) (by kernel_rfl) (by kernel_rfl) (by kernel_rfl) (fun _ _ _ h => h) (Or.inl ⟨by kernel_rfl, ?hyh5⟩) (.inr hz0) ?resth5
                case hyh5 => (intro w _; go_simp; try with_reducible rfl)
                try simp only [Act.put, List.setIfInBounds_toArray, List.set_cons_zero, List.set_cons_succ]
                refine Zd.pureD (i := 6) (d := some 126) (v := ?vh6) rfl rfl (by kernel_rfl) (by kernel_rfl) (by kernel_rfl) (by kernel_rfl) (by kernel_rfl) (fun _ _ _ h => h) (Or.inl ⟨by kernel_rfl, ?hyh6⟩) (.inr hz0) ?resth6
                case hyh6 => (intro w _; go_simp; try with_reducible rfl)
                try simp only [Act.put, List.setIfInBounds_toArray, List.set_cons_zero, List.set_cons_succ]
                refine Zd.takeD (i := 7) (d := some 127) (v := ?vh7) rfl rfl (by kernel_rfl) (by kernel_rfl) (by kernel_rfl) (by kernel_rfl) (by kernel_rfl) (fun _ _ _ h => h) (Or.inl ⟨by kernel_rfl, ?hyh7⟩) hz0 ?resth7
                case hyh7 => (intro w hSw; (try dsimp only at hSw); have hc := (hSw.cell (p := ⟨b, o + k * 2, none⟩) hblr).trans z0; go_simp; try with_reducible rfl)
                try simp only [Act.put, List.setIfInBounds_toArray, List.set_cons_zero, List.set_cons_succ]
                refine Zed.one (i := 8) (by kernel_rfl) rfl (fun K hK => ?_)
                go_simp
                have hz1 := hz0.alloc hz0.size (.cells #[.int .i64 XA] 3)
                refine hK.out _ _ (.inr hz1) ?_
                clear hK K
                try simp only [Act.put, List.setIfInBounds_toArray, List.set_cons_zero, List.set_cons_succ]
                refine Zed.one (i := 9) (by kernel_rfl) rfl (fun K hK => ?_)
                refine step_append_own2 rfl _ _ 32 rfl gb 3 iI _ 1 8 Tryz.underlying32 hiI hI0 hI1 hI2 rfl (by decide) _ _ _ rfl (HPKN.out.drew.alloc (.cells #[.int .i64 XA] 3)).ar ⟨wr.heap.size, 0, none⟩ 1 1 [.int .i64 XA] rfl rfl (cells_new _ _ _) (by simp [Value.oneCell']) hc3 hc4 (HPKN.out.drew.alloc (.cells #[.int .i64 XA] 3)).size ?_
                intro v' w5 hown5 hg5 hn5
                obtain ⟨a5, s5, rfl⟩ := own_form hown5
                have hA5 := (HPKN.out.drew.alloc (.cells #[.int .i64 XA] 3)).at_.grown hg5 (fun e => own_apart (HPKN.out.drew.alloc (.cells #[.int .i64 XA] 3)).ar (HPKN.out.drew.alloc (.cells #[.int .i64 XA] 3)).at_ (by decide) e.symm)
                have r4 := hA5.cell 4
                have rf := hA5.frozen
                simp only [List.getElem?_toArray, List.getElem?_cons_zero, List.getElem?_cons_succ] at r4
                refine hK.out _ _ (.inl (by kernel_rfl)) ?_
                clear hK K
                try simp only [Act.put, List.setIfInBounds_toArray, List.set_cons_zero, List.set_cons_succ]
                refine Zd.pureD (i := 10) (d := some 130) (v := ?vh10) rfl rfl (by kernel_rfl) (by kernel_rfl) (by kernel_rfl) (by kernel_rfl) (by kernel_rfl) (fun _ _ _ h => h) (Or.inl ⟨by kernel_rfl, ?hyh10⟩) (.inl (by kernel_rfl)) ?resth10
                case hyh10 => (intro w _; go_simp; try with_reducible rfl)
                try simp only [Act.put, List.setIfInBounds_toArray, List.set_cons_zero, List.set_cons_succ]
                refine Zed.one (i := 11) (by kernel_rfl) rfl (fun K hK => ?_)
                go_simp
                refine hK.out _ _ (.inl (by kernel_rfl)) ?_
                clear hK K
                try simp only [Act.put, List.setIfInBounds_toArray, List.set_cons_zero, List.set_cons_succ]
                refine Zed.all (by kernel_rfl) ?_ _
                have HM := Lib.hid (Pk.putA (HPKN.out.drew.alloc (.cells #[.int .i64 XA] 3)) (Y' := AK ++ [XA]) (show w5.ownsRow gb 3 1 (.slice a5 (k + 1 + 1) s5) (k + 1 + 1) (vals (AK ++ [XA])) by
                  rw [vals_append]; exact hown5) hg5 hn5)
                clear hown5 hg5 hn5 hA5 r4 rf hz0 hz1
                go_wp2_with fail
                go_roundw
                case rel =>
                  refine ⟨k + 1, a5, s5, by omega, by go_num, ?_⟩
                  rw [take9 HX.out, List.map_append, show [x].map (fun v => (v.assoc : Int)) = [(x.assoc : Int)] from rfl, ← List.cons_append, HAK.out, HXA.out]
                  exact HM.out
                case measure => simp [intOf]; omega
              · obtain rfl : n3 = k := by omega
                have hfull : G.levels.take n3 = G.levels := by rw [← HE3.out, List.take_length]
                rw [hfull] at hpk
                obtain ⟨AG, hAG⟩ : ∃ V, 0 :: G.levels.map (fun v => (v.assoc : Int)) = V := ⟨_, rfl⟩
                rw [hAG] at hpk
                have HAG := Lib.hid hAG
                have HPK := Lib.hid hpk
                obtain ⟨p0, p1, p2, p3, p4, p5⟩ := hpk.six
                clear hfull hAG hlt hk
                have x3 := (HGG2.out.below HPK.out.bel hg0b).cell 3
                simp only [List.getElem?_toArray, List.getElem?_cons_zero, List.getElem?_cons_succ] at x3
                have HST := Lib.hid (gramC_st HGC.out)
                obtain ⟨AC, hAC⟩ : ∃ c : Int, Nm.acceptG G = c := ⟨_, rfl⟩
                have hac : ((n1 + 1 : Nat) : Int) + (nV : Int) = AC := by rw [← hAC]; unfold Nm.acceptG; rw [HTG.out, HVG.out, HTL.out, HVL.out]
                have hac2 : (n1 : Int) + 1 + (nV : Int) = AC := by rw [← hac]; omega
                have hacw : wrap64 AC = AC := by rw [← hac2]; exact IntWalk.wrap64_in _ (by have := HNV.out; omega)
                obtain ⟨SG, hSG⟩ : ∃ c : Int, Nm.symG G G.start = c := ⟨_, rfl⟩
                have HSF := Lib.hid (show ∀ n, Nm.symG G n = Nm.sym TG VG n from fun n => by unfold Nm.symG; rw [HTG.out, HVG.out])
                have hsy := rsym_any _ TG VG G.start wr.heap.size wr HPK.out.symC (Nat.le_refl _) (by rw [HTL.out]; omega) (by rw [HVL.out]; have := HNV.out; omega)
                rw [← HSF.out, hSG, HST.out] at hsy
                have HSY := Lib.hid hsy
                have HAC := Lib.hid hAC
                have HSG := Lib.hid hSG
                clear hAC hSG hsy hac
                go_wp2_with fail
                refine HSY.out.mono ?_
                rintro e wz ⟨rfl, hbz⟩
                have hpz := HPK.out.below hbz
                have HPZ := Lib.hid (hpz.first AC SG)
                have rf := hpz.at_.frozen
                have hgz := hpz.at_.lt
                obtain ⟨_, _, p2, _, _, _⟩ := hpz.six
                clear hbz hpz p0 p1 p3 p4 p5 x2 x3 hgl0 HSY hac2
                go_wp2_with fail
                generalize ((wz.setCell ⟨gp, 2, none⟩ (.slice (some ⟨wz.heap.size + 1, 0, none⟩) 1 1)).alloc (.cells #[.int .i64 SG] 3)).alloc (.cells #[.int .i64 AC, .slice (some ⟨wz.heap.size, 0, none⟩) 1 1, .int .i64 0] 72) = W4 at HPZ ⊢
                generalize wz.heap.size + 1 = q1 at HPZ
                generalize wz.heap.size = q0 at HPZ
                clear p2 rf hgz HPK hacw
                go_loopw [11] (fun i wr => ∃ (k : Nat) (aR : Option Addr) (sR : Nat) (RL : List (Nm.Prod × Value)), k ≤ n4 ∧ i = .int .i64 (k : Int) ∧ (∀ y ∈ G.rules.take k, Nm.wrongRule G y = none) ∧ RL.map (·.1) = ⟨AC, [SG], 0⟩ :: (G.rules.take k).map (Nm.prod G) ∧ Pk gb w2 gp (.slice aT (n1 + 1) sT) (n1 + 1) TG (.slice aV nV sV) nV VG (.slice aR (k + 1) sR) (k + 1) RL (.slice aL (n1 + 1) sL) (n1 + 1) LG (.slice aA (n3 + 1) sA) (n3 + 1) AG (.slice aC (n4 + 1) sC) (n4 + 1) CG wr) (fun i _ => n4 - (intOf i).toNat)
                case atStart => exact ⟨0, some ⟨q1, 0, none⟩, 1, [(⟨AC, [SG], 0⟩, .slice (some ⟨q0, 0, none⟩) 1 1)], by omega, rfl, by simp, by simp, HPZ.out⟩
                case round =>
                  clear HPZ
                  obtain ⟨k, aR, sR, RL, hk, rfl, hno, hrl, hpk⟩ := hrel
                  have HPK := Lib.hid hpk
                  have HNR := Lib.hid hno
                  have HRL := Lib.hid hrl
                  have hgl0 := (HGG2.out.below hpk.bel hg0b).lt
                  have x4 := (HGG2.out.below hpk.bel hg0b).cell 4
                  simp only [List.getElem?_toArray, List.getElem?_cons_zero, List.getElem?_cons_succ] at x4
                  by_cases hlt : k < n4
                  · obtain ⟨x, hx⟩ := some_get (l := G.rules) (i := k) (by rw [HE4.out]; exact hlt)
                    obtain ⟨b, o, A', c', hA, hbl, y0, y1, y2, y3, y4⟩ := HRU.out.get hx
                    subst hA
                    have hbw := HB2.out.trans (hpk.bel.mono hgbw)
                    have hx8 := (Nm.rule_ok HRI.out x (List.mem_of_getElem? hx)).2.1
                    obtain ⟨X0, hX0⟩ : ∃ X, str x.left = X := ⟨_, rfl⟩
                    obtain ⟨X2, hX2⟩ : ∃ X, str x.prec = X := ⟨_, rfl⟩
                    obtain ⟨X3, hX3⟩ : ∃ X, str x.action = X := ⟨_, rfl⟩
                    obtain ⟨m, hm⟩ : ∃ m, x.right.length = m := ⟨_, rfl⟩
                    rw [hX0] at y0
                    rw [hX2] at y2
                    rw [hX3] at y3
                    rw [hm] at y1 hx8
                    have z0 := (hbw.cell (p := ⟨b, o + k * 4, none⟩) hbl).trans y0
                    have z1 := (hbw.cell (p := ⟨b, o + k * 4 + 1, none⟩) hbl).trans y1
                    have z2 := (hbw.cell (p := ⟨b, o + k * 4 + 2, none⟩) hbl).trans y2
                    have z3 := (hbw.cell (p := ⟨b, o + k * 4 + 3, none⟩) hbl).trans y3
                    have HX := Lib.hid hx
                    have HX0 := Lib.hid hX0
                    have HX2 := Lib.hid hX2
                    have HM0 := Lib.hid hm
                    have HY4 := Lib.hid y4
                    have HBW := Lib.hid hbw
                    have hblr : b < wr.heap.size := Nat.lt_of_lt_of_le hbl hbw.size
                    have hki : (k : Int) < (n4 : Int) := by omega
                    have hk0 : (0 : Int) ≤ (k : Int) := by omega
                    obtain ⟨SL, hSL⟩ : ∃ c : Int, Nm.symG G x.left = c := ⟨_, rfl⟩
                    have HSY := Lib.hid (fun (w' : World) (hw : Below wr.heap.size wr w') (n : Rd.Name) => rsym_any _ TG VG n w'.heap.size w' (HPK.out.below hw).symC (Nat.le_refl _) (by rw [HTL.out]; omega) (by rw [HVL.out]; have := HNV.out; omega))
                    simp only [← HSF.out] at HSY
                    have HSL := Lib.hid hSL
                    clear hx hX0 hX2 hX3 hm y0 y1 y2 y3 y4 hbw hpk hno hrl hSL
                    go_wp2_with (first
                      | (refine wpList_store_at rfl _ _ _ rfl rfl wr.heap.size _ _ [_, _, _, _] rfl rfl (At.new wr _ _) 4 Tryz.sizeRule rfl rfl rfl ?_; intro w3 hA3 hg3; have hb3 : Below wr.heap.size wr w3 := below_grown ((Below.refl _ _).alloc (Nat.le_refl _) _) hg3 (by simp) (Nat.le_refl _); obtain ⟨p0, p1, p2, p3, p4, p5⟩ := (HPK.out.below hb3).six; have r0 := hA3.cell 0; simp only [List.getElem?_toArray, List.getElem?_cons_zero, List.getElem?_cons_succ] at r0))
                    have hcall := HSY.out w3 hb3 x.left
                    rw [HSL.out, HX0.out] at hcall
                    refine hcall.mono ?_
                    clear hcall
                    rintro e w4 ⟨rfl, hb4⟩
                    have hb34 := hb3.trans (hb4.mono hb3.size)
                    have hA4 := hA3.below hb4 hA3.lt
                    have hgx4 := hA4.lt
                    go_wp2_with (first
                      | (refine wpList_store_at rfl _ _ _ rfl rfl w4.heap.size _ _ [_, _, _] rfl rfl (At.new w4 _ _) 3 Tryz.sizeProd rfl rfl rfl ?_; intro w5 hA5 hg5))
                    have hrk : Rk wr wr.heap.size w4.heap.size [.string X0, .slice A' m c', .string X2, .string X3].toArray SL (.slice none 0 0) 0 [] 0 w5 :=
                      ⟨(hA4.alloc _).grown hg5 (fun e => by injection e with e; omega), hA5, own_nil9 _ _ _ _, Nat.le_refl _, hgx4, below_grown (hb34.alloc hb34.size _) hg5 (by have := hb34.size; simp; omega) hb34.size⟩
                    have HRK := Lib.hid hrk
                    generalize w4.heap.size = gx at HRK
                    clear hrk hA3 hg3 hb3 p0 p1 p2 p3 p4 p5 r0 hb4 hb34 hA4 hgx4 hA5 hg5 x4 z0 z1 z2 z3
                    go_loopw [14] (fun t wi => ∃ (j : Nat) (aX : Option Addr) (sX : Nat), j ≤ m ∧ t = .int .i64 (j : Int) ∧ (∀ y ∈ x.right.take j, Nm.wrongName G y = false) ∧ Rk wr wr.heap.size gx [.string X0, .slice A' m c', .string X2, .string X3].toArray SL (.slice aX j sX) j ((x.right.take j).map (Nm.symG G)) (Nm.lastL LG ((x.right.take j).map (Nm.symG G))) wi) (fun t _ => m - (intOf t).toNat)
                    case atStart => exact ⟨0, none, 0, by omega, rfl, by simp, HRK.out⟩
                    case round =>
                      clear HRK
                      obtain ⟨wo, rfl⟩ : ∃ wo, wo = wr := ⟨_, rfl⟩
                      obtain ⟨j, aX, sX, hj, rfl, hnn, hrk⟩ := hrel
                      obtain ⟨XJ, hXJ⟩ : ∃ X, (x.right.take j).map (Nm.symG G) = X := ⟨_, rfl⟩
                      rw [hXJ] at hrk
                      have HXJ := Lib.hid hXJ
                      clear hXJ
                      have HRK := Lib.hid hrk
                      have HNN := Lib.hid hnn
                      have r1 := hrk.rule.cell 1
                      simp only [List.getElem?_toArray, List.getElem?_cons_zero, List.getElem?_cons_succ] at r1
                      have hgrl := hrk.rule.lt
                      have hgpl := (HPK.out.below hrk.bel).at_.lt
                      by_cases hltj : j < m
                      · obtain ⟨y, hy⟩ := some_get (l := x.right) (i := j) (by rw [HM0.out]; exact hltj)
                        obtain ⟨b', o', hA', hb', t0⟩ := cl_get HY4.out hy
                        subst hA'
                        obtain ⟨Y0, hY0⟩ : ∃ X, str y = X := ⟨_, rfl⟩
                        rw [hY0] at t0
                        have hwo := HBW.out.trans (hrk.bel.mono HBW.out.size)
                        have t1 := (hwo.cell (p := ⟨b', o' + j, none⟩) hb').trans t0
                        have hbl' : b' < wo.heap.size := Nat.lt_of_lt_of_le hb' hwo.size
                        obtain ⟨SY, hSY⟩ : ∃ c : Int, Nm.symG G y = c := ⟨_, rfl⟩
                        obtain ⟨p0, p1, p2, p3, p4, p5⟩ := (HPK.out.below hrk.bel).six
                        obtain ⟨GW, hGW⟩ := Qt.class_of wo.heap.size wo (Nat.le_refl _)
                        have q0 := Qt.cell hGW hgpl p0
                        have q1 := Qt.cell hGW hgpl p1
                        have q2 := Qt.cell hGW hgpl p2
                        have q3 := Qt.cell hGW hgpl p3
                        have q4 := Qt.cell hGW hgpl p4
                        have q5 := Qt.cell hGW hgpl p5
                        have q6 := Qt.cell hGW hgrl r1
                        have q7 := Qt.cell hGW hbl' t1
                        have KC := Lib.hid (show ∀ z, Calls Tryz.prog 68 #[.agg #[.slice aT (n1 + 1) sT, .slice aV nV sV, .slice aR (k + 1) sR, .slice aL (n1 + 1) sL, .slice aA (n3 + 1) sA, .slice aC (n4 + 1) sC], .string Y0] (GW z) fun e w'' => e = .returned (.int .i64 SY) ∧ ∃ z', w'' = GW z' from fun z => by
                          have h := HSY.out (GW z) (hrk.bel.trans ((hGW.below z).mono hrk.bel.size)) y
                          rw [hSY, hY0] at h
                          exact h.mono fun _ _ ⟨he, hq⟩ => ⟨he, hGW.onto _ ((hGW.below z).trans (hq.mono (hGW.below z).size))⟩)
                        have HGW := Lib.hid hGW
                        have HY := Lib.hid hy
                        have HY0' := Lib.hid hY0
                        have HT0 := Lib.hid t0
                        have HSYY := Lib.hid hSY
                        have hji : (j : Int) < (m : Int) := by omega
                        have hj0 : (0 : Int) ≤ (j : Int) := by omega
                        clear hy hY0 hSY hGW t0 hrk hnn hwo p0 p1 p2 p3 p4 p5
                        go_wp2_with fail
                        refine Qt.begin_ HGW.out (Below.refl _ _) (by kernel_rfl) (by kernel_rfl) ?_
                        repeat (go_big_quiet_step (first | with_reducible exact KC.out _))
                        refine wpQuiet_nil ?_
                        intro _ hw'
                        obtain ⟨z6, hw''⟩ := hw'
                        subst hw''
                        obtain ⟨w6, hw6⟩ : ∃ w6, w6 = GW z6 := ⟨_, rfl⟩
                        have HB6 : Hid (Below wo.heap.size wo w6) := Lib.hid (by rw [hw6]; exact HGW.out.below z6)
                        rw [← hw6]
                        clear hw6 HGW q0 q1 q2 q3 q4 q5 q6 q7 KC r1 t1
                        by_cases hneg : SY < 0
                        · have hd : decide (SY < 0) = true := decide_eq_true hneg
                          go_wp2_with fail
                          have hrk := HRK.out.below HB6.out
                          have HRK6 := Lib.hid hrk
                          have hb7 : Below gb w2 w6 := HPK.out.bel.trans (Below.mono hrk.bel HPK.out.size)
                          have hgr := HGR2.out.below hb7 hg1b
                          have HGRN := Lib.hid hgr
                          have hb8 : Below w.heap.size w w6 := HBW.out.trans (Below.mono hrk.bel HBW.out.size)
                          have HB8 := Lib.hid hb8
                          have r0 := hgr.cell 0
                          have r1 := hgr.cell 1
                          have r2 := hgr.cell 2
                          have r3 := hgr.cell 3
                          have r4 := hgr.cell 4
                          have r5 := hgr.cell 5
                          have rf := hgr.frozen
                          have hlr := hgr.lt
                          have s1 := hrk.rule.cell 1
                          simp only [List.getElem?_toArray, List.getElem?_cons_zero, List.getElem?_cons_succ] at r0 r1 r2 r3 r4 r5 s1
                          have t1 := (hb8.cell (p := ⟨b', o' + j, none⟩) hb').trans HT0.out
                          have hbg1 : b' < g1 := by have := HG.out; omega
                          have hgg : g1 ≠ wr.heap.size := by have := HPK.out.size; omega
                          have hz0 : Below g1 w6 w6.drew ∧ w6.drew.cell? ⟨wr.heap.size, 1, none⟩ = some (.slice (some ⟨b', o', none⟩) m c') := ⟨below_drew (Below.refl _ _), s1⟩
                          have HOF := Lib.hid (show Nm.ofG G = (Nm.empty, 16, y) from by
                            have hw := Nm.wrong_rul (none_all HE1.out (by rw [← HE1.out, List.take_length]; exact HNO.out)) HX.out (Nm.wrongRule_name HY.out (by unfold Nm.wrongName; rw [HSYY.out]; exact decide_eq_true hneg) HNN.out) HNR.out
                            have := ofG_wrong HRB.out (by rw [hw]; show (16 : Nat) ≠ 0; decide)
                            rw [hw] at this; exact this)
                          clear hrk hb7 hgr hb8
                          refine Zed.begin_ (fun w' => Below g1 w6 w' ∧ w'.cell? ⟨wr.heap.size, 1, none⟩ = some (.slice (some ⟨b', o', none⟩) m c')) [] (by kernel_rfl) ?_
                          refine Zd.pureD (i := 0) (d := some 180) (v := ?vk0) rfl rfl (by kernel_rfl) (by kernel_rfl) (by kernel_rfl) (by kernel_rfl) (by kernel_rfl) (fun _ _ _ h => h) (Or.inl ⟨by kernel_rfl, ?hyk0⟩) (.inr hz0) ?restk0
                          case hyk0 => (intro w _; go_simp; try with_reducible rfl)
                          try simp only [Act.put, List.setIfInBounds_toArray, List.set_cons_zero, List.set_cons_succ]
                          refine Zd.pureD (i := 1) (d := some 181) (v := ?vk1) rfl rfl (by kernel_rfl) (by kernel_rfl) (by kernel_rfl) (by kernel_rfl) (by kernel_rfl) (fun _ _ _ h => h) (Or.inl ⟨by kernel_rfl, ?hyk1⟩) (.inr hz0) ?restk1
                          case hyk1 => (intro w _; go_simp; try with_reducible rfl)
                          try simp only [Act.put, List.setIfInBounds_toArray, List.set_cons_zero, List.set_cons_succ]
                          refine Zd.takeD (i := 2) (d := some 182) (v := ?vk2) rfl rfl (by kernel_rfl) (by kernel_rfl) (by kernel_rfl) (by kernel_rfl) (by kernel_rfl) (fun _ _ _ h => h) (Or.inl ⟨by kernel_rfl, ?hyk2⟩) hz0 ?restk2
                          case hyk2 => (intro w hSw; (try dsimp only at hSw); have hc := hSw.2; go_simp; try with_reducible rfl)
                          try simp only [Act.put, List.setIfInBounds_toArray, List.set_cons_zero, List.set_cons_succ]
                          refine Zd.pureD (i := 3) (d := some 183) (v := ?vk3) rfl rfl (by kernel_rfl) (by kernel_rfl) (by kernel_rfl) (by kernel_rfl) (by kernel_rfl) (fun _ _ _ h => h) (Or.inl ⟨by kernel_rfl, ?hyk3⟩) (.inr hz0) ?restk3
                          case hyk3 => (intro w _; go_simp; try with_reducible rfl)
                          try simp only [Act.put, List.setIfInBounds_toArray, List.set_cons_zero, List.set_cons_succ]
                          refine Zd.pureD (i := 4) (d := some 184) (v := ?vk4) rfl rfl (by kernel_rfl) (by kernel_rfl) (by kernel_rfl) (by kernel_rfl) (by kernel_rfl) (fun _ _ _ h => h) (Or.inl ⟨by kernel_rfl, ?hyk4⟩) (.inr hz0) ?restk4
                          case hyk4 => (intro w _; go_simp; try with_reducible rfl)
                          try simp only [Act.put, List.setIfInBounds_toArray, List.set_cons_zero, List.set_cons_succ]
                          refine Zd.takeD (i := 5) (d := some 185) (v := ?vk5) rfl rfl (by kernel_rfl) (by kernel_rfl) (by kernel_rfl) (by kernel_rfl) (by kernel_rfl) (fun _ _ _ h => h) (Or.inl ⟨by kernel_rfl, ?hyk5⟩) hz0 ?restk5
                          case hyk5 => (intro w hSw; (try dsimp only at hSw); have hc := (hSw.1.cell (p := ⟨b', o' + j, none⟩) hbg1).trans t1; go_simp; try with_reducible rfl)
                          try simp only [Act.put, List.setIfInBounds_toArray, List.set_cons_zero, List.set_cons_succ]
                          refine Zed.one (i := 6) (by kernel_rfl) rfl (fun K hK => ?_)
                          go_simp
                          have hgw := grown_six w6 g1 (.slice none 0 0) (.slice none 0 0) (.slice none 0 0) (.slice none 0 0) (.slice none 0 0) (.slice none 0 0)
                          have hcl := ((HRK6.out.rule.grown hgw (fun e => by injection e with e; exact hgg e.symm)).drew).cell 1
                          simp only [List.getElem?_toArray, List.getElem?_cons_zero, List.getElem?_cons_succ] at hcl
                          have hz1 := And.intro (below_drew (below_grown (Below.refl g1 w6) hgw (Nat.le_of_lt hlr) (Nat.le_refl _))) hcl
                          refine hK.out _ _ (.inr hz1) ?_
                          clear hK K
                          try simp only [Act.put, List.setIfInBounds_toArray, List.set_cons_zero, List.set_cons_succ]
                          refine Zd.pureD (i := 7) (d := some 3) (v := ?vk7) rfl rfl (by kernel_rfl) (by kernel_rfl) (by kernel_rfl) (by kernel_rfl) (by kernel_rfl) (fun _ _ _ h => h) (Or.inl ⟨by kernel_rfl, ?hyk7⟩) (.inr hz1) ?restk7
                          case hyk7 => (intro w _; go_simp; try with_reducible rfl)
                          try simp only [Act.put, List.setIfInBounds_toArray, List.set_cons_zero, List.set_cons_succ]
                          refine Zd.pureD (i := 8) (d := some 4) (v := ?vk8) rfl rfl (by kernel_rfl) (by kernel_rfl) (by kernel_rfl) (by kernel_rfl) (by kernel_rfl) (fun _ _ _ h => h) (Or.inl ⟨by kernel_rfl, ?hyk8⟩) (.inr hz1) ?restk8
                          case hyk8 => (intro w _; go_simp; try with_reducible rfl)
                          try simp only [Act.put, List.setIfInBounds_toArray, List.set_cons_zero, List.set_cons_succ]
                          refine Zed.all (by kernel_rfl) ?_ _
                          go_wp2_with fail
                          refine bodyPost_ret (results_cell2 rfl _ _ _ _ rfl rfl g1 _ _ _ rfl (HGRN.out.six _ _ _ _ _ _).drew Tryz.underlying34 rfl Tryz.sizePlan) rfl ⟨⟨.agg #[.slice none 0 0, .slice none 0 0, .slice none 0 0, .slice none 0 0, .slice none 0 0, .slice none 0 0], ?_, ?_⟩, below_drew (below_grown HB8.out (grown_six _ _ _ _ _ _ _ _) HB8.out.size (by have := HG.out; omega))⟩
                          · rw [HOF.out, HY0'.out]; rfl
                          · rw [HOF.out]; exact PlanL.empty _
                        · have hd : decide (SY < 0) = false := decide_eq_false hneg
                          have hrk := HRK.out.below HB6.out
                          have HRK6 := Lib.hid hrk
                          have c1 := hrk.prod.cell 1
                          simp only [List.getElem?_toArray, List.getElem?_cons_zero, List.getElem?_cons_succ] at c1
                          have hgxl := hrk.prod.lt
                          have hc3 : j + 1 ≤ maxLen := by unfold maxLen; omega
                          have hc4 : (j + 1) * 8 ≤ 140737488355328 := by omega
                          have hbase : gx + 1 ≤ (w6.alloc (.cells #[.int .i64 SY] 3)).heap.size := by simp; omega
                          have hge0 : 0 ≤ SY := by omega
                          have HGE := Lib.hid hge0
                          clear hrk hneg
                          go_wp2_with (at_builtin; refine wpList_append_own2 _ rfl _ _ 32 rfl (gx + 1) 3 iI _ 1 8 Tryz.underlying32 hiI hI0 hI1 hI2 rfl (by decide) _ _ _ rfl (HRK6.out.row.alloc _) ⟨w6.heap.size, 0, none⟩ 1 1 [.int .i64 SY] rfl rfl (cells_new _ _ _) (by simp [Value.oneCell']) hc3 hc4 hbase ?_)
                          intro v' w7 hown7 hg7 hn7
                          obtain ⟨a7, s7, rfl⟩ := own_form hown7
                          have hA7 := (HRK6.out.prod.alloc (.cells #[.int .i64 SY] 3)).grown hg7 (fun e => own_apart (HRK6.out.row.alloc (.cells #[.int .i64 SY] 3)) (HRK6.out.prod.alloc (.cells #[.int .i64 SY] 3)) (by decide) e.symm)
                          have HRK8 := Lib.hid (HRK6.out.put hg7 hown7)
                          have c7 := hA7.cell 1
                          have rf7 := hA7.frozen
                          simp only [List.getElem?_toArray, List.getElem?_cons_zero, List.getElem?_cons_succ] at c7
                          clear hown7 hg7 hn7 hA7 c1
                          go_upto_region 36 with (fail)
                          obtain ⟨W8, hW8⟩ : ∃ W, w7.setCell ⟨gx, 1, none⟩ (.slice a7 (j + 1) s7) = W := ⟨_, rfl⟩
                          rw [hW8] at HRK8 ⊢
                          have hrk := HRK8.out
                          have hp8 := HPK.out.below hrk.bel
                          obtain ⟨p0, _, _, p3, _, _⟩ := hp8.six
                          have c2 := hrk.prod.cell 2
                          have rf8 := hrk.prod.frozen
                          simp only [List.getElem?_toArray, List.getElem?_cons_zero, List.getElem?_cons_succ] at c2
                          have hxs : (x.right.take (j + 1)).map (Nm.symG G) = XJ ++ [SY] := by rw [take9 HY.out, List.map_append, ← HSYY.out, HXJ.out]; rfl
                          have HXS := Lib.hid hxs
                          have hwn : Nm.wrongName G y = false := by unfold Nm.wrongName; rw [HSYY.out]; exact decide_eq_false (by have := HGE.out; omega)
                          have HWN := Lib.hid hwn
                          clear hW8 c7 rf7 hxs hwn hd
                          by_cases htm : SY < (n1 : Int) + 1
                          · obtain ⟨lx, hlx⟩ : ∃ c, LG[SY.toNat]? = some c := ⟨_, List.getElem?_eq_getElem (by rw [HLL.out]; omega)⟩
                            obtain ⟨bL, oL, hAL, hbL, cL⟩ := int_get9 hp8.lr hlx
                            subst hAL
                            obtain ⟨sy, hsy⟩ : ∃ s : Nat, SY = (s : Int) := ⟨SY.toNat, by omega⟩
                            have hln : Nm.lastL LG (XJ ++ [SY]) = lx := by
                              rw [Nm.lastL_snoc2, if_pos ⟨hge0, by rw [HLL.out]; omega⟩, List.getD, hlx]; rfl
                            have HLN := Lib.hid hln
                            rw [hsy] at cL
                            have cL : W8.cell? ⟨bL, oL + sy, none⟩ = some (.int .i64 lx) := by simpa using cL
                            have HSYN := Lib.hid hsy
                            subst hsy
                            have hm1 : (sy : Int) < ((n1 + 1 : Nat) : Int) := by omega
                            clear hrk hp8 hlx hln
                            go_wp2_with fail
                            go_roundw
                            case rel =>
                              refine ⟨j + 1, a7, s7, by omega, by go_num, none_take HY.out HNN.out HWN.out, ?_⟩
                              rw [HXS.out, HLN.out]
                              exact HRK8.out.level lx
                            case measure => simp [intOf]; omega
                          · have hln : Nm.lastL LG (XJ ++ [SY]) = Nm.lastL LG XJ := by
                              rw [Nm.lastL_snoc2, if_neg (fun h => htm (by have := h.2; rw [HLL.out] at this; omega))]
                            have HLN := Lib.hid hln
                            clear hrk hp8 hln
                            go_wp2_with fail
                            go_roundw
                            case rel =>
                              refine ⟨j + 1, a7, s7, by omega, by go_num, none_take HY.out HNN.out HWN.out, ?_⟩
                              rw [HXS.out, HLN.out]
                              exact HRK8.out
                            case measure => simp [intOf]; omega
                      · obtain rfl : m = j := by omega
                        have hfj : x.right.take m = x.right := by rw [← HM0.out, List.take_length]
                        have hxj := HXJ.out
                        rw [hfj] at hxj hnn
                        have hpx : Nm.prod G x = ⟨SL, XJ, if x.prec = [] then Nm.lastL LG XJ else Nm.level G x.prec⟩ := by
                          unfold Nm.prod
                          rw [hxj, HSL.out, HLG.out]
                        have hwr := Nm.wrongRule_prec hnn
                        have HPX := Lib.hid hpx
                        have HWR := Lib.hid hwr
                        have c2 := hrk.rule.cell 2
                        simp only [List.getElem?_toArray, List.getElem?_cons_zero, List.getElem?_cons_succ] at c2
                        have hei := isEmpty_dec x.prec
                        rw [HX2.out] at hei
                        have hei2 : (X2.toList == (⟨#[]⟩ : ByteArray).toList) = decide (x.prec = []) := by
                          rw [← hei, ← HX2.out]
                          rw [show (⟨#[]⟩ : ByteArray).toList = [] from by rw [toList_eq]; rfl, show (str x.prec).toList = x.prec from by rw [toList_eq]; exact bl_str _]
                          cases x.prec <;> rfl
                        clear hfj hxj hpx hwr hnn hltj
                        by_cases hpe : x.prec = []
                        · have HPE := Lib.hid hpe
                          rw [decide_eq_true hpe] at hei hei2
                          have HPXX : Hid (Nm.prod G x = ⟨SL, XJ, Nm.lastL LG XJ⟩) := Lib.hid (by rw [HPX.out, if_pos hpe])
                          have HWN : Hid (Nm.wrongRule G x = none) := Lib.hid (by rw [HWR.out, if_neg (fun h => h.1 hpe)])
                          obtain ⟨LV, hLV⟩ : ∃ l, Nm.lastL LG XJ = l := ⟨_, rfl⟩
                          rw [hLV] at HPXX hrk
                          have HRKE := Lib.hid hrk
                          clear hpe hLV hrk HRK
                          go_upto_region 42 with (fail)
                          clear c2 r1 hgrl hgpl hei hei2
                          have hrk := HRKE.out
                          have hpW := HPK.out.below hrk.bel
                          have HPW := Lib.hid hpW
                          have c0 := hrk.prod.cell 0
                          have c1 := hrk.prod.cell 1
                          have c2 := hrk.prod.cell 2
                          simp only [List.getElem?_toArray, List.getElem?_cons_zero, List.getElem?_cons_succ] at c0 c1 c2
                          obtain ⟨_, _, p2, _, _, _⟩ := hpW.six
                          have hgpl := hpW.at_.lt
                          have hgxl := hrk.prod.lt
                          have hbase : gb ≤ (wo.alloc (.cells #[.int .i64 SL, .slice aX m sX, .int .i64 LV] 72)).heap.size := by have := hpW.size; simp; omega
                          have hc3 : k + 1 + 1 ≤ maxLen := by unfold maxLen; omega
                          have hc4 : (k + 1 + 1) * 40 ≤ 140737488355328 := by omega
                          have hIL : IntL (wo.alloc (.cells #[.int .i64 SL, .slice aX m sX, .int .i64 LV] 72)) (.slice aX m sX) XJ := ⟨aX, sX, by rw [show XJ.length = m from by have := hrk.row.1; rw [vals_length] at this; omega], Lie.own (hrk.row.alloc _)⟩
                          have HIL := Lib.hid hIL
                          clear hrk hpW hIL
                          go_wp2_with (at_builtin; refine wpList_append_own2 _ rfl _ _ 31 rfl gb 72 iP _ 3 40 Tryz.underlying31 hiP hP0 hP1 hP2 rfl (by decide) _ _ _ rfl (HPW.out.alloc _).rr ⟨wo.heap.size, 0, none⟩ 1 1 [.int .i64 SL, .slice aX m sX, .int .i64 LV] rfl rfl (cells_new _ _ _) (by simp [Value.oneCell']) hc3 hc4 hbase ?_)
                          intro v' w9 hown9 hg9 hn9
                          obtain ⟨a9, s9, rfl⟩ := own_form hown9
                          have HM := Lib.hid ((HPW.out.alloc (.cells #[.int .i64 SL, .slice aX m sX, .int .i64 LV] 72)).putR (x := ⟨SL, XJ, LV⟩) (u := .slice aX m sX) (show w9.ownsRow gb 72 3 (.slice a9 (k + 1 + 1) s9) (k + 1 + 1) (prodsV (RL ++ [(⟨SL, XJ, LV⟩, .slice aX m sX)])) by rw [prodsV_append]; exact hown9) hg9 HIL.out)
                          have hA9 := (HPW.out.alloc (.cells #[.int .i64 SL, .slice aX m sX, .int .i64 LV] 72)).at_.grown hg9 (fun e => own_apart (HPW.out.alloc (.cells #[.int .i64 SL, .slice aX m sX, .int .i64 LV] 72)).rr (HPW.out.alloc (.cells #[.int .i64 SL, .slice aX m sX, .int .i64 LV] 72)).at_ (by decide) e.symm)
                          have p29 := hA9.cell 2
                          have rf9 := hA9.frozen
                          simp only [List.getElem?_toArray, List.getElem?_cons_zero, List.getElem?_cons_succ] at p29
                          clear hown9 hg9 hn9 hA9 c0 c1 c2 p2 hgpl hgxl
                          go_wp2_with fail
                          go_roundw
                          case rel =>
                            refine ⟨k + 1, a9, s9, RL ++ [(⟨SL, XJ, LV⟩, .slice aX m sX)], by omega, by go_num, ok_take HX.out HNR.out HWN.out, ?_, HM.out⟩
                            rw [List.map_append, HRL.out, take9 HX.out, List.map_append, ← List.cons_append]
                            show _ ++ [(⟨SL, XJ, LV⟩ : Nm.Prod)] = _ ++ [Nm.prod G x]
                            rw [HPXX.out]
                          case measure => simp [intOf]; omega
                        · have HPE := Lib.hid hpe
                          rw [decide_eq_false hpe] at hei hei2
                          obtain ⟨LV, hLV⟩ : ∃ l, Nm.level G x.prec = l := ⟨_, rfl⟩
                          have HPXX : Hid (Nm.prod G x = ⟨SL, XJ, LV⟩) := Lib.hid (by rw [HPX.out, if_neg hpe, hLV])
                          have hwo := HBW.out.trans (Below.mono hrk.bel HBW.out.size)
                          have HWO := Lib.hid hwo
                          have hb7 : Below gb w2 wo := HPK.out.bel.trans (Below.mono hrk.bel HPK.out.size)
                          have hgg := HGG2.out.below hb7 hg0b
                          have x0 := hgg.cell 0
                          have x1 := hgg.cell 1
                          have x2 := hgg.cell 2
                          have x3 := hgg.cell 3
                          have x4 := hgg.cell 4
                          simp only [List.getElem?_toArray, List.getElem?_cons_zero, List.getElem?_cons_succ] at x0 x1 x2 x3 x4
                          have hcall := rlevel_any _ G x.prec w.heap.size wo (HGC.out.below hwo) hwo.size (by have := HRI.out.nlev; omega) (fun v hv => (HSZ.out.lev v hv).1)
                          rw [HX2.out, hLV] at hcall
                          have HCALL := Lib.hid hcall
                          have HLVV := Lib.hid hLV
                          clear hpe hLV hcall hgg hb7 hwo HRK
                          have HRK := Lib.hid hrk
                          clear hrk
                          go_wp2_with fail
                          refine HCALL.out.mono ?_
                          rintro e wz ⟨rfl, hbz⟩
                          have hrz := HRK.out.below hbz
                          have HRZ := Lib.hid (hrz.level LV)
                          have d2 := hrz.prod.cell 2
                          have rf2 := hrz.prod.frozen
                          simp only [List.getElem?_toArray, List.getElem?_cons_zero, List.getElem?_cons_succ] at d2
                          clear hbz hrz HCALL x0 x1 x2 x3 x4 c2 r1 hei hei2 hgrl hgpl
                          go_upto_region 40 with (fail)
                          obtain ⟨W9, hW9⟩ : ∃ W, wz.setCell ⟨gx, 2, none⟩ (.int .i64 LV) = W := ⟨_, rfl⟩
                          rw [hW9] at HRZ ⊢
                          have d2 := HRZ.out.prod.cell 2
                          simp only [List.getElem?_toArray, List.getElem?_cons_zero, List.getElem?_cons_succ] at d2
                          clear hW9 rf2
                          by_cases hl0 : LV = 0
                          · have hq : (LV == 0) = true := by rw [hl0]; rfl
                            have HOF := Lib.hid (show Nm.ofG G = (Nm.empty, 16, x.prec) from by
                              have hw := Nm.wrong_rul (none_all HE1.out (by rw [← HE1.out, List.take_length]; exact HNO.out)) HX.out (by rw [HWR.out, if_pos ⟨HPE.out, by rw [HLVV.out]; exact hl0⟩]) HNR.out
                              have := ofG_wrong HRB.out (by rw [hw]; show (16 : Nat) ≠ 0; decide)
                              rw [hw] at this; exact this)
                            clear hl0
                            go_wp2_with fail
                            have hrk := HRZ.out
                            have HRK6 := Lib.hid hrk
                            have hb7 : Below gb w2 W9 := HPK.out.bel.trans (Below.mono hrk.bel HPK.out.size)
                            have hgr := HGR2.out.below hb7 hg1b
                            have HGRN := Lib.hid hgr
                            have HB8 := Lib.hid (HBW.out.trans (Below.mono hrk.bel HBW.out.size))
                            have r0 := hgr.cell 0
                            have r1 := hgr.cell 1
                            have r2 := hgr.cell 2
                            have r3 := hgr.cell 3
                            have r4 := hgr.cell 4
                            have r5 := hgr.cell 5
                            have rf := hgr.frozen
                            have hlr := hgr.lt
                            have s1 := hrk.rule.cell 2
                            simp only [List.getElem?_toArray, List.getElem?_cons_zero, List.getElem?_cons_succ] at r0 r1 r2 r3 r4 r5 s1
                            have hgg : g1 ≠ wr.heap.size := by have := HPK.out.size; omega
                            have hz0 : Below g1 W9 W9.drew ∧ W9.drew.cell? ⟨wr.heap.size, 2, none⟩ = some (.string X2) := ⟨below_drew (Below.refl _ _), s1⟩
                            clear hrk hb7 hgr
                            refine Zed.begin_ (fun w' => Below g1 W9 w' ∧ w'.cell? ⟨wr.heap.size, 2, none⟩ = some (.string X2)) [] (by kernel_rfl) ?_
                            refine Zd.pureD (i := 0) (d := some 214) (v := ?vm0) rfl rfl (by kernel_rfl) (by kernel_rfl) (by kernel_rfl) (by kernel_rfl) (by kernel_rfl) (fun _ _ _ h => h) (Or.inl ⟨by kernel_rfl, ?hym0⟩) (.inr hz0) ?restm0
                            case hym0 => (intro w _; go_simp; try with_reducible rfl)
                            try simp only [Act.put, List.setIfInBounds_toArray, List.set_cons_zero, List.set_cons_succ]
                            refine Zd.pureD (i := 1) (d := some 215) (v := ?vm1) rfl rfl (by kernel_rfl) (by kernel_rfl) (by kernel_rfl) (by kernel_rfl) (by kernel_rfl) (fun _ _ _ h => h) (Or.inl ⟨by kernel_rfl, ?hym1⟩) (.inr hz0) ?restm1
                            case hym1 => (intro w _; go_simp; try with_reducible rfl)
                            try simp only [Act.put, List.setIfInBounds_toArray, List.set_cons_zero, List.set_cons_succ]
                            refine Zd.takeD (i := 2) (d := some 216) (v := ?vm2) rfl rfl (by kernel_rfl) (by kernel_rfl) (by kernel_rfl) (by kernel_rfl) (by kernel_rfl) (fun _ _ _ h => h) (Or.inl ⟨by kernel_rfl, ?hym2⟩) hz0 ?restm2
                            case hym2 => (intro w hSw; (try dsimp only at hSw); have hc := hSw.2; go_simp; try with_reducible rfl)
                            try simp only [Act.put, List.setIfInBounds_toArray, List.set_cons_zero, List.set_cons_succ]
                            refine Zed.one (i := 3) (by kernel_rfl) rfl (fun K hK => ?_)
                            go_simp
                            have hgw := grown_six W9 g1 (.slice none 0 0) (.slice none 0 0) (.slice none 0 0) (.slice none 0 0) (.slice none 0 0) (.slice none 0 0)
                            have hcl := ((HRK6.out.rule.grown hgw (fun e => by injection e with e; exact hgg e.symm)).drew).cell 2
                            simp only [List.getElem?_toArray, List.getElem?_cons_zero, List.getElem?_cons_succ] at hcl
                            have hz1 := And.intro (below_drew (below_grown (Below.refl g1 W9) hgw (Nat.le_of_lt hlr) (Nat.le_refl _))) hcl
                            refine hK.out _ _ (.inr hz1) ?_
                            clear hK K
                            try simp only [Act.put, List.setIfInBounds_toArray, List.set_cons_zero, List.set_cons_succ]
                            refine Zd.pureD (i := 4) (d := some 3) (v := ?vm4) rfl rfl (by kernel_rfl) (by kernel_rfl) (by kernel_rfl) (by kernel_rfl) (by kernel_rfl) (fun _ _ _ h => h) (Or.inl ⟨by kernel_rfl, ?hym4⟩) (.inr hz1) ?restm4
                            case hym4 => (intro w _; go_simp; try with_reducible rfl)
                            try simp only [Act.put, List.setIfInBounds_toArray, List.set_cons_zero, List.set_cons_succ]
                            refine Zd.pureD (i := 5) (d := some 4) (v := ?vm5) rfl rfl (by kernel_rfl) (by kernel_rfl) (by kernel_rfl) (by kernel_rfl) (by kernel_rfl) (fun _ _ _ h => h) (Or.inl ⟨by kernel_rfl, ?hym5⟩) (.inr hz1) ?restm5
                            case hym5 => (intro w _; go_simp; try with_reducible rfl)
                            try simp only [Act.put, List.setIfInBounds_toArray, List.set_cons_zero, List.set_cons_succ]
                            refine Zed.all (by kernel_rfl) ?_ _
                            go_wp2_with fail
                            refine bodyPost_ret (results_cell2 rfl _ _ _ _ rfl rfl g1 _ _ _ rfl (HGRN.out.six _ _ _ _ _ _).drew Tryz.underlying34 rfl Tryz.sizePlan) rfl ⟨⟨.agg #[.slice none 0 0, .slice none 0 0, .slice none 0 0, .slice none 0 0, .slice none 0 0, .slice none 0 0], ?_, ?_⟩, below_drew (below_grown HB8.out (grown_six _ _ _ _ _ _ _ _) HB8.out.size (by have := HG.out; omega))⟩
                            · rw [HOF.out, HX2.out]; rfl
                            · rw [HOF.out]; exact PlanL.empty _
                          · have hq : (LV == 0) = false := by simpa using hl0
                            have HWN : Hid (Nm.wrongRule G x = none) := Lib.hid (by rw [HWR.out, if_neg (fun h => hl0 (by rw [← HLVV.out]; exact h.2))])
                            have HRKE := HRZ
                            clear hl0
                            go_upto_region 42 with (fail)
                            clear d2
                            have hrk := HRKE.out
                            have hpW := HPK.out.below hrk.bel
                            have HPW := Lib.hid hpW
                            have c0 := hrk.prod.cell 0
                            have c1 := hrk.prod.cell 1
                            have c2 := hrk.prod.cell 2
                            simp only [List.getElem?_toArray, List.getElem?_cons_zero, List.getElem?_cons_succ] at c0 c1 c2
                            obtain ⟨_, _, p2, _, _, _⟩ := hpW.six
                            have hgpl := hpW.at_.lt
                            have hgxl := hrk.prod.lt
                            have hbase : gb ≤ (W9.alloc (.cells #[.int .i64 SL, .slice aX m sX, .int .i64 LV] 72)).heap.size := by have := hpW.size; simp; omega
                            have hc3 : k + 1 + 1 ≤ maxLen := by unfold maxLen; omega
                            have hc4 : (k + 1 + 1) * 40 ≤ 140737488355328 := by omega
                            have hIL : IntL (W9.alloc (.cells #[.int .i64 SL, .slice aX m sX, .int .i64 LV] 72)) (.slice aX m sX) XJ := ⟨aX, sX, by rw [show XJ.length = m from by have := hrk.row.1; rw [vals_length] at this; omega], Lie.own (hrk.row.alloc _)⟩
                            have HIL := Lib.hid hIL
                            clear hrk hpW hIL
                            go_wp2_with (at_builtin; refine wpList_append_own2 _ rfl _ _ 31 rfl gb 72 iP _ 3 40 Tryz.underlying31 hiP hP0 hP1 hP2 rfl (by decide) _ _ _ rfl (HPW.out.alloc _).rr ⟨W9.heap.size, 0, none⟩ 1 1 [.int .i64 SL, .slice aX m sX, .int .i64 LV] rfl rfl (cells_new _ _ _) (by simp [Value.oneCell']) hc3 hc4 hbase ?_)
                            intro v' w9 hown9 hg9 hn9
                            obtain ⟨a9, s9, rfl⟩ := own_form hown9
                            have HM := Lib.hid ((HPW.out.alloc (.cells #[.int .i64 SL, .slice aX m sX, .int .i64 LV] 72)).putR (x := ⟨SL, XJ, LV⟩) (u := .slice aX m sX) (show w9.ownsRow gb 72 3 (.slice a9 (k + 1 + 1) s9) (k + 1 + 1) (prodsV (RL ++ [(⟨SL, XJ, LV⟩, .slice aX m sX)])) by rw [prodsV_append]; exact hown9) hg9 HIL.out)
                            have hA9 := (HPW.out.alloc (.cells #[.int .i64 SL, .slice aX m sX, .int .i64 LV] 72)).at_.grown hg9 (fun e => own_apart (HPW.out.alloc (.cells #[.int .i64 SL, .slice aX m sX, .int .i64 LV] 72)).rr (HPW.out.alloc (.cells #[.int .i64 SL, .slice aX m sX, .int .i64 LV] 72)).at_ (by decide) e.symm)
                            have p29 := hA9.cell 2
                            have rf9 := hA9.frozen
                            simp only [List.getElem?_toArray, List.getElem?_cons_zero, List.getElem?_cons_succ] at p29
                            clear hown9 hg9 hn9 hA9 c0 c1 c2 p2 hgpl hgxl
                            go_wp2_with fail
                            go_roundw
                            case rel =>
                              refine ⟨k + 1, a9, s9, RL ++ [(⟨SL, XJ, LV⟩, .slice aX m sX)], by omega, by go_num, ok_take HX.out HNR.out HWN.out, ?_, HM.out⟩
                              rw [List.map_append, HRL.out, take9 HX.out, List.map_append, ← List.cons_append]
                              show _ ++ [(⟨SL, XJ, LV⟩ : Nm.Prod)] = _ ++ [Nm.prod G x]
                              rw [HPXX.out]
                            case measure => simp [intOf]; omega
                  · obtain rfl : n4 = k := by omega
                    have hfull : G.rules.take n4 = G.rules := by rw [← HE4.out, List.take_length]
                    rw [hfull] at hno hrl
                    have HQ := Lib.hid (show RL.map (·.1) = (Nm.plan G).rules from by rw [hrl]; unfold Nm.plan; rw [HAC.out, HSG.out])
                    have hwe := Nm.wrong_end (none_all HE1.out (by rw [← HE1.out, List.take_length]; exact HNO.out)) hno
                    rw [HVG.out] at hwe
                    have HWE := Lib.hid hwe
                    have hpw := Lib.hid (hpk.planC (Nm.plan G).rules HQ.out)
                    have x3 := (HGG2.out.below hpk.bel hg0b).cell 3
                    simp only [List.getElem?_toArray, List.getElem?_cons_zero, List.getElem?_cons_succ] at x3
                    obtain ⟨p0, p1, p2, p3, p4, p5⟩ := hpk.six
                    have hcall := rplace_any VG G.start aV sV wr.heap.size wr (Lie.own hpk.vr).cl (by rw [HVL.out]; have := HNV.out; omega)
                    rw [HVL.out, HST.out] at hcall
                    obtain ⟨PL, hPL⟩ : ∃ p, Nm.place VG G.start = p := ⟨_, rfl⟩
                    rw [hPL] at hcall hwe
                    have HCALL := Lib.hid hcall
                    have HWE := Lib.hid hwe
                    clear hcall hfull hno hrl hpk hlt hk hPL hwe
                    go_wp2_with fail
                    refine HCALL.out.mono ?_
                    rintro e w8 ⟨rfl, mq, hw8⟩
                    have hb8 : Below wr.heap.size wr w8 := by rw [hw8]; exact below_drewN (Below.refl _ _) _
                    have hp8 := HPK.out.below hb8
                    have HP8 := Lib.hid hp8
                    have hb7 : Below gb w2 w8 := hp8.bel
                    have hgr := HGR2.out.below hb7 hg1b
                    have HGRN := Lib.hid hgr
                    have HB8 : Hid (Below w.heap.size w w8) := Lib.hid (HB2.out.trans (Below.mono hb7 hgbw))
                    have x3 := (HGG2.out.below hb7 hg0b).cell 3
                    have r0 := hgr.cell 0
                    have r1 := hgr.cell 1
                    have r2 := hgr.cell 2
                    have r3 := hgr.cell 3
                    have r4 := hgr.cell 4
                    have r5 := hgr.cell 5
                    have rf := hgr.frozen
                    have hlr := hgr.lt
                    simp only [List.getElem?_toArray, List.getElem?_cons_zero, List.getElem?_cons_succ] at x3 r0 r1 r2 r3 r4 r5
                    have hg01 : g0 < g1 := by have := HG.out.2; omega
                    clear hw8 p0 p1 p2 p3 p4 p5 hgl0 HCALL hpw x4
                    by_cases hpl : PL < 0
                    · have hd : decide (PL < 0) = true := decide_eq_true hpl
                      have HOF := Lib.hid (show Nm.ofG G = (Nm.empty, 16, G.start) from by
                        have hw := HWE.out
                        rw [if_neg (by omega)] at hw
                        have := ofG_wrong HRB.out (by rw [hw]; show (16 : Nat) ≠ 0; decide)
                        rw [hw] at this; exact this)
                      have hz0 : Below g1 w8 w8.drew := below_drew (Below.refl _ _)
                      clear hb8 hp8 hb7 hgr
                      go_wp2_with fail
                      refine Zed.begin_ (fun w' => Below g1 w8 w') [] (by kernel_rfl) ?_
                      refine Zd.pureD (i := 0) (d := some 229) (v := ?vn0) rfl rfl (by kernel_rfl) (by kernel_rfl) (by kernel_rfl) (by kernel_rfl) (by kernel_rfl) (fun _ _ _ h => h) (Or.inl ⟨by kernel_rfl, ?hyn0⟩) (.inr hz0) ?restn0
                      case hyn0 => (intro w _; go_simp; try with_reducible rfl)
                      try simp only [Act.put, List.setIfInBounds_toArray, List.set_cons_zero, List.set_cons_succ]
                      refine Zd.pureD (i := 1) (d := some 230) (v := ?vn1) rfl rfl (by kernel_rfl) (by kernel_rfl) (by kernel_rfl) (by kernel_rfl) (by kernel_rfl) (fun _ _ _ h => h) (Or.inl ⟨by kernel_rfl, ?hyn1⟩) (.inr hz0) ?restn1
                      case hyn1 => (intro w _; go_simp; try with_reducible rfl)
                      try simp only [Act.put, List.setIfInBounds_toArray, List.set_cons_zero, List.set_cons_succ]
                      refine Zd.takeD (i := 2) (d := some 231) (v := ?vn2) rfl rfl (by kernel_rfl) (by kernel_rfl) (by kernel_rfl) (by kernel_rfl) (by kernel_rfl) (fun _ _ _ h => h) (Or.inl ⟨by kernel_rfl, ?hyn2⟩) hz0 ?restn2
                      case hyn2 => (intro w hSw; (try dsimp only at hSw); have hc := (hSw.cell (p := ⟨g0, 3, none⟩) hg01).trans x3; go_simp; try with_reducible rfl)
                      try simp only [Act.put, List.setIfInBounds_toArray, List.set_cons_zero, List.set_cons_succ]
                      refine Zed.one (i := 3) (by kernel_rfl) rfl (fun K hK => ?_)
                      go_simp
                      have hz1 := below_drew (below_grown (Below.refl g1 w8) (grown_six w8 g1 (.slice none 0 0) (.slice none 0 0) (.slice none 0 0) (.slice none 0 0) (.slice none 0 0) (.slice none 0 0)) (Nat.le_of_lt hlr) (Nat.le_refl _))
                      refine hK.out _ _ (.inr hz1) ?_
                      clear hK K
                      try simp only [Act.put, List.setIfInBounds_toArray, List.set_cons_zero, List.set_cons_succ]
                      refine Zd.pureD (i := 4) (d := some 3) (v := ?vn4) rfl rfl (by kernel_rfl) (by kernel_rfl) (by kernel_rfl) (by kernel_rfl) (by kernel_rfl) (fun _ _ _ h => h) (Or.inl ⟨by kernel_rfl, ?hyn4⟩) (.inr hz1) ?restn4
                      case hyn4 => (intro w _; go_simp; try with_reducible rfl)
                      try simp only [Act.put, List.setIfInBounds_toArray, List.set_cons_zero, List.set_cons_succ]
                      refine Zd.pureD (i := 5) (d := some 4) (v := ?vn5) rfl rfl (by kernel_rfl) (by kernel_rfl) (by kernel_rfl) (by kernel_rfl) (by kernel_rfl) (fun _ _ _ h => h) (Or.inl ⟨by kernel_rfl, ?hyn5⟩) (.inr hz1) ?restn5
                      case hyn5 => (intro w _; go_simp; try with_reducible rfl)
                      try simp only [Act.put, List.setIfInBounds_toArray, List.set_cons_zero, List.set_cons_succ]
                      refine Zed.all (by kernel_rfl) ?_ _
                      go_wp2_with fail
                      refine bodyPost_ret (results_cell2 rfl _ _ _ _ rfl rfl g1 _ _ _ rfl (HGRN.out.six _ _ _ _ _ _).drew Tryz.underlying34 rfl Tryz.sizePlan) rfl ⟨⟨.agg #[.slice none 0 0, .slice none 0 0, .slice none 0 0, .slice none 0 0, .slice none 0 0, .slice none 0 0], ?_, ?_⟩, below_drew (below_grown HB8.out (grown_six _ _ _ _ _ _ _ _) HB8.out.size (by have := HG.out; omega))⟩
                      · rw [HOF.out, HST.out]; rfl
                      · rw [HOF.out]; exact PlanL.empty _
                    · have hd : decide (PL < 0) = false := decide_eq_false hpl
                      have HOF := Lib.hid (show Nm.ofG G = (Nm.plan G, 0, []) from by
                        have hw := HWE.out
                        rw [if_pos (by omega)] at hw
                        exact ofG_fine HRB.out (by rw [hw]))
                      obtain ⟨p0, p1, p2, p3, p4, p5⟩ := hp8.six
                      have hplan : Nm.plan G = ⟨TG, VG, (Nm.plan G).rules, LG, AG, CG⟩ := by
                        rw [← HTG.out, ← HVG.out, ← HLG.out, ← HAG.out, ← HCG.out]; rfl
                      have HPLAN := Lib.hid hplan
                      have HPS := Lib.hid (fun (x1 x2 x3 x4 x5 x6 : Value) => hp8.planS (Nm.plan G).rules HQ.out (fun t ht => Stay.far hgr ht (grown_six w8 g1 x1 x2 x3 x4 x5 x6)))
                      clear hb8 hp8 hb7 hgr hplan
                      go_wp2_with fail
                      refine bodyPost_ret (results_cell2 rfl _ _ _ _ rfl rfl g1 _ _ _ rfl (HGRN.out.six _ _ _ _ _ _) Tryz.underlying34 rfl Tryz.sizePlan) rfl ⟨⟨.agg #[.slice aT (n1 + 1) sT, .slice aV nV sV, .slice aR (n4 + 1) sR, .slice aL (n1 + 1) sL, .slice aA (n3 + 1) sA, .slice aC (n4 + 1) sC], ?_, ?_⟩, below_grown HB8.out (grown_six _ _ _ _ _ _ _ _) HB8.out.size (by have := HG.out; omega)⟩
                      · rw [HOF.out]; rfl
                      · rw [HOF.out]
                        show PlanL _ _ (Nm.plan G)
                        rw [HPLAN.out]
                        exact HPS.out _ _ _ _ _ _
end Go.Proofs.YtdhhkancbgealaaGreat
