import Derived.Test.YtdlplmbdkjkeiaaDoorOwn
import Derived.Test.YtdlplmbdkjkeiaaDoorSpare
import Derived.Test.YtdlplmbdkjkeiaaDoorOps
import Derived.Test.YtdlplmbdkjkeiaaDoorSetE
import Derived.Test.YtdlplmbdkjkeiaaDoorDgN
namespace Go.Proofs.YtdlplmbdkjkeiaaDoor
set_option maxRecDepth 100000
open Go.RowKit
set_option linter.unusedVariables false
theorem At.to {w : World} {g : Nat} {t : TypeId} {cs cs' : Array Value} (h : At w g t cs) (e : cs = cs') : At w g t cs' := e ▸ h
theorem below_set {B : Nat} {a w : World} (h : Below B a w) {p : Addr} (hp : B ≤ p.block) (u : Value) : Below B a (w.setCell p u) :=
 ⟨h.os, h.tape, h.output, by simpa [World.setCell] using h.size, fun k hk => (Below.heap_setCell w p u k (fun e => by omega)).trans (h.block k hk)⟩
theorem Spares.set {ts : List TypeId} {a w : World} {g : Nat} {t : TypeId} {cs : Array Value} (h : Spares ts a w) (ha : At w g t cs) (ht : t ∈ ts) (i : Nat) (u : Value) : Spares ts a (w.setCell ⟨g, i, none⟩ u) :=
 ⟨by simpa [World.setCell] using h.size, fun k cs' t' ht' hk => by
  have h1 := h.block k cs' t' ht' hk
  by_cases he : k = g
  ·subst he
   exact absurd (At.type ha h1 ▸ ht) ht'
  ·rw [Below.heap_setCell w _ u k he]; exact h1⟩
theorem Spares.grown {ts : List TypeId} {a w w' : World} {B e size n : Nat} {v : Value} {xs : List Value} (h : Spares ts a w) (ho : w.ownsRow B e size v n xs) (hg : w.grownBy w' v.ownBlock) (he : e ∈ ts) : Spares ts a w' :=
 h.trans ((grown_spares hg ho).mono fun t ht => by simp at ht; exact ht ▸ he)
theorem own_at {w : World} {B e size n g c : Nat} {xs : List Value} (h : w.ownsRow B e size (.slice (some ⟨g, 0, none⟩) n c) n xs) : ∃ cs, At w g e cs := by
 rcases h.2 with ⟨h1, _⟩ | ⟨g', cap, cur, h1, _, hg, _⟩
 ·cases h1
 ·simp only [Value.slice.injEq, Option.some.injEq, Addr.mk.injEq, and_true, true_and] at h1
  obtain ⟨rfl, rfl⟩ := h1
  exact ⟨cur, hg⟩
def Ap (v u : Value) : Prop := ∀ k, v.ownBlock = some k → u.ownBlock ≠ some k
theorem Ap.symm {v u : Value} (h : Ap v u) : Ap u v := fun k h1 h2 => h k h2 h1
theorem Ap.nil (u : Value) : Ap (.slice none 0 0) u := fun k h => by simp [Value.ownBlock] at h
theorem Ap.new {w : World} {v v' u : Value} (h : Ap v u) (hs : SameOrNew w v v') (hu : ∀ k, u.ownBlock = some k → k < w.heap.size) : Ap v' u := by
 intro k hk hu'
 rcases hs k hk with h1 | h1
 ·exact h k h1 hu'
 ·have := hu k hu'; omega
theorem own_ap {w w' : World} {B e size n : Nat} {v u : Value} {xs : List Value} (h : w.ownsRow B e size v n xs) (hg : w.grownBy w' u.ownBlock) (ha : Ap v u) : w'.ownsRow B e size v n xs :=
 h.kept hg (by
  cases hv : v.ownBlock with
  | none => exact .inl rfl
  | some k => exact .inr (fun e => ha k hv e.symm))
theorem own_far {w : World} {B e size n g : Nat} {v : Value} {xs : List Value} {t : TypeId} {cs : Array Value} (h : w.ownsRow B e size v n xs) (ha : At w g t cs) (hne : t ≠ e) (i : Nat) (u : Value) : (w.setCell ⟨g, i, none⟩ u).ownsRow B e size v n xs :=
 ownsRow_setCell_other h (own_apart h ha hne) u
theorem own_block {w : World} {B e size n : Nat} {v : Value} {xs : List Value} (h : w.ownsRow B e size v n xs) : ∀ k, v.ownBlock = some k → k < w.heap.size := fun k hk => (h.lt k hk).2
theorem own_slice {w : World} {B e size n : Nat} {v : Value} {xs : List Value} (h : w.ownsRow B e size v n xs) : ∃ a c, v = .slice a n c ∧ n ≤ c := by
 rcases own_shape h with ⟨rfl, rfl, _⟩ | ⟨g, cap, rfl, hc, _⟩
 ·exact ⟨none, 0, rfl, Nat.le_refl _⟩
 ·exact ⟨_, _, rfl, hc⟩
theorem own_pos {w : World} {B e size n : Nat} {v : Value} {xs : List Value} (h : w.ownsRow B e size v n xs) (hn : 0 < n) : ∃ g c, v = .slice (some ⟨g, 0, none⟩) n c ∧ n ≤ c ∧ B ≤ g := by
 rcases own_shape h with ⟨rfl, rfl, _⟩ | ⟨g, cap, rfl, hc, _, hb, _⟩
 ·omega
 ·exact ⟨_, _, rfl, hc, hb⟩
def RowIn (w : World) (B : Nat) (v : Value) (l : List Int) : Prop := ∃ A c, v = .slice A l.length c ∧ l.length ≤ c ∧ Nums w B A l.length (fun i => l.getD i 0)
theorem RowIn.below {w w' : World} {B : Nat} {v : Value} {l : List Int} (h : RowIn w B v l) (hb : Below B w w') : RowIn w' B v l := by
 obtain ⟨A, c, h1, h2, h3⟩ := h
 exact ⟨A, c, h1, h2, h3.below hb⟩
theorem RowIn.drewN {w : World} {B : Nat} {v : Value} {l : List Int} (h : RowIn w B v l) (k : Nat) : RowIn (w.drewN k) B v l := by
 obtain ⟨A, c, h1, h2, h3⟩ := h
 exact ⟨A, c, h1, h2, ⟨h3.each, h3.rx, h3.len⟩⟩
theorem RowIn.drew {w : World} {B : Nat} {v : Value} {l : List Int} (h : RowIn w B v l) : RowIn w.drew B v l := by
 obtain ⟨A, c, h1, h2, h3⟩ := h
 exact ⟨A, c, h1, h2, ⟨h3.each, h3.rx, h3.len⟩⟩
theorem below_drew {B : Nat} {a w : World} (h : Below B a w) : Below B a w.drew := ⟨h.os, h.tape, h.output, h.size, h.block⟩
theorem Spares.drew {ts : List TypeId} {a w : World} (h : Spares ts a w) : Spares ts a w.drew := ⟨h.size, h.block⟩
theorem Nums.tail {w : World} {B b o n : Nat} {x : Int} {t : List Int} (h : Nums w B (some ⟨b, o, none⟩) (x :: t).length (fun i => (x :: t).getD i 0)) : Nums w B (some ⟨b, o + 1, none⟩) t.length (fun i => t.getD i 0) := by
 refine ⟨fun i hi => ?_, fun i hi => ?_, by have := h.len; simp at this; omega⟩
 ·obtain ⟨b', o', h1, h2, h3⟩ := h.each (i + 1) (by simp; omega)
  obtain ⟨rfl, rfl⟩ := same_addr h1
  refine ⟨b, o + 1, rfl, h2, ?_⟩
  rw [show o + 1 + i = o + (i + 1) by omega, h3]
  simp
 ·have := h.rx (i + 1) (by simp; omega)
  simpa using this
theorem Nums.nil (w : World) (B : Nat) (A : Option Addr) (X : Nat → Int) : Nums w B A 0 X := ⟨fun i hi => by omega, fun i hi => by omega, by omega⟩
theorem RowIn.tail {w : World} {B : Nat} {A : Option Addr} {c : Nat} {x : Int} {t : List Int} (h : RowIn w B (.slice A (x :: t).length c) (x :: t)) :
  RowIn w B (.slice (if c = 1 then A else A.map (·.add 1)) ((x :: t).length - 1) (c - 1)) t := by
 obtain ⟨A', c', h1, h2, h3⟩ := h
 simp only [Value.slice.injEq, true_and] at h1
 obtain ⟨rfl, rfl⟩ := h1
 simp only [List.length_cons] at h2
 refine ⟨_, _, by rw [List.length_cons, Nat.add_sub_cancel], by omega, ?_⟩
 obtain ⟨b, o, rfl, _, _⟩ := h3.each 0 (by simp)
 by_cases hc : c = 1
 ·have ht : t = [] := List.eq_nil_of_length_eq_zero (by omega)
  subst ht
  exact Nums.nil _ _ _ _
 ·rw [if_neg hc]
  simp only [Option.map_some, Go.WideShapes.add_plain]
  exact h3.tail (n := 0)
theorem valsOf_set (l : List Nat) (i x : Nat) : (valsOf l).set i (.int .i64 ((x : Nat) : Int)) = valsOf (l.set i x) := by
 unfold valsOf; rw [List.map_set]
theorem valsOf_get {l : List Nat} {i x : Nat} (h : l[i]? = some x) : (valsOf l)[i]? = some (.int .i64 (x : Int)) := by simp [valsOf, h]
theorem valsOf_take (l : List Nat) (k : Nat) : (valsOf l).take k = valsOf (l.take k) := by unfold valsOf; rw [List.map_take]
theorem valsOf_drop (l : List Nat) (k : Nat) : (valsOf l).drop k = valsOf (l.drop k) := by unfold valsOf; rw [List.map_drop]
theorem valsOf_append (l m : List Nat) : valsOf (l ++ m) = valsOf l ++ valsOf m := by simp [valsOf]
theorem valsOf_one (l : List Nat) : ∀ u ∈ valsOf l, u.oneCell' = true := by
 intro u hu
 simp only [valsOf, List.mem_map] at hu
 obtain ⟨x, _, rfl⟩ := hu
 rfl
def lows (n : Nat) (f : Nat → Nat) : List Value := valsOf ((List.range n).map f)
theorem lows_length (n : Nat) (f : Nat → Nat) : (lows n f).length = n := by simp [lows, valsOf]
theorem lows_get {n i : Nat} (f : Nat → Nat) (h : i < n) : (lows n f)[i]? = some (.int .i64 (f i : Int)) := by simp [lows, valsOf, h]
theorem lows_set (n i x : Nat) (f : Nat → Nat) : (lows n f).set i (.int .i64 ((x : Nat) : Int)) = lows n (Dg.upd f i x) := by
 unfold lows
 rw [valsOf_set]
 congr 1
 apply List.ext_getElem?
 intro j
 rw [List.getElem?_set]
 by_cases hj : j < n
 ·by_cases he : i = j
  ·subst he; simp [hj, Dg.upd]
  ·have : ¬ j = i := fun e => he e.symm
   simp [hj, he, Dg.upd, this]
 ·by_cases he : i = j
  ·subst he; simp [hj]
  ·simp [hj, he]
structure Wk (w : World) (B g n : Nat) (rv lv wv pv qv : Value) (RV LV WL PL PV : List Value) (rest : Nat → List Int) (ps : List (List Nat)) : Prop where
 at_ : At w g 68 #[rv, lv, wv, pv, qv]
 base : B ≤ g
 rest_ : w.ownsRow B 28 1 rv n RV
 rows : ∀ i, i < n → ∃ v, RV[i]? = some v ∧ RowIn w B v (rest i)
 low : w.ownsRow B 3 1 lv n LV
 wait : w.ownsRow B 3 1 wv WL.length WL
 path : w.ownsRow B 3 1 pv PL.length PL
 parts : w.ownsRow B 28 1 qv PV.length PV
 plen : PV.length = ps.length
 each : ∀ (i : Nat) (P : List Nat) (v : Value), ps[i]? = some P → PV[i]? = some v → w.ownsRow B 3 1 v P.length (valsOf P)
 a1 : Ap lv wv
 a2 : Ap lv pv
 a3 : Ap wv pv
 a4 : ∀ v ∈ PV, Ap lv v ∧ Ap wv v ∧ Ap pv v
 a5 : PV.Pairwise Ap
 a6 : Ap rv qv
section
variable {w w' a : World} {B g n : Nat} {rv lv wv pv qv : Value} {RV LV WL PL PV : List Value} {rest : Nat → List Int} {ps : List (List Nat)}
theorem Wk.drewN (h : Wk w B g n rv lv wv pv qv RV LV WL PL PV rest ps) (k : Nat) : Wk (w.drewN k) B g n rv lv wv pv qv RV LV WL PL PV rest ps :=
 ⟨h.at_.drewN k, h.base, h.rest_, fun i hi => by
  obtain ⟨v, h1, h2⟩ := h.rows i hi
  exact ⟨v, h1, h2.drewN k⟩, h.low, h.wait, h.path, h.parts, h.plen, h.each, h.a1, h.a2, h.a3, h.a4, h.a5, h.a6⟩
theorem Wk.drew (h : Wk w B g n rv lv wv pv qv RV LV WL PL PV rest ps) : Wk w.drew B g n rv lv wv pv qv RV LV WL PL PV rest ps :=
 ⟨h.at_.drew, h.base, h.rest_, fun i hi => by
  obtain ⟨v, h1, h2⟩ := h.rows i hi
  exact ⟨v, h1, h2.drew⟩, h.low, h.wait, h.path, h.parts, h.plen, h.each, h.a1, h.a2, h.a3, h.a4, h.a5, h.a6⟩
theorem Wk.alloc (h : Wk w B g n rv lv wv pv qv RV LV WL PL PV rest ps) (hB : B ≤ w.heap.size) (o : Obj) : Wk (w.alloc o) B g n rv lv wv pv qv RV LV WL PL PV rest ps :=
 ⟨h.at_.alloc o, h.base, h.rest_.alloc o, fun i hi => by
  obtain ⟨v, h1, h2⟩ := h.rows i hi
  exact ⟨v, h1, h2.below ((Below.refl _ _).alloc hB o)⟩, h.low.alloc o, h.wait.alloc o, h.path.alloc o, h.parts.alloc o, h.plen, fun i P v h1 h2 => (h.each i P v h1 h2).alloc o, h.a1, h.a2, h.a3, h.a4, h.a5, h.a6⟩
theorem Wk.size (h : Wk w B g n rv lv wv pv qv RV LV WL PL PV rest ps) : B ≤ w.heap.size := by
 have := h.at_.lt; have := h.base; omega
theorem Wk.each_mem (h : Wk w B g n rv lv wv pv qv RV LV WL PL PV rest ps) {v : Value} (hv : v ∈ PV) : ∃ P, w.ownsRow B 3 1 v P.length (valsOf P) := by
 obtain ⟨i, hi⟩ := List.getElem?_of_mem hv
 have hlt := (List.getElem?_eq_some_iff.1 hi).1
 rw [h.plen] at hlt
 exact ⟨_, h.each i _ v (List.getElem?_eq_getElem hlt) hi⟩
theorem Wk.setField (h : Wk w B g n rv lv wv pv qv RV LV WL PL PV rest ps) (i : Nat) (u : Value) {rv' lv' wv' pv' qv' : Value} (he : (#[rv, lv, wv, pv, qv] : Array Value).setIfInBounds i u = #[rv', lv', wv', pv', qv'])
  (hr : w.ownsRow B 28 1 rv' n RV) (hl : w.ownsRow B 3 1 lv' n LV) {WL' PL' PV' : List Value} {ps' : List (List Nat)} (hw : w.ownsRow B 3 1 wv' WL'.length WL') (hp : w.ownsRow B 3 1 pv' PL'.length PL') (hq : w.ownsRow B 28 1 qv' PV'.length PV')
  (hpl : PV'.length = ps'.length) (hea : ∀ (i : Nat) (P : List Nat) (v : Value), ps'[i]? = some P → PV'[i]? = some v → w.ownsRow B 3 1 v P.length (valsOf P))
  (a1 : Ap lv' wv') (a2 : Ap lv' pv') (a3 : Ap wv' pv') (a4 : ∀ v ∈ PV', Ap lv' v ∧ Ap wv' v ∧ Ap pv' v) (a5 : PV'.Pairwise Ap) (a6 : Ap rv' qv') :
  Wk (w.setCell ⟨g, i, none⟩ u) B g n rv' lv' wv' pv' qv' RV LV WL' PL' PV' rest ps' :=
 ⟨(h.at_.set i u).to he, h.base, own_far hr h.at_ (by decide) i u, fun j hj => by
  obtain ⟨v, h1, h2⟩ := h.rows j hj
  exact ⟨v, h1, h2.below (below_set (Below.refl _ _) h.base u)⟩, own_far hl h.at_ (by decide) i u, own_far hw h.at_ (by decide) i u, own_far hp h.at_ (by decide) i u, own_far hq h.at_ (by decide) i u, hpl,
  fun j P v h1 h2 => own_far (hea j P v h1 h2) h.at_ (by decide) i u, a1, a2, a3, a4, a5, a6⟩
theorem Wk.kept (h : Wk w B g n rv lv wv pv qv RV LV WL PL PV rest ps) {row : Option Nat} (hg : w.grownBy w' row) (hrow : ∀ k, row = some k → B ≤ k) (hat : some g ≠ row) (h1 : rv.ownBlock = none ∨ rv.ownBlock ≠ row) (h2 : lv.ownBlock = none ∨ lv.ownBlock ≠ row)
  (h3 : wv.ownBlock = none ∨ wv.ownBlock ≠ row) (h4 : pv.ownBlock = none ∨ pv.ownBlock ≠ row) (h5 : qv.ownBlock = none ∨ qv.ownBlock ≠ row) (h6 : ∀ v ∈ PV, v.ownBlock = none ∨ v.ownBlock ≠ row) : Wk w' B g n rv lv wv pv qv RV LV WL PL PV rest ps :=
 ⟨h.at_.grown hg hat, h.base, h.rest_.kept hg h1, fun j hj => by
  obtain ⟨v, k1, k2⟩ := h.rows j hj
  exact ⟨v, k1, k2.below ((Below.refl _ _).grown hg h.size hrow)⟩, h.low.kept hg h2, h.wait.kept hg h3, h.path.kept hg h4, h.parts.kept hg h5, h.plen,
  fun j P v k1 k2 => (h.each j P v k1 k2).kept hg (h6 v (List.mem_of_getElem? k2)), h.a1, h.a2, h.a3, h.a4, h.a5, h.a6⟩
theorem ap_or {v u : Value} (h : Ap v u) : v.ownBlock = none ∨ v.ownBlock ≠ u.ownBlock := by
 cases hv : v.ownBlock with
 | none => exact .inl rfl
 | some k => exact .inr (fun e => h k hv e.symm)
theorem ap_type {B' e e' size size' m m' : Nat} {v u : Value} {xs xs' : List Value} (h : w.ownsRow B e size v m xs) (h' : w.ownsRow B' e' size' u m' xs') (hne : e ≠ e') : Ap v u := own_apart2 h h' hne
theorem Wk.pushPath (h : Wk w B g n rv lv wv pv qv RV LV WL PL PV rest ps) {pv' : Value} {PL' : List Value} (hg : w.grownBy w' pv.ownBlock) (ho : w'.ownsRow B 3 1 pv' PL'.length PL') (hs : SameOrNew w pv pv') :
  Wk (w'.setCell ⟨g, 3, none⟩ pv') B g n rv lv wv pv' qv RV LV WL PL' PV rest ps := by
 have hB : ∀ k, pv.ownBlock = some k → B ≤ k := fun k hk => (h.path.lt k hk).1
 have hat : some g ≠ pv.ownBlock := fun e => own_apart h.path h.at_ (by decide) e.symm
 have bl := own_block h.low
 have bw := own_block h.wait
 have hr := h.rest_.kept hg (ap_or (ap_type h.rest_ h.path (by decide)))
 have hl := own_ap h.low hg h.a2
 have hw := own_ap h.wait hg h.a3
 have hq := h.parts.kept hg (ap_or (ap_type h.parts h.path (by decide)))
 have he : ∀ (i : Nat) (P : List Nat) (v : Value), ps[i]? = some P → PV[i]? = some v → w'.ownsRow B 3 1 v P.length (valsOf P) := fun i P v h1 h2 => own_ap (h.each i P v h1 h2) hg (h.a4 v (List.mem_of_getElem? h2)).2.2.symm
 have a2' : Ap lv pv' := (h.a2.symm.new hs bl).symm
 have a3' : Ap wv pv' := (h.a3.symm.new hs bw).symm
 have a4' : ∀ v ∈ PV, Ap lv v ∧ Ap wv v ∧ Ap pv' v := fun v hv => ⟨(h.a4 v hv).1, (h.a4 v hv).2.1, (h.a4 v hv).2.2.new hs (by obtain ⟨P, hP⟩ := h.each_mem hv; exact own_block hP)⟩
 have h1 : At w' g 68 #[rv, lv, wv, pv, qv] := h.at_.grown hg hat
 refine ⟨(h1.set 3 pv').to (by simp), h.base, own_far hr h1 (by decide) _ _, fun j hj => ?_, own_far hl h1 (by decide) _ _, own_far hw h1 (by decide) _ _, own_far ho h1 (by decide) _ _, own_far hq h1 (by decide) _ _, h.plen, fun i P v k1 k2 => own_far (he i P v k1 k2) h1 (by decide) _ _, h.a1, a2', a3', a4', h.a5, h.a6⟩
 obtain ⟨v, k1, k2⟩ := h.rows j hj
 exact ⟨v, k1, k2.below (below_set ((Below.refl _ _).grown hg h.size hB) h.base _)⟩
theorem Wk.pushWait (h : Wk w B g n rv lv wv pv qv RV LV WL PL PV rest ps) {wv' : Value} {WL' : List Value} (hg : w.grownBy w' wv.ownBlock) (ho : w'.ownsRow B 3 1 wv' WL'.length WL') (hs : SameOrNew w wv wv') :
  Wk (w'.setCell ⟨g, 2, none⟩ wv') B g n rv lv wv' pv qv RV LV WL' PL PV rest ps := by
 have hB : ∀ k, wv.ownBlock = some k → B ≤ k := fun k hk => (h.wait.lt k hk).1
 have hat : some g ≠ wv.ownBlock := fun e => own_apart h.wait h.at_ (by decide) e.symm
 have bl := own_block h.low
 have bp := own_block h.path
 have hr := h.rest_.kept hg (ap_or (ap_type h.rest_ h.wait (by decide)))
 have hl := own_ap h.low hg h.a1
 have hp := own_ap h.path hg h.a3.symm
 have hq := h.parts.kept hg (ap_or (ap_type h.parts h.wait (by decide)))
 have he : ∀ (i : Nat) (P : List Nat) (v : Value), ps[i]? = some P → PV[i]? = some v → w'.ownsRow B 3 1 v P.length (valsOf P) := fun i P v h1 h2 => own_ap (h.each i P v h1 h2) hg (h.a4 v (List.mem_of_getElem? h2)).2.1.symm
 have a1' : Ap lv wv' := (h.a1.symm.new hs bl).symm
 have a3' : Ap wv' pv := h.a3.new hs bp
 have a4' : ∀ v ∈ PV, Ap lv v ∧ Ap wv' v ∧ Ap pv v := fun v hv => ⟨(h.a4 v hv).1, (h.a4 v hv).2.1.new hs (by obtain ⟨P, hP⟩ := h.each_mem hv; exact own_block hP), (h.a4 v hv).2.2⟩
 have h1 : At w' g 68 #[rv, lv, wv, pv, qv] := h.at_.grown hg hat
 refine ⟨(h1.set 2 wv').to (by simp), h.base, own_far hr h1 (by decide) _ _, fun j hj => ?_, own_far hl h1 (by decide) _ _, own_far ho h1 (by decide) _ _, own_far hp h1 (by decide) _ _, own_far hq h1 (by decide) _ _, h.plen, fun i P v k1 k2 => own_far (he i P v k1 k2) h1 (by decide) _ _, a1', h.a2, a3', a4', h.a5, h.a6⟩
 obtain ⟨v, k1, k2⟩ := h.rows j hj
 exact ⟨v, k1, k2.below (below_set ((Below.refl _ _).grown hg h.size hB) h.base _)⟩
theorem Wk.setLow {L c : Nat} (h : Wk w B g n rv (.slice (some ⟨L, 0, none⟩) n c) wv pv qv RV LV WL PL PV rest ps) (i : Nat) (u : Value) :
  Wk (w.setCell ⟨L, i, none⟩ u) B g n rv (.slice (some ⟨L, 0, none⟩) n c) wv pv qv RV (LV.set i u) WL PL PV rest ps := by
 obtain ⟨hst, hg⟩ := h.low.stored i u
 have hB : ∀ k, some L = some k → B ≤ k := fun k hk => by injection hk with hk; subst hk; exact (h.low.lt L rfl).1
 have hrow : (Value.slice (some ⟨L, 0, none⟩) n c).ownBlock = some L := rfl
 have hat : some g ≠ some L := fun e => own_apart h.low h.at_ (by decide) (by rw [hrow, e])
 have f : ∀ {v : Value}, Ap (.slice (some ⟨L, 0, none⟩) n c) v → v.ownBlock = none ∨ v.ownBlock ≠ some L := fun ha => ap_or ha.symm
 have hr := h.rest_.kept hg (ap_or (ap_type h.rest_ h.low (by decide)))
 have hq := h.parts.kept hg (ap_or (ap_type h.parts h.low (by decide)))
 refine ⟨h.at_.grown hg hat, h.base, hr, fun j hj => ?_, hst, h.wait.kept hg (f h.a1), h.path.kept hg (f h.a2), hq, h.plen, fun j P v k1 k2 => (h.each j P v k1 k2).kept hg (f (h.a4 v (List.mem_of_getElem? k2)).1), h.a1, h.a2, h.a3, h.a4, h.a5, h.a6⟩
 obtain ⟨v, k1, k2⟩ := h.rows j hj
 exact ⟨v, k1, k2.below ((Below.refl _ _).grown hg h.size hB)⟩
theorem Wk.setRest {L c : Nat} (h : Wk w B g n (.slice (some ⟨L, 0, none⟩) n c) lv wv pv qv RV LV WL PL PV rest ps) (i : Nat) (u : Value) (l : List Int) (hu : RowIn w B u l) :
  Wk (w.setCell ⟨L, i, none⟩ u) B g n (.slice (some ⟨L, 0, none⟩) n c) lv wv pv qv (RV.set i u) LV WL PL PV (Dg.upd rest i l) ps := by
 obtain ⟨hst, hg⟩ := h.rest_.stored i u
 have hB : ∀ k, some L = some k → B ≤ k := fun k hk => by injection hk with hk; subst hk; exact (h.rest_.lt L rfl).1
 have hrow : (Value.slice (some ⟨L, 0, none⟩) n c).ownBlock = some L := rfl
 have hat : some g ≠ some L := fun e => own_apart h.rest_ h.at_ (by decide) (by rw [hrow, e])
 have f : ∀ {v : Value} {e m : Nat} {xs : List Value}, w.ownsRow B e 1 v m xs → e ≠ 28 → v.ownBlock = none ∨ v.ownBlock ≠ some L := fun ho hne => ap_or (ap_type ho h.rest_ hne)
 have hbb : Below B w (w.setCell ⟨L, i, none⟩ u) := (Below.refl _ _).grown hg h.size hB
 refine ⟨h.at_.grown hg hat, h.base, hst, fun j hj => ?_, h.low.kept hg (f h.low (by decide)), h.wait.kept hg (f h.wait (by decide)), h.path.kept hg (f h.path (by decide)), h.parts.kept hg (ap_or h.a6.symm), h.plen,
  fun j P v k1 k2 => (h.each j P v k1 k2).kept hg (f (h.each j P v k1 k2) (by decide)), h.a1, h.a2, h.a3, h.a4, h.a5, h.a6⟩
 obtain ⟨v, k1, k2⟩ := h.rows j hj
 have hlen : i < n → i < RV.length := by intro hi; rw [h.rest_.1]; omega
 by_cases he : j = i
 ·subst he
  refine ⟨u, by rw [List.getElem?_set]; simp [hlen hj], ?_⟩
  rw [Dg.upd_self]; exact hu.below hbb
 ·refine ⟨v, by rw [List.getElem?_set, if_neg (fun e => he e.symm)]; exact k1, ?_⟩
  rw [Dg.upd_other _ _ he]; exact k2.below hbb
end
end Go.Proofs.YtdlplmbdkjkeiaaDoor
