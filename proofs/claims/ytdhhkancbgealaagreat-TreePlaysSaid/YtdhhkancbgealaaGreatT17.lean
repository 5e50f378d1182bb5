import Derived.Test.YtdhhkancbgealaaGreatT12
import Derived.Deep.RegionHeld3
import Derived.Deep.DeepCutAuto
import Derived.Deep.Cut
import Derived.Deep.CutRange
import Derived.Test.YtdhhkancbgealaaGreatT07
import Derived.BigQuiet
import Derived.Deep.QuietTactic
import Derived.Test.YtdhhkancbgealaaGreatT05
import Derived.Test.YtdhhkancbgealaaGreatT15
section
namespace Go.Proofs.YtdhhkancbgealaaGreat
open Go.RowKit
open Lx
set_option linter.unusedVariables false
set_option linter.unusedSimpArgs false
set_option maxRecDepth 100000
theorem infoProd : (Tryz.prog.info? 72).map (fun i => (i.zero, i.size, i.bytes)) = some (some (.agg #[.int .i64 0, .slice none 0 0, .int .i64 0]), 3, 40) := by kernel_rfl
def IntL (w : World) (v : Value) (l : List Int) : Prop := ∃ A cap, v = .slice A l.length cap ∧ Lie w 3 A (vals l)
theorem IntL.stay {w w' : World} {v : Value} {l : List Int} (h : IntL w v l) (hs : Stay 3 w w') : IntL w' v l := by
  obtain ⟨A, cap, h1, h2⟩ := h; exact ⟨A, cap, h1, h2.stay hs⟩
theorem IntL.intC {w : World} {v : Value} {l : List Int} (h : IntL w v l) : IntC w w.heap.size v l := by
  obtain ⟨A, cap, h1, h2⟩ := h; exact ⟨A, cap, h1, h2.cl⟩
structure Prods (w : World) (pl : List (Nm.Prod × Value)) (L : List Nm.Prod) : Prop where
  eq : pl.map (·.1) = L
  each : ∀ p ∈ pl, IntL w p.2 p.1.right
theorem Prods.stay {w w' : World} {pl : List (Nm.Prod × Value)} {L : List Nm.Prod} (h : Prods w pl L) (hs : Stay 3 w w') : Prods w' pl L := ⟨h.eq, fun p hp => (h.each p hp).stay hs⟩
theorem Prods.len {w : World} {pl : List (Nm.Prod × Value)} {L : List Nm.Prod} (h : Prods w pl L) : pl.length = L.length := by rw [← h.eq, List.length_map]
theorem own_built3 (w : World) (cs : List Value) (e : TypeId) (n : Nat) (hl : cs.length = n * 3) (h : n ≤ maxLen) : (w.alloc (.cells cs.toArray e)).ownsRow w.heap.size e 3 (.slice (some ⟨w.heap.size, 0, none⟩) n n) n cs :=
  ⟨by rw [hl], .inr ⟨w.heap.size, n, cs.toArray, rfl, Nat.le_refl _, At.new w e cs.toArray, Nat.le_refl _, h, by simp [hl], by rw [← hl]; simp⟩⟩
theorem cells_at {w : World} {b : Nat} {t : TypeId} {cs : List Value} (h : At w b t cs.toArray) : ∀ j u, cs[j]? = some u → w.cell? ((⟨b, 0, none⟩ : Addr).add j) = some u := by
  intro j u hj
  rw [Go.WideShapes.add_plain, h.cell, Nat.zero_add, ← hj]; simp
structure Bun (wz Wx : World) (gx gr : Nat) (cx cr : Array Value) (vP : Value) (nP : Nat) (xP : List Value) (vA : Value) (nA : Nat) (xA : List Value) (cur : World) : Prop where
  px : cur.ownsRow wz.heap.size 72 3 vP nP xP
  ax : cur.ownsRow wz.heap.size 9 1 vA nA xA
  hx : At cur gx 72 cx
  hr : At cur gr 117 cr
  ne : vP.ownBlock ≠ some gx
  int : Stay 3 Wx cur
  bel : Below wz.heap.size wz cur
section
variable {wz Wx cur w' : World} {gx gr nP nA n' : Nat} {cx cr : Array Value} {vP vA v' : Value} {xP xA x' : List Value}
theorem Bun.alloc (h : Bun wz Wx gx gr cx cr vP nP xP vA nA xA cur) (o : Obj) : Bun wz Wx gx gr cx cr vP nP xP vA nA xA (cur.alloc o) :=
  ⟨h.px.alloc o, h.ax.alloc o, h.hx.alloc o, h.hr.alloc o, h.ne, h.int.trans (Stay.below ((Below.refl _ _).alloc (Nat.le_refl _) o)), h.bel.alloc h.bel.size o⟩
theorem Bun.drew (h : Bun wz Wx gx gr cx cr vP nP xP vA nA xA cur) : Bun wz Wx gx gr cx cr vP nP xP vA nA xA cur.drew := ⟨h.px, h.ax, h.hx, h.hr, h.ne, h.int, below_drew h.bel⟩
theorem Bun.putA (h : Bun wz Wx gx gr cx cr vP nP xP vA nA xA cur) (ho : w'.ownsRow wz.heap.size 9 1 v' n' x') (hg : cur.grownBy w' vA.ownBlock) : Bun wz Wx gx gr cx cr vP nP xP v' n' x' w' :=
  ⟨own_stay h.px (Stay.own h.ax (by decide) hg), ho, h.hx.grown hg (fun e => own_apart h.ax h.hx (by decide) e.symm), h.hr.grown hg (fun e => own_apart h.ax h.hr (by decide) e.symm), h.ne, h.int.trans (Stay.own h.ax (by decide) hg), h.bel.grown hg h.bel.size (fun j hj => (own_lt h.ax j hj).1)⟩
end
end Go.Proofs.YtdhhkancbgealaaGreat
end
section
namespace Go.Proofs.YtdhhkancbgealaaGreat
open Go.RowKit
open Lx
set_option linter.unusedVariables false
set_option linter.unusedSimpArgs false
set_option maxRecDepth 100000
namespace Nm
theorem find?_hit {α : Type} {p : α → Bool} : ∀ {l : List α} {k : Nat} {x : α}, l[k]? = some x → p x = true → (∀ y ∈ l.take k, p y = false) → l.find? p = some x
  | [], k, x, h, _, _ => by simp at h
  | a :: r, 0, x, h, hp, _ => by simp at h; subst h; simp [hp]
  | a :: r, k + 1, x, h, hp, hn => by
    have h1 : p a = false := hn a (by simp)
    rw [List.find?_cons_of_neg (by simp [h1])]
    exact find?_hit (l := r) (k := k) (by simpa using h) hp (fun y hy => hn y (by simp [hy]))
theorem findSome?_hit {α β : Type} {f : α → Option β} {b : β} : ∀ {l : List α} {k : Nat} {x : α}, l[k]? = some x → f x = some b → (∀ y ∈ l.take k, f y = none) → l.findSome? f = some b
  | [], k, x, h, _, _ => by simp at h
  | a :: r, 0, x, h, hp, _ => by simp at h; subst h; simp [List.findSome?, hp]
  | a :: r, k + 1, x, h, hp, hn => by
    have h1 : f a = none := hn a (by simp)
    rw [List.findSome?_cons, h1]
    exact findSome?_hit (l := r) (k := k) (by simpa using h) hp (fun y hy => hn y (by simp [hy]))
theorem find?_all {α : Type} {p : α → Bool} {l : List α} (h : ∀ y ∈ l, p y = false) : l.find? p = none := by
  rw [List.find?_eq_none]; intro y hy; rw [h y hy]; decide
theorem wrong_tok {g : Rd.G} {k : Nat} {t : Rd.Tok} (hk : g.toks[k]? = some t) (ht : wrongTok g t = true) (hn : ∀ y ∈ g.toks.take k, wrongTok g y = false) : wrong g = (15, t.name) := by
  unfold wrong; rw [find?_hit hk ht hn]
theorem wrong_rul {g : Rd.G} {k : Nat} {r : Rd.Rule} {x : Nat × Rd.Name} (h0 : ∀ y ∈ g.toks, wrongTok g y = false) (hk : g.rules[k]? = some r) (ht : wrongRule g r = some x) (hn : ∀ y ∈ g.rules.take k, wrongRule g y = none) : wrong g = x := by
  unfold wrong; rw [find?_all h0, findSome?_hit hk ht hn]
theorem wrong_end {g : Rd.G} (h0 : ∀ y ∈ g.toks, wrongTok g y = false) (hn : ∀ y ∈ g.rules, wrongRule g y = none) : wrong g = if 0 ≤ place (vars g) g.start then (0, []) else (16, g.start) := by
  unfold wrong; rw [find?_all h0, List.findSome?_eq_none_iff.2 hn]
theorem wrongRule_name {g : Rd.G} {r : Rd.Rule} {k : Nat} {n : Rd.Name} (hk : r.right[k]? = some n) (ht : wrongName g n = true) (hn : ∀ y ∈ r.right.take k, wrongName g y = false) : wrongRule g r = some (16, n) := by
  unfold wrongRule; rw [find?_hit hk ht hn]
theorem wrongRule_prec {g : Rd.G} {r : Rd.Rule} (hn : ∀ y ∈ r.right, wrongName g y = false) : wrongRule g r = if r.prec ≠ [] ∧ level g r.prec = 0 then some (16, r.prec) else none := by
  unfold wrongRule; rw [find?_all hn]
end Nm
end Go.Proofs.YtdhhkancbgealaaGreat
end
section
namespace Go.Proofs.YtdhhkancbgealaaGreat
open Go.RowKit
open Lx
set_option linter.unusedVariables false
set_option linter.unusedSimpArgs false
set_option maxRecDepth 100000
theorem results_cell2 {P : Program} {fn : Func} {p q r : Tmp} {ty : TypeId} (h : fn.results = #[.cell p ty, .tmp q, .tmp r]) (tmps : Array Value) (w : World) (v u : Value) (hv : tmps.getD q undef = v) (hu' : tmps.getD r undef = u) (g : Nat) (t : TypeId) (cs : Array Value) (d : TypeDesc)
    (hp : tmps.getD p undef = .pointer (some ⟨g, 0, none⟩)) (hg : At w g t cs)
    (hu : P.underlying ty = some d) (hd : (match d with | .struct _ | .array _ _ => true | _ => false) = true) (hi : (P.info? ty).map (·.size) = some cs.size) :
    (results fn tmps).run P w = .ok (.tuple #[.agg cs, v, u]) w := by
  have hp' : tmps[p]?.getD undef = .pointer (some ⟨g, 0, none⟩) := by simpa using hp
  have hv' : tmps[q]?.getD undef = v := by simpa using hv
  have hu'' : tmps[r]?.getD undef = u := by simpa using hu'
  simp [results, h, hp', hv', hu'', asAddr, run_loadVar_row w g t ty cs (0, 0) d hg hu hd hi]
theorem ofG_bad {G : Rd.G} (h : Pr.rightB G = false) : Nm.ofG G = (Nm.empty, 1, []) := by unfold Nm.ofG; rw [if_neg (by rw [h]; decide)]
theorem ofG_wrong {G : Rd.G} (h : Pr.rightB G = true) (hw : (Nm.wrong G).1 ≠ 0) : Nm.ofG G = (Nm.empty, (Nm.wrong G).1, (Nm.wrong G).2) := by unfold Nm.ofG; rw [if_pos h, if_neg hw]
theorem ofG_fine {G : Rd.G} (h : Pr.rightB G = true) (hw : (Nm.wrong G).1 = 0) : Nm.ofG G = (Nm.plan G, 0, []) := by unfold Nm.ofG; rw [if_pos h, if_pos hw]
end Go.Proofs.YtdhhkancbgealaaGreat
end
section
namespace Go.Proofs.YtdhhkancbgealaaGreat
open Go.RowKit
open Lx
set_option linter.unusedVariables false
set_option linter.unusedSimpArgs false
set_option maxRecDepth 100000
theorem own_grow {w w' : World} {B e size n : Nat} {v : Value} {xs : List Value} {row : Option Nat} (h : w.ownsRow B e size v n xs) (hg : w.grownBy w' row) (hne : ∀ k, v.ownBlock = some k → row ≠ some k) : w'.ownsRow B e size v n xs :=
  own_keeps h ((Keeps.refl row.toList w).grown hg (fun k hk => .inl (by simp [hk]))) (fun k hk hm => hne k hk (by simpa using hm))
def Aps (v u : Value) : Prop := ∀ k, v.ownBlock = some k → u.ownBlock ≠ some k
theorem Aps.symm {v u : Value} (h : Aps v u) : Aps u v := fun k hk hv => h k hv hk
theorem Aps.next {w : World} {v v' u : Value} (h : Aps v u) (hn : SameOrNew w v v') (hu : ∀ k, u.ownBlock = some k → k < w.heap.size) : Aps v' u := fun k hk he => by
  rcases hn k hk with h1 | h1
  · exact h k h1 he
  · have := hu k he; omega
structure Pk (B : Nat) (w0 : World) (g : Nat) (vT : Value) (nT : Nat) (T : List Rd.Name) (vV : Value) (nV : Nat) (V : List Rd.Name) (vR : Value) (nR : Nat) (R : List (Nm.Prod × Value)) (vL : Value) (nL : Nat) (L : List Int) (vA : Value) (nA : Nat) (A : List Int) (vC : Value) (nC : Nat) (C : List Rd.Name) (w : World) : Prop where
  at_ : At w g 34 #[vT, vV, vR, vL, vA, vC]
  tr : w.ownsRow B 9 1 vT nT (namesV T)
  vr : w.ownsRow B 9 1 vV nV (namesV V)
  rr : w.ownsRow B 72 3 vR nR (prodsV R)
  lr : w.ownsRow B 3 1 vL nL (vals L)
  ar : w.ownsRow B 3 1 vA nA (vals A)
  cr : w.ownsRow B 9 1 vC nC (namesV C)
  tv : Aps vT vV
  tc : Aps vT vC
  vc : Aps vV vC
  la : Aps vL vA
  rn : ∀ p ∈ R, IntL w p.2 p.1.right
  hg : B ≤ g
  bel : Below B w0 w
  low : B ≤ w0.heap.size
section
variable {B g nT nV nR nL nA nC n' : Nat} {w0 w w5 w' : World} {vT vV vR vL vA vC v' : Value} {T V C X' : List Rd.Name} {R : List (Nm.Prod × Value)} {L A Y' : List Int}
theorem Pk.below (h : Pk B w0 g vT nT T vV nV V vR nR R vL nL L vA nA A vC nC C w) (hb : Below w.heap.size w w') : Pk B w0 g vT nT T vV nV V vR nR R vL nL L vA nA A vC nC C w' :=
  have hs := fun t => Stay.below (t := t) hb
  ⟨h.at_.below hb h.at_.lt, own_stay h.tr (hs _), own_stay h.vr (hs _), own_stay h.rr (hs _), own_stay h.lr (hs _), own_stay h.ar (hs _), own_stay h.cr (hs _), h.tv, h.tc, h.vc, h.la, fun p hp => (h.rn p hp).stay (hs _), h.hg, h.bel.trans (hb.mono (Nat.le_trans h.low h.bel.size)), h.low⟩
theorem Pk.alloc (h : Pk B w0 g vT nT T vV nV V vR nR R vL nL L vA nA A vC nC C w) (o : Obj) : Pk B w0 g vT nT T vV nV V vR nR R vL nL L vA nA A vC nC C (w.alloc o) := h.below ((Below.refl _ _).alloc (Nat.le_refl _) o)
theorem Pk.drewN (h : Pk B w0 g vT nT T vV nV V vR nR R vL nL L vA nA A vC nC C w) (n : Nat) : Pk B w0 g vT nT T vV nV V vR nR R vL nL L vA nA A vC nC C (w.drewN n) := h.below (below_drewN (Below.refl _ _) n)
theorem Pk.drew (h : Pk B w0 g vT nT T vV nV V vR nR R vL nL L vA nA A vC nC C w) : Pk B w0 g vT nT T vV nV V vR nR R vL nL L vA nA A vC nC C w.drew := h.below (below_drew (Below.refl _ _))
theorem Pk.size (h : Pk B w0 g vT nT T vV nV V vR nR R vL nL L vA nA A vC nC C w) : B ≤ w.heap.size := Nat.le_trans h.low h.bel.size
theorem Pk.sides (h : Pk B w0 g vT nT T vV nV V vR nR R vL nL L vA nA A vC nC C w) {row : Option Nat} {e n size : Nat} {v : Value} {xs : List Value} (hv : w.ownsRow B e size v n xs) (he : e ≠ 34) (hg : w.grownBy w5 v.ownBlock) (i : Nat) (u : Value) :
    At w5 g 34 #[vT, vV, vR, vL, vA, vC] ∧ (∀ t, t ≠ e → t ≠ 34 → Stay t w (w5.setCell ⟨g, i, none⟩ u)) ∧ (∀ t, t ≠ 34 → Stay t w5 (w5.setCell ⟨g, i, none⟩ u)) ∧ Below B w0 (w5.setCell ⟨g, i, none⟩ u) := by
  have ha := h.at_.grown hg (fun e' => own_apart hv h.at_ he.symm e'.symm)
  exact ⟨ha, fun t h1 h2 => (Stay.own hv h1 hg).trans (Stay.far ha h2 (grown_set (grown_refl _ _) i _)), fun t h2 => Stay.far ha h2 (grown_set (grown_refl _ _) i _),
    below_grown (h.bel.grown hg h.size (fun j hj => (own_lt hv j hj).1)) (grown_set (grown_refl _ _) i _) (Nat.le_trans h.size hg.size) h.hg⟩
theorem Pk.putT (h : Pk B w0 g vT nT T vV nV V vR nR R vL nL L vA nA A vC nC C w) (ho : w5.ownsRow B 9 1 v' n' (namesV X')) (hg : w.grownBy w5 vT.ownBlock) (hn : SameOrNew w vT v') :
    Pk B w0 g v' n' X' vV nV V vR nR R vL nL L vA nA A vC nC C (w5.setCell ⟨g, 0, none⟩ v') := by
  obtain ⟨ha, hs, hp, hb⟩ := h.sides (row := none) h.tr (by decide) hg 0 v'
  exact ⟨by simpa using ha.set 0 v', own_stay ho (hp _ (by decide)), own_stay (own_grow h.vr hg h.tv.symm) (hp _ (by decide)), own_stay h.rr (hs _ (by decide) (by decide)), own_stay h.lr (hs _ (by decide) (by decide)), own_stay h.ar (hs _ (by decide) (by decide)), own_stay (own_grow h.cr hg h.tc.symm) (hp _ (by decide)),
    h.tv.next hn (fun k hk => (own_lt h.vr k hk).2), h.tc.next hn (fun k hk => (own_lt h.cr k hk).2), h.vc, h.la, fun p hp' => (h.rn p hp').stay (hs _ (by decide) (by decide)), h.hg, hb, h.low⟩
theorem Pk.putV (h : Pk B w0 g vT nT T vV nV V vR nR R vL nL L vA nA A vC nC C w) (ho : w5.ownsRow B 9 1 v' n' (namesV X')) (hg : w.grownBy w5 vV.ownBlock) (hn : SameOrNew w vV v') :
    Pk B w0 g vT nT T v' n' X' vR nR R vL nL L vA nA A vC nC C (w5.setCell ⟨g, 1, none⟩ v') := by
  obtain ⟨ha, hs, hp, hb⟩ := h.sides (row := none) h.vr (by decide) hg 1 v'
  exact ⟨by simpa using ha.set 1 v', own_stay (own_grow h.tr hg h.tv) (hp _ (by decide)), own_stay ho (hp _ (by decide)), own_stay h.rr (hs _ (by decide) (by decide)), own_stay h.lr (hs _ (by decide) (by decide)), own_stay h.ar (hs _ (by decide) (by decide)), own_stay (own_grow h.cr hg h.vc.symm) (hp _ (by decide)),
    (h.tv.symm.next hn (fun k hk => (own_lt h.tr k hk).2)).symm, h.tc, h.vc.next hn (fun k hk => (own_lt h.cr k hk).2), h.la, fun p hp' => (h.rn p hp').stay (hs _ (by decide) (by decide)), h.hg, hb, h.low⟩
theorem Pk.putC (h : Pk B w0 g vT nT T vV nV V vR nR R vL nL L vA nA A vC nC C w) (ho : w5.ownsRow B 9 1 v' n' (namesV X')) (hg : w.grownBy w5 vC.ownBlock) (hn : SameOrNew w vC v') :
    Pk B w0 g vT nT T vV nV V vR nR R vL nL L vA nA A v' n' X' (w5.setCell ⟨g, 5, none⟩ v') := by
  obtain ⟨ha, hs, hp, hb⟩ := h.sides (row := none) h.cr (by decide) hg 5 v'
  exact ⟨by simpa using ha.set 5 v', own_stay (own_grow h.tr hg h.tc) (hp _ (by decide)), own_stay (own_grow h.vr hg h.vc) (hp _ (by decide)), own_stay h.rr (hs _ (by decide) (by decide)), own_stay h.lr (hs _ (by decide) (by decide)), own_stay h.ar (hs _ (by decide) (by decide)), own_stay ho (hp _ (by decide)),
    h.tv, (h.tc.symm.next hn (fun k hk => (own_lt h.tr k hk).2)).symm, (h.vc.symm.next hn (fun k hk => (own_lt h.vr k hk).2)).symm, h.la, fun p hp' => (h.rn p hp').stay (hs _ (by decide) (by decide)), h.hg, hb, h.low⟩
theorem Pk.putL (h : Pk B w0 g vT nT T vV nV V vR nR [] vL nL L vA nA A vC nC C w) (ho : w5.ownsRow B 3 1 v' n' (vals Y')) (hg : w.grownBy w5 vL.ownBlock) (hn : SameOrNew w vL v') :
    Pk B w0 g vT nT T vV nV V vR nR [] v' n' Y' vA nA A vC nC C (w5.setCell ⟨g, 3, none⟩ v') := by
  obtain ⟨ha, hs, hp, hb⟩ := h.sides (row := none) h.lr (by decide) hg 3 v'
  exact ⟨by simpa using ha.set 3 v', own_stay h.tr (hs _ (by decide) (by decide)), own_stay h.vr (hs _ (by decide) (by decide)), own_stay h.rr (hs _ (by decide) (by decide)), own_stay ho (hp _ (by decide)), own_stay (own_grow h.ar hg h.la.symm) (hp _ (by decide)), own_stay h.cr (hs _ (by decide) (by decide)),
    h.tv, h.tc, h.vc, h.la.next hn (fun k hk => (own_lt h.ar k hk).2), fun p hp' => absurd hp' (by simp), h.hg, hb, h.low⟩
theorem Pk.putA (h : Pk B w0 g vT nT T vV nV V vR nR [] vL nL L vA nA A vC nC C w) (ho : w5.ownsRow B 3 1 v' n' (vals Y')) (hg : w.grownBy w5 vA.ownBlock) (hn : SameOrNew w vA v') :
    Pk B w0 g vT nT T vV nV V vR nR [] vL nL L v' n' Y' vC nC C (w5.setCell ⟨g, 4, none⟩ v') := by
  obtain ⟨ha, hs, hp, hb⟩ := h.sides (row := none) h.ar (by decide) hg 4 v'
  exact ⟨by simpa using ha.set 4 v', own_stay h.tr (hs _ (by decide) (by decide)), own_stay h.vr (hs _ (by decide) (by decide)), own_stay h.rr (hs _ (by decide) (by decide)), own_stay (own_grow h.lr hg h.la) (hp _ (by decide)), own_stay ho (hp _ (by decide)), own_stay h.cr (hs _ (by decide) (by decide)),
    h.tv, h.tc, h.vc, (h.la.symm.next hn (fun k hk => (own_lt h.lr k hk).2)).symm, fun p hp' => absurd hp' (by simp), h.hg, hb, h.low⟩
theorem Pk.putR (h : Pk B w0 g vT nT T vV nV V vR nR R vL nL L vA nA A vC nC C w) {x : Nm.Prod} {u : Value} (ho : w5.ownsRow B 72 3 v' n' (prodsV (R ++ [(x, u)]))) (hg : w.grownBy w5 vR.ownBlock) (hx : IntL w u x.right) :
    Pk B w0 g vT nT T vV nV V v' n' (R ++ [(x, u)]) vL nL L vA nA A vC nC C (w5.setCell ⟨g, 2, none⟩ v') := by
  obtain ⟨ha, hs, hp, hb⟩ := h.sides (row := none) h.rr (by decide) hg 2 v'
  exact ⟨by simpa using ha.set 2 v', own_stay h.tr (hs _ (by decide) (by decide)), own_stay h.vr (hs _ (by decide) (by decide)), own_stay ho (hp _ (by decide)), own_stay h.lr (hs _ (by decide) (by decide)), own_stay h.ar (hs _ (by decide) (by decide)), own_stay h.cr (hs _ (by decide) (by decide)),
    h.tv, h.tc, h.vc, h.la, fun p hp' => by
      rcases List.mem_append.1 hp' with h1 | h1
      · exact (h.rn p h1).stay (hs _ (by decide) (by decide))
      · simp at h1; subst h1; exact hx.stay (hs _ (by decide) (by decide)), h.hg, hb, h.low⟩
theorem Pk.planC {a1 a2 a3 a4 a5 a6 : Option Addr} {c1 c2 c3 c4 c5 c6 : Nat} (h : Pk B w0 g (.slice a1 nT c1) nT T (.slice a2 nV c2) nV V (.slice a3 nR c3) nR R (.slice a4 nL c4) nL L (.slice a5 nA c5) nA A (.slice a6 nC c6) nC C w) (Q : List Nm.Prod) (hQ : R.map (·.1) = Q) :
    PlanC w w.heap.size (.agg #[.slice a1 nT c1, .slice a2 nV c2, .slice a3 nR c3, .slice a4 nL c4, .slice a5 nA c5, .slice a6 nC c6]) ⟨T, V, Q, L, A, C⟩ := by
  have e1 : nT = T.length := by have := h.tr.1; simp [namesV] at this; omega
  have e2 : nV = V.length := by have := h.vr.1; simp [namesV] at this; omega
  have e3 : nR = Q.length := by have := h.rr.1; rw [prodsV_length] at this; rw [← hQ, List.length_map]; omega
  have e4 : nL = L.length := by have := h.lr.1; rw [vals_length] at this; omega
  have e5 : nA = A.length := by have := h.ar.1; rw [vals_length] at this; omega
  have e6 : nC = C.length := by have := h.cr.1; simp [namesV] at this; omega
  refine ⟨a1, c1, a2, c2, a3, c3, a4, c4, a5, c5, a6, c6, ?_, (Lie.own h.tr).cl, (Lie.own h.vr).cl, ⟨R, (Lie.own h.rr).cl, hQ, fun p hp => (h.rn p hp).intC⟩, (Lie.own h.lr).cl, (Lie.own h.ar).cl, (Lie.own h.cr).cl⟩
  show _ = Value.agg #[.slice a1 T.length c1, .slice a2 V.length c2, .slice a3 Q.length c3, .slice a4 L.length c4, .slice a5 A.length c5, .slice a6 C.length c6]
  rw [← e1, ← e2, ← e3, ← e4, ← e5, ← e6]
end
namespace Nm
theorem lastL_snoc2 (L R : List Int) (y : Int) : lastL L (R ++ [y]) = if 0 ≤ y ∧ y < (L.length : Int) then L.getD y.toNat 0 else lastL L R := by
  unfold lastL; rw [List.foldl_append]; rfl
end Nm
end Go.Proofs.YtdhhkancbgealaaGreat
end
