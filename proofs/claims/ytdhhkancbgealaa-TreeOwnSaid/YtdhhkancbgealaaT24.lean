import Derived.Test.YtdhhkancbgealaaT19
import Derived.Deep.RegionHeld3
import Derived.Deep.DeepCutAuto
import Derived.Deep.Cut
import Derived.Deep.CutRange
import Derived.Test.YtdhhkancbgealaaT13
import Derived.BigQuiet
import Derived.Deep.QuietTactic
import Derived.Test.YtdhhkancbgealaaT09
section
namespace Go.Proofs.Ytdhhkancbgealaa
open Go.RowKit
open Lx
set_option linter.unusedVariables false
set_option linter.unusedSimpArgs false
set_option maxRecDepth 100000
theorem infoProd : (Try.prog.info? 94).map (fun i => (i.zero, i.size, i.bytes)) = some (some (.agg #[.int .i64 0, .slice none 0 0, .int .i64 0]), 3, 40) := by kernel_rfl
def IntL (w : World) (v : Value) (l : List Int) : Prop := ∃ A cap, v = .slice A l.length cap ∧ Lie w 3 A (vals l)
theorem IntL.stay {w w' : World} {v : Value} {l : List Int} (h : IntL w v l) (hs : Stay 3 w w') : IntL w' v l := by
 obtain ⟨A, cap, h1, h2⟩ := h; exact ⟨A, cap, h1, h2.stay hs⟩
theorem IntL.intC {w : World} {v : Value} {l : List Int} (h : IntL w v l) : IntC w w.heap.size v l := by
 obtain ⟨A, cap, h1, h2⟩ := h; exact ⟨A, cap, h1, h2.cl⟩
structure Prods (w : World) (pl : List (Nm.Prod × Value)) (L : List Nm.Prod) : Prop where
 eq : pl.map (·.1) = L
 each : ∀ p ∈ pl, IntL w p.2 p.1.right
theorem Prods.stay {w w' : World} {pl : List (Nm.Prod × Value)} {L : List Nm.Prod} (h : Prods w pl L) (hs : Stay 3 w w') : Prods w' pl L := ⟨h.eq, fun p hp => (h.each p hp).stay hs⟩
theorem Prods.len {w : World} {pl : List (Nm.Prod × Value)} {L : List Nm.Prod} (h : Prods w pl L) : pl.length = L.length := by rw [← h.eq, List.length_map]
theorem own_built3 (w : World) (cs : List Value) (e : TypeId) (n : Nat) (hl : cs.length = n * 3) (h : n ≤ maxLen) : (w.alloc (.cells cs.toArray e)).ownsRow w.heap.size e 3 (.slice (some ⟨w.heap.size, 0, none⟩) n n) n cs :=
 ⟨by rw [hl], .inr ⟨w.heap.size, n, cs.toArray, rfl, Nat.le_refl _, At.new w e cs.toArray, Nat.le_refl _, h, by simp [hl], by rw [← hl]; simp⟩⟩
theorem cells_at {w : World} {b : Nat} {t : TypeId} {cs : List Value} (h : At w b t cs.toArray) : ∀ j u, cs[j]? = some u → w.cell? ((⟨b, 0, none⟩ : Addr).add j) = some u := by
 intro j u hj
 rw [Go.WideShapes.add_plain, h.cell, Nat.zero_add, ← hj]; simp
structure Bun (wz Wx : World) (gx gr : Nat) (cx cr : Array Value) (vP : Value) (nP : Nat) (xP : List Value) (vA : Value) (nA : Nat) (xA : List Value) (cur : World) : Prop where
 px : cur.ownsRow wz.heap.size 94 3 vP nP xP
 ax : cur.ownsRow wz.heap.size 9 1 vA nA xA
 hx : At cur gx 94 cx
 hr : At cur gr 113 cr
 ne : vP.ownBlock ≠ some gx
 int : Stay 3 Wx cur
 bel : Below wz.heap.size wz cur
section
variable {wz Wx cur w' : World} {gx gr nP nA n' : Nat} {cx cr : Array Value} {vP vA v' : Value} {xP xA x' : List Value}
theorem Bun.alloc (h : Bun wz Wx gx gr cx cr vP nP xP vA nA xA cur) (o : Obj) : Bun wz Wx gx gr cx cr vP nP xP vA nA xA (cur.alloc o) :=
 ⟨h.px.alloc o, h.ax.alloc o, h.hx.alloc o, h.hr.alloc o, h.ne, h.int.trans (Stay.below ((Below.refl _ _).alloc (Nat.le_refl _) o)), h.bel.alloc h.bel.size o⟩
theorem Bun.drew (h : Bun wz Wx gx gr cx cr vP nP xP vA nA xA cur) : Bun wz Wx gx gr cx cr vP nP xP vA nA xA cur.drew := ⟨h.px, h.ax, h.hx, h.hr, h.ne, h.int, below_drew h.bel⟩
theorem Bun.putA (h : Bun wz Wx gx gr cx cr vP nP xP vA nA xA cur) (ho : w'.ownsRow wz.heap.size 9 1 v' n' x') (hg : cur.grownBy w' vA.ownBlock) : Bun wz Wx gx gr cx cr vP nP xP v' n' x' w' :=
 ⟨own_stay h.px (Stay.own h.ax (by decide) hg), ho, h.hx.grown hg (fun e => own_apart h.ax h.hx (by decide) e.symm), h.hr.grown hg (fun e => own_apart h.ax h.hr (by decide) e.symm), h.ne, h.int.trans (Stay.own h.ax (by decide) hg), h.bel.grown hg h.bel.size (fun j hj => (own_lt h.ax j hj).1)⟩
end
end Go.Proofs.Ytdhhkancbgealaa
end
section
namespace Go.Proofs.Ytdhhkancbgealaa
open Go.RowKit
open Lx
set_option linter.unusedVariables false
set_option linter.unusedSimpArgs false
set_option maxRecDepth 100000
namespace Nm
theorem find?_hit {α : Type} {p : α → Bool} : ∀ {l : List α} {k : Nat} {x : α}, l[k]? = some x → p x = true → (∀ y ∈ l.take k, p y = false) → l.find? p = some x
 | [], k, x, h, _, _ => by simp at h
 | a :: r, 0, x, h, hp, _ => by simp at h; subst h; simp [hp]
 | a :: r, k + 1, x, h, hp, hn => by
  have h1 : p a = false := hn a (by simp)
  rw [List.find?_cons_of_neg (by simp [h1])]
  exact find?_hit (l := r) (k := k) (by simpa using h) hp (fun y hy => hn y (by simp [hy]))
theorem findSome?_hit {α β : Type} {f : α → Option β} {b : β} : ∀ {l : List α} {k : Nat} {x : α}, l[k]? = some x → f x = some b → (∀ y ∈ l.take k, f y = none) → l.findSome? f = some b
 | [], k, x, h, _, _ => by simp at h
 | a :: r, 0, x, h, hp, _ => by simp at h; subst h; simp [List.findSome?, hp]
 | a :: r, k + 1, x, h, hp, hn => by
  have h1 : f a = none := hn a (by simp)
  rw [List.findSome?_cons, h1]
  exact findSome?_hit (l := r) (k := k) (by simpa using h) hp (fun y hy => hn y (by simp [hy]))
theorem find?_all {α : Type} {p : α → Bool} {l : List α} (h : ∀ y ∈ l, p y = false) : l.find? p = none := by
 rw [List.find?_eq_none]; intro y hy; rw [h y hy]; decide
theorem wrong_tok {g : Rd.G} {k : Nat} {t : Rd.Tok} (hk : g.toks[k]? = some t) (ht : wrongTok g t = true) (hn : ∀ y ∈ g.toks.take k, wrongTok g y = false) : wrong g = (15, t.name) := by
 unfold wrong; rw [find?_hit hk ht hn]
theorem wrong_rul {g : Rd.G} {k : Nat} {r : Rd.Rule} {x : Nat × Rd.Name} (h0 : ∀ y ∈ g.toks, wrongTok g y = false) (hk : g.rules[k]? = some r) (ht : wrongRule g r = some x) (hn : ∀ y ∈ g.rules.take k, wrongRule g y = none) : wrong g = x := by
 unfold wrong; rw [find?_all h0, findSome?_hit hk ht hn]
theorem wrong_end {g : Rd.G} (h0 : ∀ y ∈ g.toks, wrongTok g y = false) (hn : ∀ y ∈ g.rules, wrongRule g y = none) : wrong g = if 0 ≤ place (vars g) g.start then (0, []) else (16, g.start) := by
 unfold wrong; rw [find?_all h0, List.findSome?_eq_none_iff.2 hn]
theorem wrongRule_name {g : Rd.G} {r : Rd.Rule} {k : Nat} {n : Rd.Name} (hk : r.right[k]? = some n) (ht : wrongName g n = true) (hn : ∀ y ∈ r.right.take k, wrongName g y = false) : wrongRule g r = some (16, n) := by
 unfold wrongRule; rw [find?_hit hk ht hn]
theorem wrongRule_prec {g : Rd.G} {r : Rd.Rule} (hn : ∀ y ∈ r.right, wrongName g y = false) : wrongRule g r = if r.prec ≠ [] ∧ level g r.prec = 0 then some (16, r.prec) else none := by
 unfold wrongRule; rw [find?_all hn]
end Nm
end Go.Proofs.Ytdhhkancbgealaa
end
section
namespace Go.Proofs.Ytdhhkancbgealaa
open Go.RowKit
open Lx
set_option linter.unusedVariables false
set_option linter.unusedSimpArgs false
set_option maxRecDepth 100000
theorem results_cell2 {P : Program} {fn : Func} {p q r : Tmp} {ty : TypeId} (h : fn.results = #[.cell p ty, .tmp q, .tmp r]) (tmps : Array Value) (w : World) (v u : Value) (hv : tmps.getD q undef = v) (hu' : tmps.getD r undef = u) (g : Nat) (t : TypeId) (cs : Array Value) (d : TypeDesc)
  (hp : tmps.getD p undef = .pointer (some ⟨g, 0, none⟩)) (hg : At w g t cs)
  (hu : P.underlying ty = some d) (hd : (match d with | .struct _ | .array _ _ => true | _ => false) = true) (hi : (P.info? ty).map (·.size) = some cs.size) :
  (results fn tmps).run P w = .ok (.tuple #[.agg cs, v, u]) w := by
 have hp' : tmps[p]?.getD undef = .pointer (some ⟨g, 0, none⟩) := by simpa using hp
 have hv' : tmps[q]?.getD undef = v := by simpa using hv
 have hu'' : tmps[r]?.getD undef = u := by simpa using hu'
 simp [results, h, hp', hv', hu'', asAddr, run_loadVar_row w g t ty cs (0, 0) d hg hu hd hi]
theorem ofG_bad {G : Rd.G} (h : Pr.rightB G = false) : Nm.ofG G = (Nm.empty, 1, []) := by unfold Nm.ofG; rw [if_neg (by rw [h]; decide)]
theorem ofG_wrong {G : Rd.G} (h : Pr.rightB G = true) (hw : (Nm.wrong G).1 ≠ 0) : Nm.ofG G = (Nm.empty, (Nm.wrong G).1, (Nm.wrong G).2) := by unfold Nm.ofG; rw [if_pos h, if_neg hw]
theorem ofG_fine {G : Rd.G} (h : Pr.rightB G = true) (hw : (Nm.wrong G).1 = 0) : Nm.ofG G = (Nm.plan G, 0, []) := by unfold Nm.ofG; rw [if_pos h, if_pos hw]
end Go.Proofs.Ytdhhkancbgealaa
end
