import Derived.Test.YtdhhkancbgealaaT05
import Derived.Test.YtdhhkancbgealaaT04
import Derived.BigQuiet
import Derived.Deep.QuietTactic
section
namespace Go.Proofs.Ytdhhkancbgealaa
open Go.RowKit
open Lx
set_option linter.unusedVariables false
set_option linter.unusedSimpArgs false
set_option maxRecDepth 100000
theorem Body.started {w : World} {B : Nat} {x : Tl} {d : Rd.Decls} {rs : List Rd.Rule} {lev : List Rd.Name} (h : Body w B x d rs lev) (t : Rd.Name) : Body w B { x with st := str t, b := true } { d with start := t, started := true } rs lev :=
 ⟨h.tok, h.skp, h.lvs, rfl, h.rls, h.set_, rfl, h.base⟩
theorem Body.startOf {w : World} {B : Nat} {x : Tl} {d : Rd.Decls} {rs : List Rd.Rule} {lev : List Rd.Name} (h : Body w B x d rs lev) (t : ByteArray) : Body w B { x with st := t } { d with start := bl t } rs lev :=
 ⟨h.tok, h.skp, h.lvs, rfl, h.rls, h.set_, h.b, h.base⟩
end Go.Proofs.Ytdhhkancbgealaa
namespace Go.Proofs.Ytdhhkancbgealaa
open Go.RowKit
open Lx
set_option linter.unusedVariables false
set_option linter.unusedSimpArgs false
set_option maxRecDepth 100000
end Go.Proofs.Ytdhhkancbgealaa
end
section
namespace Go.Proofs.Ytdhhkancbgealaa
open Go.RowKit
open Lx
set_option linter.unusedVariables false
set_option linter.unusedSimpArgs false
set_option maxRecDepth 100000
structure Five (a w : World) : Prop where
 tok : Stay 117 a w
 pat : Stay 115 a w
 lev : Stay 120 a w
 rul : Stay 113 a w
 str : Stay 9 a w
section
variable {a w w' : World}
theorem Five.refl (w : World) : Five w w := ⟨Stay.refl _ _, Stay.refl _ _, Stay.refl _ _, Stay.refl _ _, Stay.refl _ _⟩
theorem Five.trans (h : Five a w) (k : Five w w') : Five a w' := ⟨h.tok.trans k.tok, h.pat.trans k.pat, h.lev.trans k.lev, h.rul.trans k.rul, h.str.trans k.str⟩
theorem Five.below (h : Five a w) (hb : Below w.heap.size w w') : Five a w' := h.trans ⟨Stay.below hb, Stay.below hb, Stay.below hb, Stay.below hb, Stay.below hb⟩
theorem Five.alloc (h : Five a w) (o : Obj) : Five a (w.alloc o) := h.below ((Below.refl _ _).alloc (Nat.le_refl _) o)
theorem Five.drew (h : Five a w) : Five a w.drew := h.below (below_drew (Below.refl _ _))
theorem not_cells {w : World} {m : Nat} {lev : List Rd.Name} (h : HasSet w m lev) : ∀ k, some m = some k → ∀ t cs, ¬ At w k t cs := by
 rintro k e t cs hc
 injection e with e
 exact h.ne hc e
theorem Five.set_ {m : Nat} {lev : List Rd.Name} (h : Five a w) (hs : HasSet w m lev) (hk : w.grownBy w' (some m)) : Five a w' :=
 ⟨h.tok.grown hk fun k e => .inr (not_cells hs k e _), h.pat.grown hk fun k e => .inr (not_cells hs k e _), h.lev.grown hk fun k e => .inr (not_cells hs k e _), h.rul.grown hk fun k e => .inr (not_cells hs k e _), h.str.grown hk fun k e => .inr (not_cells hs k e _)⟩
theorem Five.new {row : Option Nat} (h : Five a w) (hk : w.grownBy w' row) (hr : ∀ k, row = some k → a.heap.size ≤ k) : Five a w' :=
 ⟨h.tok.grown hk fun k e => .inl (hr k e), h.pat.grown hk fun k e => .inl (hr k e), h.lev.grown hk fun k e => .inl (hr k e), h.rul.grown hk fun k e => .inl (hr k e), h.str.grown hk fun k e => .inl (hr k e)⟩
end
theorem HasSet.below {w w' : World} {m : Nat} {lev : List Rd.Name} (h : HasSet w m lev) (hb : Below w.heap.size w w') : HasSet w' m lev :=
 h.kept (row := none) ⟨hb.os, hb.tape, hb.output, hb.size, fun i hi _ => hb.block i hi⟩ (by simp)
end Go.Proofs.Ytdhhkancbgealaa
namespace Go.Proofs.Ytdhhkancbgealaa
open Go.RowKit
open Lx
set_option linter.unusedVariables false
set_option linter.unusedSimpArgs false
set_option maxRecDepth 100000
end Go.Proofs.Ytdhhkancbgealaa
namespace Go.Proofs.Ytdhhkancbgealaa
open Go.RowKit
open Lx
set_option linter.unusedVariables false
set_option linter.unusedSimpArgs false
set_option maxRecDepth 100000
end Go.Proofs.Ytdhhkancbgealaa
end
section
namespace Go.Proofs.Ytdhhkancbgealaa
open Go.RowKit
open Lx
set_option linter.unusedVariables false
set_option linter.unusedSimpArgs false
set_option maxRecDepth 100000
end Go.Proofs.Ytdhhkancbgealaa
namespace Go.Proofs.Ytdhhkancbgealaa
open Go.RowKit
open Lx
set_option linter.unusedVariables false
set_option linter.unusedSimpArgs false
set_option maxRecDepth 100000
end Go.Proofs.Ytdhhkancbgealaa
namespace Go.Proofs.Ytdhhkancbgealaa
open Go.RowKit
open Lx
set_option linter.unusedVariables false
set_option linter.unusedSimpArgs false
set_option maxRecDepth 100000
theorem Try.sizeGrammar : (Try.prog.info? 77).map (·.size) = some 5 := by kernel_rfl
structure GramIs (w : World) (v : Value) (G : Rd.G) : Prop where
 ex : ∃ tv sv lv rv, v = .agg #[tv, sv, lv, .string (str G.start), rv] ∧
  (∃ A cap, tv = .slice A G.toks.length cap ∧ Lie w 117 A (toksV G.toks)) ∧
  (∃ A cap, sv = .slice A G.skips.length cap ∧ Lie w 115 A (patsV G.skips)) ∧
  (∃ A cap pl, lv = .slice A G.levels.length cap ∧ pl.map (·.1) = G.levels ∧ Lie w 120 A (levsV pl) ∧ ∀ p ∈ pl, Nms w p.2 p.1.names) ∧
  (∃ A cap ql, rv = .slice A G.rules.length cap ∧ ql.map (·.1) = G.rules ∧ Lie w 113 A (rulesV ql) ∧ ∀ p ∈ ql, Nms w p.2 p.1.right)
theorem GramIs.below {w w' : World} {v : Value} {G : Rd.G} (h : GramIs w v G) (hb : Below w.heap.size w w') : GramIs w' v G := by
 obtain ⟨tv, sv, lv, rv, h0, ⟨A1, c1, h1, k1⟩, ⟨A2, c2, h2, k2⟩, ⟨A3, c3, pl, h3, q3, k3, j3⟩, ⟨A4, c4, ql, h4, q4, k4, j4⟩⟩ := h.ex
 exact ⟨tv, sv, lv, rv, h0, ⟨A1, c1, h1, k1.below hb⟩, ⟨A2, c2, h2, k2.below hb⟩, ⟨A3, c3, pl, h3, q3, k3.below hb, fun p hp => (j3 p hp).stay (Stay.below hb)⟩, ⟨A4, c4, ql, h4, q4, k4.below hb, fun p hp => (j4 p hp).stay (Stay.below hb)⟩⟩
theorem GramIs.five {w w' : World} {v : Value} {G : Rd.G} (h : GramIs w v G) (hf : Five w w') : GramIs w' v G := by
 obtain ⟨tv, sv, lv, rv, h0, ⟨A1, c1, h1, k1⟩, ⟨A2, c2, h2, k2⟩, ⟨A3, c3, pl, h3, q3, k3, j3⟩, ⟨A4, c4, ql, h4, q4, k4, j4⟩⟩ := h.ex
 exact ⟨tv, sv, lv, rv, h0, ⟨A1, c1, h1, k1.stay hf.tok⟩, ⟨A2, c2, h2, k2.stay hf.pat⟩, ⟨A3, c3, pl, h3, q3, k3.stay hf.lev, fun p hp => (j3 p hp).stay hf.str⟩, ⟨A4, c4, ql, h4, q4, k4.stay hf.rul, fun p hp => (j4 p hp).stay hf.str⟩⟩
def zeroG : Value := .agg #[.slice none 0 0, .slice none 0 0, .slice none 0 0, .string (str []), .slice none 0 0]
theorem GramIs.zero (w : World) : GramIs w zeroG Rd.zero :=
 ⟨_, _, _, _, rfl, ⟨none, 0, rfl, Lie.nil _ _ _⟩, ⟨none, 0, rfl, Lie.nil _ _ _⟩, ⟨none, 0, [], rfl, rfl, Lie.nil _ _ _, by simp⟩, ⟨none, 0, [], rfl, rfl, Lie.nil _ _ _, by simp⟩⟩
theorem Body.gram {w : World} {B : Nat} {x : Tl} {d : Rd.Decls} {rs : List Rd.Rule} {lev : List Rd.Name} (h : Body w B x d rs lev) (st : Rd.Name) : GramIs w (.agg #[x.t, x.s, x.l, .string (str st), x.r]) ⟨d.toks, d.skips, d.levels, st, rs⟩ := by
 obtain ⟨pl, h1, h2, h3⟩ := h.lvs
 obtain ⟨ql, h4, h5, h6⟩ := h.rls
 have k1 := h.tok
 have k2 := h.skp
 obtain ⟨a1, s1, e1⟩ := own_form k1
 obtain ⟨a2, s2, e2⟩ := own_form k2
 obtain ⟨a3, s3, e3⟩ := own_form h2
 obtain ⟨a4, s4, e4⟩ := own_form h5
 rw [e1] at k1
 rw [e2] at k2
 rw [e3] at h2
 rw [e4] at h5
 exact ⟨_, _, _, _, rfl, ⟨a1, s1, e1, Lie.own k1⟩, ⟨a2, s2, e2, Lie.own k2⟩, ⟨a3, s3, pl, e3, h1, Lie.own h2, h3⟩, ⟨a4, s4, ql, e4, h4, Lie.own h5, h6⟩⟩
theorem At.five_ {w : World} {g : Nat} {t : TypeId} {a b c d e : Value} (h : At w g t #[a, b, c, d, e]) (a' b' c' d' e' : Value) :
  At (((((w.setCell ⟨g, 0, none⟩ a').setCell ⟨g, 1, none⟩ b').setCell ⟨g, 2, none⟩ c').setCell ⟨g, 3, none⟩ d').setCell ⟨g, 4, none⟩ e') g t #[a', b', c', d', e'] := by
 have := ((((h.set 0 a').set 1 b').set 2 c').set 3 d').set 4 e'
 simpa using this
theorem grown_five (w : World) (g : Nat) (a' b' c' d' e' : Value) : w.grownBy (((((w.setCell ⟨g, 0, none⟩ a').setCell ⟨g, 1, none⟩ b').setCell ⟨g, 2, none⟩ c').setCell ⟨g, 3, none⟩ d').setCell ⟨g, 4, none⟩ e') (some g) :=
 grown_set (grown_set (grown_set (grown_set (grown_set (grown_refl _ _) _ _) _ _) _ _) _ _) _ _
namespace Rd
end Rd
end Go.Proofs.Ytdhhkancbgealaa
end
section
namespace Go.Proofs.Ytdhhkancbgealaa
open Go.RowKit
open Lx
set_option linter.unusedVariables false
set_option linter.unusedSimpArgs false
namespace Lx
def Ahead (a b : Nat × Nat) : Prop := a.1 < b.1 ∨ a.1 = b.1 ∧ a.2 < b.2
theorem Ahead.trans {a b c : Nat × Nat} (h : Ahead a b) (h' : Ahead b c) : Ahead a c := by
 unfold Ahead at *; omega
structure Orderly (i : Nat) (acc : List M0) : Prop where
 rise : acc.Pairwise (fun a b => a.2.2 < b.2.2)
 each : ∀ m ∈ acc, 1 ≤ m.1 ∧ m.1 ≤ 9 ∧ m.2.2 < i
theorem Orderly.mono {i j : Nat} {acc : List M0} (h : Orderly i acc) (hij : i ≤ j) : Orderly j acc :=
 ⟨h.rise, fun m hm => by have := h.each m hm; omega⟩
end Lx
end Go.Proofs.Ytdhhkancbgealaa
end
section
namespace Go.Proofs.Ytdhhkancbgealaa
open Go.RowKit
open Lx
set_option linter.unusedVariables false
set_option linter.unusedSimpArgs false
set_option maxRecDepth 100000
namespace Lx
end Lx
end Go.Proofs.Ytdhhkancbgealaa
namespace Go.Proofs.Ytdhhkancbgealaa
open Go.RowKit
open Lx
set_option linter.unusedVariables false
set_option linter.unusedSimpArgs false
set_option maxRecDepth 100000
end Go.Proofs.Ytdhhkancbgealaa
namespace Go.Proofs.Ytdhhkancbgealaa
open Go.RowKit
open Lx
set_option linter.unusedVariables false
set_option linter.unusedSimpArgs false
set_option maxRecDepth 100000
theorem flat_get {α : Type} (f : α → List Value) (n : Nat) (hf : ∀ x, (f x).length = n) : ∀ (l : List α) (i j : Nat) (x : α) (u : Value), l[i]? = some x → j < n → (f x)[j]? = some u → (l.flatMap f)[i * n + j]? = some u
 | [], i, j, x, u, h, _, _ => by simp at h
 | s :: r, 0, j, x, u, h, hj, hu => by
  simp at h; subst h
  rw [List.flatMap_cons, List.getElem?_append_left (by rw [hf]; omega)]
  simpa using hu
 | s :: r, i + 1, j, x, u, h, hj, hu => by
  have ih := flat_get f n hf r i j x u (by simpa using h) hj hu
  rw [List.flatMap_cons, List.getElem?_append_right (by rw [hf, Nat.add_mul]; omega), hf]
  have e : (i + 1) * n + j - n = i * n + j := by rw [Nat.add_mul]; omega
  rw [e, ih]
theorem some_get {α : Type} {l : List α} {i : Nat} (h : i < l.length) : ∃ x, l[i]? = some x := ⟨_, List.getElem?_eq_getElem h⟩
theorem quiet_texts {w : World} {q : Nat} {f : FuncId} {args : Array Value} {v : Value} (h : Calls Try.prog f args (w.drewN q) fun e w' => e = .returned v ∧ ∃ n, w' = (w.drewN q).drewN n) : Calls Try.prog f args (w.drewN q) fun e w'' => e = .returned v ∧ ∃ m, w'' = w.drewN m :=
 h.mono fun _ _ ⟨he, n, hm⟩ => ⟨he, q + n, by rw [hm, World.drewN_drewN]⟩
end Go.Proofs.Ytdhhkancbgealaa
namespace Go.Proofs.Ytdhhkancbgealaa
namespace Rd
open Lx (Mk)
set_option linter.unusedVariables false
set_option linter.unusedSimpArgs false
def Good (ms : List Mk) : Prop := ∃ p e, ms = p ++ [e] ∧ e.kind = 0
structure Sf (ms r : List Mk) : Prop where
 suf : r <:+ ms
 good : Good ms → Good r
theorem Sf.refl (ms : List Mk) : Sf ms ms := ⟨List.suffix_refl _, fun h => h⟩
theorem Sf.trans {a b c : List Mk} (h : Sf a b) (k : Sf b c) : Sf a c := ⟨k.suf.trans h.suf, fun g => k.good (h.good g)⟩
theorem Sf.tail {ms : List Mk} (h : (hd ms).kind ≠ 0) : Sf ms ms.tail := by
 refine ⟨List.tail_suffix _, ?_⟩
 rintro ⟨p, e, rfl, he⟩
 cases p with
 | nil => exact absurd he h
 | cons m p => exact ⟨p, e, rfl, he⟩
theorem Good.ne {ms : List Mk} (h : Good ms) : ms ≠ [] := by obtain ⟨p, e, rfl, _⟩ := h; simp
def Res.Sf {α : Type} (ms : List Mk) (x : Res α) : Prop := Rd.Sf ms x.rest
theorem Res.Sf.trans {α : Type} {a b : List Mk} {x : Res α} (h : Rd.Sf a b) (k : x.Sf b) : x.Sf a := Rd.Sf.trans h k
def Tx (ms : List Mk) : Prop := ∀ m ∈ ms, m.kind = 1 → m.text ≠ []
theorem Tx.hd {ms : List Mk} (h : Tx ms) (h1 : (hd ms).kind = 1) : (hd ms).text ≠ [] := by
 cases ms with
 | nil => simp [hd_nil] at h1
 | cons m r => exact h m (by simp) h1
structure DOk (d : Decls) : Prop where
 toks : (d.toks.map Tok.name).Nodup
 ntok : d.toks.length ≤ 20
 nskip : d.skips.length ≤ 4
 nlev : d.levels.length ≤ 10
 lev : (levelled d).Nodup
 each : ∀ l ∈ d.levels, l.names ≠ [] ∧ 1 ≤ l.assoc ∧ l.assoc ≤ 3
 start : d.started = true → d.start ≠ []
theorem DOk.none_ : DOk none_ := ⟨List.nodup_nil, by decide, by decide, by decide, List.nodup_nil, by simp [Rd.none_], by simp [Rd.none_]⟩
end Rd
end Go.Proofs.Ytdhhkancbgealaa
end
