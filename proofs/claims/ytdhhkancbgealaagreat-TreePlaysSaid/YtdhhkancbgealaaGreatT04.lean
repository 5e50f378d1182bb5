import Derived.Test.YtdhhkancbgealaaGreatT03
import Derived.Test.YtdhhkancbgealaaGreatT02
import Derived.BigQuiet
import Derived.Deep.QuietTactic
import Derived.Deep.Matrix
import Derived.Deep.RegionHeld3
import Derived.Lib.Builder
import Derived.Lib.AppendStr
import Derived.Lib.UnsafeStr
section
namespace Go.Proofs.YtdhhkancbgealaaGreat
open Go.RowKit
open Lx
set_option linter.unusedVariables false
set_option linter.unusedSimpArgs false
set_option maxRecDepth 100000
structure Five (a w : World) : Prop where
  tok : Stay 121 a w
  pat : Stay 119 a w
  lev : Stay 124 a w
  rul : Stay 117 a w
  str : Stay 9 a w
section
variable {a w w' : World}
theorem Five.refl (w : World) : Five w w := ⟨Stay.refl _ _, Stay.refl _ _, Stay.refl _ _, Stay.refl _ _, Stay.refl _ _⟩
theorem Five.trans (h : Five a w) (k : Five w w') : Five a w' := ⟨h.tok.trans k.tok, h.pat.trans k.pat, h.lev.trans k.lev, h.rul.trans k.rul, h.str.trans k.str⟩
theorem Five.below (h : Five a w) (hb : Below w.heap.size w w') : Five a w' := h.trans ⟨Stay.below hb, Stay.below hb, Stay.below hb, Stay.below hb, Stay.below hb⟩
theorem Five.alloc (h : Five a w) (o : Obj) : Five a (w.alloc o) := h.below ((Below.refl _ _).alloc (Nat.le_refl _) o)
theorem Five.drew (h : Five a w) : Five a w.drew := h.below (below_drew (Below.refl _ _))
theorem not_cells {w : World} {m : Nat} {lev : List Rd.Name} (h : HasSet w m lev) : ∀ k, some m = some k → ∀ t cs, ¬ At w k t cs := by
  rintro k e t cs hc
  injection e with e
  exact h.ne hc e
theorem Five.set_ {m : Nat} {lev : List Rd.Name} (h : Five a w) (hs : HasSet w m lev) (hk : w.grownBy w' (some m)) : Five a w' :=
  ⟨h.tok.grown hk fun k e => .inr (not_cells hs k e _), h.pat.grown hk fun k e => .inr (not_cells hs k e _), h.lev.grown hk fun k e => .inr (not_cells hs k e _), h.rul.grown hk fun k e => .inr (not_cells hs k e _), h.str.grown hk fun k e => .inr (not_cells hs k e _)⟩
theorem Five.new {row : Option Nat} (h : Five a w) (hk : w.grownBy w' row) (hr : ∀ k, row = some k → a.heap.size ≤ k) : Five a w' :=
  ⟨h.tok.grown hk fun k e => .inl (hr k e), h.pat.grown hk fun k e => .inl (hr k e), h.lev.grown hk fun k e => .inl (hr k e), h.rul.grown hk fun k e => .inl (hr k e), h.str.grown hk fun k e => .inl (hr k e)⟩
end
theorem HasSet.below {w w' : World} {m : Nat} {lev : List Rd.Name} (h : HasSet w m lev) (hb : Below w.heap.size w w') : HasSet w' m lev :=
  h.kept (row := none) ⟨hb.os, hb.tape, hb.output, hb.size, fun i hi _ => hb.block i hi⟩ (by simp)
end Go.Proofs.YtdhhkancbgealaaGreat
namespace Go.Proofs.YtdhhkancbgealaaGreat
open Go.RowKit
open Lx
set_option linter.unusedVariables false
set_option linter.unusedSimpArgs false
set_option maxRecDepth 100000
end Go.Proofs.YtdhhkancbgealaaGreat
namespace Go.Proofs.YtdhhkancbgealaaGreat
open Go.RowKit
open Lx
set_option linter.unusedVariables false
set_option linter.unusedSimpArgs false
set_option maxRecDepth 100000
end Go.Proofs.YtdhhkancbgealaaGreat
end
section
namespace Go.Proofs.YtdhhkancbgealaaGreat
open Go.RowKit
open Lx
set_option linter.unusedVariables false
set_option linter.unusedSimpArgs false
set_option maxRecDepth 100000
end Go.Proofs.YtdhhkancbgealaaGreat
namespace Go.Proofs.YtdhhkancbgealaaGreat
open Go.RowKit
open Lx
set_option linter.unusedVariables false
set_option linter.unusedSimpArgs false
set_option maxRecDepth 100000
end Go.Proofs.YtdhhkancbgealaaGreat
namespace Go.Proofs.YtdhhkancbgealaaGreat
open Go.RowKit
open Lx
set_option linter.unusedVariables false
set_option linter.unusedSimpArgs false
set_option maxRecDepth 100000
theorem Tryz.sizeGrammar : (Tryz.prog.info? 84).map (·.size) = some 5 := by kernel_rfl
structure GramIs (w : World) (v : Value) (G : Rd.G) : Prop where
  ex : ∃ tv sv lv rv, v = .agg #[tv, sv, lv, .string (str G.start), rv] ∧
    (∃ A cap, tv = .slice A G.toks.length cap ∧ Lie w 121 A (toksV G.toks)) ∧
    (∃ A cap, sv = .slice A G.skips.length cap ∧ Lie w 119 A (patsV G.skips)) ∧
    (∃ A cap pl, lv = .slice A G.levels.length cap ∧ pl.map (·.1) = G.levels ∧ Lie w 124 A (levsV pl) ∧ ∀ p ∈ pl, Nms w p.2 p.1.names) ∧
    (∃ A cap ql, rv = .slice A G.rules.length cap ∧ ql.map (·.1) = G.rules ∧ Lie w 117 A (rulesV ql) ∧ ∀ p ∈ ql, Nms w p.2 p.1.right)
theorem GramIs.below {w w' : World} {v : Value} {G : Rd.G} (h : GramIs w v G) (hb : Below w.heap.size w w') : GramIs w' v G := by
  obtain ⟨tv, sv, lv, rv, h0, ⟨A1, c1, h1, k1⟩, ⟨A2, c2, h2, k2⟩, ⟨A3, c3, pl, h3, q3, k3, j3⟩, ⟨A4, c4, ql, h4, q4, k4, j4⟩⟩ := h.ex
  exact ⟨tv, sv, lv, rv, h0, ⟨A1, c1, h1, k1.below hb⟩, ⟨A2, c2, h2, k2.below hb⟩, ⟨A3, c3, pl, h3, q3, k3.below hb, fun p hp => (j3 p hp).stay (Stay.below hb)⟩, ⟨A4, c4, ql, h4, q4, k4.below hb, fun p hp => (j4 p hp).stay (Stay.below hb)⟩⟩
theorem GramIs.five {w w' : World} {v : Value} {G : Rd.G} (h : GramIs w v G) (hf : Five w w') : GramIs w' v G := by
  obtain ⟨tv, sv, lv, rv, h0, ⟨A1, c1, h1, k1⟩, ⟨A2, c2, h2, k2⟩, ⟨A3, c3, pl, h3, q3, k3, j3⟩, ⟨A4, c4, ql, h4, q4, k4, j4⟩⟩ := h.ex
  exact ⟨tv, sv, lv, rv, h0, ⟨A1, c1, h1, k1.stay hf.tok⟩, ⟨A2, c2, h2, k2.stay hf.pat⟩, ⟨A3, c3, pl, h3, q3, k3.stay hf.lev, fun p hp => (j3 p hp).stay hf.str⟩, ⟨A4, c4, ql, h4, q4, k4.stay hf.rul, fun p hp => (j4 p hp).stay hf.str⟩⟩
def zeroG : Value := .agg #[.slice none 0 0, .slice none 0 0, .slice none 0 0, .string (str []), .slice none 0 0]
theorem GramIs.zero (w : World) : GramIs w zeroG Rd.zero :=
  ⟨_, _, _, _, rfl, ⟨none, 0, rfl, Lie.nil _ _ _⟩, ⟨none, 0, rfl, Lie.nil _ _ _⟩, ⟨none, 0, [], rfl, rfl, Lie.nil _ _ _, by simp⟩, ⟨none, 0, [], rfl, rfl, Lie.nil _ _ _, by simp⟩⟩
theorem Body.gram {w : World} {B : Nat} {x : Tl} {d : Rd.Decls} {rs : List Rd.Rule} {lev : List Rd.Name} (h : Body w B x d rs lev) (st : Rd.Name) : GramIs w (.agg #[x.t, x.s, x.l, .string (str st), x.r]) ⟨d.toks, d.skips, d.levels, st, rs⟩ := by
  obtain ⟨pl, h1, h2, h3⟩ := h.lvs
  obtain ⟨ql, h4, h5, h6⟩ := h.rls
  have k1 := h.tok
  have k2 := h.skp
  obtain ⟨a1, s1, e1⟩ := own_form k1
  obtain ⟨a2, s2, e2⟩ := own_form k2
  obtain ⟨a3, s3, e3⟩ := own_form h2
  obtain ⟨a4, s4, e4⟩ := own_form h5
  rw [e1] at k1
  rw [e2] at k2
  rw [e3] at h2
  rw [e4] at h5
  exact ⟨_, _, _, _, rfl, ⟨a1, s1, e1, Lie.own k1⟩, ⟨a2, s2, e2, Lie.own k2⟩, ⟨a3, s3, pl, e3, h1, Lie.own h2, h3⟩, ⟨a4, s4, ql, e4, h4, Lie.own h5, h6⟩⟩
theorem At.five_ {w : World} {g : Nat} {t : TypeId} {a b c d e : Value} (h : At w g t #[a, b, c, d, e]) (a' b' c' d' e' : Value) :
    At (((((w.setCell ⟨g, 0, none⟩ a').setCell ⟨g, 1, none⟩ b').setCell ⟨g, 2, none⟩ c').setCell ⟨g, 3, none⟩ d').setCell ⟨g, 4, none⟩ e') g t #[a', b', c', d', e'] := by
  have := ((((h.set 0 a').set 1 b').set 2 c').set 3 d').set 4 e'
  simpa using this
theorem grown_five (w : World) (g : Nat) (a' b' c' d' e' : Value) : w.grownBy (((((w.setCell ⟨g, 0, none⟩ a').setCell ⟨g, 1, none⟩ b').setCell ⟨g, 2, none⟩ c').setCell ⟨g, 3, none⟩ d').setCell ⟨g, 4, none⟩ e') (some g) :=
  grown_set (grown_set (grown_set (grown_set (grown_set (grown_refl _ _) _ _) _ _) _ _) _ _) _ _
namespace Rd
end Rd
end Go.Proofs.YtdhhkancbgealaaGreat
end
section
namespace Go.Proofs.YtdhhkancbgealaaGreat
open Go.RowKit
open Lx
set_option linter.unusedVariables false
set_option linter.unusedSimpArgs false
namespace Lx
def Ahead (a b : Nat × Nat) : Prop := a.1 < b.1 ∨ a.1 = b.1 ∧ a.2 < b.2
theorem Ahead.trans {a b c : Nat × Nat} (h : Ahead a b) (h' : Ahead b c) : Ahead a c := by
  unfold Ahead at *; omega
structure Orderly (i : Nat) (acc : List M0) : Prop where
  rise : acc.Pairwise (fun a b => a.2.2 < b.2.2)
  each : ∀ m ∈ acc, 1 ≤ m.1 ∧ m.1 ≤ 9 ∧ m.2.2 < i
theorem Orderly.mono {i j : Nat} {acc : List M0} (h : Orderly i acc) (hij : i ≤ j) : Orderly j acc :=
  ⟨h.rise, fun m hm => by have := h.each m hm; omega⟩
end Lx
end Go.Proofs.YtdhhkancbgealaaGreat
end
section
namespace Go.Proofs.YtdhhkancbgealaaGreat
open Go.RowKit
open Lx
set_option linter.unusedVariables false
set_option linter.unusedSimpArgs false
set_option maxRecDepth 100000
namespace Lx
end Lx
end Go.Proofs.YtdhhkancbgealaaGreat
namespace Go.Proofs.YtdhhkancbgealaaGreat
open Go.RowKit
open Lx
set_option linter.unusedVariables false
set_option linter.unusedSimpArgs false
set_option maxRecDepth 100000
end Go.Proofs.YtdhhkancbgealaaGreat
namespace Go.Proofs.YtdhhkancbgealaaGreat
open Go.RowKit
open Lx
set_option linter.unusedVariables false
set_option linter.unusedSimpArgs false
set_option maxRecDepth 100000
theorem flat_get {α : Type} (f : α → List Value) (n : Nat) (hf : ∀ x, (f x).length = n) : ∀ (l : List α) (i j : Nat) (x : α) (u : Value), l[i]? = some x → j < n → (f x)[j]? = some u → (l.flatMap f)[i * n + j]? = some u
  | [], i, j, x, u, h, _, _ => by simp at h
  | s :: r, 0, j, x, u, h, hj, hu => by
    simp at h; subst h
    rw [List.flatMap_cons, List.getElem?_append_left (by rw [hf]; omega)]
    simpa using hu
  | s :: r, i + 1, j, x, u, h, hj, hu => by
    have ih := flat_get f n hf r i j x u (by simpa using h) hj hu
    rw [List.flatMap_cons, List.getElem?_append_right (by rw [hf, Nat.add_mul]; omega), hf]
    have e : (i + 1) * n + j - n = i * n + j := by rw [Nat.add_mul]; omega
    rw [e, ih]
theorem some_get {α : Type} {l : List α} {i : Nat} (h : i < l.length) : ∃ x, l[i]? = some x := ⟨_, List.getElem?_eq_getElem h⟩
theorem quiet_texts {w : World} {q : Nat} {f : FuncId} {args : Array Value} {v : Value} (h : Calls Tryz.prog f args (w.drewN q) fun e w' => e = .returned v ∧ ∃ n, w' = (w.drewN q).drewN n) : Calls Tryz.prog f args (w.drewN q) fun e w'' => e = .returned v ∧ ∃ m, w'' = w.drewN m :=
  h.mono fun _ _ ⟨he, n, hm⟩ => ⟨he, q + n, by rw [hm, World.drewN_drewN]⟩
end Go.Proofs.YtdhhkancbgealaaGreat
namespace Go.Proofs.YtdhhkancbgealaaGreat
namespace Rd
open Lx (Mk)
set_option linter.unusedVariables false
set_option linter.unusedSimpArgs false
def Good (ms : List Mk) : Prop := ∃ p e, ms = p ++ [e] ∧ e.kind = 0
structure Sf (ms r : List Mk) : Prop where
  suf : r <:+ ms
  good : Good ms → Good r
theorem Sf.refl (ms : List Mk) : Sf ms ms := ⟨List.suffix_refl _, fun h => h⟩
theorem Sf.trans {a b c : List Mk} (h : Sf a b) (k : Sf b c) : Sf a c := ⟨k.suf.trans h.suf, fun g => k.good (h.good g)⟩
theorem Sf.tail {ms : List Mk} (h : (hd ms).kind ≠ 0) : Sf ms ms.tail := by
  refine ⟨List.tail_suffix _, ?_⟩
  rintro ⟨p, e, rfl, he⟩
  cases p with
  | nil => exact absurd he h
  | cons m p => exact ⟨p, e, rfl, he⟩
theorem Good.ne {ms : List Mk} (h : Good ms) : ms ≠ [] := by obtain ⟨p, e, rfl, _⟩ := h; simp
def Res.Sf {α : Type} (ms : List Mk) (x : Res α) : Prop := Rd.Sf ms x.rest
theorem Res.Sf.trans {α : Type} {a b : List Mk} {x : Res α} (h : Rd.Sf a b) (k : x.Sf b) : x.Sf a := Rd.Sf.trans h k
def Tx (ms : List Mk) : Prop := ∀ m ∈ ms, m.kind = 1 → m.text ≠ []
theorem Tx.hd {ms : List Mk} (h : Tx ms) (h1 : (hd ms).kind = 1) : (hd ms).text ≠ [] := by
  cases ms with
  | nil => simp [hd_nil] at h1
  | cons m r => exact h m (by simp) h1
structure DOk (d : Decls) : Prop where
  toks : (d.toks.map Tok.name).Nodup
  ntok : d.toks.length ≤ 20
  nskip : d.skips.length ≤ 4
  nlev : d.levels.length ≤ 10
  lev : (levelled d).Nodup
  each : ∀ l ∈ d.levels, l.names ≠ [] ∧ 1 ≤ l.assoc ∧ l.assoc ≤ 3
  start : d.started = true → d.start ≠ []
theorem DOk.none_ : DOk none_ := ⟨List.nodup_nil, by decide, by decide, by decide, List.nodup_nil, by simp [Rd.none_], by simp [Rd.none_]⟩
end Rd
end Go.Proofs.YtdhhkancbgealaaGreat
end
section
namespace Go.Proofs.YtdhhkancbgealaaGreat
namespace Rd
open Lx (Mk M0 kt)
set_option linter.unusedVariables false
set_option linter.unusedSimpArgs false
def ek (m : M0) : Mk := ⟨m.1, m.2.1, 0, 0⟩
end Rd
end Go.Proofs.YtdhhkancbgealaaGreat
namespace Go.Proofs.YtdhhkancbgealaaGreat
namespace Rd
open Lx (Mk M0 run isName isLetter isSmall)
set_option linter.unusedVariables false
set_option linter.unusedSimpArgs false
def Cut (r : List UInt8) : Prop := ∀ c t, r = c :: t → isName c = false
theorem Cut.nil : Cut [] := fun _ _ h => by cases h
theorem Cut.cons {c : UInt8} {t : List UInt8} (h : isName c = false) : Cut (c :: t) := fun _ _ e => by cases e; exact h
theorem Cut.append {p r : List UInt8} (hp : Cut p) (hr : Cut r) : Cut (p ++ r) := by
  cases p with
  | nil => exact hr
  | cons c t => exact Cut.cons (hp c t rfl)
def shift (i : Nat) (m : M0) : M0 := (m.1, m.2.1, i + m.2.2)
def Free (p : List UInt8) (ks : List M0) : Prop := ∀ (r : List UInt8) (f i : Nat) (acc : List M0), (p ++ r).length < f → ∃ f', r.length < f' ∧ run f (p ++ r) i acc = run f' r (i + p.length) (acc ++ ks.map (shift i))
def Pl (p : List UInt8) (ks : List M0) : Prop := ∀ (r : List UInt8) (f i : Nat) (acc : List M0), Cut r → (p ++ r).length < f → ∃ f', r.length < f' ∧ run f (p ++ r) i acc = run f' r (i + p.length) (acc ++ ks.map (shift i))
theorem Free.pl {p : List UInt8} {ks : List M0} (h : Free p ks) : Pl p ks := fun r f i acc _ hf => h r f i acc hf
theorem shift_shift (i j : Nat) (ks : List M0) : (ks.map (shift j)).map (shift i) = ks.map (shift (i + j)) := by
  rw [List.map_map]
  apply List.map_congr_left
  intro m _
  simp only [Function.comp, shift, Nat.add_assoc]
theorem Free.then {p q : List UInt8} {ks ls : List M0} (h : Free p ks) (k : Pl q ls) : Pl (p ++ q) (ks ++ ls.map (shift p.length)) := by
  intro r f i acc hr hf
  rw [List.append_assoc] at hf ⊢
  obtain ⟨f1, h1, e1⟩ := h (q ++ r) f i acc hf
  obtain ⟨f2, h2, e2⟩ := k r f1 (i + p.length) (acc ++ ks.map (shift i)) hr h1
  refine ⟨f2, h2, ?_⟩
  rw [e1, e2, List.length_append, List.map_append, shift_shift, Nat.add_assoc, List.append_assoc]
theorem Pl.then {p q : List UInt8} {ks ls : List M0} (h : Pl p ks) (hq : Cut q) (k : Pl q ls) : Pl (p ++ q) (ks ++ ls.map (shift p.length)) := by
  intro r f i acc hr hf
  rw [List.append_assoc] at hf ⊢
  obtain ⟨f1, h1, e1⟩ := h (q ++ r) f i acc (hq.append hr) hf
  obtain ⟨f2, h2, e2⟩ := k r f1 (i + p.length) (acc ++ ks.map (shift i)) hr h1
  refine ⟨f2, h2, ?_⟩
  rw [e1, e2, List.length_append, List.map_append, shift_shift, Nat.add_assoc, List.append_assoc]
def wd (n : Nat) : List UInt8 := [UInt8.ofNat (97 + n % 10), UInt8.ofNat (120 + n / 10 % 3)]
def tokT (n : Nat) : List UInt8 := [37, 116, 111, 107, 101, 110] ++ ([32] ++ (wd n ++ ([32] ++ ((34 :: (wd n ++ [34])) ++ [10]))))
end Rd
end Go.Proofs.YtdhhkancbgealaaGreat
namespace Go.Proofs.YtdhhkancbgealaaGreat
open Go.RowKit Go.ChangeShapes Go.WideShapes Go.ChangeAt
set_option linter.unusedVariables false
set_option linter.unusedSimpArgs false
structure Rows8 (w : World) (B : Nat) (A : Option Addr) (n : Nat) (AA : Nat → Option Addr) (NN CC : Nat → Nat) (XX : Nat → Nat → Nat) : Prop where
  each : ∀ i, i < n → ∃ b o, A = some ⟨b, o, none⟩ ∧ b < B ∧ w.cell? ⟨b, o + i, none⟩ = some (.slice (AA i) (NN i) (CC i))
  row : ∀ i, i < n → Bytes8 w B (AA i) (NN i) (XX i)
  len : n ≤ 9223372036854775807
theorem Rows8.below {w w' : World} {B : Nat} {A : Option Addr} {n : Nat} {AA : Nat → Option Addr} {NN CC : Nat → Nat} {XX : Nat → Nat → Nat} (h : Rows8 w B A n AA NN CC XX) (hb : Below B w w') : Rows8 w' B A n AA NN CC XX :=
  ⟨fun i hi => by
    obtain ⟨b, o, h1, h2, h3⟩ := h.each i hi
    exact ⟨b, o, h1, h2, (hb.cell (p := ⟨b, _, none⟩) h2).trans h3⟩, fun i hi => (h.row i hi).below hb, h.len⟩
section
variable {H : Type} {enc : TypeId × Value → H} {P : Program} {W : World} {base : Nat} {v : Value} {d : DataW H} {p : List MemPlace}
end
namespace Rd
open Lx (Mk M0)
def Pe (p : List UInt8) (es : List Mk) : Prop := ∃ ks, Pl p ks ∧ ks.map ek = es
theorem ek_shift (i : Nat) (ks : List M0) : (ks.map (shift i)).map ek = ks.map ek := by
  rw [List.map_map]; rfl
theorem Pe.then {p q : List UInt8} {es fs : List Mk} (h : Pe p es) (hq : Cut q) (k : Pe q fs) : Pe (p ++ q) (es ++ fs) := by
  obtain ⟨ks, h1, h2⟩ := h
  obtain ⟨ls, k1, k2⟩ := k
  exact ⟨_, h1.then hq k1, by rw [List.map_append, ek_shift, h2, k2]⟩
theorem Pe.of {p : List UInt8} {ks : List M0} (h : Pl p ks) : Pe p (ks.map ek) := ⟨ks, h, rfl⟩
theorem Pe.free {p q : List UInt8} {ks : List M0} {fs : List Mk} (h : Free p ks) (k : Pe q fs) : Pe (p ++ q) (ks.map ek ++ fs) := by
  obtain ⟨ls, k1, k2⟩ := k
  exact ⟨_, h.then k1, by rw [List.map_append, ek_shift, k2]⟩
def e1 (n : Nat) : Mk := ⟨1, wd n, 0, 0⟩
def ec (k : Nat) : Mk := ⟨k, [], 0, 0⟩
def rowT (l : List Nat) : List UInt8 := l.flatMap fun n => 32 :: wd n
section
variable (X : Nat → Nat) (st : Nat → Bool) (R : Nat → List Nat)
end
end Rd
end Go.Proofs.YtdhhkancbgealaaGreat
end
section
namespace Go.Proofs.YtdhhkancbgealaaGreat
open Go.RowKit
open Lx
set_option linter.unusedVariables false
set_option linter.unusedSimpArgs false
set_option maxRecDepth 100000
end Go.Proofs.YtdhhkancbgealaaGreat
namespace Go.Proofs.YtdhhkancbgealaaGreat
open Go.RowKit
open Lx
set_option linter.unusedVariables false
set_option linter.unusedSimpArgs false
set_option maxRecDepth 100000
theorem rulesV_append (a b : List (Rd.Rule × Value)) : rulesV (a ++ b) = rulesV a ++ rulesV b := by simp [rulesV]
theorem GramIs.rules {w : World} {st : ByteArray} {left : Rd.Name} {rs : List Rd.Rule} {A : Option Addr} {cap n : Nat} {ql : List (Rd.Rule × Value)} (h1 : str left = st) (h2 : n = rs.length) (h3 : ql.map (·.1) = rs) (h4 : Lie w 117 A (rulesV ql)) (h5 : ∀ p ∈ ql, Nms w p.2 p.1.right) :
    GramIs w (.agg #[.slice none 0 0, .slice none 0 0, .slice none 0 0, .string st, .slice A n cap]) ⟨[], [], [], left, rs⟩ := by
  subst h1 h2
  exact ⟨_, _, _, _, rfl, ⟨none, 0, rfl, Lie.nil _ _ _⟩, ⟨none, 0, rfl, Lie.nil _ _ _⟩, ⟨none, 0, [], rfl, rfl, Lie.nil _ _ _, by simp⟩, ⟨A, cap, ql, rfl, h3, h4, h5⟩⟩
end Go.Proofs.YtdhhkancbgealaaGreat
end
section
namespace Go.Proofs.YtdhhkancbgealaaGreat
namespace Pr
open Lx (Mk M0 isName isLetter isSmall Step)
open Rd (Name Pat Tok Lev Rule G Pl Free Pe Cut ek ec)
set_option linter.unusedVariables false
set_option linter.unusedSimpArgs false
def esc (q : UInt8 → Bool) : List UInt8 → List UInt8
  | [] => []
  | c :: r => if c = 10 then 92 :: 110 :: esc q r else if c = 9 then 92 :: 116 :: esc q r else if q c = true then 92 :: c :: esc q r else c :: esc q r
def inText (c : UInt8) : Bool := c == 92 || c == 34
def inSet (c : UInt8) : Bool := c == 92 || c == 93 || c == 45
def pattern (p : Pat) : List UInt8 := if p.text = [] then 91 :: (esc inSet p.set ++ (93 :: if p.many = true then [43] else [])) else 34 :: (esc inText p.text ++ [34])
def rowT (l : List Name) : List UInt8 := l.flatMap fun n => 32 :: n
def precT (p : Name) : List UInt8 := if p = [] then [] else [32, 37, 112, 114, 101, 99, 32] ++ p
def actT (a : Name) : List UInt8 := if a = [] then [] else 32 :: 123 :: (a ++ [125])
def ruleT (r : Rule) : List UInt8 := r.left ++ ([32, 58] ++ (rowT r.right ++ (precT r.prec ++ (actT r.action ++ [32, 59]))))
def tokT (t : Tok) : List UInt8 := [37, 116, 111, 107, 101, 110, 32] ++ (t.name ++ (32 :: (pattern t.pat ++ [10])))
def skipT (p : Pat) : List UInt8 := [37, 115, 107, 105, 112, 32] ++ (pattern p ++ [10])
def levW (a : Nat) : List UInt8 := if a = 1 then [108, 101, 102, 116] else if a = 2 then [114, 105, 103, 104, 116] else [110, 111, 110, 97, 115, 115, 111, 99]
def levT (v : Lev) : List UInt8 := 37 :: (levW v.assoc ++ (rowT v.names ++ [10]))
def midT (s : Name) : List UInt8 := [37, 115, 116, 97, 114, 116, 32] ++ (s ++ [10, 37, 37, 10])
def rulesT (l : List Rule) : List UInt8 := l.flatMap fun r => ruleT r ++ [10]
def text (g : G) : List UInt8 := g.toks.flatMap tokT ++ (g.skips.flatMap skipT ++ (g.levels.flatMap levT ++ (midT g.start ++ rulesT g.rules)))
def nameOk (n : Name) : Bool := decide (n.length ≤ 32) && (n != [] && Lx.nameOf n == n)
def rises : List UInt8 → Bool
  | a :: b :: r => decide (a < b) && rises (b :: r)
  | _ => true
def patOk (p : Pat) : Bool := if p.text = [] then p.set != [] && rises p.set else decide (p.text.length ≤ 32) && (p.set == [] && !p.many)
def actOk (a : Name) : Bool := Lx.act (a ++ [125]) [] 1 == .mark 9 a (a.length + 2)
def tokOk (t : Tok) : Bool := nameOk t.name && patOk t.pat
def levOk (v : Lev) : Bool := decide (1 ≤ v.assoc ∧ v.assoc ≤ 3) && (v.names != [] && v.names.all nameOk)
def ruleOk (r : Rule) : Bool := nameOk r.left && (decide (r.right.length ≤ 8) && (r.right.all nameOk && ((r.prec == [] || nameOk r.prec) && actOk r.action)))
structure Right (g : G) : Prop where
  ntok : g.toks.length ≤ 20
  nskip : g.skips.length ≤ 4
  nlev : g.levels.length ≤ 10
  nrule : g.rules.length ≤ 40
  rules : g.rules ≠ []
  start : nameOk g.start = true
  toks : ∀ t ∈ g.toks, tokOk t = true
  skips : ∀ p ∈ g.skips, patOk p = true
  levels : ∀ v ∈ g.levels, levOk v = true
  each : ∀ r ∈ g.rules, ruleOk r = true
  tonce : (g.toks.map Tok.name).Nodup
  lonce : (g.levels.flatMap Lev.names).Nodup
theorem nameOk_ex {n : Name} (h : nameOk n = true) : n.length ≤ 32 ∧ ∃ c t, n = c :: t ∧ isLetter c = true ∧ ∀ x ∈ n, isName x = true := by
  unfold nameOk at h
  simp only [Bool.and_eq_true, decide_eq_true_eq, bne_iff_ne, beq_iff_eq] at h
  obtain ⟨h1, h2, h3⟩ := h
  refine ⟨h1, ?_⟩
  cases n with
  | nil => exact absurd rfl h2
  | cons c t =>
    have e : Lx.nameOf (c :: t) = if isLetter c then (c :: t).takeWhile isName else [] := rfl
    rw [e] at h3
    by_cases hc : isLetter c = true
    · rw [if_pos hc] at h3
      refine ⟨c, t, rfl, hc, fun x hx => ?_⟩
      rw [← h3] at hx
      have : ∀ (l : List UInt8), ∀ x ∈ l.takeWhile isName, isName x = true := by
        intro l
        induction l with
        | nil => intro x hx; simp at hx
        | cons a r ih =>
          intro x hx
          by_cases ha : isName a = true
          · rw [List.takeWhile_cons_of_pos ha] at hx
            rcases List.mem_cons.1 hx with rfl | hx
            · exact ha
            · exact ih x hx
          · rw [List.takeWhile_cons_of_neg ha] at hx; simp at hx
      exact this _ x hx
    · rw [if_neg hc] at h3; cases h3
theorem rises_lt : ∀ (l : List UInt8) (a : UInt8), rises (a :: l) = true → ∀ x ∈ l, a < x
  | [], _, _, x, hx => by simp at hx
  | b :: r, a, h, x, hx => by
    unfold rises at h
    simp only [Bool.and_eq_true, decide_eq_true_eq] at h
    rcases List.mem_cons.1 hx with rfl | hx
    · exact h.1
    · exact UInt8.lt_trans h.1 (rises_lt r b h.2 x hx)
theorem rises_tail {a : UInt8} {l : List UInt8} (h : rises (a :: l) = true) : rises l = true := by
  cases l with
  | nil => rfl
  | cons b r => unfold rises at h; simp only [Bool.and_eq_true] at h; exact h.2
theorem filter_rises (n : Nat) : ∀ (a : Nat) (l : List UInt8), rises l = true → (∀ x ∈ l, a ≤ x.toNat ∧ x.toNat < a + n) → (List.range' a n).filter (fun j => l.any (fun c => j == c.toNat)) = l.map UInt8.toNat := by
  induction n with
  | zero =>
    intro a l _ hx
    cases l with
    | nil => rfl
    | cons c r => have := hx c (by simp); omega
  | succ n ih =>
    intro a l hr hx
    rw [List.range'_succ]
    cases l with
    | nil => simp
    | cons c r =>
      have hc := hx c (by simp)
      by_cases h : c.toNat = a
      · have hlt := rises_lt r c hr
        rw [List.filter_cons_of_pos (by simp [h]), List.map_cons, h]
        congr 1
        rw [← ih (a + 1) r (rises_tail hr) (fun x hx' => by
          have h1 := hx x (by simp [hx'])
          have h2 : c.toNat < x.toNat := UInt8.lt_iff_toNat_lt.1 (hlt x hx')
          omega)]
        apply List.filter_congr
        intro j hj
        have := (List.mem_range'_1.1 hj).1
        rw [List.any_cons]
        have e : (j == c.toNat) = false := by rw [beq_eq_false_iff_ne]; omega
        rw [e, Bool.false_or]
      · have hlt := rises_lt r c hr
        rw [List.filter_cons_of_neg, ih (a + 1) (c :: r) hr (fun x hx' => by
          have h1 := hx x hx'
          rcases List.mem_cons.1 hx' with rfl | h2
          · omega
          · have h3 : c.toNat < x.toNat := UInt8.lt_iff_toNat_lt.1 (hlt x h2)
            omega)]
        rw [Bool.not_eq_true, List.any_eq_false]
        intro x hx'
        rcases List.mem_cons.1 hx' with rfl | h2
        · simp; omega
        · have h3 : c.toNat < x.toNat := UInt8.lt_iff_toNat_lt.1 (hlt x h2)
          simp; omega
end Pr
end Go.Proofs.YtdhhkancbgealaaGreat
namespace Go.Proofs.YtdhhkancbgealaaGreat
namespace Rd
open Lx (Mk)
set_option linter.unusedVariables false
set_option linter.unusedSimpArgs false
end Rd
namespace Pr
open Lx (Mk M0 isName isLetter isSmall Step)
open Rd (Name Pat Tok Lev Rule G Pl Free Pe Cut ek ec Decls)
set_option linter.unusedVariables false
set_option linter.unusedSimpArgs false
end Pr
end Go.Proofs.YtdhhkancbgealaaGreat
end
section
namespace Go.Proofs.YtdhhkancbgealaaGreat
open Go.RowKit
open Lx
set_option linter.unusedVariables false
set_option linter.unusedSimpArgs false
set_option maxRecDepth 100000
end Go.Proofs.YtdhhkancbgealaaGreat
namespace Go.Proofs.YtdhhkancbgealaaGreat
open Go.RowKit
open Lx
set_option linter.unusedVariables false
set_option linter.unusedSimpArgs false
set_option maxRecDepth 100000
end Go.Proofs.YtdhhkancbgealaaGreat
end
