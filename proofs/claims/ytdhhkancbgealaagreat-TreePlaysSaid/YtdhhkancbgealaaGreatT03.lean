import Derived.Test.YtdhhkancbgealaaGreatT02
import Derived.Maps.OwnSet
import Derived.Deep.RegionLaw
section
namespace Go.Proofs.YtdhhkancbgealaaGreat
namespace Rd
open Lx (Mk)
abbrev Name := List UInt8
structure Pat where
  text : Name
  set : Name
  many : Bool
deriving DecidableEq
structure Tok where
  name : Name
  pat : Pat
deriving DecidableEq
structure Lev where
  assoc : Nat
  names : List Name
deriving DecidableEq
structure Rule where
  left : Name
  right : List Name
  prec : Name
  action : Name
deriving DecidableEq
structure Decls where
  toks : List Tok
  skips : List Pat
  levels : List Lev
  start : Name
  started : Bool
deriving DecidableEq
structure G where
  toks : List Tok
  skips : List Pat
  levels : List Lev
  start : Name
  rules : List Rule
deriving DecidableEq
def none_ : Decls := ⟨[], [], [], [], false⟩
def zero : G := ⟨[], [], [], [], []⟩
inductive Res (α : Type) where
  | ok (a : α) (rest : List Mk)
  | bad (e : Nat) (rest : List Mk)
deriving DecidableEq
def hd (ms : List Mk) : Mk := ms.headD ⟨0, [], 0, 0⟩
theorem hd_nil : hd [] = ⟨0, [], 0, 0⟩ := rfl
def isWord (t : Name) (m : Mk) : Bool := m.kind == 2 && m.text == t
def pattern (ms : List Mk) : Res Pat :=
  if (hd ms).kind = 3 then .ok ⟨(hd ms).text, [], false⟩ ms.tail
  else if (hd ms).kind = 4 then (if (hd ms.tail).kind = 5 then .ok ⟨[], (hd ms).text, true⟩ ms.tail.tail else .ok ⟨[], (hd ms).text, false⟩ ms.tail)
  else .bad 14 ms
def token (d : Decls) (ms : List Mk) : Res Decls :=
  if (hd ms.tail).kind ≠ 1 then .bad 14 ms.tail
  else if (d.toks.any fun t => t.name == (hd ms.tail).text) = true then .bad 15 ms.tail
  else if d.toks.length = 20 then .bad 3 ms.tail
  else match pattern ms.tail.tail with
    | .bad e r => .bad e r
    | .ok p r => .ok { d with toks := d.toks ++ [⟨(hd ms.tail).text, p⟩] } r
def skip (d : Decls) (ms : List Mk) : Res Decls :=
  if d.skips.length = 4 then .bad 3 ms
  else match pattern ms.tail with
    | .bad e r => .bad e r
    | .ok p r => .ok { d with skips := d.skips ++ [p] } r
def levelled (d : Decls) : List Name := d.levels.flatMap Lev.names
def names (lev : List Name) : List Mk → List Name → Res (List Name)
  | [], acc => .ok acc []
  | m :: r, acc => if m.kind = 1 then (if m.text ∈ lev ++ acc then .bad 15 (m :: r) else names lev r (acc ++ [m.text])) else .ok acc (m :: r)
def level (a : Nat) (d : Decls) (ms : List Mk) : Res Decls :=
  if d.levels.length = 10 then .bad 3 ms
  else match names (levelled d) ms.tail [] with
    | .bad e r => .bad e r
    | .ok l r => if l = [] then .bad 14 r else .ok { d with levels := d.levels ++ [⟨a, l⟩] } r
def start (d : Decls) (ms : List Mk) : Res Decls :=
  if d.started = true then .bad 15 ms
  else if (hd ms.tail).kind = 1 then .ok { d with start := (hd ms.tail).text, started := true } ms.tail.tail
  else .bad 14 ms.tail
def wordNo (t : Name) : Nat :=
  if t = [116, 111, 107, 101, 110] then 0 else if t = [115, 107, 105, 112] then 1 else if t = [108, 101, 102, 116] then 2 else if t = [114, 105, 103, 104, 116] then 3
  else if t = [110, 111, 110, 97, 115, 115, 111, 99] then 4 else if t = [115, 116, 97, 114, 116] then 5 else 6
def declNo : Nat → Decls → List Mk → Res Decls
  | 0, d, ms => token d ms
  | 1, d, ms => skip d ms
  | 2, d, ms => level 1 d ms
  | 3, d, ms => level 2 d ms
  | 4, d, ms => level 3 d ms
  | 5, d, ms => start d ms
  | _, _, ms => .bad 14 ms
def decl (d : Decls) (ms : List Mk) : Res Decls := if (hd ms).kind = 2 then declNo (wordNo (hd ms).text) d ms else .bad 14 ms
def decls : Nat → Decls → List Mk → Res Decls
  | 0, _, ms => .bad 14 ms
  | f + 1, d, ms => if isWord [37] (hd ms) = true then .ok d ms.tail else
    match decl d ms with
    | .bad e r => .bad e r
    | .ok d' r => decls f d' r
def rights : List Mk → List Name → Res (List Name)
  | [], acc => .ok acc []
  | m :: r, acc => if m.kind = 1 then (if acc.length = 8 then .bad 3 (m :: r) else rights r (acc ++ [m.text])) else .ok acc (m :: r)
def prec (ms : List Mk) : Res Name :=
  if isWord [112, 114, 101, 99] (hd ms) = true then (if (hd ms.tail).kind = 1 then .ok (hd ms.tail).text ms.tail.tail else .bad 14 ms.tail) else .ok [] ms
def action (x : Rule) (ms : List Mk) : Res Rule := if (hd ms).kind = 9 then .ok { x with action := (hd ms).text } ms.tail else .ok x ms
def alt (left : Name) (n : Nat) (ms : List Mk) : Res Rule :=
  if n = 40 then .bad 3 ms
  else match rights ms [] with
    | .bad e r => .bad e r
    | .ok l r => match prec r with
      | .bad e r' => .bad e r'
      | .ok p r' => action ⟨left, l, p, []⟩ r'
def alts : Nat → Name → List Rule → List Mk → Res (List Rule)
  | 0, _, _, ms => .bad 14 ms
  | f + 1, left, acc, ms =>
    match alt left acc.length ms with
    | .bad e r => .bad e r
    | .ok x r => if (hd r).kind = 8 then .ok (acc ++ [x]) r.tail else if (hd r).kind = 7 then alts f left (acc ++ [x]) r.tail else .bad 14 r
def rule (acc : List Rule) (ms : List Mk) : Res (List Rule) :=
  if (hd ms).kind ≠ 1 then .bad 14 ms else if (hd ms.tail).kind ≠ 6 then .bad 14 ms.tail else alts (ms.length + 1) (hd ms).text acc ms.tail.tail
def rules : Nat → List Rule → List Mk → Res (List Rule)
  | 0, _, ms => .bad 14 ms
  | f + 1, acc, ms =>
    match rule acc ms with
    | .bad e r => .bad e r
    | .ok acc' r => if (hd r).kind = 0 then .ok acc' r else rules f acc' r
def startOf (d : Decls) (rs : List Rule) : Name := if d.started = true then d.start else (rs.headD ⟨[], [], [], []⟩).left
def parse (ms : List Mk) : Res G :=
  match decls (ms.length + 1) none_ ms with
  | .bad e r => .bad e r
  | .ok d r => match rules (r.length + 1) [] r with
    | .bad e r' => .bad e r'
    | .ok rs r' => .ok ⟨d.toks, d.skips, d.levels, startOf d rs, rs⟩ r'
def Res.grammar : Res G → G
  | .ok g _ => g
  | .bad _ _ => zero
def readG (l : List UInt8) : G :=
  match Lx.lex l with
  | .bad _ _ => zero
  | .ok ms => (parse (ms.map (Lx.mkOf l))).grammar
example : readG [37, 37, 32, 69, 32, 58, 59] = ⟨[], [], [], [69], [⟨[69], [], [], []⟩]⟩ := by decide +kernel
end Rd
end Go.Proofs.YtdhhkancbgealaaGreat
namespace Go.Proofs.YtdhhkancbgealaaGreat
open Go.RowKit
open Lx
set_option linter.unusedVariables false
set_option linter.unusedSimpArgs false
set_option maxRecDepth 100000
structure Fix (ts : List TypeId) (S : List Nat) (w w' : World) : Prop where
  size : w.heap.size ≤ w'.heap.size
  block : ∀ (k : Nat) (o : Obj), w.heap[k]? = some o → k ∉ S → (∀ cs t, o = .cells cs t (0, 0) → t ∉ ts) → w'.heap[k]? = some o
section
variable {ts ts' : List TypeId} {S S' : List Nat} {a w w' : World}
theorem Fix.refl (ts : List TypeId) (S : List Nat) (w : World) : Fix ts S w w := ⟨Nat.le_refl _, fun _ _ h _ _ => h⟩
theorem Fix.trans (h : Fix ts S a w) (k : Fix ts S w w') : Fix ts S a w' := ⟨Nat.le_trans h.size k.size, fun i o hi hS ht => k.block i o (h.block i o hi hS ht) hS ht⟩
theorem Fix.mono (h : Fix ts S a w) (ht : ∀ t ∈ ts, t ∈ ts') (hS : ∀ k ∈ S, k ∈ S') : Fix ts' S' a w := ⟨h.size, fun i o hi hn hc => h.block i o hi (fun hm => hn (hS i hm)) (fun cs t e hm => hc cs t e (ht t hm))⟩
theorem Fix.of_below (h : Below w.heap.size w w') : Fix ts S w w' := ⟨h.size, fun i o hi _ _ => by rw [h.block i (Array.getElem?_eq_some_iff.1 hi).1]; exact hi⟩
theorem Fix.drewN (h : Fix ts S a w) (n : Nat) : Fix ts S a (w.drewN n) := ⟨h.size, h.block⟩
theorem Fix.drew (h : Fix ts S a w) : Fix ts S a w.drew := ⟨h.size, h.block⟩
theorem Fix.alloc (h : Fix ts S a w) (o : Obj) : Fix ts S a (w.alloc o) := h.trans (Fix.of_below ((Below.refl _ _).alloc (Nat.le_refl _) o))
end
structure Lie (w : World) (t : TypeId) (A : Option Addr) (xs : List Value) : Prop where
  ex : xs ≠ [] → ∃ b o cs, A = some ⟨b, o, none⟩ ∧ At w b t cs ∧ ∀ (j : Nat) (u : Value), xs[j]? = some u → cs[o + j]? = some u
section
variable {ts : List TypeId} {S : List Nat} {w w' : World} {t : TypeId} {A : Option Addr} {xs : List Value}
theorem Lie.nil (w : World) (t : TypeId) (A : Option Addr) : Lie w t A [] := ⟨fun h => absurd rfl h⟩
def Stay (t : TypeId) (w w' : World) : Prop := ∀ b cs, At w b t cs → At w' b t cs
theorem Stay.refl (t : TypeId) (w : World) : Stay t w w := fun _ _ h => h
theorem Stay.trans {a : World} (h : Stay t a w) (k : Stay t w w') : Stay t a w' := fun b cs hb => k b cs (h b cs hb)
theorem Stay.below (h : Below w.heap.size w w') : Stay t w w' := fun b cs hb => hb.below h hb.lt
theorem Stay.far {g : Nat} {t' : TypeId} {cs : Array Value} (hg : At w g t' cs) (ht : t ≠ t') (hk : w.grownBy w' (some g)) : Stay t w w' := fun b cs' hb =>
  hb.grown hk (fun e => by
    injection e with e
    subst e
    unfold At at hg hb
    rw [hg] at hb
    injection hb with hb
    injection hb with _ hb
    exact ht hb.symm)
theorem Stay.own {B e size n : Nat} {v : Value} {ys : List Value} (ho : w.ownsRow B e size v n ys) (ht : t ≠ e) (hk : w.grownBy w' v.ownBlock) : Stay t w w' := fun b cs hb =>
  hb.grown hk (fun e => own_apart ho hb ht e.symm)
theorem Stay.grown {a : World} {row : Option Nat} (h : Stay t a w) (hg : w.grownBy w' row) (hr : ∀ k, row = some k → a.heap.size ≤ k ∨ ∀ cs, ¬ At w k t cs) : Stay t a w' := fun b cs hb =>
  (h b cs hb).grown hg (fun e => by
    rcases hr b e.symm with h1 | h1
    · have := hb.lt; omega
    · exact h1 cs (h b cs hb))
theorem Lie.stay (h : Lie w t A xs) (hs : Stay t w w') : Lie w' t A xs :=
  ⟨fun hn => by
    obtain ⟨b, o, cs, h1, h2, h3⟩ := h.ex hn
    exact ⟨b, o, cs, h1, hs b cs h2, h3⟩⟩
theorem Lie.below (h : Lie w t A xs) (hb : Below w.heap.size w w') : Lie w' t A xs := h.stay (Stay.below hb)
theorem Lie.drewN (h : Lie w t A xs) (n : Nat) : Lie (w.drewN n) t A xs := ⟨h.ex⟩
theorem Lie.drew (h : Lie w t A xs) : Lie w.drew t A xs := ⟨h.ex⟩
theorem Lie.alloc (h : Lie w t A xs) (o : Obj) : Lie (w.alloc o) t A xs := h.below ((Below.refl _ _).alloc (Nat.le_refl _) o)
theorem Lie.cell (h : Lie w t A xs) (hn : xs ≠ []) : ∃ b o, A = some ⟨b, o, none⟩ ∧ b < w.heap.size ∧ ∀ (j : Nat) (u : Value), xs[j]? = some u → w.cell? ⟨b, o + j, none⟩ = some u := by
  obtain ⟨b, o, cs, h1, h2, h3⟩ := h.ex hn
  exact ⟨b, o, h1, h2.lt, fun j u hj => (h2.cell _).trans (h3 j u hj)⟩
theorem Lie.own {B size n cap m : Nat} (h : w.ownsRow B t size (.slice A n cap) m xs) : Lie w t A xs :=
  ⟨fun hn => by
    rcases h.2 with ⟨_, hx⟩ | ⟨g, cap', cur, e, hb, hg, hnc, hcm, hcs, htake⟩
    · have hl := h.1
      subst hx
      exact absurd (List.eq_nil_of_length_eq_zero (by simpa using hl)) hn
    · injection e with e1 _ _
      subst e1
      refine ⟨g, 0, cur, rfl, hg, fun j u hj => ?_⟩
      rw [← htake, List.getElem?_take] at hj
      split at hj
      · rw [Nat.zero_add, ← Array.getElem?_toList]; exact hj
      · cases hj⟩
theorem own_stay {B e size n : Nat} {v : Value} {ys : List Value} (h : w.ownsRow B e size v n ys) (hs : Stay e w w') : w'.ownsRow B e size v n ys := by
  refine ⟨h.1, ?_⟩
  rcases h.2 with hn | ⟨g, cap, cur, rfl, hb, hgg, rest⟩
  · exact .inl hn
  · exact .inr ⟨g, cap, cur, rfl, hb, hs g cur hgg, rest⟩
end
structure Tl where
  t : Value
  s : Value
  l : Value
  st : ByteArray
  r : Value
  m : Nat
  b : Bool
def Tl.cells (x : Tl) (v : Value) : Array Value := #[v, x.t, x.s, x.l, .string x.st, x.r, .map (some x.m), .bool x.b]
def Sane (ms : List Mk) : Prop := ms.length ≤ 9223372036854775807 ∧ ∀ m ∈ ms, m.text.length ≤ 4000
theorem Sane.tail {ms : List Mk} (h : Sane ms) : Sane ms.tail := ⟨by have := h.1; simp; omega, fun m hm => h.2 m (List.mem_of_mem_tail hm)⟩
section
variable {w w' : World} {g : Nat} {x : Tl} {ms : List Mk}
end
theorem str_same (a b : List UInt8) : ((str a).toList == (str b).toList) = (a == b) := by
  rw [toList_eq, toList_eq, bl_str, bl_str]
end Go.Proofs.YtdhhkancbgealaaGreat
namespace Go.Proofs.YtdhhkancbgealaaGreat
open Go.RowKit
open Lx
set_option linter.unusedVariables false
set_option linter.unusedSimpArgs false
set_option maxRecDepth 100000
def Rd.Pat.cells (p : Rd.Pat) : List Value := [.string (str p.text), .string (str p.set), .bool p.many]
def patV (p : Rd.Pat) : Value := .agg #[.string (str p.text), .string (str p.set), .bool p.many]
def noPat : Rd.Pat := ⟨[], [], false⟩
def Rd.Res.two : Rd.Res Rd.Pat → Value
  | .ok p _ => .tuple #[patV p, .bool true]
  | .bad _ _ => .tuple #[patV noPat, .bool false]
def Rd.Res.rest {α : Type} : Rd.Res α → List Mk
  | .ok _ r => r
  | .bad _ r => r
end Go.Proofs.YtdhhkancbgealaaGreat
namespace Go.Proofs.YtdhhkancbgealaaGreat
open Go.RowKit
open Lx
set_option linter.unusedVariables false
set_option linter.unusedSimpArgs false
set_option maxRecDepth 100000
theorem step_append_own2 {P : Program} {ops : Array Oper} {o : Oper} {a : Act} {w : World} {K : Act → World → Prop} {Q : Exit → Act → World → Prop} {E : Prop}
    (hg : o.guard = none) (s x : Operand) (t : TypeId) (hop : o.op = Op.call { callee := Callee.builtin Builtin.append, args := #[s, x], argTypes := #[t, t] })
    (base : Nat) (e : TypeId) (i : TypeInfo) (z : Value) (size bytes : Nat) (h1 : P.underlying t = some (.slice e)) (h2 : P.info? e = some i) (h3 : i.zero = some z) (h4 : i.size = size) (h5 : i.bytes = bytes) (h6 : z.cells.size = size) (h7 : 0 < size)
    (v : Value) (n : Nat) (xs : List Value) (hs : a.eval s = v) (hown : w.ownsRow base e size v n xs)
    (ad : Addr) (m c : Nat) (news : List Value) (hx : a.eval x = .slice (some ad) m c) (hn : news.length = m * size) (hc : ∀ j u, news[j]? = some u → w.cell? (ad.add j) = some u) (h1c : ∀ u ∈ news, u.oneCell' = true)
    (b1 : n + m ≤ maxLen) (b2 : (n + m) * bytes ≤ 140737488355328) (b3 : base ≤ w.heap.size)
    (hK : ∀ v' w', w'.ownsRow base e size v' (n + m) (xs ++ news) → w.grownBy w' v.ownBlock → SameOrNew w v v' → K (a.put o.dst v') w') :
    if Region.wanted o (yielded ops a.tmps) = true then Oper.wp P o a w K Q else E := by
  have hw : Region.wanted o (yielded ops a.tmps) = true := by simp [Region.wanted, hg]
  rw [if_pos hw]
  obtain ⟨v', w', hr, r1, r2, r3⟩ := run_append_own2 (P := P) w base t o.type e i z size bytes h1 h2 h3 h4 h5 h6 h7 v n xs hown ad m c news hn hc h1c b1 b2 b3
  unfold Oper.wp
  simp [execOp, hop, resolve, invoke, builtin, hs, hx, hr, Result.andThen]
  exact hK _ _ r1 r2 r3
theorem cells_new (w : World) (cs : List Value) (t : TypeId) : ∀ j u, cs[j]? = some u → (w.alloc (.cells cs.toArray t)).cell? ((⟨w.heap.size, 0, none⟩ : Addr).add j) = some u := by
  intro j u h
  rw [Addr.add_mid, Nat.zero_add, (At.new w t cs.toArray).cell]
  simpa using h
theorem strinfo : (Tryz.prog.info? 9).map (fun i => (i.zero, i.size, i.bytes)) = some (some (.string ⟨#[]⟩), 1, 16) := by kernel_rfl
def namesV (l : List Rd.Name) : List Value := l.map fun n => .string (str n)
def patsV (l : List Rd.Pat) : List Value := l.flatMap Rd.Pat.cells
def Rd.Tok.cells (t : Rd.Tok) : List Value := [.string (str t.name), .string (str t.pat.text), .string (str t.pat.set), .bool t.pat.many]
def toksV (l : List Rd.Tok) : List Value := l.flatMap Rd.Tok.cells
def levCells (p : Rd.Lev × Value) : List Value := [.int .i64 (p.1.assoc : Int), p.2]
def levsV (l : List (Rd.Lev × Value)) : List Value := l.flatMap levCells
def ruleCells (p : Rd.Rule × Value) : List Value := [.string (str p.1.left), p.2, .string (str p.1.prec), .string (str p.1.action)]
def rulesV (l : List (Rd.Rule × Value)) : List Value := l.flatMap ruleCells
theorem patsV_snoc (l : List Rd.Pat) (x : Rd.Pat) : patsV (l ++ [x]) = patsV l ++ x.cells := by simp [patsV]
def Nms (w : World) (v : Value) (l : List Rd.Name) : Prop := ∃ A cap, v = .slice A l.length cap ∧ Lie w 9 A (namesV l)
theorem Nms.stay {w w' : World} {v : Value} {l : List Rd.Name} (h : Nms w v l) (hs : Stay 9 w w') : Nms w' v l := by
  obtain ⟨A, cap, h1, h2⟩ := h; exact ⟨A, cap, h1, h2.stay hs⟩
theorem Nms.nil (w : World) : Nms w (.slice none 0 0) [] := ⟨none, 0, rfl, Lie.nil _ _ _⟩
def HasSet (w : World) (m : Nat) (lev : List Rd.Name) : Prop := ∃ D : DataW Unit, w.ownsMap Tryz.prog 9 unitElem m lev.length D ∧ ∀ s : Rd.Name, Maps.has D (.string s) = decide (s ∈ lev)
theorem HasSet.kept {w w' : World} {m : Nat} {lev : List Rd.Name} {row : Option Nat} (h : HasSet w m lev) (hg : w.grownBy w' row) (hne : some m ≠ row) : HasSet w' m lev := by
  obtain ⟨D, h1, h2⟩ := h; exact ⟨D, h1.kept hg hne, h2⟩
theorem HasSet.lt {w : World} {m : Nat} {lev : List Rd.Name} (h : HasSet w m lev) : m < w.heap.size := by obtain ⟨D, h1, _⟩ := h; exact h1.lt
theorem HasSet.ne {w : World} {m g : Nat} {lev : List Rd.Name} {t : TypeId} {cs : Array Value} (h : HasSet w m lev) (hg : At w g t cs) : m ≠ g := by
  rintro rfl
  obtain ⟨D, ⟨es, c, h1, _⟩, _⟩ := h
  unfold At at hg
  rw [hg] at h1; simp at h1
structure Body (w : World) (B : Nat) (x : Tl) (d : Rd.Decls) (rs : List Rd.Rule) (lev : List Rd.Name) : Prop where
  tok : w.ownsRow B 121 4 x.t d.toks.length (toksV d.toks)
  skp : w.ownsRow B 119 3 x.s d.skips.length (patsV d.skips)
  lvs : ∃ pl : List (Rd.Lev × Value), pl.map (·.1) = d.levels ∧ w.ownsRow B 124 2 x.l d.levels.length (levsV pl) ∧ ∀ p ∈ pl, Nms w p.2 p.1.names
  st : x.st = str d.start
  rls : ∃ ql : List (Rd.Rule × Value), ql.map (·.1) = rs ∧ w.ownsRow B 117 4 x.r rs.length (rulesV ql) ∧ ∀ p ∈ ql, Nms w p.2 p.1.right
  set_ : HasSet w x.m lev
  b : x.b = d.started
  base : B ≤ x.m
section
variable {w w' : World} {B g : Nat} {x : Tl} {d : Rd.Decls} {rs : List Rd.Rule} {lev : List Rd.Name}
theorem Body.stays (h : Body w B x d rs lev) (h1 : Stay 121 w w') (h2 : Stay 119 w w') (h3 : Stay 124 w w') (h4 : Stay 117 w w') (h5 : Stay 9 w w') {lev' : List Rd.Name} (hm : HasSet w' x.m lev') : Body w' B x d rs lev' := by
  refine ⟨own_stay h.tok h1, own_stay h.skp h2, ?_, h.st, ?_, hm, h.b, h.base⟩
  · obtain ⟨pl, e, h6, h7⟩ := h.lvs
    exact ⟨pl, e, own_stay h6 h3, fun p hp => (h7 p hp).stay h5⟩
  · obtain ⟨ql, e, h6, h7⟩ := h.rls
    exact ⟨ql, e, own_stay h6 h4, fun p hp => (h7 p hp).stay h5⟩
theorem Body.below (h : Body w B x d rs lev) (hb : Below w.heap.size w w') : Body w' B x d rs lev :=
  h.stays (Stay.below hb) (Stay.below hb) (Stay.below hb) (Stay.below hb) (Stay.below hb) (h.set_.kept (row := none) ⟨hb.os, hb.tape, hb.output, hb.size, fun i hi _ => hb.block i hi⟩ (by simp))
theorem Body.alloc (h : Body w B x d rs lev) (o : Obj) : Body (w.alloc o) B x d rs lev := h.below ((Below.refl _ _).alloc (Nat.le_refl _) o)
theorem Body.drewN (h : Body w B x d rs lev) (n : Nat) : Body (w.drewN n) B x d rs lev := h.below (below_drewN (Below.refl _ _) n)
theorem Body.drew (h : Body w B x d rs lev) : Body w.drew B x d rs lev := h.below (below_drew (Below.refl _ _))
end
def Small (d : Rd.Decls) (rs : List Rd.Rule) (lev : List Rd.Name) (ms : List Mk) : Prop :=
  d.toks.length ≤ 20 ∧ d.skips.length ≤ 4 ∧ d.levels.length ≤ 10 ∧ rs.length ≤ 40 ∧ lev.length + ms.length ≤ 1000000
section
variable {w w' : World} {B g m : Nat} {d : Rd.Decls} {rs : List Rd.Rule} {lev : List Rd.Name} {ms : List Mk}
end
structure Fr (B m : Nat) (w w' : World) : Prop where
  below : Below B w w'
  maps : ∀ (k : Nat) (es : Array MapEntry) (c : Nat), k ≠ m → w.heap[k]? = some (.map es c) → w'.heap[k]? = some (.map es c)
section
variable {a w w' : World} {B m : Nat}
theorem Fr.refl (B m : Nat) (w : World) : Fr B m w w := ⟨Below.refl _ _, fun _ _ _ _ h => h⟩
theorem Fr.trans (h : Fr B m a w) (k : Fr B m w w') : Fr B m a w' := ⟨h.below.trans k.below, fun i es c hi he => k.maps i es c hi (h.maps i es c hi he)⟩
theorem Fr.of_below (h : Below w.heap.size w w') (hB : B ≤ w.heap.size) : Fr B m w w' := ⟨h.mono hB, fun i es c _ he => by rw [h.block i (Array.getElem?_eq_some_iff.1 he).1]; exact he⟩
theorem Fr.alloc (h : Fr B m a w) (hB : B ≤ w.heap.size) (o : Obj) : Fr B m a (w.alloc o) := h.trans (Fr.of_below ((Below.refl _ _).alloc (Nat.le_refl _) o) hB)
theorem Fr.drewN (h : Fr B m a w) (n : Nat) : Fr B m a (w.drewN n) := ⟨below_drewN h.below n, h.maps⟩
theorem Fr.drew (h : Fr B m a w) : Fr B m a w.drew := ⟨⟨h.below.os, h.below.tape, h.below.output, h.below.size, h.below.block⟩, h.maps⟩
theorem Fr.at_ {g : Nat} {t : TypeId} {cs : Array Value} (hg : At w g t cs) (hk : w.grownBy w' (some g)) (hB : B ≤ g) : Fr B m w w' :=
  ⟨(Below.refl _ _).grown hk (by have := hg.lt; omega) (fun k e => by injection e with e; omega), fun i es c hi he => by
    rw [hk.block i (Array.getElem?_eq_some_iff.1 he).1 (fun e => ?_)]
    · exact he
    · injection e with e
      subst e
      unfold At at hg
      rw [hg] at he; simp at he⟩
theorem Fr.own {B' e size n : Nat} {v : Value} {ys : List Value} (ho : w.ownsRow B' e size v n ys) (hk : w.grownBy w' v.ownBlock) (hB : B ≤ B') (hs : B ≤ w.heap.size) : Fr B m w w' :=
  ⟨(Below.refl _ _).grown hk hs (fun k e => by have := (own_lt ho k e).1; omega), fun i es c hi he => by
    rw [hk.block i (Array.getElem?_eq_some_iff.1 he).1 (fun e => ?_)]
    · exact he
    · rcases ho.2 with ⟨rfl, _⟩ | ⟨g, cap, cur, rfl, _, hgg, _⟩
      · simp [Value.ownBlock] at e
      · simp [Value.ownBlock] at e
        subst e
        rw [hgg] at he; simp at he⟩
end
theorem Body.skips {w w' : World} {B : Nat} {x : Tl} {d : Rd.Decls} {rs : List Rd.Rule} {lev : List Rd.Name} (h : Body w B x d rs lev) {v' : Value} {p : Rd.Pat} (ho : w'.ownsRow B 119 3 v' (d.skips.length + 1) (patsV d.skips ++ p.cells)) (hg : w.grownBy w' x.s.ownBlock) :
    Body w' B { x with s := v' } { d with skips := d.skips ++ [p] } rs lev := by
  have hm : HasSet w' x.m lev := h.set_.kept hg (fun e => by
    rcases h.skp.2 with ⟨e1, _⟩ | ⟨g, cap, cur, e1, _, hgg, _⟩
    · rw [e1] at e; simp [Value.ownBlock] at e
    · rw [e1] at e
      simp [Value.ownBlock] at e
      exact h.set_.ne (g := g) (t := _) (cs := cur) hgg e)
  refine ⟨own_stay h.tok (Stay.own h.skp (by decide) hg), by rw [patsV_snoc, List.length_append]; exact ho, ?_, h.st, ?_, hm, h.b, h.base⟩
  · obtain ⟨pl, e, h6, h7⟩ := h.lvs
    exact ⟨pl, e, own_stay h6 (Stay.own h.skp (by decide) hg), fun p hp => (h7 p hp).stay (Stay.own h.skp (by decide) hg)⟩
  · obtain ⟨ql, e, h6, h7⟩ := h.rls
    exact ⟨ql, e, own_stay h6 (Stay.own h.skp (by decide) hg), fun p hp => (h7 p hp).stay (Stay.own h.skp (by decide) hg)⟩
end Go.Proofs.YtdhhkancbgealaaGreat
end
section
namespace Go.Proofs.YtdhhkancbgealaaGreat
open Go.RowKit
open Lx
set_option linter.unusedVariables false
set_option linter.unusedSimpArgs false
set_option maxRecDepth 100000
theorem Body.started {w : World} {B : Nat} {x : Tl} {d : Rd.Decls} {rs : List Rd.Rule} {lev : List Rd.Name} (h : Body w B x d rs lev) (t : Rd.Name) : Body w B { x with st := str t, b := true } { d with start := t, started := true } rs lev :=
  ⟨h.tok, h.skp, h.lvs, rfl, h.rls, h.set_, rfl, h.base⟩
theorem Body.startOf {w : World} {B : Nat} {x : Tl} {d : Rd.Decls} {rs : List Rd.Rule} {lev : List Rd.Name} (h : Body w B x d rs lev) (t : ByteArray) : Body w B { x with st := t } { d with start := bl t } rs lev :=
  ⟨h.tok, h.skp, h.lvs, rfl, h.rls, h.set_, h.b, h.base⟩
end Go.Proofs.YtdhhkancbgealaaGreat
namespace Go.Proofs.YtdhhkancbgealaaGreat
open Go.RowKit
open Lx
set_option linter.unusedVariables false
set_option linter.unusedSimpArgs false
set_option maxRecDepth 100000
end Go.Proofs.YtdhhkancbgealaaGreat
end
