/-
  The reader in plain words: lists of marks; declarations, rules, all of it ('parse').
  A reading in memory; the walks of its here, next, take, word.
  The walk of a reading's pattern.
  All of a reading in memory ('RdAt'); the walks of skip, start.
-/
import Derived.Test.YtpgmapjjjpcmfaaGreatDoorLxAA
import Derived.Test.YtpgmapjjjpcmfaaGreatDoorLwAA
import Derived.Maps.OwnSet
import Derived.Deep.RegionLaw
namespace Go.Proofs.YtpgmapjjjpcmfaaGreatDoor
namespace Rd
open Lx (Mk)
abbrev Name := List UInt8

structure Pat where
  text : Name
  set : Name
  many : Bool
deriving DecidableEq
structure Tok where
  name : Name
  pat : Pat
deriving DecidableEq
structure Lev where
  assoc : Nat
  names : List Name
deriving DecidableEq
structure Rule where
  left : Name
  right : List Name
  prec : Name
  action : Name
deriving DecidableEq
/-- What is declared so far. -/
structure Decls where
  toks : List Tok
  skips : List Pat
  levels : List Lev
  start : Name
  started : Bool
deriving DecidableEq
structure G where
  toks : List Tok
  skips : List Pat
  levels : List Lev
  start : Name
  rules : List Rule
deriving DecidableEq
def none_ : Decls := ⟨[], [], [], [], false⟩
def zero : G := ⟨[], [], [], [], []⟩

/-- What comes of marks: something, and the marks that are left; or what is wrong with the first of those that are left. -/
inductive Res (α : Type) where
  | ok (a : α) (rest : List Mk)
  | bad (e : Nat) (rest : List Mk)
deriving DecidableEq

def hd (ms : List Mk) : Mk := ms.headD ⟨0, [], 0, 0⟩
theorem hd_nil : hd [] = ⟨0, [], 0, 0⟩ := rfl
theorem hd_cons (m : Mk) (r : List Mk) : hd (m :: r) = m := rfl
def isWord (t : Name) (m : Mk) : Bool := m.kind == 2 && m.text == t

def pattern (ms : List Mk) : Res Pat :=
  if (hd ms).kind = 3 then .ok ⟨(hd ms).text, [], false⟩ ms.tail
  else if (hd ms).kind = 4 then (if (hd ms.tail).kind = 5 then .ok ⟨[], (hd ms).text, true⟩ ms.tail.tail else .ok ⟨[], (hd ms).text, false⟩ ms.tail)
  else .bad 14 ms

def token (d : Decls) (ms : List Mk) : Res Decls :=
  if (hd ms.tail).kind ≠ 1 then .bad 14 ms.tail
  else if (d.toks.any fun t => t.name == (hd ms.tail).text) = true then .bad 15 ms.tail
  else if d.toks.length = 20 then .bad 3 ms.tail
  else match pattern ms.tail.tail with
    | .bad e r => .bad e r
    | .ok p r => .ok { d with toks := d.toks ++ [⟨(hd ms.tail).text, p⟩] } r

def skip (d : Decls) (ms : List Mk) : Res Decls :=
  if d.skips.length = 4 then .bad 3 ms
  else match pattern ms.tail with
    | .bad e r => .bad e r
    | .ok p r => .ok { d with skips := d.skips ++ [p] } r

/-- The names that levels have. -/
def levelled (d : Decls) : List Name := d.levels.flatMap Lev.names
def names (lev : List Name) : List Mk → List Name → Res (List Name)
  | [], acc => .ok acc []
  | m :: r, acc => if m.kind = 1 then (if m.text ∈ lev ++ acc then .bad 15 (m :: r) else names lev r (acc ++ [m.text])) else .ok acc (m :: r)
def level (a : Nat) (d : Decls) (ms : List Mk) : Res Decls :=
  if d.levels.length = 10 then .bad 3 ms
  else match names (levelled d) ms.tail [] with
    | .bad e r => .bad e r
    | .ok l r => if l = [] then .bad 14 r else .ok { d with levels := d.levels ++ [⟨a, l⟩] } r

def start (d : Decls) (ms : List Mk) : Res Decls :=
  if d.started = true then .bad 15 ms
  else if (hd ms.tail).kind = 1 then .ok { d with start := (hd ms.tail).text, started := true } ms.tail.tail
  else .bad 14 ms.tail

/-- What reads a declaration of the word t: its number. -/
def wordNo (t : Name) : Nat :=
  if t = [116, 111, 107, 101, 110] then 0 else if t = [115, 107, 105, 112] then 1 else if t = [108, 101, 102, 116] then 2 else if t = [114, 105, 103, 104, 116] then 3
  else if t = [110, 111, 110, 97, 115, 115, 111, 99] then 4 else if t = [115, 116, 97, 114, 116] then 5 else 6
def declNo : Nat → Decls → List Mk → Res Decls
  | 0, d, ms => token d ms
  | 1, d, ms => skip d ms
  | 2, d, ms => level 1 d ms
  | 3, d, ms => level 2 d ms
  | 4, d, ms => level 3 d ms
  | 5, d, ms => start d ms
  | _, _, ms => .bad 14 ms
def decl (d : Decls) (ms : List Mk) : Res Decls := if (hd ms).kind = 2 then declNo (wordNo (hd ms).text) d ms else .bad 14 ms
def decls : Nat → Decls → List Mk → Res Decls
  | 0, _, ms => .bad 14 ms
  | f + 1, d, ms => if isWord [37] (hd ms) = true then .ok d ms.tail else
    match decl d ms with
    | .bad e r => .bad e r
    | .ok d' r => decls f d' r

def rights : List Mk → List Name → Res (List Name)
  | [], acc => .ok acc []
  | m :: r, acc => if m.kind = 1 then (if acc.length = 8 then .bad 3 (m :: r) else rights r (acc ++ [m.text])) else .ok acc (m :: r)
def prec (ms : List Mk) : Res Name :=
  if isWord [112, 114, 101, 99] (hd ms) = true then (if (hd ms.tail).kind = 1 then .ok (hd ms.tail).text ms.tail.tail else .bad 14 ms.tail) else .ok [] ms
def action (x : Rule) (ms : List Mk) : Res Rule := if (hd ms).kind = 9 then .ok { x with action := (hd ms).text } ms.tail else .ok x ms
/-- An alternative of the name left, where n rules stand already. -/
def alt (left : Name) (n : Nat) (ms : List Mk) : Res Rule :=
  if n = 40 then .bad 3 ms
  else match rights ms [] with
    | .bad e r => .bad e r
    | .ok l r => match prec r with
      | .bad e r' => .bad e r'
      | .ok p r' => action ⟨left, l, p, []⟩ r'
def alts : Nat → Name → List Rule → List Mk → Res (List Rule)
  | 0, _, _, ms => .bad 14 ms
  | f + 1, left, acc, ms =>
    match alt left acc.length ms with
    | .bad e r => .bad e r
    | .ok x r => if (hd r).kind = 8 then .ok (acc ++ [x]) r.tail else if (hd r).kind = 7 then alts f left (acc ++ [x]) r.tail else .bad 14 r
def rule (acc : List Rule) (ms : List Mk) : Res (List Rule) :=
  if (hd ms).kind ≠ 1 then .bad 14 ms else if (hd ms.tail).kind ≠ 6 then .bad 14 ms.tail else alts (ms.length + 1) (hd ms).text acc ms.tail.tail
def rules : Nat → List Rule → List Mk → Res (List Rule)
  | 0, _, ms => .bad 14 ms
  | f + 1, acc, ms =>
    match rule acc ms with
    | .bad e r => .bad e r
    | .ok acc' r => if (hd r).kind = 0 then .ok acc' r else rules f acc' r

def startOf (d : Decls) (rs : List Rule) : Name := if d.started = true then d.start else (rs.headD ⟨[], [], [], []⟩).left
def parse (ms : List Mk) : Res G :=
  match decls (ms.length + 1) none_ ms with
  | .bad e r => .bad e r
  | .ok d r => match rules (r.length + 1) [] r with
    | .bad e r' => .bad e r'
    | .ok rs r' => .ok ⟨d.toks, d.skips, d.levels, startOf d rs, rs⟩ r'
def Res.grammar : Res G → G
  | .ok g _ => g
  | .bad _ _ => zero
def Res.diag : Res G → Nat × Nat × Nat
  | .ok _ _ => (0, 0, 0)
  | .bad e r => (e, (hd r).line, (hd r).col)

/-- The grammar of a text, and what is wrong with it. -/
def readG (l : List UInt8) : G :=
  match Lx.lex l with
  | .bad _ _ => zero
  | .ok ms => (parse (ms.map (Lx.mkOf l))).grammar
def readD (l : List UInt8) : Nat × Nat × Nat :=
  match Lx.lex l with
  | .bad c i => (c, (Lx.pos l i).1, (Lx.pos l i).2)
  | .ok ms => (parse (ms.map (Lx.mkOf l))).diag

theorem tail_length (ms : List Mk) : ms.tail.length = ms.length - 1 := by simp
/-- What is there has a kind that is no end. -/
theorem hd_lt {ms : List Mk} (h : (hd ms).kind ≠ 0) : ms.tail.length < ms.length := by
  cases ms with
  | nil => exact absurd rfl h
  | cons m r => simp

/-! ## What is left is less -/
def Res.Less {α : Type} (n : Nat) : Res α → Prop
  | .ok _ r => r.length < n
  | .bad _ r => r.length ≤ n
def Res.Most {α : Type} (n : Nat) : Res α → Prop
  | .ok _ r => r.length ≤ n
  | .bad _ r => r.length ≤ n
theorem pattern_less (ms : List Mk) : (pattern ms).Less ms.length := by
  unfold pattern
  split
  · exact hd_lt (by omega)
  · split
    · split
      · have h1 := hd_lt (ms := ms) (by omega)
        have h2 := hd_lt (ms := ms.tail) (by omega)
        simp only [Res.Less]; omega
      · exact hd_lt (by omega)
    · exact Nat.le_refl _
theorem names_most (lev : List Name) (ms : List Mk) (acc : List Name) : (names lev ms acc).Most ms.length := by
  fun_induction names lev ms acc
  · exact Nat.le_refl _
  · exact Nat.le_refl _
  · rename_i ih
    revert ih
    generalize names lev _ _ = x
    intro ih
    cases x <;> simp only [Res.Most, List.length_cons] at * <;> omega
  · exact Nat.le_refl _
theorem rights_most (ms : List Mk) (acc : List Name) : (rights ms acc).Most ms.length := by
  fun_induction rights ms acc
  · exact Nat.le_refl _
  · exact Nat.le_refl _
  · rename_i ih
    revert ih
    generalize rights _ _ = x
    intro ih
    cases x <;> simp only [Res.Most, List.length_cons] at * <;> omega
  · exact Nat.le_refl _
theorem prec_most (ms : List Mk) : (prec ms).Most ms.length := by
  unfold prec
  split
  · rename_i h
    split
    · rename_i h2
      have := hd_lt (ms := ms.tail) (by omega)
      have := tail_length ms
      simp only [Res.Most]; omega
    · have := tail_length ms
      simp only [Res.Most]; omega
  · exact Nat.le_refl _
theorem action_most (x : Rule) (ms : List Mk) : (action x ms).Most ms.length := by
  unfold action
  have := tail_length ms
  split <;> simp only [Res.Most] <;> omega
theorem alt_most (left : Name) (n : Nat) (ms : List Mk) : (alt left n ms).Most ms.length := by
  unfold alt
  split
  · exact Nat.le_refl _
  · have h1 := rights_most ms []
    cases hr : rights ms [] with
    | bad e r => rw [hr] at h1; exact h1
    | ok l r =>
      rw [hr] at h1
      have h2 := prec_most r
      simp only []
      cases hp : prec r with
      | bad e r' => rw [hp] at h2; simp only [Res.Most] at *; omega
      | ok p r' =>
        rw [hp] at h2
        have h3 := action_most ⟨left, l, p, []⟩ r'
        simp only []
        revert h3
        generalize action _ r' = x
        intro h3
        cases x <;> simp only [Res.Most] at * <;> omega
theorem alts_less (f : Nat) (left : Name) (acc : List Rule) (ms : List Mk) (hf : ms.length < f) : (alts f left acc ms).Less ms.length := by
  induction f generalizing acc ms with
  | zero => omega
  | succ f ih =>
    unfold alts
    have h1 := alt_most left acc.length ms
    cases ha : alt left acc.length ms with
    | bad e r => rw [ha] at h1; exact h1
    | ok x r =>
      rw [ha] at h1
      simp only [Res.Most] at h1
      simp only []
      split
      · have := hd_lt (ms := r) (by omega); simp only [Res.Less]; omega
      · split
        · have h2 := hd_lt (ms := r) (by omega)
          have := ih (acc ++ [x]) r.tail (by omega)
          revert this
          generalize alts f left (acc ++ [x]) r.tail = y
          intro h3
          cases y <;> simp only [Res.Less] at * <;> omega
        · simp only [Res.Less]; omega
theorem rule_less (acc : List Rule) (ms : List Mk) : (rule acc ms).Less ms.length := by
  unfold rule
  have h0 := tail_length ms
  split
  · exact Nat.le_refl _
  · split
    · simp only [Res.Less]; omega
    · have h1 := hd_lt (ms := ms) (by omega)
      have h2 := hd_lt (ms := ms.tail) (by omega)
      have := alts_less (ms.length + 1) (hd ms).text acc ms.tail.tail (by omega)
      revert this
      generalize alts _ _ _ _ = y
      intro h3
      cases y <;> simp only [Res.Less] at * <;> omega
theorem token_less (d : Decls) (ms : List Mk) (h : (hd ms).kind ≠ 0) : (token d ms).Less ms.length := by
  unfold token
  have h0 := hd_lt h
  split
  · simp only [Res.Less]; omega
  · split
    · simp only [Res.Less]; omega
    · split
      · simp only [Res.Less]; omega
      · have h1 := pattern_less ms.tail.tail
        have h2 := tail_length ms.tail
        cases hp : pattern ms.tail.tail <;> rw [hp] at h1 <;> simp only [Res.Less] at * <;> omega
theorem skip_less (d : Decls) (ms : List Mk) (h : (hd ms).kind ≠ 0) : (skip d ms).Less ms.length := by
  unfold skip
  have h0 := hd_lt h
  split
  · simp only [Res.Less]; omega
  · have h1 := pattern_less ms.tail
    cases hp : pattern ms.tail <;> rw [hp] at h1 <;> simp only [Res.Less] at * <;> omega
theorem level_less (a : Nat) (d : Decls) (ms : List Mk) (h : (hd ms).kind ≠ 0) : (level a d ms).Less ms.length := by
  unfold level
  have h0 := hd_lt h
  split
  · simp only [Res.Less]; omega
  · have h1 := names_most (levelled d) ms.tail []
    cases hp : names (levelled d) ms.tail [] with
    | bad e r => rw [hp] at h1; simp only [Res.Less, Res.Most] at *; omega
    | ok l r =>
      rw [hp] at h1
      simp only []
      split <;> simp only [Res.Less, Res.Most] at * <;> omega
theorem start_less (d : Decls) (ms : List Mk) (h : (hd ms).kind ≠ 0) : (start d ms).Less ms.length := by
  unfold start
  have h0 := hd_lt h
  split
  · simp only [Res.Less]; omega
  · have := tail_length ms.tail
    split <;> simp only [Res.Less] <;> omega
theorem decl_less (d : Decls) (ms : List Mk) : (decl d ms).Less ms.length := by
  unfold decl
  split
  · rename_i h
    generalize wordNo _ = k
    match k with
    | 0 => exact token_less d ms (by omega)
    | 1 => exact skip_less d ms (by omega)
    | 2 => exact level_less 1 d ms (by omega)
    | 3 => exact level_less 2 d ms (by omega)
    | 4 => exact level_less 3 d ms (by omega)
    | 5 => exact start_less d ms (by omega)
    | _ + 6 => exact Nat.le_refl _
  · exact Nat.le_refl _

example : readG [37, 37, 32, 69, 32, 58, 59] = ⟨[], [], [], [69], [⟨[69], [], [], []⟩]⟩ := by decide +kernel

end Rd
end Go.Proofs.YtpgmapjjjpcmfaaGreatDoor

namespace Go.Proofs.YtpgmapjjjpcmfaaGreatDoor
open Go.RowKit
open Lx
set_option linter.unusedVariables false
set_option linter.unusedSimpArgs false
set_option maxRecDepth 100000

/-! ## Frames -/

/-- Blocks of the types ts, and those of S, may turn; all others stay. -/
structure Fix (ts : List TypeId) (S : List Nat) (w w' : World) : Prop where
  size : w.heap.size ≤ w'.heap.size
  block : ∀ (k : Nat) (o : Obj), w.heap[k]? = some o → k ∉ S → (∀ cs t, o = .cells cs t (0, 0) → t ∉ ts) → w'.heap[k]? = some o
section
variable {ts ts' : List TypeId} {S S' : List Nat} {a w w' : World}
theorem Fix.refl (ts : List TypeId) (S : List Nat) (w : World) : Fix ts S w w := ⟨Nat.le_refl _, fun _ _ h _ _ => h⟩
theorem Fix.trans (h : Fix ts S a w) (k : Fix ts S w w') : Fix ts S a w' := ⟨Nat.le_trans h.size k.size, fun i o hi hS ht => k.block i o (h.block i o hi hS ht) hS ht⟩
theorem Fix.mono (h : Fix ts S a w) (ht : ∀ t ∈ ts, t ∈ ts') (hS : ∀ k ∈ S, k ∈ S') : Fix ts' S' a w := ⟨h.size, fun i o hi hn hc => h.block i o hi (fun hm => hn (hS i hm)) (fun cs t e hm => hc cs t e (ht t hm))⟩
theorem Fix.of_grown {row : Option Nat} (hg : w.grownBy w' row) (hr : ∀ k, row = some k → k ∈ S ∨ ∃ cs t, At w k t cs ∧ t ∈ ts) : Fix ts S w w' :=
  ⟨hg.size, fun i o hi hS ht => by
    rw [hg.block i (Array.getElem?_eq_some_iff.1 hi).1 (fun e => ?_)]
    · exact hi
    · rcases hr i e.symm with h1 | ⟨cs, t, h1, h2⟩
      · exact hS h1
      · unfold At at h1
        rw [h1] at hi
        injection hi with hi
        exact ht cs t hi.symm h2⟩
theorem Fix.of_below (h : Below w.heap.size w w') : Fix ts S w w' := ⟨h.size, fun i o hi _ _ => by rw [h.block i (Array.getElem?_eq_some_iff.1 hi).1]; exact hi⟩
theorem Fix.drewN (h : Fix ts S a w) (n : Nat) : Fix ts S a (w.drewN n) := ⟨h.size, h.block⟩
theorem Fix.drew (h : Fix ts S a w) : Fix ts S a w.drew := ⟨h.size, h.block⟩
theorem Fix.alloc (h : Fix ts S a w) (o : Obj) : Fix ts S a (w.alloc o) := h.trans (Fix.of_below ((Below.refl _ _).alloc (Nat.le_refl _) o))
theorem At.fix {g : Nat} {t : TypeId} {cs : Array Value} (h : At w g t cs) (hf : Fix ts S w w') (ht : t ∉ ts) (hg : g ∉ S) : At w' g t cs :=
  hf.block g _ h hg (fun cs' t' e => by injection e with e1 e2; rw [← e2]; exact ht)
end

/-- The cells xs lie at A, in a block of type t. -/
structure Lie (w : World) (t : TypeId) (A : Option Addr) (xs : List Value) : Prop where
  ex : xs ≠ [] → ∃ b o cs, A = some ⟨b, o, none⟩ ∧ At w b t cs ∧ ∀ (j : Nat) (u : Value), xs[j]? = some u → cs[o + j]? = some u
section
variable {ts : List TypeId} {S : List Nat} {w w' : World} {t : TypeId} {A : Option Addr} {xs : List Value}
theorem Lie.nil (w : World) (t : TypeId) (A : Option Addr) : Lie w t A [] := ⟨fun h => absurd rfl h⟩
/-- Blocks of type t stay. -/
def Stay (t : TypeId) (w w' : World) : Prop := ∀ b cs, At w b t cs → At w' b t cs
theorem Stay.refl (t : TypeId) (w : World) : Stay t w w := fun _ _ h => h
theorem Stay.trans {a : World} (h : Stay t a w) (k : Stay t w w') : Stay t a w' := fun b cs hb => k b cs (h b cs hb)
theorem Stay.below (h : Below w.heap.size w w') : Stay t w w' := fun b cs hb => hb.below h hb.lt
theorem Stay.fix (h : Fix ts S w w') (ht : t ∉ ts) (hS : ∀ k ∈ S, ∀ cs, ¬ At w k t cs) : Stay t w w' := fun b cs hb => hb.fix h ht (fun hm => hS b hm cs hb)
theorem Stay.far {g : Nat} {t' : TypeId} {cs : Array Value} (hg : At w g t' cs) (ht : t ≠ t') (hk : w.grownBy w' (some g)) : Stay t w w' := fun b cs' hb =>
  hb.grown hk (fun e => by
    injection e with e
    subst e
    unfold At at hg hb
    rw [hg] at hb
    injection hb with hb
    injection hb with _ hb
    exact ht hb.symm)
theorem Stay.own {B e size n : Nat} {v : Value} {ys : List Value} (ho : w.ownsRow B e size v n ys) (ht : t ≠ e) (hk : w.grownBy w' v.ownBlock) : Stay t w w' := fun b cs hb =>
  hb.grown hk (fun e => own_apart ho hb ht e.symm)
theorem Stay.grown {a : World} {row : Option Nat} (h : Stay t a w) (hg : w.grownBy w' row) (hr : ∀ k, row = some k → a.heap.size ≤ k ∨ ∀ cs, ¬ At w k t cs) : Stay t a w' := fun b cs hb =>
  (h b cs hb).grown hg (fun e => by
    rcases hr b e.symm with h1 | h1
    · have := hb.lt; omega
    · exact h1 cs (h b cs hb))
theorem Lie.stay (h : Lie w t A xs) (hs : Stay t w w') : Lie w' t A xs :=
  ⟨fun hn => by
    obtain ⟨b, o, cs, h1, h2, h3⟩ := h.ex hn
    exact ⟨b, o, cs, h1, hs b cs h2, h3⟩⟩
theorem Lie.below (h : Lie w t A xs) (hb : Below w.heap.size w w') : Lie w' t A xs := h.stay (Stay.below hb)
theorem Lie.drewN (h : Lie w t A xs) (n : Nat) : Lie (w.drewN n) t A xs := ⟨h.ex⟩
theorem Lie.drew (h : Lie w t A xs) : Lie w.drew t A xs := ⟨h.ex⟩
theorem Lie.alloc (h : Lie w t A xs) (o : Obj) : Lie (w.alloc o) t A xs := h.below ((Below.refl _ _).alloc (Nat.le_refl _) o)
theorem Lie.cell (h : Lie w t A xs) (hn : xs ≠ []) : ∃ b o, A = some ⟨b, o, none⟩ ∧ b < w.heap.size ∧ ∀ (j : Nat) (u : Value), xs[j]? = some u → w.cell? ⟨b, o + j, none⟩ = some u := by
  obtain ⟨b, o, cs, h1, h2, h3⟩ := h.ex hn
  exact ⟨b, o, h1, h2.lt, fun j u hj => (h2.cell _).trans (h3 j u hj)⟩
theorem Lie.own {B size n cap m : Nat} (h : w.ownsRow B t size (.slice A n cap) m xs) : Lie w t A xs :=
  ⟨fun hn => by
    rcases h.2 with ⟨_, hx⟩ | ⟨g, cap', cur, e, hb, hg, hnc, hcm, hcs, htake⟩
    · have hl := h.1
      subst hx
      exact absurd (List.eq_nil_of_length_eq_zero (by simpa using hl)) hn
    · injection e with e1 _ _
      subst e1
      refine ⟨g, 0, cur, rfl, hg, fun j u hj => ?_⟩
      rw [← htake, List.getElem?_take] at hj
      split at hj
      · rw [Nat.zero_add, ← Array.getElem?_toList]; exact hj
      · cases hj⟩
theorem own_stay {B e size n : Nat} {v : Value} {ys : List Value} (h : w.ownsRow B e size v n ys) (hs : Stay e w w') : w'.ownsRow B e size v n ys := by
  refine ⟨h.1, ?_⟩
  rcases h.2 with hn | ⟨g, cap, cur, rfl, hb, hgg, rest⟩
  · exact .inl hn
  · exact .inr ⟨g, cap, cur, rfl, hb, hs g cur hgg, rest⟩
end

/-! ## The marks that are left -/

def Lx.Mk.val (m : Mk) : Value := .agg #[.int .i64 (m.kind : Int), .string (str m.text), .int .i64 (m.line : Int), .int .i64 (m.col : Int)]
theorem marksV_cons (m : Mk) (r : List Mk) : marksV (m :: r) = m.cells ++ marksV r := rfl
theorem MAt.lie {w : World} {A : Option Addr} {ms : List Mk} (h : MAt w A ms) : Lie w 124 A (marksV ms) :=
  ⟨fun hn => by
    obtain ⟨b, cs, h1, h2, h3⟩ := h.ex (fun e => hn (by rw [e]; rfl))
    exact ⟨b, 0, cs, h1, h2, fun j u hj => by rw [Nat.zero_add]; exact h3 j u hj⟩⟩
/-- All of a reading but its marks. -/
structure Tl where
  t : Value
  s : Value
  l : Value
  st : ByteArray
  r : Value
  m : Nat
  b : Bool
def Tl.cells (x : Tl) (v : Value) : Array Value := #[v, x.t, x.s, x.l, .string x.st, x.r, .map (some x.m), .bool x.b]
/-- Marks that are not too many, nor too long. -/
def Sane (ms : List Mk) : Prop := ms.length ≤ 9223372036854775807 ∧ ∀ m ∈ ms, m.text.length ≤ 4000
theorem Sane.tail {ms : List Mk} (h : Sane ms) : Sane ms.tail := ⟨by have := h.1; simp; omega, fun m hm => h.2 m (List.mem_of_mem_tail hm)⟩
/-- The reading in block g stands at the marks ms. -/
structure Rest (w : World) (g : Nat) (x : Tl) (ms : List Mk) : Prop where
  len : Sane ms
  ex : ∃ A cap, ms.length ≤ cap ∧ At w g 135 (x.cells (.slice A ms.length cap)) ∧ Lie w 124 A (marksV ms)
section
variable {w w' : World} {g : Nat} {x : Tl} {ms : List Mk}
theorem Rest.lt (h : Rest w g x ms) : g < w.heap.size := by obtain ⟨A, cap, _, h1, _⟩ := h.ex; exact h1.lt
theorem Rest.below (h : Rest w g x ms) (hb : Below w.heap.size w w') : Rest w' g x ms := by
  obtain ⟨A, cap, h0, h1, h2⟩ := h.ex
  exact ⟨h.len, A, cap, h0, h1.below hb h1.lt, h2.below hb⟩
theorem Rest.alloc (h : Rest w g x ms) (o : Obj) : Rest (w.alloc o) g x ms := h.below ((Below.refl _ _).alloc (Nat.le_refl _) o)
theorem Rest.drewN (h : Rest w g x ms) (n : Nat) : Rest (w.drewN n) g x ms := by
  obtain ⟨A, cap, h0, h1, h2⟩ := h.ex
  exact ⟨h.len, A, cap, h0, h1.drewN n, h2.drewN n⟩
theorem Rest.drew (h : Rest w g x ms) : Rest w.drew g x ms := by
  obtain ⟨A, cap, h0, h1, h2⟩ := h.ex
  exact ⟨h.len, A, cap, h0, h1.drew, h2.drew⟩
theorem Rest.stay (h : Rest w g x ms) (h1 : Stay 135 w w') (h2 : Stay 124 w w') : Rest w' g x ms := by
  obtain ⟨A, cap, h0, h3, h4⟩ := h.ex
  exact ⟨h.len, A, cap, h0, h1 _ _ h3, h4.stay h2⟩
theorem Rest.at_ (h : Rest w g x ms) : ∃ cs, At w g 135 cs := by
  obtain ⟨A, cap, _, h1, _⟩ := h.ex; exact ⟨_, h1⟩
end

theorem Tryz.sizeReading : (Tryz.prog.info? 135).map (·.size) = some 8 := by kernel_rfl

theorem cut_marks (A : Option Addr) (n cap : Nat) (hk : 1 ≤ n) (w : World) :
    (Instr.slice 110 (.slice A n cap) (some (.int .i64 1)) none none).run Tryz.prog w = .ok (.slice (if cap = 1 then A else A.map (·.add 4)) (n - 1) (cap - 1)) w := by
  have hs : (Go.sizeOf (Tryz.prog.elem 110)).run Tryz.prog w = .ok 4 w := by kernel_rfl
  rw [run_slice_l (P := Tryz.prog) w 110 A n cap Tryz.underlying110 .i64 1 (by omega) (by omega), hs]
  simp [Result.andThen, sliced]

theorem here_any (g : Nat) (x : Tl) (ms : List Mk) (w : World) (hr : Rest w g x ms) :
    Calls Tryz.prog 101 #[.pointer (some ⟨g, 0, none⟩)] w fun e w' => e = .returned (Rd.hd ms).val ∧ Below w.heap.size w w' := by
  obtain ⟨A, cap, hcap, hat, hl⟩ := hr.ex
  have hlen := hr.len.1
  have hlt := hat.lt
  have c0 := hat.cell 0
  simp only [Tl.cells, List.getElem?_toArray, List.getElem?_cons_zero] at c0
  cases ms with
  | nil =>
    simp only [List.length_nil] at c0
    go_enter Tryz.func101, Tryz.ntmps101
    go_wp2_with fail
    exact bodyPost_ret (v := (Rd.hd []).val) (by simp [results, Tryz.results101, go_sem]; rfl) rfl ⟨rfl, (Below.refl _ _).alloc (Nat.le_refl _) _⟩
  | cons m r =>
    obtain ⟨b, o, rfl, hb, hc⟩ := hl.cell (by simp [marksV, Mk.cells])
    have c1 : w.cell? ⟨b, o, none⟩ = some (.int .i64 (m.kind : Int)) := hc 0 _ rfl
    have c2 : w.cell? ⟨b, o + 1, none⟩ = some (.string (str m.text)) := hc 1 _ rfl
    have c3 : w.cell? ⟨b, o + 2, none⟩ = some (.int .i64 (m.line : Int)) := hc 2 _ rfl
    have c4 : w.cell? ⟨b, o + 3, none⟩ = some (.int .i64 (m.col : Int)) := hc 3 _ rfl
    obtain ⟨n, hn⟩ : ∃ n, (m :: r).length = n := ⟨_, rfl⟩
    rw [hn] at c0 hcap hlen
    have hn1 : 1 ≤ n := by rw [← hn]; simp
    have hn0 : ((n : Int) == 0) = false := by rw [beq_eq_false_iff_ne]; omega
    have hn2 : (0 : Int) < (n : Int) := by omega
    have hn3 : (n == 0) = false := by rw [beq_eq_false_iff_ne]; omega
    clear hn hc hl hat
    go_enter Tryz.func101, Tryz.ntmps101
    go_wp2_with fail
    exact bodyPost_ret (v := m.val) (by simp [results, Tryz.results101, go_sem]; rfl) rfl ⟨rfl, (Below.refl _ _).alloc (Nat.le_refl _) _⟩

/-- Goes on to the next mark. -/
theorem next_any (g : Nat) (x : Tl) (ms : List Mk) (w : World) (hr : Rest w g x ms) (hne : ms ≠ []) :
    Calls Tryz.prog 120 #[.pointer (some ⟨g, 0, none⟩)] w fun e w' => e = .returned (.tuple #[]) ∧ Rest w' g x ms.tail ∧ w.grownBy w' (some g) := by
  obtain ⟨A, cap, hcap, hat, hl⟩ := hr.ex
  have hlen := hr.len.1
  have hsane := hr.len.tail
  have hlt := hat.lt
  have hf := hat.frozen 0
  have c0 := hat.cell 0
  simp only [Tl.cells, List.getElem?_toArray, List.getElem?_cons_zero] at c0
  obtain ⟨m, r, rfl⟩ := List.exists_cons_of_ne_nil hne
  have hcut := cut_marks A (r.length + 1) cap (by omega)
  obtain ⟨A', hA'⟩ : ∃ A', (if cap = 1 then A else A.map (·.add 4)) = A' := ⟨_, rfl⟩
  rw [hA'] at hcut
  simp only [List.length_cons] at c0 hcap hlen
  have hrest : Rest (w.setCell ⟨g, 0, none⟩ (.slice A' r.length (cap - 1))) g x r := by
    refine ⟨hsane, A', cap - 1, by omega, ?_, ?_⟩
    · have := hat.set 0 (.slice A' r.length (cap - 1))
      simpa [Tl.cells] using this
    · have hs : Stay 124 w (w.setCell ⟨g, 0, none⟩ (.slice A' r.length (cap - 1))) := Stay.far hat (by decide) (grown_set (grown_refl _ _) 0 _)
      refine Lie.stay ⟨fun hn => ?_⟩ hs
      obtain ⟨b, o, cs, rfl, hb, hc⟩ := hl.ex (by simp [marksV, Mk.cells])
      have hcap1 : cap ≠ 1 := by
        intro e
        cases r with
        | nil => exact hn rfl
        | cons m' r' => simp at hcap; omega
      rw [if_neg hcap1] at hA'
      refine ⟨b, o + 4, cs, by rw [← hA']; simp [Addr.add], hb, fun j u hj => ?_⟩
      have h4 : (marksV (m :: r))[4 + j]? = some u := by
        rw [marksV_cons, List.getElem?_append_right (by simp [Mk.cells])]
        simpa [Mk.cells] using hj
      rw [Nat.add_assoc]
      exact hc _ u h4
  have hgr : w.grownBy (w.setCell ⟨g, 0, none⟩ (.slice A' r.length (cap - 1))) (some g) := grown_set (grown_refl _ _) 0 _
  simp only [Nat.add_sub_cancel] at hcut
  have HR := Lib.hid hrest
  have HG := Lib.hid hgr
  clear hA' hrest hgr hl hat
  go_enter Tryz.func120, Tryz.ntmps120
  go_wp2_with fail
  go_end0
  exact ⟨rfl, HR.out, HG.out⟩

theorem new_cell (w : World) (m : Mk) : At (w.alloc (.cells #[.int .i64 (m.kind : Int), .string (str m.text), .int .i64 (m.line : Int), .int .i64 (m.col : Int)] 124)) w.heap.size 124 #[.int .i64 (m.kind : Int), .string (str m.text), .int .i64 (m.line : Int), .int .i64 (m.col : Int)] := At.new w _ _

def takeV (k : Nat) (ms : List Mk) : Value := if (Rd.hd ms).kind = k then .tuple #[.string (str (Rd.hd ms).text), .bool true] else .tuple #[.string (str []), .bool false]
def takeR (k : Nat) (ms : List Mk) : List Mk := if (Rd.hd ms).kind = k then ms.tail else ms

theorem take_any (k : Nat) (hk : 1 ≤ k) (g : Nat) (x : Tl) (ms : List Mk) (w : World) (hr : Rest w g x ms) :
    Calls Tryz.prog 137 #[.pointer (some ⟨g, 0, none⟩), .int .i64 (k : Int)] w fun e w' => e = .returned (takeV k ms) ∧ Rest w' g x (takeR k ms) ∧ w.grownBy w' (some g) := by
  have HR := Lib.hid hr
  clear hr
  obtain ⟨m, hm⟩ : ∃ m, Rd.hd ms = m := ⟨_, rfl⟩
  have HM := Lib.hid hm
  by_cases h : m.kind = k
  · have e1 : takeV k ms = .tuple #[.string (str m.text), .bool true] := by unfold takeV; rw [hm, if_pos h]
    have e2 : takeR k ms = ms.tail := by unfold takeR; rw [hm, if_pos h]
    rw [e1, e2]
    have hne : ms ≠ [] := by rintro rfl; subst hm; simp [Rd.hd_nil] at h; omega
    clear e1 e2 hm
    have hki : ((m.kind : Int) != (k : Int)) = false := by rw [bne_eq_false_iff_eq]; omega
    have hki2 : (m.kind != k) = false := by rw [bne_eq_false_iff_eq]; omega
    clear h
    go_enter Tryz.func137, Tryz.ntmps137
    go_wp2_with fail
    refine (here_any g x ms w HR.out).mono ?_
    rw [HM.out]
    rintro e w1 ⟨rfl, hb⟩
    have hs1 := hb.size
    have hlt := HR.out.lt
    have HR1 := Lib.hid (HR.out.below hb)
    have HG1 := Lib.hid (show w.grownBy w1 (some g) from ⟨hb.os, hb.tape, hb.output, hb.size, fun i hi _ => hb.block i hi⟩)
    clear hb
    unfold Mk.val
    go_wp2_with fail
    refine (next_any g x ms _ (HR1.out.alloc _) hne).mono ?_
    rintro e w2 ⟨rfl, hr2, hg2⟩
    have ha := (new_cell w1 m).grown hg2 (by simp; omega)
    have c1 := ha.cell 1
    simp only [List.getElem?_toArray, List.getElem?_cons_zero, List.getElem?_cons_succ] at c1
    have HR2 := Lib.hid hr2
    have HG2 := Lib.hid (grown_trans (grown_alloc HG1.out _) hg2)
    clear ha hr2 hg2
    go_wp2_with fail
    go_ret2
    exact ⟨rfl, HR2.out, HG2.out⟩
  · have e1 : takeV k ms = .tuple #[.string (str []), .bool false] := by unfold takeV; rw [hm, if_neg h]
    have e2 : takeR k ms = ms := by unfold takeR; rw [hm, if_neg h]
    rw [e1, e2]
    clear e1 e2 hm
    have hki : ((m.kind : Int) != (k : Int)) = true := by rw [bne_iff_ne]; omega
    have hki2 : (m.kind != k) = true := by rw [bne_iff_ne]; omega
    clear h
    go_enter Tryz.func137, Tryz.ntmps137
    go_wp2_with fail
    refine (here_any g x ms w HR.out).mono ?_
    rw [HM.out]
    rintro e w1 ⟨rfl, hb⟩
    have HR1 := Lib.hid (HR.out.below hb)
    have HG1 := Lib.hid (show w.grownBy w1 (some g) from ⟨hb.os, hb.tape, hb.output, hb.size, fun i hi _ => hb.block i hi⟩)
    clear hb
    unfold Mk.val
    go_wp2_with fail
    go_ret2
    exact ⟨rfl, HR1.out.alloc _, grown_alloc HG1.out _⟩

theorem str_same (a b : List UInt8) : ((str a).toList == (str b).toList) = (a == b) := by
  rw [toList_eq, toList_eq, bl_str, bl_str]

theorem word_is (t : List UInt8) (g : Nat) (x : Tl) (ms : List Mk) (w : World) (hr : Rest w g x ms) :
    Calls Tryz.prog 119 #[.pointer (some ⟨g, 0, none⟩), .string (str t)] w fun e w' => e = .returned (.bool (Rd.isWord t (Rd.hd ms))) ∧ Below w.heap.size w w' := by
  have HR := Lib.hid hr
  clear hr
  obtain ⟨m, hm⟩ : ∃ m, Rd.hd ms = m := ⟨_, rfl⟩
  rw [hm]
  have HM := Lib.hid hm
  clear hm
  by_cases h : m.kind = 2
  · have hki : ((m.kind : Int) == 2) = true := by rw [beq_iff_eq]; omega
    have hki2 : (m.kind == 2) = true := by rw [beq_iff_eq]; omega
    have he : Rd.isWord t m = ((str m.text).toList == (str t).toList) := by unfold Rd.isWord; rw [hki2, str_same]; simp
    rw [he]
    clear he h
    go_enter Tryz.func119, Tryz.ntmps119
    go_wp2_with fail
    refine (here_any g x ms w HR.out).mono ?_
    rw [HM.out]
    rintro e w1 ⟨rfl, hb⟩
    have HB := Lib.hid hb
    clear hb
    unfold Mk.val
    go_wp2_with fail
    go_ret
    exact ⟨rfl, HB.out.alloc HB.out.size _⟩
  · have hki : ((m.kind : Int) == 2) = false := by rw [beq_eq_false_iff_ne]; omega
    have hki2 : (m.kind == 2) = false := by rw [beq_eq_false_iff_ne]; omega
    have he : Rd.isWord t m = false := by unfold Rd.isWord; rw [hki2]; simp
    rw [he]
    clear he h
    go_enter Tryz.func119, Tryz.ntmps119
    go_wp2_with fail
    refine (here_any g x ms w HR.out).mono ?_
    rw [HM.out]
    rintro e w1 ⟨rfl, hb⟩
    have HB := Lib.hid hb
    clear hb
    unfold Mk.val
    go_wp2_with fail
    go_ret
    exact ⟨rfl, HB.out.alloc HB.out.size _⟩

end Go.Proofs.YtpgmapjjjpcmfaaGreatDoor

namespace Go.Proofs.YtpgmapjjjpcmfaaGreatDoor
open Go.RowKit
open Lx
set_option linter.unusedVariables false
set_option linter.unusedSimpArgs false
set_option maxRecDepth 100000

theorem Tryz.sizePat : (Tryz.prog.info? 39).map (·.size) = some 3 := by kernel_rfl

def Rd.Pat.cells (p : Rd.Pat) : List Value := [.string (str p.text), .string (str p.set), .bool p.many]
def patV (p : Rd.Pat) : Value := .agg #[.string (str p.text), .string (str p.set), .bool p.many]
def noPat : Rd.Pat := ⟨[], [], false⟩
def Rd.Res.two : Rd.Res Rd.Pat → Value
  | .ok p _ => .tuple #[patV p, .bool true]
  | .bad _ _ => .tuple #[patV noPat, .bool false]
def Rd.Res.rest {α : Type} : Rd.Res α → List Mk
  | .ok _ r => r
  | .bad _ r => r

theorem results_cell_tmp {P : Program} {fn : Func} {q p : Tmp} {ty : TypeId} (h : fn.results = #[.cell p ty, .tmp q]) (tmps : Array Value) (w : World) (v : Value) (hv : tmps.getD q undef = v) (g : Nat) (t : TypeId) (cs : Array Value) (d : TypeDesc)
    (hp : tmps.getD p undef = .pointer (some ⟨g, 0, none⟩)) (hg : At w g t cs)
    (hu : P.underlying ty = some d) (hd : (match d with | .struct _ | .array _ _ => true | _ => false) = true) (hi : (P.info? ty).map (·.size) = some cs.size) :
    (results fn tmps).run P w = .ok (.tuple #[.agg cs, v]) w := by
  have hp' : tmps[p]?.getD undef = .pointer (some ⟨g, 0, none⟩) := by simpa using hp
  have hv' : tmps[q]?.getD undef = v := by simpa using hv
  simp [results, h, hp', hv', asAddr, run_loadVar_row w g t ty cs (0, 0) d hg hu hd hi]

theorem takeV_yes {k : Nat} {ms : List Mk} (h : (Rd.hd ms).kind = k) : takeV k ms = .tuple #[.string (str (Rd.hd ms).text), .bool true] := by unfold takeV; rw [if_pos h]
theorem takeR_yes {k : Nat} {ms : List Mk} (h : (Rd.hd ms).kind = k) : takeR k ms = ms.tail := by unfold takeR; rw [if_pos h]
theorem takeV_no {k : Nat} {ms : List Mk} (h : ¬ (Rd.hd ms).kind = k) : takeV k ms = .tuple #[.string (str []), .bool false] := by unfold takeV; rw [if_neg h]
theorem takeR_no {k : Nat} {ms : List Mk} (h : ¬ (Rd.hd ms).kind = k) : takeR k ms = ms := by unfold takeR; rw [if_neg h]

set_option maxHeartbeats 2000000 in
theorem pattern_any (g : Nat) (x : Tl) (ms : List Mk) (w : World) (hr : Rest w g x ms) :
    Calls Tryz.prog 143 #[.pointer (some ⟨g, 0, none⟩)] w fun e w' => e = .returned (Rd.pattern ms).two ∧ Rest w' g x (Rd.pattern ms).rest ∧ w.grownBy w' (some g) := by
  have HR := Lib.hid hr
  have hlt := hr.lt
  clear hr
  have HA := Lib.hid ((HR.out.alloc (.cells #[.string (str []), .string (str []), .bool false] 39)))
  have HDA := Lib.hid (At.new w 39 #[.string (str []), .string (str []), .bool false])
  have HGA := Lib.hid (grown_alloc (grown_refl w (some g)) (.cells #[.string (str []), .string (str []), .bool false] 39))
  by_cases h3 : (Rd.hd ms).kind = 3
  · have e : Rd.pattern ms = .ok ⟨(Rd.hd ms).text, [], false⟩ ms.tail := by unfold Rd.pattern; rw [if_pos h3]
    rw [e]
    have V3 := Lib.hid (takeV_yes h3)
    have R3 := Lib.hid (takeR_yes h3)
    clear e h3
    generalize (Rd.hd ms).text = T at V3 ⊢
    simp only [Rd.Res.two, Rd.Res.rest, patV]
    go_enter Tryz.func143, Tryz.ntmps143
    go_wp2_with fail
    refine (take_any 3 (by omega) g x ms _ HA.out).mono ?_
    rw [V3.out, R3.out]
    rintro e w1 ⟨rfl, hr, hg⟩
    have hsw1 := hg.size
    have HRw1 := Lib.hid hr
    have HDw1 := Lib.hid (HDA.out.grown hg (by simp; omega))
    have HGw1 := Lib.hid (grown_trans HGA.out hg)
    clear hr hg
    have d0 := HDw1.out.cell 0
    have d1 := HDw1.out.cell 1
    have d2 := HDw1.out.cell 2
    have df := HDw1.out.frozen
    simp only [List.getElem?_toArray, List.getElem?_cons_zero, List.getElem?_cons_succ] at d0 d1 d2
    go_wp2_with fail
    refine bodyPost_ret (results_cell_tmp rfl _ _ _ rfl w.heap.size _ _ _ rfl (HDw1.out.three _ _ _) Tryz.underlying39 rfl Tryz.sizePat) rfl ⟨rfl, ?_, ?_⟩
    · exact HRw1.out.stay (Stay.far HDw1.out (by decide) (grown_three _ _ _ _ _)) (Stay.far HDw1.out (by decide) (grown_three _ _ _ _ _))
    · exact grown_new (grown_new (grown_new HGw1.out (by simp) _) (by simp) _) (by simp) _
  · have V3 := Lib.hid (takeV_no h3)
    have R3 := Lib.hid (takeR_no h3)
    by_cases h4 : (Rd.hd ms).kind = 4
    · have V4 := Lib.hid (takeV_yes h4)
      have R4 := Lib.hid (takeR_yes h4)
      by_cases h5 : (Rd.hd ms.tail).kind = 5
      · have e : Rd.pattern ms = .ok ⟨[], (Rd.hd ms).text, true⟩ ms.tail.tail := by unfold Rd.pattern; rw [if_neg h3, if_pos h4, if_pos h5]
        rw [e]
        have V5 := Lib.hid (takeV_yes h5)
        have R5 := Lib.hid (takeR_yes h5)
        clear e h3 h4 h5
        generalize (Rd.hd ms).text = T at V4 ⊢
        generalize (Rd.hd ms.tail).text = T5 at V5
        simp only [Rd.Res.two, Rd.Res.rest, patV]
        go_enter Tryz.func143, Tryz.ntmps143
        go_wp2_with fail
        refine (take_any 3 (by omega) g x ms _ HA.out).mono ?_
        rw [V3.out, R3.out]
        rintro e w1 ⟨rfl, hr, hg⟩
        have hsw1 := hg.size
        have HRw1 := Lib.hid hr
        have HDw1 := Lib.hid (HDA.out.grown hg (by simp; omega))
        have HGw1 := Lib.hid (grown_trans HGA.out hg)
        clear hr hg
        go_wp2_with fail
        refine (take_any 4 (by omega) g x ms _ HRw1.out).mono ?_
        rw [V4.out, R4.out]
        rintro e w2 ⟨rfl, hr, hg⟩
        have hsw2 := hg.size
        have HRw2 := Lib.hid hr
        have HDw2 := Lib.hid (HDw1.out.grown hg (by simp; omega))
        have HGw2 := Lib.hid (grown_trans HGw1.out hg)
        clear hr hg
        go_wp2_with fail
        refine (take_any 5 (by omega) g x ms.tail _ HRw2.out).mono ?_
        rw [V5.out, R5.out]
        rintro e w3 ⟨rfl, hr, hg⟩
        have hsw3 := hg.size
        have HRw3 := Lib.hid hr
        have HDw3 := Lib.hid (HDw2.out.grown hg (by simp; omega))
        have HGw3 := Lib.hid (grown_trans HGw2.out hg)
        clear hr hg
        have d0 := HDw3.out.cell 0
        have d1 := HDw3.out.cell 1
        have d2 := HDw3.out.cell 2
        have df := HDw3.out.frozen
        simp only [List.getElem?_toArray, List.getElem?_cons_zero, List.getElem?_cons_succ] at d0 d1 d2
        go_wp2_with fail
        refine bodyPost_ret (results_cell_tmp rfl _ _ _ rfl w.heap.size _ _ _ rfl (HDw3.out.three _ _ _) Tryz.underlying39 rfl Tryz.sizePat) rfl ⟨rfl, ?_, ?_⟩
        · exact HRw3.out.stay (Stay.far HDw3.out (by decide) (grown_three _ _ _ _ _)) (Stay.far HDw3.out (by decide) (grown_three _ _ _ _ _))
        · exact grown_new (grown_new (grown_new HGw3.out (by simp) _) (by simp) _) (by simp) _
      · have e : Rd.pattern ms = .ok ⟨[], (Rd.hd ms).text, false⟩ ms.tail := by unfold Rd.pattern; rw [if_neg h3, if_pos h4, if_neg h5]
        rw [e]
        have V5 := Lib.hid (takeV_no h5)
        have R5 := Lib.hid (takeR_no h5)
        clear e h3 h4 h5
        generalize (Rd.hd ms).text = T at V4 ⊢
        simp only [Rd.Res.two, Rd.Res.rest, patV]
        go_enter Tryz.func143, Tryz.ntmps143
        go_wp2_with fail
        refine (take_any 3 (by omega) g x ms _ HA.out).mono ?_
        rw [V3.out, R3.out]
        rintro e w1 ⟨rfl, hr, hg⟩
        have hsw1 := hg.size
        have HRw1 := Lib.hid hr
        have HDw1 := Lib.hid (HDA.out.grown hg (by simp; omega))
        have HGw1 := Lib.hid (grown_trans HGA.out hg)
        clear hr hg
        go_wp2_with fail
        refine (take_any 4 (by omega) g x ms _ HRw1.out).mono ?_
        rw [V4.out, R4.out]
        rintro e w2 ⟨rfl, hr, hg⟩
        have hsw2 := hg.size
        have HRw2 := Lib.hid hr
        have HDw2 := Lib.hid (HDw1.out.grown hg (by simp; omega))
        have HGw2 := Lib.hid (grown_trans HGw1.out hg)
        clear hr hg
        go_wp2_with fail
        refine (take_any 5 (by omega) g x ms.tail _ HRw2.out).mono ?_
        rw [V5.out, R5.out]
        rintro e w3 ⟨rfl, hr, hg⟩
        have hsw3 := hg.size
        have HRw3 := Lib.hid hr
        have HDw3 := Lib.hid (HDw2.out.grown hg (by simp; omega))
        have HGw3 := Lib.hid (grown_trans HGw2.out hg)
        clear hr hg
        have d0 := HDw3.out.cell 0
        have d1 := HDw3.out.cell 1
        have d2 := HDw3.out.cell 2
        have df := HDw3.out.frozen
        simp only [List.getElem?_toArray, List.getElem?_cons_zero, List.getElem?_cons_succ] at d0 d1 d2
        go_wp2_with fail
        refine bodyPost_ret (results_cell_tmp rfl _ _ _ rfl w.heap.size _ _ _ rfl (HDw3.out.three _ _ _) Tryz.underlying39 rfl Tryz.sizePat) rfl ⟨rfl, ?_, ?_⟩
        · exact HRw3.out.stay (Stay.far HDw3.out (by decide) (grown_three _ _ _ _ _)) (Stay.far HDw3.out (by decide) (grown_three _ _ _ _ _))
        · exact grown_new (grown_new (grown_new HGw3.out (by simp) _) (by simp) _) (by simp) _
    · have V4 := Lib.hid (takeV_no h4)
      have R4 := Lib.hid (takeR_no h4)
      have e : Rd.pattern ms = .bad 14 ms := by unfold Rd.pattern; rw [if_neg h3, if_neg h4]
      rw [e]
      clear e h3 h4
      simp only [Rd.Res.two, Rd.Res.rest, patV, noPat]
      go_enter Tryz.func143, Tryz.ntmps143
      go_wp2_with fail
      refine (take_any 3 (by omega) g x ms _ HA.out).mono ?_
      rw [V3.out, R3.out]
      rintro e w1 ⟨rfl, hr, hg⟩
      have hsw1 := hg.size
      have HRw1 := Lib.hid hr
      have HDw1 := Lib.hid (HDA.out.grown hg (by simp; omega))
      have HGw1 := Lib.hid (grown_trans HGA.out hg)
      clear hr hg
      go_wp2_with fail
      refine (take_any 4 (by omega) g x ms _ HRw1.out).mono ?_
      rw [V4.out, R4.out]
      rintro e w2 ⟨rfl, hr, hg⟩
      have hsw2 := hg.size
      have HRw2 := Lib.hid hr
      have HDw2 := Lib.hid (HDw1.out.grown hg (by simp; omega))
      have HGw2 := Lib.hid (grown_trans HGw1.out hg)
      clear hr hg
      have d0 := HDw2.out.cell 0
      have d1 := HDw2.out.cell 1
      have d2 := HDw2.out.cell 2
      have df := HDw2.out.frozen
      simp only [List.getElem?_toArray, List.getElem?_cons_zero, List.getElem?_cons_succ] at d0 d1 d2
      go_wp2_with fail
      refine bodyPost_ret (results_cell_tmp rfl _ _ _ rfl w.heap.size _ _ _ rfl (HDw2.out.three _ _ _) Tryz.underlying39 rfl Tryz.sizePat) rfl ⟨rfl, ?_, ?_⟩
      · exact HRw2.out.stay (Stay.far HDw2.out (by decide) (grown_three _ _ _ _ _)) (Stay.far HDw2.out (by decide) (grown_three _ _ _ _ _))
      · exact grown_new (grown_new (grown_new HGw2.out (by simp) _) (by simp) _) (by simp) _

end Go.Proofs.YtpgmapjjjpcmfaaGreatDoor

namespace Go.Proofs.YtpgmapjjjpcmfaaGreatDoor
open Go.RowKit
open Lx
set_option linter.unusedVariables false
set_option linter.unusedSimpArgs false
set_option maxRecDepth 100000

/-- append onto a row of one's own, as one step of a region that draws. -/
theorem step_append_own2 {P : Program} {ops : Array Oper} {o : Oper} {a : Act} {w : World} {K : Act → World → Prop} {Q : Exit → Act → World → Prop} {E : Prop}
    (hg : o.guard = none) (s x : Operand) (t : TypeId) (hop : o.op = Op.call { callee := Callee.builtin Builtin.append, args := #[s, x], argTypes := #[t, t] })
    (base : Nat) (e : TypeId) (i : TypeInfo) (z : Value) (size bytes : Nat) (h1 : P.underlying t = some (.slice e)) (h2 : P.info? e = some i) (h3 : i.zero = some z) (h4 : i.size = size) (h5 : i.bytes = bytes) (h6 : z.cells.size = size) (h7 : 0 < size)
    (v : Value) (n : Nat) (xs : List Value) (hs : a.eval s = v) (hown : w.ownsRow base e size v n xs)
    (ad : Addr) (m c : Nat) (news : List Value) (hx : a.eval x = .slice (some ad) m c) (hn : news.length = m * size) (hc : ∀ j u, news[j]? = some u → w.cell? (ad.add j) = some u) (h1c : ∀ u ∈ news, u.oneCell' = true)
    (b1 : n + m ≤ maxLen) (b2 : (n + m) * bytes ≤ 140737488355328) (b3 : base ≤ w.heap.size)
    (hK : ∀ v' w', w'.ownsRow base e size v' (n + m) (xs ++ news) → w.grownBy w' v.ownBlock → SameOrNew w v v' → K (a.put o.dst v') w') :
    if Region.wanted o (yielded ops a.tmps) = true then Oper.wp P o a w K Q else E := by
  have hw : Region.wanted o (yielded ops a.tmps) = true := by simp [Region.wanted, hg]
  rw [if_pos hw]
  obtain ⟨v', w', hr, r1, r2, r3⟩ := run_append_own2 (P := P) w base t o.type e i z size bytes h1 h2 h3 h4 h5 h6 h7 v n xs hown ad m c news hn hc h1c b1 b2 b3
  unfold Oper.wp
  simp [execOp, hop, resolve, invoke, builtin, hs, hx, hr, Result.andThen]
  exact hK _ _ r1 r2 r3
/-- The cells of a block that was just laid. -/
theorem cells_new (w : World) (cs : List Value) (t : TypeId) : ∀ j u, cs[j]? = some u → (w.alloc (.cells cs.toArray t)).cell? ((⟨w.heap.size, 0, none⟩ : Addr).add j) = some u := by
  intro j u h
  rw [Addr.add_mid, Nat.zero_add, (At.new w t cs.toArray).cell]
  simpa using h

theorem patinfo : (Tryz.prog.info? 39).map (fun i => (i.zero, i.size, i.bytes)) = some (some (.agg #[.string ⟨#[]⟩, .string ⟨#[]⟩, .bool false]), 3, 40) := by kernel_rfl
theorem tokinfo : (Tryz.prog.info? 41).map (fun i => (i.zero, i.size, i.bytes)) = some (some (.agg #[.string ⟨#[]⟩, .string ⟨#[]⟩, .string ⟨#[]⟩, .bool false]), 4, 56) := by kernel_rfl
theorem levinfo : (Tryz.prog.info? 50).map (fun i => (i.zero, i.size, i.bytes)) = some (some (.agg #[.int .i64 0, .slice none 0 0]), 2, 32) := by kernel_rfl
theorem ruleinfo : (Tryz.prog.info? 36).map (fun i => (i.zero, i.size, i.bytes)) = some (some (.agg #[.string ⟨#[]⟩, .slice none 0 0, .string ⟨#[]⟩, .string ⟨#[]⟩]), 4, 72) := by kernel_rfl
theorem strinfo : (Tryz.prog.info? 9).map (fun i => (i.zero, i.size, i.bytes)) = some (some (.string ⟨#[]⟩), 1, 16) := by kernel_rfl

def namesV (l : List Rd.Name) : List Value := l.map fun n => .string (str n)
def patsV (l : List Rd.Pat) : List Value := l.flatMap Rd.Pat.cells
def Rd.Tok.cells (t : Rd.Tok) : List Value := [.string (str t.name), .string (str t.pat.text), .string (str t.pat.set), .bool t.pat.many]
def toksV (l : List Rd.Tok) : List Value := l.flatMap Rd.Tok.cells
def levCells (p : Rd.Lev × Value) : List Value := [.int .i64 (p.1.assoc : Int), p.2]
def levsV (l : List (Rd.Lev × Value)) : List Value := l.flatMap levCells
def ruleCells (p : Rd.Rule × Value) : List Value := [.string (str p.1.left), p.2, .string (str p.1.prec), .string (str p.1.action)]
def rulesV (l : List (Rd.Rule × Value)) : List Value := l.flatMap ruleCells
theorem namesV_snoc (l : List Rd.Name) (x : Rd.Name) : namesV (l ++ [x]) = namesV l ++ [.string (str x)] := by simp [namesV]
theorem patsV_snoc (l : List Rd.Pat) (x : Rd.Pat) : patsV (l ++ [x]) = patsV l ++ x.cells := by simp [patsV]
theorem toksV_snoc (l : List Rd.Tok) (x : Rd.Tok) : toksV (l ++ [x]) = toksV l ++ x.cells := by simp [toksV]
theorem levsV_snoc (l : List (Rd.Lev × Value)) (x : Rd.Lev × Value) : levsV (l ++ [x]) = levsV l ++ levCells x := by simp [levsV]
theorem rulesV_snoc (l : List (Rd.Rule × Value)) (x : Rd.Rule × Value) : rulesV (l ++ [x]) = rulesV l ++ ruleCells x := by simp [rulesV]

/-- The names l lie in the slice v. -/
def Nms (w : World) (v : Value) (l : List Rd.Name) : Prop := ∃ A cap, v = .slice A l.length cap ∧ Lie w 9 A (namesV l)
theorem Nms.stay {w w' : World} {v : Value} {l : List Rd.Name} (h : Nms w v l) (hs : Stay 9 w w') : Nms w' v l := by
  obtain ⟨A, cap, h1, h2⟩ := h; exact ⟨A, cap, h1, h2.stay hs⟩
theorem Nms.nil (w : World) : Nms w (.slice none 0 0) [] := ⟨none, 0, rfl, Lie.nil _ _ _⟩
/-- Block m is a set of the names lev. -/
def HasSet (w : World) (m : Nat) (lev : List Rd.Name) : Prop := ∃ D : DataW Unit, w.ownsMap Tryz.prog 9 unitElem m lev.length D ∧ ∀ s : Rd.Name, Maps.has D (.string s) = decide (s ∈ lev)
theorem HasSet.kept {w w' : World} {m : Nat} {lev : List Rd.Name} {row : Option Nat} (h : HasSet w m lev) (hg : w.grownBy w' row) (hne : some m ≠ row) : HasSet w' m lev := by
  obtain ⟨D, h1, h2⟩ := h; exact ⟨D, h1.kept hg hne, h2⟩
theorem HasSet.lt {w : World} {m : Nat} {lev : List Rd.Name} (h : HasSet w m lev) : m < w.heap.size := by obtain ⟨D, h1, _⟩ := h; exact h1.lt
theorem HasSet.ne {w : World} {m g : Nat} {lev : List Rd.Name} {t : TypeId} {cs : Array Value} (h : HasSet w m lev) (hg : At w g t cs) : m ≠ g := by
  rintro rfl
  obtain ⟨D, ⟨es, c, h1, _⟩, _⟩ := h
  unfold At at hg
  rw [hg] at h1; simp at h1

theorem HasSet.look {w : World} {m : Nat} {lev : List Rd.Name} (h : HasSet w m lev) (T : Rd.Name) (hT : T.length ≤ 4000) :
    (Instr.lookup 106 (.map (some m)) (.string (str T)) true).run Tryz.prog w = .ok (.tuple #[.agg #[], .bool (decide (T ∈ lev))]) w := by
  obtain ⟨D, h1, h2⟩ := h
  have hkey : keyOf Tryz.prog 9 (.string (str T)) = some (.string T) := Go.WideMaps.keyOf_string_mk Tryz.underlying9 (s := str T) (by
    have : (str T).size = T.length := by rw [← bl_length, bl_str]
    rw [this]; unfold maxLen; omega)
  obtain ⟨v, ps, hrun, hv⟩ := h1.look_ok (Go.Maps.string_keyed Tryz.underlying9) Tryz.underlying106 (z := .agg #[]) (by kernel_rfl) (zd := .agg []) (zp := []) unitElem_mk hkey
  obtain ⟨rfl, _⟩ := unitElem_inv hv
  rw [hrun, h2]
theorem HasSet.put {w : World} {m : Nat} {lev : List Rd.Name} (h : HasSet w m lev) (T : Rd.Name) (hT : T.length ≤ 4000) (hl : lev.length ≤ 1000000) :
    ∃ w', (Instr.mapUpdate 106 (.map (some m)) (.string (str T)) (.agg #[])).run Tryz.prog w = .ok () w' ∧ HasSet w' m (lev ++ [T]) ∧ w.grownBy w' (some m) := by
  obtain ⟨D, h1, h2⟩ := h
  have hkey : keyOf Tryz.prog 9 (.string (str T)) = some (.string T) := Go.WideMaps.keyOf_string_mk Tryz.underlying9 (s := str T) (by
    have : (str T).size = T.length := by rw [← bl_length, bl_str]
    rw [this]; unfold maxLen; omega)
  obtain ⟨w', hrun, ho, hg⟩ := h1.update (Go.Maps.string_keyed Tryz.underlying9) Tryz.underlying106 (by unfold maxLen; omega) hkey (val := .agg #[]) (d := .agg []) (ps := []) unitElem_mk
  refine ⟨w', hrun, ⟨D.put (.string T) (.agg []), by rw [List.length_append]; exact ho, fun s => ?_⟩, hg⟩
  by_cases e : s = T
  · subst e
    rw [Go.Maps.has_put_same h1.isMap (by simp [WideAt.IsKeyLit])]
    simp
  · rw [Go.Maps.has_put_other (by simpa using e), h2]
    simp [e]

/-- All but the marks of a reading: what is declared, the rules, the names that have levels. -/
structure Body (w : World) (B : Nat) (x : Tl) (d : Rd.Decls) (rs : List Rd.Rule) (lev : List Rd.Name) : Prop where
  tok : w.ownsRow B 41 4 x.t d.toks.length (toksV d.toks)
  skp : w.ownsRow B 39 3 x.s d.skips.length (patsV d.skips)
  lvs : ∃ pl : List (Rd.Lev × Value), pl.map (·.1) = d.levels ∧ w.ownsRow B 50 2 x.l d.levels.length (levsV pl) ∧ ∀ p ∈ pl, Nms w p.2 p.1.names
  st : x.st = str d.start
  rls : ∃ ql : List (Rd.Rule × Value), ql.map (·.1) = rs ∧ w.ownsRow B 36 4 x.r rs.length (rulesV ql) ∧ ∀ p ∈ ql, Nms w p.2 p.1.right
  set_ : HasSet w x.m lev
  b : x.b = d.started
  base : B ≤ x.m
section
variable {w w' : World} {B g : Nat} {x : Tl} {d : Rd.Decls} {rs : List Rd.Rule} {lev : List Rd.Name}
/-- What stays of a body: rows whose blocks stay. -/
theorem Body.stays (h : Body w B x d rs lev) (h1 : Stay 41 w w') (h2 : Stay 39 w w') (h3 : Stay 50 w w') (h4 : Stay 36 w w') (h5 : Stay 9 w w') {lev' : List Rd.Name} (hm : HasSet w' x.m lev') : Body w' B x d rs lev' := by
  refine ⟨own_stay h.tok h1, own_stay h.skp h2, ?_, h.st, ?_, hm, h.b, h.base⟩
  · obtain ⟨pl, e, h6, h7⟩ := h.lvs
    exact ⟨pl, e, own_stay h6 h3, fun p hp => (h7 p hp).stay h5⟩
  · obtain ⟨ql, e, h6, h7⟩ := h.rls
    exact ⟨ql, e, own_stay h6 h4, fun p hp => (h7 p hp).stay h5⟩
theorem Body.below (h : Body w B x d rs lev) (hb : Below w.heap.size w w') : Body w' B x d rs lev :=
  h.stays (Stay.below hb) (Stay.below hb) (Stay.below hb) (Stay.below hb) (Stay.below hb) (h.set_.kept (row := none) ⟨hb.os, hb.tape, hb.output, hb.size, fun i hi _ => hb.block i hi⟩ (by simp))
theorem Body.alloc (h : Body w B x d rs lev) (o : Obj) : Body (w.alloc o) B x d rs lev := h.below ((Below.refl _ _).alloc (Nat.le_refl _) o)
theorem Body.drewN (h : Body w B x d rs lev) (n : Nat) : Body (w.drewN n) B x d rs lev := h.below (below_drewN (Below.refl _ _) n)
theorem Body.drew (h : Body w B x d rs lev) : Body w.drew B x d rs lev := h.below (below_drew (Below.refl _ _))
theorem Body.far (h : Body w B x d rs lev) {cs : Array Value} (hg : At w g 135 cs) (hk : w.grownBy w' (some g)) : Body w' B x d rs lev :=
  h.stays (Stay.far hg (by decide) hk) (Stay.far hg (by decide) hk) (Stay.far hg (by decide) hk) (Stay.far hg (by decide) hk) (Stay.far hg (by decide) hk) (h.set_.kept hk (by simpa using h.set_.ne hg))
end

/-- There is not too much of anything. -/
def Small (d : Rd.Decls) (rs : List Rd.Rule) (lev : List Rd.Name) (ms : List Mk) : Prop :=
  d.toks.length ≤ 20 ∧ d.skips.length ≤ 4 ∧ d.levels.length ≤ 10 ∧ rs.length ≤ 40 ∧ lev.length + ms.length ≤ 1000000
/-- The reading in block g: what is declared, the rules, the names that have levels (in block m), the marks that are left. -/
structure RdAt (w : World) (B g m : Nat) (d : Rd.Decls) (rs : List Rd.Rule) (lev : List Rd.Name) (ms : List Mk) : Prop where
  ex : ∃ x : Tl, Rest w g x ms ∧ Body w B x d rs lev ∧ x.m = m
  base : B ≤ g
  small : Small d rs lev ms
section
variable {w w' : World} {B g m : Nat} {d : Rd.Decls} {rs : List Rd.Rule} {lev : List Rd.Name} {ms : List Mk}
theorem RdAt.below (h : RdAt w B g m d rs lev ms) (hb : Below w.heap.size w w') : RdAt w' B g m d rs lev ms := by
  obtain ⟨x, h1, h2, h3⟩ := h.ex
  exact ⟨⟨x, h1.below hb, h2.below hb, h3⟩, h.base, h.small⟩
theorem RdAt.alloc (h : RdAt w B g m d rs lev ms) (o : Obj) : RdAt (w.alloc o) B g m d rs lev ms := h.below ((Below.refl _ _).alloc (Nat.le_refl _) o)
end

/-- Nothing below B turns, and of maps none but m. -/
structure Fr (B m : Nat) (w w' : World) : Prop where
  below : Below B w w'
  maps : ∀ (k : Nat) (es : Array MapEntry) (c : Nat), k ≠ m → w.heap[k]? = some (.map es c) → w'.heap[k]? = some (.map es c)
section
variable {a w w' : World} {B m : Nat}
theorem Fr.refl (B m : Nat) (w : World) : Fr B m w w := ⟨Below.refl _ _, fun _ _ _ _ h => h⟩
theorem Fr.trans (h : Fr B m a w) (k : Fr B m w w') : Fr B m a w' := ⟨h.below.trans k.below, fun i es c hi he => k.maps i es c hi (h.maps i es c hi he)⟩
theorem Fr.of_below (h : Below w.heap.size w w') (hB : B ≤ w.heap.size) : Fr B m w w' := ⟨h.mono hB, fun i es c _ he => by rw [h.block i (Array.getElem?_eq_some_iff.1 he).1]; exact he⟩
theorem Fr.alloc (h : Fr B m a w) (hB : B ≤ w.heap.size) (o : Obj) : Fr B m a (w.alloc o) := h.trans (Fr.of_below ((Below.refl _ _).alloc (Nat.le_refl _) o) hB)
theorem Fr.drewN (h : Fr B m a w) (n : Nat) : Fr B m a (w.drewN n) := ⟨below_drewN h.below n, h.maps⟩
theorem Fr.drew (h : Fr B m a w) : Fr B m a w.drew := ⟨⟨h.below.os, h.below.tape, h.below.output, h.below.size, h.below.block⟩, h.maps⟩
/-- A block of cells turns. -/
theorem Fr.at_ {g : Nat} {t : TypeId} {cs : Array Value} (hg : At w g t cs) (hk : w.grownBy w' (some g)) (hB : B ≤ g) : Fr B m w w' :=
  ⟨(Below.refl _ _).grown hk (by have := hg.lt; omega) (fun k e => by injection e with e; omega), fun i es c hi he => by
    rw [hk.block i (Array.getElem?_eq_some_iff.1 he).1 (fun e => ?_)]
    · exact he
    · injection e with e
      subst e
      unfold At at hg
      rw [hg] at he; simp at he⟩
theorem Fr.own {B' e size n : Nat} {v : Value} {ys : List Value} (ho : w.ownsRow B' e size v n ys) (hk : w.grownBy w' v.ownBlock) (hB : B ≤ B') (hs : B ≤ w.heap.size) : Fr B m w w' :=
  ⟨(Below.refl _ _).grown hk hs (fun k e => by have := (own_lt ho k e).1; omega), fun i es c hi he => by
    rw [hk.block i (Array.getElem?_eq_some_iff.1 he).1 (fun e => ?_)]
    · exact he
    · rcases ho.2 with ⟨rfl, _⟩ | ⟨g, cap, cur, rfl, _, hgg, _⟩
      · simp [Value.ownBlock] at e
      · simp [Value.ownBlock] at e
        subst e
        rw [hgg] at he; simp at he⟩
theorem Fr.map_ (hk : w.grownBy w' (some m)) (hB : B ≤ m) (hs : B ≤ w.heap.size) : Fr B m w w' :=
  ⟨(Below.refl _ _).grown hk hs (fun k e => by injection e with e; omega), fun i es c hi he => by
    rw [hk.block i (Array.getElem?_eq_some_iff.1 he).1 (fun e => hi (by injection e))]; exact he⟩
end

/-- What a declaration's reading tells. -/
def Told (B g m : Nat) (res : Rd.Res Rd.Decls) (e : Ending) (w' : World) : Prop :=
  match res with
  | .ok d r => e = .returned (.int .i64 0) ∧ RdAt w' B g m d [] (Rd.levelled d) r
  | .bad c r => e = .returned (.int .i64 (c : Int)) ∧ ∃ x, Rest w' g x r

theorem ne_of_kind {ms : List Mk} {k : Nat} (h : (Rd.hd ms).kind = k) (hk : k ≠ 0) : ms ≠ [] := by rintro rfl; simp [Rd.hd_nil] at h; omega

theorem Body.skips {w w' : World} {B : Nat} {x : Tl} {d : Rd.Decls} {rs : List Rd.Rule} {lev : List Rd.Name} (h : Body w B x d rs lev) {v' : Value} {p : Rd.Pat} (ho : w'.ownsRow B 39 3 v' (d.skips.length + 1) (patsV d.skips ++ p.cells)) (hg : w.grownBy w' x.s.ownBlock) :
    Body w' B { x with s := v' } { d with skips := d.skips ++ [p] } rs lev := by
  have hm : HasSet w' x.m lev := h.set_.kept hg (fun e => by
    rcases h.skp.2 with ⟨e1, _⟩ | ⟨g, cap, cur, e1, _, hgg, _⟩
    · rw [e1] at e; simp [Value.ownBlock] at e
    · rw [e1] at e
      simp [Value.ownBlock] at e
      exact h.set_.ne (g := g) (t := _) (cs := cur) hgg e)
  refine ⟨own_stay h.tok (Stay.own h.skp (by decide) hg), by rw [patsV_snoc, List.length_append]; exact ho, ?_, h.st, ?_, hm, h.b, h.base⟩
  · obtain ⟨pl, e, h6, h7⟩ := h.lvs
    exact ⟨pl, e, own_stay h6 (Stay.own h.skp (by decide) hg), fun p hp => (h7 p hp).stay (Stay.own h.skp (by decide) hg)⟩
  · obtain ⟨ql, e, h6, h7⟩ := h.rls
    exact ⟨ql, e, own_stay h6 (Stay.own h.skp (by decide) hg), fun p hp => (h7 p hp).stay (Stay.own h.skp (by decide) hg)⟩

/-- A field of the reading is set, behind what it now holds. -/
theorem store_end {w : World} {B g i : Nat} {x x' : Tl} {d : Rd.Decls} {rs : List Rd.Rule} {lev : List Rd.Name} {r : List Mk} {A : Option Addr} {cap : Nat} {v' : Value} (hat : At w g 135 (x.cells (.slice A r.length cap))) (hlen : Sane r) (hcap : r.length ≤ cap)
    (hli : Lie w 124 A (marksV r)) (hb : Body w B x' d rs lev) (hx : (x.cells (.slice A r.length cap)).setIfInBounds i v' = x'.cells (.slice A r.length cap)) (hB : B ≤ g) (hs : Small d rs lev r) :
    RdAt (w.setCell ⟨g, i, none⟩ v') B g x'.m d rs lev r ∧ ∀ m, Fr B m w (w.setCell ⟨g, i, none⟩ v') := by
  have hg : w.grownBy (w.setCell ⟨g, i, none⟩ v') (some g) := grown_set (grown_refl _ _) i v'
  refine ⟨⟨⟨x', ⟨hlen, A, cap, hcap, ?_, hli.stay (Stay.far hat (by decide) hg)⟩, hb.far hat hg, rfl⟩, hB, hs⟩, fun m => Fr.at_ hat hg hB⟩
  rw [← hx]; exact hat.set i v'

set_option maxHeartbeats 2000000 in
theorem skip_any (B g m : Nat) (d : Rd.Decls) (ms : List Mk) (w : World) (hr : RdAt w B g m d [] (Rd.levelled d) ms) (hne : ms ≠ []) :
    Calls Tryz.prog 132 #[.pointer (some ⟨g, 0, none⟩)] w fun e w' => Told B g m (Rd.skip d ms) e w' ∧ Fr B m w w' := by
  obtain ⟨x, hre, hbo, rfl⟩ := hr.ex
  have hB := hr.base
  have hd4 := hr.small.2.1
  have HS := Lib.hid hr.small
  obtain ⟨A, cap, hcap, hat, hli⟩ := hre.ex
  have hlt := hat.lt
  obtain ⟨ao, so, hx⟩ := own_form hbo.skp
  have HRE := Lib.hid hre
  have HBO := Lib.hid hbo
  have HAT := Lib.hid hat
  have HX := Lib.hid hx
  have c0 := hat.cell 0
  have c1 := hat.cell 1
  have c2 := hat.cell 2
  have c3 := hat.cell 3
  have c4 := hat.cell 4
  have c5 := hat.cell 5
  have c6 := hat.cell 6
  have c7 := hat.cell 7
  have cf := hat.frozen
  simp only [Tl.cells, List.getElem?_toArray, List.getElem?_cons_zero, List.getElem?_cons_succ] at c0 c1 c2 c3 c4 c5 c6 c7
  rw [hx] at c2
  clear hr hre hbo hat hli hx
  by_cases h4 : d.skips.length = 4
  · have e : Rd.skip d ms = .bad 3 ms := by unfold Rd.skip; rw [if_pos h4]
    rw [e]
    clear e
    rw [h4] at c2
    go_enter Tryz.func132, Tryz.ntmps132
    go_wp2_with fail
    go_ret
    exact ⟨⟨rfl, x, HRE.out⟩, Fr.refl _ _ _⟩
  · have hn4 : ((d.skips.length : Int) == 4) = false := by rw [beq_eq_false_iff_ne]; omega
    have hn5 : (d.skips.length == 4) = false := by rw [beq_eq_false_iff_ne]; omega
    cases hp : Rd.pattern ms.tail with
    | bad c r =>
      have hc : Rd.skip d ms = .bad 14 r := by
        have hcc : c = 14 := by
          unfold Rd.pattern at hp
          repeat' split at hp
          all_goals first
            | (cases hp; done)
            | (cases hp; rfl)
        unfold Rd.skip; rw [if_neg h4, hp]; simp only [hcc]
      rw [hc]
      have HP := Lib.hid hp
      clear hc hp
      go_enter Tryz.func132, Tryz.ntmps132
      go_wp2_with fail
      refine (next_any g x ms _ HRE.out hne).mono ?_
      rintro e w1 ⟨rfl, hr1, hg1⟩
      have HR1 := Lib.hid hr1
      have HG1 := Lib.hid hg1
      clear hr1 hg1 c0 c1 c2 c3 c4 c5 c6 c7
      go_wp2_with fail
      refine (pattern_any g x ms.tail _ HR1.out).mono ?_
      rw [HP.out]
      rintro e w2 ⟨rfl, hr2, hg2⟩
      have HR2 := Lib.hid hr2
      have HG2 := Lib.hid (grown_trans HG1.out hg2)
      clear hr2 hg2
      simp only [Rd.Res.two, patV, noPat]
      go_wp2_with fail
      go_ret
      exact ⟨⟨rfl, x, HR2.out.alloc _⟩, (Fr.at_ HAT.out HG2.out hB).alloc (by have := HG2.out.size; omega) _⟩
    | ok p r =>
      have he : Rd.skip d ms = .ok { d with skips := d.skips ++ [p] } r := by unfold Rd.skip; rw [if_neg h4, hp]
      rw [he]
      clear he
      have hs9 : Small { d with skips := d.skips ++ [p] } [] (Rd.levelled d) r := by
        have h1 := Rd.pattern_less ms.tail
        rw [hp] at h1
        obtain ⟨q1, q2, q3, q4, q5⟩ := HS.out
        simp only [Rd.Res.Less, List.length_tail] at h1
        refine ⟨q1, by simp; omega, q3, q4, by omega⟩
      have HS9 := Lib.hid hs9
      have HP := Lib.hid hp
      clear hp hs9
      obtain ⟨i0, hi, hz0, hz1, hz2⟩ := info_parts patinfo
      obtain ⟨N, hN⟩ : ∃ N, d.skips.length = N := ⟨_, rfl⟩
      rw [hN] at c2 hn4 hn5 hd4
      have HN := Lib.hid hN
      clear hN h4
      go_enter Tryz.func132, Tryz.ntmps132
      go_wp2_with fail
      refine (next_any g x ms _ HRE.out hne).mono ?_
      rintro e w1 ⟨rfl, hr1, hg1⟩
      have HR1 := Lib.hid hr1
      have HG1 := Lib.hid hg1
      clear hr1 hg1 c0 c1 c2 c3 c4 c5 c6 c7
      go_wp2_with fail
      refine (pattern_any g x ms.tail _ HR1.out).mono ?_
      rw [HP.out]
      rintro e w2 ⟨rfl, hr2, hg2⟩
      have hgg := grown_trans HG1.out hg2
      have hB2 := (HBO.out.far HAT.out hgg)
      have hF2 := Fr.at_ (m := x.m) HAT.out hgg hB
      have hs2 : w.heap.size ≤ w2.heap.size := hgg.size
      have HR2 := Lib.hid (hr2.alloc (.cells #[.string (str p.text), .string (str p.set), .bool p.many] 39))
      have HB2 := Lib.hid (hB2.alloc (.cells #[.string (str p.text), .string (str p.set), .bool p.many] 39))
      have HF2 := Lib.hid (hF2.alloc (by omega) (.cells #[.string (str p.text), .string (str p.set), .bool p.many] 39))
      have HP2 := Lib.hid (At.new w2 39 #[.string (str p.text), .string (str p.set), .bool p.many])
      clear hr2 hg2 hgg hB2 hF2
      simp only [Rd.Res.two, Rd.Res.rest, patV] at HR2 ⊢
      go_wp2_with fail
      obtain ⟨w3, hw3⟩ : ∃ w3, w2.alloc (.cells #[.string (str p.text), .string (str p.set), .bool p.many] 39) = w3 := ⟨_, rfl⟩
      obtain ⟨gp, hgp⟩ : ∃ gp, w2.heap.size = gp := ⟨_, rfl⟩
      rw [hw3] at HR2 HB2 HF2 HP2 ⊢
      rw [hgp] at HP2 ⊢
      obtain ⟨A3, cap3, hcap3, hat3, hli3⟩ := HR2.out.ex
      have HAT3 := Lib.hid hat3
      have HLI3 := Lib.hid hli3
      have c0 := hat3.cell 0
      have c1 := hat3.cell 1
      have c2 := hat3.cell 2
      have c3 := hat3.cell 3
      have c4 := hat3.cell 4
      have c5 := hat3.cell 5
      have c6 := hat3.cell 6
      have c7 := hat3.cell 7
      have cf := hat3.frozen
      simp only [Tl.cells, List.getElem?_toArray, List.getElem?_cons_zero, List.getElem?_cons_succ] at c0 c1 c2 c3 c4 c5 c6 c7
      rw [HX.out, HN.out] at c2
      have p0 := HP2.out.cell 0
      have p1 := HP2.out.cell 1
      have p2 := HP2.out.cell 2
      simp only [List.getElem?_toArray, List.getElem?_cons_zero, List.getElem?_cons_succ] at p0 p1 p2
      have hs3 : B ≤ w3.heap.size := by have := HAT3.out.lt; omega
      have hown3 := HB2.out.skp
      rw [HX.out, HN.out] at hown3
      have HO3 := Lib.hid hown3
      have c2a : ∀ o, (w3.alloc o).cell? ⟨g, 2, none⟩ = some (.slice ao N so) := fun o => by
        have := (hat3.alloc o).cell 2
        simp only [Tl.cells, List.getElem?_toArray, List.getElem?_cons_zero, List.getElem?_cons_succ] at this
        rw [this, HX.out, HN.out]
      clear hw3 hgp hat3 hli3 hown3
      go_region_law (refine step_append_own2 rfl _ _ 23 rfl B 39 i0 _ 3 40 Tryz.underlying23 hi hz0 hz1 hz2 rfl (by decide) _ _ _ rfl (HO3.out.drew.alloc _) ⟨w3.heap.size, 0, none⟩ 1 1 p.cells rfl rfl (cells_new _ _ _) (by simp [Rd.Pat.cells, Value.oneCell']) (by unfold maxLen; omega) (by omega) (by simp; omega) ?_; intro v' w5 hown5 hg5 hn5; obtain ⟨a5, s5, rfl⟩ := own_form hown5; have hA5 := At.grown (HAT3.out.drew.alloc _) hg5 (fun e => own_apart HO3.out HAT3.out (by decide) e.symm); have q2 := hA5.cell 2; have qf := hA5.frozen; simp only [Tl.cells, List.getElem?_toArray, List.getElem?_cons_zero, List.getElem?_cons_succ] at q2)
      all_goals
        have hg6 : (w3.alloc (.cells #[.string (str p.text), .string (str p.set), .bool p.many] 39)).drew.grownBy w5 (Value.slice ao N so).ownBlock := hg5
        have ho3 := HO3.out.alloc (.cells #[.string (str p.text), .string (str p.set), .bool p.many] 39)
        have hF5 := ((HF2.out.alloc hs3 (.cells #[.string (str p.text), .string (str p.set), .bool p.many] 39)).drew).trans (Fr.own (own_drewN ho3 1) hg6 (Nat.le_refl _) (by simp; omega))
        have hB5 := ((HB2.out.alloc (.cells #[.string (str p.text), .string (str p.set), .bool p.many] 39)).drew).skips (p := p) (by rw [HN.out]; exact hown5) (by rw [HX.out, HN.out]; exact hg6)
        have hL5 := ((HLI3.out.alloc (.cells #[.string (str p.text), .string (str p.set), .bool p.many] 39)).drew).stay (Stay.own (own_drewN ho3 1) (by decide) hg6)
        obtain ⟨hE, hF⟩ := store_end (i := 2) (v' := .slice a5 (N + 1) s5) hA5 HR2.out.len hcap3 hL5 hB5 (by simp [Tl.cells]) hB HS9.out
        have HE := Lib.hid hE
        have HF := Lib.hid (hF5.trans (hF _))
        clear hg6 ho3 hF5 hB5 hL5 hE hF hg5 hn5 hown5 hA5
        go_wp2_with fail
        go_ret
        exact ⟨⟨rfl, HE.out⟩, HF.out⟩

end Go.Proofs.YtpgmapjjjpcmfaaGreatDoor
