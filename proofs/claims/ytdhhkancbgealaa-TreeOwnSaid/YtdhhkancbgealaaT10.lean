import Derived.Test.YtdhhkancbgealaaT09
namespace Go.Proofs.Ytdhhkancbgealaa
namespace Nm
open Rd (Name Pat Tok Lev Rule G)
set_option linter.unusedVariables false
set_option linter.unusedSimpArgs false
def find {α : Type} (p : α → Bool) : List α → Int
 | [] => -1
 | a :: r => if p a = true then 0 else if find p r < 0 then -1 else find p r + 1
section
variable {α : Type} {p : α → Bool}
theorem find_hit : ∀ {l : List α} {k : Nat} {x : α}, l[k]? = some x → p x = true → (∀ y ∈ l.take k, p y = false) → find p l = (k : Int)
 | [], k, x, h, _, _ => by simp at h
 | a :: r, 0, x, h, hp, _ => by simp at h; subst h; simp [find, hp]
 | a :: r, k + 1, x, h, hp, hn => by
  have h1 : p a = false := hn a (by simp)
  have h2 := find_hit (l := r) (k := k) (by simpa using h) hp (fun y hy => hn y (by simp [hy]))
  rw [find, if_neg (by simp [h1]), h2, if_neg (by omega)]; omega
theorem find_none : ∀ {l : List α}, (∀ y ∈ l, p y = false) → find p l = -1
 | [], _ => rfl
 | a :: r, h => by rw [find, if_neg (by simp [h a (by simp)]), find_none (fun y hy => h y (by simp [hy])), if_pos (by omega)]
theorem find_range : ∀ (l : List α), (find p l = -1 ∧ ∀ y ∈ l, p y = false) ∨ ∃ k x, find p l = ((k : Nat) : Int) ∧ l[k]? = some x ∧ p x = true ∧ ∀ y ∈ l.take k, p y = false
 | [] => .inl ⟨rfl, by simp⟩
 | a :: r => by
  by_cases ha : p a = true
  ·exact .inr ⟨0, a, by simp [find, ha], rfl, ha, by simp⟩
  ·have ha' : p a = false := by simpa using ha
   rcases find_range r with ⟨h1, h2⟩ | ⟨k, x, h1, h2, h3, h4⟩
   ·refine .inl ⟨by rw [find, if_neg ha, if_pos (by omega)], fun y hy => ?_⟩
    rcases List.mem_cons.1 hy with rfl | hy
    ·exact ha'
    ·exact h2 y hy
   ·refine .inr ⟨k + 1, x, by rw [find, if_neg ha, if_neg (by omega), h1]; omega, by simpa using h2, h3, fun y hy => ?_⟩
    rw [List.take_succ_cons] at hy
    rcases List.mem_cons.1 hy with rfl | hy
    ·exact ha'
    ·exact h4 y hy
theorem find_lt (l : List α) : find p l < (l.length : Int) := by
 rcases find_range (p := p) l with ⟨h, _⟩ | ⟨k, x, h, h2, _⟩
 ·omega
 ·have := (List.getElem?_eq_some_iff.1 h2).1; omega
theorem find_ge (l : List α) : -1 ≤ find p l := by
 rcases find_range (p := p) l with ⟨h, _⟩ | ⟨k, x, h, _⟩ <;> omega
theorem find_neg {l : List α} : find p l < 0 ↔ ∀ y ∈ l, p y = false := by
 constructor
 ·intro h
  rcases find_range (p := p) l with ⟨_, h2⟩ | ⟨k, x, h1, _⟩
  ·exact h2
  ·omega
 ·intro h; rw [find_none h]; omega
end
structure Prod where
 left : Int
 right : List Int
 level : Int
deriving DecidableEq
structure Plan where
 terms : List Name
 vars : List Name
 rules : List Prod
 levels : List Int
 assocs : List Int
 acts : List Name
deriving DecidableEq
def empty : Plan := ⟨[], [], [], [], [], []⟩
def endN : Name := [36, 101, 110, 100]
def accN : Name := [36, 97, 99, 99, 101, 112, 116]
def isN (n : Name) (m : Name) : Bool := m == n
def place (l : List Name) (n : Name) : Int := find (isN n) l
def sym (T V : List Name) (n : Name) : Int := if 0 ≤ place T n then place T n else if 0 ≤ place V n then (T.length : Int) + place V n else -1
def nameAt (T V : List Name) (i : Int) : Name :=
 if i < 0 ∨ (T.length : Int) + (V.length : Int) < i then [] else if i = (T.length : Int) + (V.length : Int) then accN else if i < (T.length : Int) then T.getD i.toNat [] else V.getD (i - (T.length : Int)).toNat []
def hasN (n : Name) (v : Lev) : Bool := decide (n ∈ v.names)
def level (g : G) (n : Name) : Int := 1 + find (hasN n) g.levels
def terms (g : G) : List Name := endN :: g.toks.map Tok.name
def addN (a : List Name) (n : Name) : List Name := if n ∈ a then a else a ++ [n]
def varsOf (l : List Name) : List Name := l.foldl addN []
def vars (g : G) : List Name := varsOf (g.rules.map Rule.left)
def symG (g : G) (n : Name) : Int := sym (terms g) (vars g) n
def lastL (L : List Int) (right : List Int) : Int := right.foldl (fun a s => if 0 ≤ s ∧ s < (L.length : Int) then L.getD s.toNat 0 else a) 0
def levelsG (g : G) : List Int := (terms g).map (level g)
def prod (g : G) (r : Rule) : Prod := ⟨symG g r.left, r.right.map (symG g), if r.prec = [] then lastL (levelsG g) (r.right.map (symG g)) else level g r.prec⟩
def acceptG (g : G) : Int := ((terms g).length : Int) + ((vars g).length : Int)
def plan (g : G) : Plan := ⟨terms g, vars g, ⟨acceptG g, [symG g g.start], 0⟩ :: g.rules.map (prod g), levelsG g, 0 :: g.levels.map (fun v => (v.assoc : Int)), [] :: g.rules.map Rule.action⟩
def wrongTok (g : G) (t : Tok) : Bool := decide (0 ≤ place (vars g) t.name)
def wrongName (g : G) (n : Name) : Bool := decide (symG g n < 0)
def wrongRule (g : G) (r : Rule) : Option (Nat × Name) :=
 match r.right.find? (wrongName g) with
 | some n => some (16, n)
 | none => if r.prec ≠ [] ∧ level g r.prec = 0 then some (16, r.prec) else none
def wrong (g : G) : Nat × Name :=
 match g.toks.find? (wrongTok g) with
 | some t => (15, t.name)
 | none => match g.rules.findSome? (wrongRule g) with
  | some x => x
  | none => if 0 ≤ place (vars g) g.start then (0, []) else (16, g.start)
def ofG (g : G) : Plan × Nat × Name :=
 if Pr.rightB g = true then (if (wrong g).1 = 0 then (plan g, 0, []) else (empty, (wrong g).1, (wrong g).2)) else (empty, 1, [])
theorem varsOf_snoc (l : List Name) (n : Name) : varsOf (l ++ [n]) = addN (varsOf l) n := by unfold varsOf; rw [List.foldl_append]; rfl
theorem place_neg {l : List Name} {n : Name} : place l n < 0 ↔ n ∉ l := by
 unfold place
 rw [find_neg]
 constructor
 ·intro h hn; have := h n hn; simp [isN] at this
 ·intro h y hy; unfold isN; rw [beq_eq_false_iff_ne]; intro e; subst e; exact h hy
theorem place_ge {l : List Name} {n : Name} : 0 ≤ place l n ↔ n ∈ l := by
 constructor
 ·intro h
  by_cases hn : n ∈ l
  ·exact hn
  ·have := place_neg.2 hn; omega
 ·intro h
  by_cases h0 : 0 ≤ place l n
  ·exact h0
  ·exact absurd h (place_neg.1 (by omega))
theorem addN_mem {a : List Name} {n m : Name} : m ∈ addN a n ↔ m ∈ a ∨ m = n := by
 unfold addN
 split
 ·rename_i h
  constructor
  ·exact .inl
  ·rintro (h1 | rfl)
   ·exact h1
   ·exact h
 ·simp
theorem fold_mem (l : List Name) : ∀ (a : List Name) (m : Name), m ∈ l.foldl addN a ↔ m ∈ a ∨ m ∈ l := by
 induction l with
 | nil => intro a m; simp
 | cons n r ih =>
  intro a m
  rw [List.foldl_cons, ih, addN_mem, List.mem_cons]
  constructor
  ·rintro ((h | h) | h)
   ·exact .inl h
   ·exact .inr (.inl h)
   ·exact .inr (.inr h)
  ·rintro (h | h | h)
   ·exact .inl (.inl h)
   ·exact .inl (.inr h)
   ·exact .inr h
theorem varsOf_mem {l : List Name} {m : Name} : m ∈ varsOf l ↔ m ∈ l := by unfold varsOf; rw [fold_mem]; simp
end Nm
end Go.Proofs.Ytdhhkancbgealaa
