/-
  The reader in plain words: lists of marks; declarations, rules, all of it ('parse').
-/
import Derived.Test.YtgmihbfikggkjaaDoorLxM
namespace Go.Proofs.YtgmihbfikggkjaaDoor
namespace Rd
open Lx (Mk)
abbrev Name := List UInt8

structure Pat where
  text : Name
  set : Name
  many : Bool
deriving DecidableEq
structure Tok where
  name : Name
  pat : Pat
deriving DecidableEq
structure Lev where
  assoc : Nat
  names : List Name
deriving DecidableEq
structure Rule where
  left : Name
  right : List Name
  prec : Name
  action : Name
deriving DecidableEq
/-- What is declared so far. -/
structure Decls where
  toks : List Tok
  skips : List Pat
  levels : List Lev
  start : Name
  started : Bool
deriving DecidableEq
structure G where
  toks : List Tok
  skips : List Pat
  levels : List Lev
  start : Name
  rules : List Rule
deriving DecidableEq
def none_ : Decls := ⟨[], [], [], [], false⟩
def zero : G := ⟨[], [], [], [], []⟩

/-- What comes of marks: something, and the marks that are left; or what is wrong with the first of those that are left. -/
inductive Res (α : Type) where
  | ok (a : α) (rest : List Mk)
  | bad (e : Nat) (rest : List Mk)
deriving DecidableEq

def hd (ms : List Mk) : Mk := ms.headD ⟨0, [], 0, 0⟩
theorem hd_nil : hd [] = ⟨0, [], 0, 0⟩ := rfl
theorem hd_cons (m : Mk) (r : List Mk) : hd (m :: r) = m := rfl
def isWord (t : Name) (m : Mk) : Bool := m.kind == 2 && m.text == t

def pattern (ms : List Mk) : Res Pat :=
  if (hd ms).kind = 3 then .ok ⟨(hd ms).text, [], false⟩ ms.tail
  else if (hd ms).kind = 4 then (if (hd ms.tail).kind = 5 then .ok ⟨[], (hd ms).text, true⟩ ms.tail.tail else .ok ⟨[], (hd ms).text, false⟩ ms.tail)
  else .bad 14 ms

def token (d : Decls) (ms : List Mk) : Res Decls :=
  if (hd ms.tail).kind ≠ 1 then .bad 14 ms.tail
  else if (d.toks.any fun t => t.name == (hd ms.tail).text) = true then .bad 15 ms.tail
  else if d.toks.length = 20 then .bad 3 ms.tail
  else match pattern ms.tail.tail with
    | .bad e r => .bad e r
    | .ok p r => .ok { d with toks := d.toks ++ [⟨(hd ms.tail).text, p⟩] } r

def skip (d : Decls) (ms : List Mk) : Res Decls :=
  if d.skips.length = 4 then .bad 3 ms
  else match pattern ms.tail with
    | .bad e r => .bad e r
    | .ok p r => .ok { d with skips := d.skips ++ [p] } r

/-- The names that levels have. -/
def levelled (d : Decls) : List Name := d.levels.flatMap Lev.names
def names (lev : List Name) : List Mk → List Name → Res (List Name)
  | [], acc => .ok acc []
  | m :: r, acc => if m.kind = 1 then (if m.text ∈ lev ++ acc then .bad 15 (m :: r) else names lev r (acc ++ [m.text])) else .ok acc (m :: r)
def level (a : Nat) (d : Decls) (ms : List Mk) : Res Decls :=
  if d.levels.length = 10 then .bad 3 ms
  else match names (levelled d) ms.tail [] with
    | .bad e r => .bad e r
    | .ok l r => if l = [] then .bad 14 r else .ok { d with levels := d.levels ++ [⟨a, l⟩] } r

def start (d : Decls) (ms : List Mk) : Res Decls :=
  if d.started = true then .bad 15 ms
  else if (hd ms.tail).kind = 1 then .ok { d with start := (hd ms.tail).text, started := true } ms.tail.tail
  else .bad 14 ms.tail

/-- What reads a declaration of the word t: its number. -/
def wordNo (t : Name) : Nat :=
  if t = [116, 111, 107, 101, 110] then 0 else if t = [115, 107, 105, 112] then 1 else if t = [108, 101, 102, 116] then 2 else if t = [114, 105, 103, 104, 116] then 3
  else if t = [110, 111, 110, 97, 115, 115, 111, 99] then 4 else if t = [115, 116, 97, 114, 116] then 5 else 6
def declNo : Nat → Decls → List Mk → Res Decls
  | 0, d, ms => token d ms
  | 1, d, ms => skip d ms
  | 2, d, ms => level 1 d ms
  | 3, d, ms => level 2 d ms
  | 4, d, ms => level 3 d ms
  | 5, d, ms => start d ms
  | _, _, ms => .bad 14 ms
def decl (d : Decls) (ms : List Mk) : Res Decls := if (hd ms).kind = 2 then declNo (wordNo (hd ms).text) d ms else .bad 14 ms
def decls : Nat → Decls → List Mk → Res Decls
  | 0, _, ms => .bad 14 ms
  | f + 1, d, ms => if isWord [37] (hd ms) = true then .ok d ms.tail else
    match decl d ms with
    | .bad e r => .bad e r
    | .ok d' r => decls f d' r

def rights : List Mk → List Name → Res (List Name)
  | [], acc => .ok acc []
  | m :: r, acc => if m.kind = 1 then (if acc.length = 8 then .bad 3 (m :: r) else rights r (acc ++ [m.text])) else .ok acc (m :: r)
def prec (ms : List Mk) : Res Name :=
  if isWord [112, 114, 101, 99] (hd ms) = true then (if (hd ms.tail).kind = 1 then .ok (hd ms.tail).text ms.tail.tail else .bad 14 ms.tail) else .ok [] ms
def action (x : Rule) (ms : List Mk) : Res Rule := if (hd ms).kind = 9 then .ok { x with action := (hd ms).text } ms.tail else .ok x ms
/-- An alternative of the name left, where n rules stand already. -/
def alt (left : Name) (n : Nat) (ms : List Mk) : Res Rule :=
  if n = 40 then .bad 3 ms
  else match rights ms [] with
    | .bad e r => .bad e r
    | .ok l r => match prec r with
      | .bad e r' => .bad e r'
      | .ok p r' => action ⟨left, l, p, []⟩ r'
def alts : Nat → Name → List Rule → List Mk → Res (List Rule)
  | 0, _, _, ms => .bad 14 ms
  | f + 1, left, acc, ms =>
    match alt left acc.length ms with
    | .bad e r => .bad e r
    | .ok x r => if (hd r).kind = 8 then .ok (acc ++ [x]) r.tail else if (hd r).kind = 7 then alts f left (acc ++ [x]) r.tail else .bad 14 r
def rule (acc : List Rule) (ms : List Mk) : Res (List Rule) :=
  if (hd ms).kind ≠ 1 then .bad 14 ms else if (hd ms.tail).kind ≠ 6 then .bad 14 ms.tail else alts (ms.length + 1) (hd ms).text acc ms.tail.tail
def rules : Nat → List Rule → List Mk → Res (List Rule)
  | 0, _, ms => .bad 14 ms
  | f + 1, acc, ms =>
    match rule acc ms with
    | .bad e r => .bad e r
    | .ok acc' r => if (hd r).kind = 0 then .ok acc' r else rules f acc' r

def startOf (d : Decls) (rs : List Rule) : Name := if d.started = true then d.start else (rs.headD ⟨[], [], [], []⟩).left
def parse (ms : List Mk) : Res G :=
  match decls (ms.length + 1) none_ ms with
  | .bad e r => .bad e r
  | .ok d r => match rules (r.length + 1) [] r with
    | .bad e r' => .bad e r'
    | .ok rs r' => .ok ⟨d.toks, d.skips, d.levels, startOf d rs, rs⟩ r'
def Res.grammar : Res G → G
  | .ok g _ => g
  | .bad _ _ => zero
def Res.diag : Res G → Nat × Nat × Nat
  | .ok _ _ => (0, 0, 0)
  | .bad e r => (e, (hd r).line, (hd r).col)

/-- The grammar of a text, and what is wrong with it. -/
def readG (l : List UInt8) : G :=
  match Lx.lex l with
  | .bad _ _ => zero
  | .ok ms => (parse (ms.map (Lx.mkOf l))).grammar
def readD (l : List UInt8) : Nat × Nat × Nat :=
  match Lx.lex l with
  | .bad c i => (c, (Lx.pos l i).1, (Lx.pos l i).2)
  | .ok ms => (parse (ms.map (Lx.mkOf l))).diag

theorem tail_length (ms : List Mk) : ms.tail.length = ms.length - 1 := by simp
/-- What is there has a kind that is no end. -/
theorem hd_lt {ms : List Mk} (h : (hd ms).kind ≠ 0) : ms.tail.length < ms.length := by
  cases ms with
  | nil => exact absurd rfl h
  | cons m r => simp

/-! ## What is left is less -/
def Res.Less {α : Type} (n : Nat) : Res α → Prop
  | .ok _ r => r.length < n
  | .bad _ r => r.length ≤ n
def Res.Most {α : Type} (n : Nat) : Res α → Prop
  | .ok _ r => r.length ≤ n
  | .bad _ r => r.length ≤ n
theorem pattern_less (ms : List Mk) : (pattern ms).Less ms.length := by
  unfold pattern
  split
  · exact hd_lt (by omega)
  · split
    · split
      · have h1 := hd_lt (ms := ms) (by omega)
        have h2 := hd_lt (ms := ms.tail) (by omega)
        simp only [Res.Less]; omega
      · exact hd_lt (by omega)
    · exact Nat.le_refl _
theorem names_most (lev : List Name) (ms : List Mk) (acc : List Name) : (names lev ms acc).Most ms.length := by
  fun_induction names lev ms acc
  · exact Nat.le_refl _
  · exact Nat.le_refl _
  · rename_i ih
    revert ih
    generalize names lev _ _ = x
    intro ih
    cases x <;> simp only [Res.Most, List.length_cons] at * <;> omega
  · exact Nat.le_refl _
theorem rights_most (ms : List Mk) (acc : List Name) : (rights ms acc).Most ms.length := by
  fun_induction rights ms acc
  · exact Nat.le_refl _
  · exact Nat.le_refl _
  · rename_i ih
    revert ih
    generalize rights _ _ = x
    intro ih
    cases x <;> simp only [Res.Most, List.length_cons] at * <;> omega
  · exact Nat.le_refl _
theorem prec_most (ms : List Mk) : (prec ms).Most ms.length := by
  unfold prec
  split
  · rename_i h
    split
    · rename_i h2
      have := hd_lt (ms := ms.tail) (by omega)
      have := tail_length ms
      simp only [Res.Most]; omega
    · have := tail_length ms
      simp only [Res.Most]; omega
  · exact Nat.le_refl _
theorem action_most (x : Rule) (ms : List Mk) : (action x ms).Most ms.length := by
  unfold action
  have := tail_length ms
  split <;> simp only [Res.Most] <;> omega
theorem alt_most (left : Name) (n : Nat) (ms : List Mk) : (alt left n ms).Most ms.length := by
  unfold alt
  split
  · exact Nat.le_refl _
  · have h1 := rights_most ms []
    cases hr : rights ms [] with
    | bad e r => rw [hr] at h1; exact h1
    | ok l r =>
      rw [hr] at h1
      have h2 := prec_most r
      simp only []
      cases hp : prec r with
      | bad e r' => rw [hp] at h2; simp only [Res.Most] at *; omega
      | ok p r' =>
        rw [hp] at h2
        have h3 := action_most ⟨left, l, p, []⟩ r'
        simp only []
        revert h3
        generalize action _ r' = x
        intro h3
        cases x <;> simp only [Res.Most] at * <;> omega
theorem alts_less (f : Nat) (left : Name) (acc : List Rule) (ms : List Mk) (hf : ms.length < f) : (alts f left acc ms).Less ms.length := by
  induction f generalizing acc ms with
  | zero => omega
  | succ f ih =>
    unfold alts
    have h1 := alt_most left acc.length ms
    cases ha : alt left acc.length ms with
    | bad e r => rw [ha] at h1; exact h1
    | ok x r =>
      rw [ha] at h1
      simp only [Res.Most] at h1
      simp only []
      split
      · have := hd_lt (ms := r) (by omega); simp only [Res.Less]; omega
      · split
        · have h2 := hd_lt (ms := r) (by omega)
          have := ih (acc ++ [x]) r.tail (by omega)
          revert this
          generalize alts f left (acc ++ [x]) r.tail = y
          intro h3
          cases y <;> simp only [Res.Less] at * <;> omega
        · simp only [Res.Less]; omega
theorem rule_less (acc : List Rule) (ms : List Mk) : (rule acc ms).Less ms.length := by
  unfold rule
  have h0 := tail_length ms
  split
  · exact Nat.le_refl _
  · split
    · simp only [Res.Less]; omega
    · have h1 := hd_lt (ms := ms) (by omega)
      have h2 := hd_lt (ms := ms.tail) (by omega)
      have := alts_less (ms.length + 1) (hd ms).text acc ms.tail.tail (by omega)
      revert this
      generalize alts _ _ _ _ = y
      intro h3
      cases y <;> simp only [Res.Less] at * <;> omega
theorem token_less (d : Decls) (ms : List Mk) (h : (hd ms).kind ≠ 0) : (token d ms).Less ms.length := by
  unfold token
  have h0 := hd_lt h
  split
  · simp only [Res.Less]; omega
  · split
    · simp only [Res.Less]; omega
    · split
      · simp only [Res.Less]; omega
      · have h1 := pattern_less ms.tail.tail
        have h2 := tail_length ms.tail
        cases hp : pattern ms.tail.tail <;> rw [hp] at h1 <;> simp only [Res.Less] at * <;> omega
theorem skip_less (d : Decls) (ms : List Mk) (h : (hd ms).kind ≠ 0) : (skip d ms).Less ms.length := by
  unfold skip
  have h0 := hd_lt h
  split
  · simp only [Res.Less]; omega
  · have h1 := pattern_less ms.tail
    cases hp : pattern ms.tail <;> rw [hp] at h1 <;> simp only [Res.Less] at * <;> omega
theorem level_less (a : Nat) (d : Decls) (ms : List Mk) (h : (hd ms).kind ≠ 0) : (level a d ms).Less ms.length := by
  unfold level
  have h0 := hd_lt h
  split
  · simp only [Res.Less]; omega
  · have h1 := names_most (levelled d) ms.tail []
    cases hp : names (levelled d) ms.tail [] with
    | bad e r => rw [hp] at h1; simp only [Res.Less, Res.Most] at *; omega
    | ok l r =>
      rw [hp] at h1
      simp only []
      split <;> simp only [Res.Less, Res.Most] at * <;> omega
theorem start_less (d : Decls) (ms : List Mk) (h : (hd ms).kind ≠ 0) : (start d ms).Less ms.length := by
  unfold start
  have h0 := hd_lt h
  split
  · simp only [Res.Less]; omega
  · have := tail_length ms.tail
    split <;> simp only [Res.Less] <;> omega
theorem decl_less (d : Decls) (ms : List Mk) : (decl d ms).Less ms.length := by
  unfold decl
  split
  · rename_i h
    generalize wordNo _ = k
    match k with
    | 0 => exact token_less d ms (by omega)
    | 1 => exact skip_less d ms (by omega)
    | 2 => exact level_less 1 d ms (by omega)
    | 3 => exact level_less 2 d ms (by omega)
    | 4 => exact level_less 3 d ms (by omega)
    | 5 => exact start_less d ms (by omega)
    | _ + 6 => exact Nat.le_refl _
  · exact Nat.le_refl _

example : readG [37, 37, 32, 69, 32, 58, 59] = ⟨[], [], [], [69], [⟨[69], [], [], []⟩]⟩ := by decide +kernel

end Rd
end Go.Proofs.YtgmihbfikggkjaaDoor
