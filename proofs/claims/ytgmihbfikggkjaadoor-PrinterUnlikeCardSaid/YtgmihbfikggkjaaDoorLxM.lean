/-
  The lexer in plain words: lists of bytes, what stands at one's beginning ('step'), all of it ('lex'), places ('adv').
-/
import Derived.WalkKit
namespace Go.Proofs.YtgmihbfikggkjaaDoor
namespace Lx

/-- What a text begins with: n bytes that are nothing; a mark of n bytes; or what is wrong, behind n bytes. -/
inductive Step where
  | skip (n : Nat)
  | mark (kind : Nat) (text : List UInt8) (n : Nat)
  | bad (code n : Nat)
deriving DecidableEq

def isSmall (c : UInt8) : Bool := 97 ≤ c && c ≤ 122
def isLetter (c : UInt8) : Bool := isSmall c || (65 ≤ c && c ≤ 90) || c == 95
def isDigit (c : UInt8) : Bool := 48 ≤ c && c ≤ 57
def isName (c : UInt8) : Bool := isLetter c || isDigit c

/-- What a byte behind a backslash tells, in a text (3), in a class (else). -/
def esc (kind : Nat) (c : UInt8) : Option UInt8 :=
  if c = 110 then some 10 else if c = 116 then some 9 else if c = 92 then some 92
  else if kind = 3 then (if c = 34 then some 34 else none) else (if c = 93 then some 93 else if c = 45 then some 45 else none)

def text : List UInt8 → List UInt8 → Nat → Step
  | [], _, _ => .bad 11 0
  | c :: r, told, i =>
    if c = 34 then (if told = [] then .bad 10 0 else if 32 < told.length then .bad 12 0 else .mark 3 told (i + 1))
    else if c = 10 then .bad 11 0
    else if c = 92 then
      match r with
      | [] => .bad 10 i
      | d :: r' => match esc 3 d with
        | none => .bad 10 i
        | some b => text r' (told ++ [b]) (i + 2)
    else text r (told ++ [c]) (i + 1)

def rising (has : Nat → Bool) : List UInt8 := ((List.range 256).filter has).map UInt8.ofNat

/-- What a class has so far: its bytes; its last part, if that is a single byte; the place of an open dash, or 0. -/
structure Parts where
  has : Nat → Bool
  single : Option Nat
  dash : Nat

def none_ : Parts := ⟨fun _ => false, none, 0⟩
def Parts.put (p : Parts) (b : UInt8) : Option Parts :=
  if p.dash = 0 then some ⟨fun j => p.has j || j == b.toNat, some b.toNat, 0⟩
  else if b.toNat < p.single.getD 0 then none
  else some ⟨fun j => p.has j || (p.single.getD 0 ≤ j && j ≤ b.toNat), none, 0⟩

def cls : List UInt8 → Nat → Parts → Step
  | [], _, _ => .bad 11 0
  | c :: r, i, p =>
    if c = 93 then (if 0 < p.dash then .bad 10 p.dash else if rising p.has = [] then .bad 10 0 else .mark 4 (rising p.has) (i + 1))
    else if c = 10 then .bad 11 0
    else if c = 45 ∧ p.dash = 0 then
      match p.single with
      | none => .bad 10 i
      | some _ => cls r (i + 1) { p with dash := i }
    else if c = 92 then
      match r with
      | [] => .bad 10 i
      | d :: r' => match esc 4 d with
        | none => .bad 10 i
        | some b => match p.put b with
          | none => .bad 10 p.dash
          | some q => cls r' (i + 2) q
    else match p.put c with
      | none => .bad 10 p.dash
      | some q => cls r (i + 1) q

def act : List UInt8 → List UInt8 → Nat → Step
  | [], _, _ => .bad 11 0
  | c :: r, acc, o =>
    if c = 123 then (if o = 4 then .bad 13 (acc.length + 1) else act r (acc ++ [c]) (o + 1))
    else if c = 125 then (if o = 1 then (if 200 < acc.length then .bad 12 0 else .mark 9 acc (acc.length + 2)) else act r (acc ++ [c]) (o - 1))
    else act r (acc ++ [c]) o

def words : List (List UInt8) := [[116, 111, 107, 101, 110], [115, 107, 105, 112], [108, 101, 102, 116], [114, 105, 103, 104, 116], [110, 111, 110, 97, 115, 115, 111, 99], [115, 116, 97, 114, 116], [112, 114, 101, 99], [37]]
def wordOf (l : List UInt8) : List UInt8 := if l.head? = some 37 then [37] else l.takeWhile isSmall
def word (l : List UInt8) : Step := if wordOf l ∈ words then .mark 2 (wordOf l) (1 + (wordOf l).length) else .bad 10 0

/-- The name that a text begins with. -/
def nameOf (l : List UInt8) : List UInt8 :=
  match l with
  | [] => []
  | c :: _ => if isLetter c then l.takeWhile isName else []

def step : List UInt8 → Step
  | [] => .skip 0
  | c :: r =>
    if c = 32 ∨ c = 9 ∨ c = 10 ∨ c = 13 then .skip 1
    else if c = 35 then .skip (1 + (r.takeWhile (· != 10)).length)
    else if isLetter c then (if 32 < (nameOf (c :: r)).length then .bad 12 0 else .mark 1 (nameOf (c :: r)) (nameOf (c :: r)).length)
    else if c = 37 then word r
    else if c = 34 then text r [] 1
    else if c = 91 then cls r 1 none_
    else if c = 123 then act r [] 1
    else if c = 43 then .mark 5 [] 1
    else if c = 58 then .mark 6 [] 1
    else if c = 124 then .mark 7 [] 1
    else if c = 59 then .mark 8 [] 1
    else .bad 10 0

inductive Out where
  | ok (ms : List (Nat × List UInt8 × Nat))
  | bad (code at_ : Nat)

def run : Nat → List UInt8 → Nat → List (Nat × List UInt8 × Nat) → Out
  | 0, _, _, acc => .ok acc
  | f + 1, l, i, acc =>
    if l = [] then .ok (acc ++ [(0, [], i)]) else
    match step l with
    | .skip n => run f (l.drop n) (i + n) acc
    | .mark k t n => run f (l.drop n) (i + n) (acc ++ [(k, t, i)])
    | .bad c n => .bad c (i + n)

def lex (l : List UInt8) : Out := if 4000 < l.length then .bad 12 0 else run (l.length + 1) l 0 []

/-- The place behind the bytes l, from a place on. -/
def adv (p : Nat × Nat) (l : List UInt8) : Nat × Nat := l.foldl (fun p b => if b = 10 then (p.1 + 1, 1) else (p.1, p.2 + 1)) p
def pos (l : List UInt8) (i : Nat) : Nat × Nat := adv (1, 1) (l.take i)

/-- A mark: its kind, its text, its place. -/
structure Mk where
  kind : Nat
  text : List UInt8
  line : Nat
  col : Nat
deriving DecidableEq
def mkOf (l : List UInt8) (m : Nat × List UInt8 × Nat) : Mk := ⟨m.1, m.2.1, (pos l m.2.2).1, (pos l m.2.2).2⟩
def Out.marks (l : List UInt8) : Out → List Mk
  | .ok ms => ms.map (mkOf l)
  | .bad _ _ => []
/-- What is wrong, and where; noughts, if nothing is. -/
def Out.diag (l : List UInt8) : Out → Nat × Nat × Nat
  | .ok _ => (0, 0, 0)
  | .bad c i => (c, (pos l i).1, (pos l i).2)

theorem adv_append (p : Nat × Nat) (a b : List UInt8) : adv p (a ++ b) = adv (adv p a) b := List.foldl_append ..
theorem adv_one (p : Nat × Nat) (b : UInt8) : adv p [b] = if b = 10 then (p.1 + 1, 1) else (p.1, p.2 + 1) := rfl
theorem adv_le (p : Nat × Nat) (l : List UInt8) : 1 ≤ p.1 → 1 ≤ p.2 → 1 ≤ (adv p l).1 ∧ (adv p l).1 ≤ p.1 + l.length ∧ 1 ≤ (adv p l).2 ∧ (adv p l).2 ≤ p.2 + l.length := by
  induction l generalizing p with
  | nil => intro h1 h2; exact ⟨h1, Nat.le_refl _, h2, Nat.le_refl _⟩
  | cons b r ih =>
    intro h1 h2
    have e : adv p (b :: r) = adv (if b = 10 then (p.1 + 1, 1) else (p.1, p.2 + 1)) r := rfl
    rw [e]
    split
    · have := ih (p.1 + 1, 1) (by simp) (by simp)
      simp at this ⊢; omega
    · have := ih (p.1, p.2 + 1) (by simpa) (by simp)
      simp at this ⊢; omega
theorem pos_le (l : List UInt8) (i : Nat) : 1 ≤ (pos l i).1 ∧ (pos l i).1 ≤ 1 + l.length ∧ 1 ≤ (pos l i).2 ∧ (pos l i).2 ≤ 1 + l.length := by
  have := adv_le (1, 1) (l.take i) (by simp) (by simp)
  have := List.length_take_le' i l
  unfold pos; simp at *; omega
theorem pos_zero (l : List UInt8) : pos l 0 = (1, 1) := rfl
theorem pos_add (l : List UInt8) (i n : Nat) : pos l (i + n) = adv (pos l i) ((l.drop i).take n) := by
  unfold pos
  rw [List.take_add, adv_append]

/-- One step of the run. -/
theorem run_end {f i : Nat} {acc : List (Nat × List UInt8 × Nat)} (hf : 0 < f) : run f [] i acc = .ok (acc ++ [(0, [], i)]) := by
  cases f with
  | zero => omega
  | succ f => simp [run]
theorem run_skip {f i n : Nat} {l : List UInt8} {acc : List (Nat × List UInt8 × Nat)} (hf : 0 < f) (hl : l ≠ []) (h : step l = .skip n) : run f l i acc = run (f - 1) (l.drop n) (i + n) acc := by
  cases f with
  | zero => omega
  | succ f => simp [run, hl, h]
theorem run_mark {f i n k : Nat} {l t : List UInt8} {acc : List (Nat × List UInt8 × Nat)} (hf : 0 < f) (hl : l ≠ []) (h : step l = .mark k t n) : run f l i acc = run (f - 1) (l.drop n) (i + n) (acc ++ [(k, t, i)]) := by
  cases f with
  | zero => omega
  | succ f => simp [run, hl, h]
theorem run_bad {f i n c : Nat} {l : List UInt8} {acc : List (Nat × List UInt8 × Nat)} (hf : 0 < f) (hl : l ≠ []) (h : step l = .bad c n) : run f l i acc = .bad c (i + n) := by
  cases f with
  | zero => omega
  | succ f => simp [run, hl, h]

example : (lex [97, 32, 123, 49, 123, 50, 125, 125]).marks [] = [⟨1, [97], 1, 1⟩, ⟨9, [49, 123, 50, 125], 1, 1⟩, ⟨0, [], 1, 1⟩] := by decide +kernel

end Lx
end Go.Proofs.YtgmihbfikggkjaaDoor
