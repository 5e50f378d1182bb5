/-
  The lexer in plain words: lists of bytes, what stands at one's beginning ('step'), all of it ('lex'), places ('adv').
  What holds of the lexer in plain words: sizes of steps; a step does not hang on what stands behind an LF.
  What holds of the lexer in plain words: the sizes of a step, and what each first byte makes of it.
  The walks of lexer's small functions, and of tronageref05's.
  The walks of lexer's lineSize, blank, nameSize, behind, At.
  The walks of lexer's escaped, text, word.
-/
import Derived.WalkKit
import Derived.Test.YtpgmapjjjpcmfaaGreatDoorMem
import Derived.BigQuiet
import Derived.Deep.QuietTactic
import Derived.Lib.Hide
import Derived.Great.BuildSlice
import Derived.Laws.Rows
import Derived.OwnWalk
import Derived.Shelf.Strings.Search1
import Derived.WalkLawsBesides
import Derived.Outline
import Derived.IntWalk
import Derived.Deep.LoopGhost
import Derived.Test.YtpgmapjjjpcmfaaGreatDoorOwn
import Derived.Deep.MidRow
import Derived.Laws.IdiomStrings
namespace Go.Proofs.YtpgmapjjjpcmfaaGreatDoor
namespace Lx

/-- What a text begins with: n bytes that are nothing; a mark of n bytes; or what is wrong, behind n bytes. -/
inductive Step where
  | skip (n : Nat)
  | mark (kind : Nat) (text : List UInt8) (n : Nat)
  | bad (code n : Nat)
deriving DecidableEq

def isSmall (c : UInt8) : Bool := 97 ≤ c && c ≤ 122
def isLetter (c : UInt8) : Bool := isSmall c || (65 ≤ c && c ≤ 90) || c == 95
def isDigit (c : UInt8) : Bool := 48 ≤ c && c ≤ 57
def isName (c : UInt8) : Bool := isLetter c || isDigit c

/-- What a byte behind a backslash tells, in a text (3), in a class (else). -/
def esc (kind : Nat) (c : UInt8) : Option UInt8 :=
  if c = 110 then some 10 else if c = 116 then some 9 else if c = 92 then some 92
  else if kind = 3 then (if c = 34 then some 34 else none) else (if c = 93 then some 93 else if c = 45 then some 45 else none)

def text : List UInt8 → List UInt8 → Nat → Step
  | [], _, _ => .bad 11 0
  | c :: r, told, i =>
    if c = 34 then (if told = [] then .bad 10 0 else if 32 < told.length then .bad 12 0 else .mark 3 told (i + 1))
    else if c = 10 then .bad 11 0
    else if c = 92 then
      match r with
      | [] => .bad 10 i
      | d :: r' => match esc 3 d with
        | none => .bad 10 i
        | some b => text r' (told ++ [b]) (i + 2)
    else text r (told ++ [c]) (i + 1)

def rising (has : Nat → Bool) : List UInt8 := ((List.range 256).filter has).map UInt8.ofNat

/-- What a class has so far: its bytes; its last part, if that is a single byte; the place of an open dash, or 0. -/
structure Parts where
  has : Nat → Bool
  single : Option Nat
  dash : Nat

def none_ : Parts := ⟨fun _ => false, none, 0⟩
def Parts.put (p : Parts) (b : UInt8) : Option Parts :=
  if p.dash = 0 then some ⟨fun j => p.has j || j == b.toNat, some b.toNat, 0⟩
  else if b.toNat < p.single.getD 0 then none
  else some ⟨fun j => p.has j || (p.single.getD 0 ≤ j && j ≤ b.toNat), none, 0⟩

def cls : List UInt8 → Nat → Parts → Step
  | [], _, _ => .bad 11 0
  | c :: r, i, p =>
    if c = 93 then (if 0 < p.dash then .bad 10 p.dash else if rising p.has = [] then .bad 10 0 else .mark 4 (rising p.has) (i + 1))
    else if c = 10 then .bad 11 0
    else if c = 45 ∧ p.dash = 0 then
      match p.single with
      | none => .bad 10 i
      | some _ => cls r (i + 1) { p with dash := i }
    else if c = 92 then
      match r with
      | [] => .bad 10 i
      | d :: r' => match esc 4 d with
        | none => .bad 10 i
        | some b => match p.put b with
          | none => .bad 10 p.dash
          | some q => cls r' (i + 2) q
    else match p.put c with
      | none => .bad 10 p.dash
      | some q => cls r (i + 1) q

def act : List UInt8 → List UInt8 → Nat → Step
  | [], _, _ => .bad 11 0
  | c :: r, acc, o =>
    if c = 123 then (if o = 4 then .bad 13 (acc.length + 1) else act r (acc ++ [c]) (o + 1))
    else if c = 125 then (if o = 1 then (if 200 < acc.length then .bad 12 0 else .mark 9 acc (acc.length + 2)) else act r (acc ++ [c]) (o - 1))
    else act r (acc ++ [c]) o

def words : List (List UInt8) := [[116, 111, 107, 101, 110], [115, 107, 105, 112], [108, 101, 102, 116], [114, 105, 103, 104, 116], [110, 111, 110, 97, 115, 115, 111, 99], [115, 116, 97, 114, 116], [112, 114, 101, 99], [37]]
def wordOf (l : List UInt8) : List UInt8 := if l.head? = some 37 then [37] else l.takeWhile isSmall
def word (l : List UInt8) : Step := if wordOf l ∈ words then .mark 2 (wordOf l) (1 + (wordOf l).length) else .bad 10 0

/-- The name that a text begins with. -/
def nameOf (l : List UInt8) : List UInt8 :=
  match l with
  | [] => []
  | c :: _ => if isLetter c then l.takeWhile isName else []

def step : List UInt8 → Step
  | [] => .skip 0
  | c :: r =>
    if c = 32 ∨ c = 9 ∨ c = 10 ∨ c = 13 then .skip 1
    else if c = 35 then .skip (1 + (r.takeWhile (· != 10)).length)
    else if isLetter c then (if 32 < (nameOf (c :: r)).length then .bad 12 0 else .mark 1 (nameOf (c :: r)) (nameOf (c :: r)).length)
    else if c = 37 then word r
    else if c = 34 then text r [] 1
    else if c = 91 then cls r 1 none_
    else if c = 123 then act r [] 1
    else if c = 43 then .mark 5 [] 1
    else if c = 58 then .mark 6 [] 1
    else if c = 124 then .mark 7 [] 1
    else if c = 59 then .mark 8 [] 1
    else .bad 10 0

inductive Out where
  | ok (ms : List (Nat × List UInt8 × Nat))
  | bad (code at_ : Nat)

def run : Nat → List UInt8 → Nat → List (Nat × List UInt8 × Nat) → Out
  | 0, _, _, acc => .ok acc
  | f + 1, l, i, acc =>
    if l = [] then .ok (acc ++ [(0, [], i)]) else
    match step l with
    | .skip n => run f (l.drop n) (i + n) acc
    | .mark k t n => run f (l.drop n) (i + n) (acc ++ [(k, t, i)])
    | .bad c n => .bad c (i + n)

def lex (l : List UInt8) : Out := if 4000 < l.length then .bad 12 0 else run (l.length + 1) l 0 []

/-- The place behind the bytes l, from a place on. -/
def adv (p : Nat × Nat) (l : List UInt8) : Nat × Nat := l.foldl (fun p b => if b = 10 then (p.1 + 1, 1) else (p.1, p.2 + 1)) p
def pos (l : List UInt8) (i : Nat) : Nat × Nat := adv (1, 1) (l.take i)

/-- A mark: its kind, its text, its place. -/
structure Mk where
  kind : Nat
  text : List UInt8
  line : Nat
  col : Nat
deriving DecidableEq
def mkOf (l : List UInt8) (m : Nat × List UInt8 × Nat) : Mk := ⟨m.1, m.2.1, (pos l m.2.2).1, (pos l m.2.2).2⟩
def Out.marks (l : List UInt8) : Out → List Mk
  | .ok ms => ms.map (mkOf l)
  | .bad _ _ => []
/-- What is wrong, and where; noughts, if nothing is. -/
def Out.diag (l : List UInt8) : Out → Nat × Nat × Nat
  | .ok _ => (0, 0, 0)
  | .bad c i => (c, (pos l i).1, (pos l i).2)

theorem adv_append (p : Nat × Nat) (a b : List UInt8) : adv p (a ++ b) = adv (adv p a) b := List.foldl_append ..
theorem adv_one (p : Nat × Nat) (b : UInt8) : adv p [b] = if b = 10 then (p.1 + 1, 1) else (p.1, p.2 + 1) := rfl
theorem adv_le (p : Nat × Nat) (l : List UInt8) : 1 ≤ p.1 → 1 ≤ p.2 → 1 ≤ (adv p l).1 ∧ (adv p l).1 ≤ p.1 + l.length ∧ 1 ≤ (adv p l).2 ∧ (adv p l).2 ≤ p.2 + l.length := by
  induction l generalizing p with
  | nil => intro h1 h2; exact ⟨h1, Nat.le_refl _, h2, Nat.le_refl _⟩
  | cons b r ih =>
    intro h1 h2
    have e : adv p (b :: r) = adv (if b = 10 then (p.1 + 1, 1) else (p.1, p.2 + 1)) r := rfl
    rw [e]
    split
    · have := ih (p.1 + 1, 1) (by simp) (by simp)
      simp at this ⊢; omega
    · have := ih (p.1, p.2 + 1) (by simpa) (by simp)
      simp at this ⊢; omega
theorem pos_le (l : List UInt8) (i : Nat) : 1 ≤ (pos l i).1 ∧ (pos l i).1 ≤ 1 + l.length ∧ 1 ≤ (pos l i).2 ∧ (pos l i).2 ≤ 1 + l.length := by
  have := adv_le (1, 1) (l.take i) (by simp) (by simp)
  have := List.length_take_le' i l
  unfold pos; simp at *; omega
theorem pos_zero (l : List UInt8) : pos l 0 = (1, 1) := rfl
theorem pos_add (l : List UInt8) (i n : Nat) : pos l (i + n) = adv (pos l i) ((l.drop i).take n) := by
  unfold pos
  rw [List.take_add, adv_append]

/-- One step of the run. -/
theorem run_end {f i : Nat} {acc : List (Nat × List UInt8 × Nat)} (hf : 0 < f) : run f [] i acc = .ok (acc ++ [(0, [], i)]) := by
  cases f with
  | zero => omega
  | succ f => simp [run]
theorem run_skip {f i n : Nat} {l : List UInt8} {acc : List (Nat × List UInt8 × Nat)} (hf : 0 < f) (hl : l ≠ []) (h : step l = .skip n) : run f l i acc = run (f - 1) (l.drop n) (i + n) acc := by
  cases f with
  | zero => omega
  | succ f => simp [run, hl, h]
theorem run_mark {f i n k : Nat} {l t : List UInt8} {acc : List (Nat × List UInt8 × Nat)} (hf : 0 < f) (hl : l ≠ []) (h : step l = .mark k t n) : run f l i acc = run (f - 1) (l.drop n) (i + n) (acc ++ [(k, t, i)]) := by
  cases f with
  | zero => omega
  | succ f => simp [run, hl, h]
theorem run_bad {f i n c : Nat} {l : List UInt8} {acc : List (Nat × List UInt8 × Nat)} (hf : 0 < f) (hl : l ≠ []) (h : step l = .bad c n) : run f l i acc = .bad c (i + n) := by
  cases f with
  | zero => omega
  | succ f => simp [run, hl, h]

example : (lex [97, 32, 123, 49, 123, 50, 125, 125]).marks [] = [⟨1, [97], 1, 1⟩, ⟨9, [49, 123, 50, 125], 1, 1⟩, ⟨0, [], 1, 1⟩] := by decide +kernel

end Lx
end Go.Proofs.YtpgmapjjjpcmfaaGreatDoor

namespace Go.Proofs.YtpgmapjjjpcmfaaGreatDoor
namespace Lx

/-- A step of a text of so many bytes that begins with i bytes more. -/
def Step.Fits (i m : Nat) : Step → Prop
  | .skip n => i < n ∧ n ≤ i + m
  | .mark k t n => i < n ∧ n ≤ i + m ∧ 1 ≤ k ∧ k ≤ 9 ∧ t.length ≤ 256
  | .bad c n => n ≤ i + m ∧ 10 ≤ c ∧ c ≤ 13
theorem Step.Fits.mono {i m i' m' : Nat} {s : Step} (h : s.Fits i m) (h1 : i' ≤ i) (h2 : i + m ≤ i' + m') : s.Fits i' m' := by
  cases s <;> simp only [Step.Fits] at * <;> omega

theorem rising_length (has : Nat → Bool) : (rising has).length ≤ 256 := by
  unfold rising
  rw [List.length_map]
  have := List.length_filter_le has (List.range 256)
  simpa using this

theorem text_fits (l told : List UInt8) (i : Nat) : (text l told i).Fits i l.length := by
  fun_induction text l told i
  all_goals first
    | (refine Step.Fits.mono (by assumption) (by omega) (by simp; omega))
    | (simp_all [Step.Fits] <;> omega)

theorem put_dash {p q : Parts} {b : UInt8} (h : p.put b = some q) : q.dash = 0 := by
  unfold Parts.put at h
  split at h
  · injection h with h; rw [← h]
  · split at h
    · cases h
    · injection h with h; rw [← h]

theorem cls_fits (l : List UInt8) (i : Nat) (p : Parts) (hp : p.dash < i) : (cls l i p).Fits i l.length := by
  fun_induction cls l i p
  all_goals first
    | (rename_i ih; exact (ih (by simp)).mono (by omega) (by simp; omega))
    | (rename_i ih; exact (ih (by have := put_dash ‹Parts.put _ _ = some _›; omega)).mono (by omega) (by simp; omega))
    | (have := rising_length; simp_all [Step.Fits] <;> omega)

theorem act_fits (l acc : List UInt8) (o : Nat) : (act l acc o).Fits (acc.length + 1) l.length := by
  fun_induction act l acc o
  all_goals first
    | (rename_i ih; exact ih.mono (by simp) (by simp; omega))
    | (simp_all [Step.Fits] <;> omega)

theorem takeWhile_le {α : Type} (f : α → Bool) (l : List α) : (l.takeWhile f).length ≤ l.length := (List.takeWhile_sublist f).length_le
/-- So many bytes at the beginning are nothing. -/
structure Skips (l : List UInt8) (k : Nat) : Prop where
  le : k ≤ l.length
  run : ∀ f i acc, l.length < f → ∃ f', l.length - k < f' ∧ Lx.run f l i acc = Lx.run f' (l.drop k) (i + k) acc
theorem Skips.zero (l : List UInt8) : Skips l 0 := ⟨by omega, fun f i acc hf => ⟨f, by omega, by simp⟩⟩
theorem Skips.more {l : List UInt8} {k n : Nat} (h : Skips l k) (hl : l.drop k ≠ []) (hs : step (l.drop k) = .skip n) (hn : 0 < n) (hle : k + n ≤ l.length) : Skips l (k + n) :=
  ⟨hle, fun f i acc hf => by
    obtain ⟨f1, h1, h2⟩ := h.run f i acc hf
    refine ⟨f1 - 1, by omega, ?_⟩
    rw [h2, run_skip (by omega) hl hs, List.drop_drop, Nat.add_assoc]⟩
/-- What stands behind is the end, or no nothing. -/
def Firm (l : List UInt8) : Prop := l = [] ∨ ∀ n, step l ≠ .skip n
def isSpace (c : UInt8) : Bool := c == 32 || c == 9 || c == 10 || c == 13
theorem text_noskip (l told : List UInt8) (i n : Nat) : text l told i ≠ .skip n := by
  fun_induction text l told i <;> first | (intro h; cases h) | assumption
theorem cls_noskip (l : List UInt8) (i : Nat) (p : Parts) (n : Nat) : cls l i p ≠ .skip n := by
  fun_induction cls l i p <;> first | (intro h; cases h) | assumption
theorem act_noskip (l acc : List UInt8) (o n : Nat) : act l acc o ≠ .skip n := by
  fun_induction act l acc o <;> first | (intro h; cases h) | assumption
theorem word_noskip (l : List UInt8) (n : Nat) : word l ≠ .skip n := by
  unfold word; split <;> (intro h; cases h)
theorem step_firm {c : UInt8} (r : List UInt8) (h : isSpace c = false) (h35 : c ≠ 35) (n : Nat) : step (c :: r) ≠ .skip n := by
  have hs : ¬ (c = 32 ∨ c = 9 ∨ c = 10 ∨ c = 13) := by
    unfold isSpace at h; simpa [or_assoc, and_assoc] using h
  unfold step
  simp only [if_neg hs, if_neg h35]
  repeat' split
  all_goals first | exact word_noskip _ _ | exact text_noskip _ _ _ _ | exact cls_noskip _ _ _ _ | exact act_noskip _ _ _ _ | (intro h; cases h)
theorem step_space {c : UInt8} (r : List UInt8) (h : isSpace c = true) : step (c :: r) = .skip 1 := by
  have hs : (c = 32 ∨ c = 9 ∨ c = 10 ∨ c = 13) := by
    unfold isSpace at h; simpa [or_assoc, and_assoc] using h
  unfold step
  simp only [if_pos hs]
theorem step_note (r : List UInt8) : step (35 :: r) = .skip (((35 :: r).takeWhile (· != 10)).length) := by
  have e : step (35 :: r) = .skip (1 + (r.takeWhile (· != 10)).length) := rfl
  rw [e, List.takeWhile_cons_of_pos (by decide), List.length_cons, Nat.add_comm]

end Lx
end Go.Proofs.YtpgmapjjjpcmfaaGreatDoor

namespace Go.Proofs.YtpgmapjjjpcmfaaGreatDoor
namespace Lx

theorem word_len {l : List UInt8} (h : l ∈ words) : 1 ≤ l.length ∧ l.length ≤ 8 := by
  have : ∀ x ∈ words, 1 ≤ x.length ∧ x.length ≤ 8 := by decide
  exact this l h
theorem wordOf_le (l : List UInt8) : (wordOf l).length ≤ max l.length 1 ∧ (l = [] → wordOf l = []) := by
  unfold wordOf
  split
  · rename_i h
    refine ⟨by simp; omega, fun e => by rw [e] at h; cases h⟩
  · exact ⟨by have := takeWhile_le isSmall l; omega, fun e => by rw [e]; rfl⟩
theorem word_fits (l : List UInt8) : (word l).Fits 0 (1 + l.length) := by
  unfold word
  split
  · rename_i h
    have h1 := word_len h
    have h2 := wordOf_le l
    by_cases e : l = []
    · have := h2.2 e; rw [this] at h1; simp at h1
    · have : 0 < l.length := List.length_pos_iff.2 e
      simp only [Step.Fits]; omega
  · simp [Step.Fits]
theorem nameOf_le (l : List UInt8) : (nameOf l).length ≤ l.length := by
  unfold nameOf
  split
  · simp
  · split
    · exact takeWhile_le _ _
    · simp
theorem nameOf_pos {c : UInt8} {r : List UInt8} (h : isLetter c = true) : 0 < (nameOf (c :: r)).length := by
  unfold nameOf
  simp only [h, if_true]
  have : isName c = true := by unfold isName; rw [h]; rfl
  rw [List.takeWhile_cons_of_pos this]; simp
theorem step_fits (c : UInt8) (r : List UInt8) : (step (c :: r)).Fits 0 (c :: r).length := by
  have hl : (c :: r).length = 1 + r.length := by simp; omega
  unfold step
  simp only []
  split
  · simp only [Step.Fits, hl]; omega
  · split
    · have := takeWhile_le (· != 10) r
      simp only [Step.Fits, hl]; omega
    · split
      · rename_i h
        have h1 := nameOf_le (c :: r)
        have h2 := nameOf_pos (r := r) h
        split
        · simp only [Step.Fits, hl]; omega
        · simp only [Step.Fits]; omega
      · split
        · rw [hl]; exact word_fits r
        · split
          · exact (text_fits r [] 1).mono (by omega) (by simp; omega)
          · split
            · exact (cls_fits r 1 none_ (by simp [none_])).mono (by omega) (by simp; omega)
            · split
              · exact (act_fits r [] 1).mono (by omega) (by simp; omega)
              · repeat' split
                all_goals (simp only [Step.Fits, hl, List.length_nil]; omega)

theorem step_letter {c : UInt8} (r : List UInt8) (h : isLetter c = true) : step (c :: r) = if 32 < (nameOf (c :: r)).length then .bad 12 0 else .mark 1 (nameOf (c :: r)) (nameOf (c :: r)).length := by
  have h1 : ¬ (c = 32 ∨ c = 9 ∨ c = 10 ∨ c = 13) := by rintro (rfl | rfl | rfl | rfl) <;> revert h <;> decide
  have h2 : ¬ c = 35 := by rintro rfl; revert h; decide
  unfold step
  simp only [if_neg h1, if_neg h2, h, if_true]
theorem step_word (r : List UInt8) : step (37 :: r) = word r := rfl
theorem step_text (r : List UInt8) : step (34 :: r) = text r [] 1 := rfl
theorem step_cls (r : List UInt8) : step (91 :: r) = cls r 1 none_ := rfl
theorem step_act (r : List UInt8) : step (123 :: r) = act r [] 1 := rfl
theorem step_43 (r : List UInt8) : step (43 :: r) = .mark 5 [] 1 := rfl
theorem step_58 (r : List UInt8) : step (58 :: r) = .mark 6 [] 1 := rfl
theorem step_124 (r : List UInt8) : step (124 :: r) = .mark 7 [] 1 := rfl
theorem step_59 (r : List UInt8) : step (59 :: r) = .mark 8 [] 1 := rfl
theorem step_else {c : UInt8} (r : List UInt8) (hs : isSpace c = false) (h0 : c ≠ 35) (h : isLetter c = false) (h1 : c ≠ 37) (h2 : c ≠ 34) (h3 : c ≠ 91) (h4 : c ≠ 123) (h5 : c ≠ 43) (h6 : c ≠ 58) (h7 : c ≠ 124) (h8 : c ≠ 59) : step (c :: r) = .bad 10 0 := by
  have hs' : ¬ (c = 32 ∨ c = 9 ∨ c = 10 ∨ c = 13) := by unfold isSpace at hs; simpa [or_assoc, and_assoc] using hs
  unfold step
  simp only [if_neg hs', if_neg h0, h, if_neg h1, if_neg h2, if_neg h3, if_neg h4, if_neg h5, if_neg h6, if_neg h7, if_neg h8]
  rfl
theorem firm_head {c : UInt8} {r : List UInt8} (h : Firm (c :: r)) : isSpace c = false ∧ c ≠ 35 := by
  rcases h with h | h
  · cases h
  · constructor
    · cases hs : isSpace c with
      | false => rfl
      | true => exact absurd (step_space r hs) (h 1)
    · rintro rfl
      exact absurd (step_note r) (h _)
end Lx
end Go.Proofs.YtpgmapjjjpcmfaaGreatDoor

namespace Go.Proofs.YtpgmapjjjpcmfaaGreatDoor
open Go.RowKit
open Lx
set_option linter.unusedVariables false
set_option linter.unusedSimpArgs false

/-- A string of these bytes. -/
def str (l : List UInt8) : ByteArray := ⟨l.toArray⟩
namespace Lx
def Step.kindV : Step → Int
  | .skip _ => -1
  | .mark k _ _ => k
  | .bad _ _ => 0
def Step.textV : Step → List UInt8
  | .mark _ t _ => t
  | _ => []
def Step.size : Step → Nat
  | .skip n => n
  | .mark _ _ n => n
  | .bad _ n => n
def Step.code : Step → Nat
  | .bad c _ => c
  | _ => 0
end Lx
def pieceV (s : Step) : Value := .agg #[.int .i64 s.kindV, .string (str s.textV), .int .i64 s.size, .int .i64 s.code]
/-- A Found, of a step at a byte. -/
def foundV (i : Nat) : Step → Value
  | .skip n => .agg #[.int .i64 (-1), .string (str []), .int .i64 ((i + n : Nat) : Int), .int .i64 0, .int .i64 0]
  | .mark k t n => .agg #[.int .i64 k, .string (str t), .int .i64 ((i + n : Nat) : Int), .int .i64 0, .int .i64 0]
  | .bad c n => .agg #[.int .i64 0, .string (str []), .int .i64 0, .int .i64 c, .int .i64 ((i + n : Nat) : Int)]

/-- A store over a whole block. -/
theorem wpList_store_at {P : Program} {ops : Array Oper} {rest : List Oper} {o : Oper} {a : Act} {w : World} {Q : Exit → Act → World → Prop} (hgd : o.guard = none) (ty : TypeId) (x y : Operand) (ho : o.op = .store ty x y)
    (hd : o.dst = none) (g : Nat) (t : TypeId) (old : Array Value) (new : List Value) (hx : a.eval x = .pointer (some ⟨g, 0, none⟩)) (hy : a.eval y = .agg new.toArray) (hg : At w g t old) (n : Nat) (hi : (P.info? ty).map (·.size) = some n)
    (hn : new.length = n) (hold : old.size = n) (h1 : new.all (·.oneCell') = true)
    (h : ∀ w', At w' g t new.toArray → w.grownBy w' (some g) → wpList P ops Q rest a w') : wpList P ops Q (o :: rest) a w :=
  wpList_store_rowTo hgd ty x y ho hd g new.toArray hx hy t old hg (by simpa [hn] using hi) (by simpa [hn] using hold) (by simpa using h1)
    (h _ (setRow_heap w g old new.toArray t (0, 0) hg) ⟨rfl, rfl, rfl, by simp, fun j _ hj => setRow_other w g j _ (fun e => hj (by simp [e]))⟩)
theorem below_grown {w w1 w2 : World} {g : Nat} {B : Nat} (h : Below B w w1) (k : w1.grownBy w2 (some g)) (hB : B ≤ w1.heap.size) (hg : B ≤ g) : Below B w w2 :=
  h.grown k hB (fun x hx => by injection hx with hx; omega)

theorem Tryz.sizePiece : (Tryz.prog.info? 131).map (·.size) = some 4 := by kernel_rfl
theorem Tryz.sizePos : (Tryz.prog.info? 80).map (·.size) = some 2 := by kernel_rfl
theorem Tryz.sizeDiag : (Tryz.prog.info? 82).map (·.size) = some 3 := by kernel_rfl

theorem fault_any (c n : Nat) (w : World) :
    Calls Tryz.prog 117 #[.int .i64 (c : Int), .int .i64 (n : Int)] w fun e w' => e = .returned (pieceV (.bad c n)) ∧ Below w.heap.size w w' := by
  go_enter Tryz.func117, Tryz.ntmps117
  go_wp2_with fail
  exact bodyPost_ret (v := pieceV (.bad c n)) (by simp [results, Tryz.results117, go_sem]; rfl) rfl ⟨rfl, (Below.refl _ _).alloc (Nat.le_refl _) _⟩


theorem ret_bool {a b : Bool} (h : a = b) : Ending.returned (.bool a) = .returned (.bool b) := by rw [h]

theorem small_any (c : UInt8) (w : World) :
    Calls Tryz.prog 124 #[.int .u8 (c.toNat : Int)] w fun e w' => e = .returned (.bool (isSmall c)) ∧ w = w' := by
  have e : isSmall c = (decide (97 ≤ (c.toNat : Int)) && decide ((c.toNat : Int) ≤ 122)) := by
    unfold isSmall; rw [Bool.eq_iff_iff]; simp [UInt8.le_iff_toNat_le]; omega
  have E := Lib.hid e
  clear e
  go_enter Tryz.func124, Tryz.ntmps124
  go_wp2_with fail
  all_goals
    go_ret
    refine ⟨?_, rfl⟩
    rw [E.out]
    exact ret_bool (by rw [Bool.eq_iff_iff]; simp_all <;> omega)

theorem digit_any (c : UInt8) (w : World) :
    Calls Tryz.prog 107 #[.int .u8 (c.toNat : Int)] w fun e w' => e = .returned (.bool (isDigit c)) ∧ w = w' := by
  have e : isDigit c = (decide (48 ≤ (c.toNat : Int)) && decide ((c.toNat : Int) ≤ 57)) := by
    unfold isDigit; rw [Bool.eq_iff_iff]; simp [UInt8.le_iff_toNat_le]; omega
  have E := Lib.hid e
  clear e
  go_enter Tryz.func107, Tryz.ntmps107
  go_wp2_with fail
  all_goals
    go_ret
    refine ⟨?_, rfl⟩
    rw [E.out]
    exact ret_bool (by rw [Bool.eq_iff_iff]; simp_all <;> omega)

theorem digit2_any (c : UInt8) (w : World) :
    Calls Tryz.prog 94 #[.int .u8 (c.toNat : Int)] w fun e w' => e = .returned (.bool (isDigit c)) ∧ w = w' := by
  have e : isDigit c = (decide (48 ≤ (c.toNat : Int)) && decide ((c.toNat : Int) ≤ 57)) := by
    unfold isDigit; rw [Bool.eq_iff_iff]; simp [UInt8.le_iff_toNat_le]; omega
  have E := Lib.hid e
  clear e
  go_enter Tryz.func94, Tryz.ntmps94
  go_wp2_with fail
  all_goals
    go_ret
    refine ⟨?_, rfl⟩
    rw [E.out]
    exact ret_bool (by rw [Bool.eq_iff_iff]; simp_all <;> omega)

theorem u8_eq (c : UInt8) (n : Nat) (hn : n < 256) : (c == UInt8.ofNat n) = decide ((c.toNat : Int) = n) := by
  rw [Bool.eq_iff_iff]; simp [← UInt8.toNat_inj]; omega
theorem letter_eq (c : UInt8) : isLetter c = (isSmall c || (decide (65 ≤ (c.toNat : Int)) && decide ((c.toNat : Int) ≤ 90)) || decide ((c.toNat : Int) = 95)) := by
  have e : (c == 95) = decide ((c.toNat : Int) = 95) := u8_eq c 95 (by decide)
  unfold isLetter
  rw [e]
  cases isSmall c <;> rw [Bool.eq_iff_iff] <;> simp [UInt8.le_iff_toNat_le] <;> omega

theorem letter_any (c : UInt8) (w : World) :
    Calls Tryz.prog 106 #[.int .u8 (c.toNat : Int)] w fun e w' => e = .returned (.bool (isLetter c)) ∧ w = w' := by
  have E := Lib.hid (letter_eq c)
  go_enter Tryz.func106, Tryz.ntmps106
  go_wp2_with fail
  refine (small_any c _).mono ?_
  rintro e w' ⟨rfl, rfl⟩
  go_wp2_with fail
  all_goals
    go_ret
    refine ⟨?_, rfl⟩
    rw [E.out]
    exact ret_bool (by rw [Bool.eq_iff_iff]; simp_all <;> omega)

theorem letter2_any (c : UInt8) (w : World) :
    Calls Tryz.prog 93 #[.int .u8 (c.toNat : Int)] w fun e w' => e = .returned (.bool (isLetter c)) ∧ w = w' := by
  have e : isSmall c = (decide (97 ≤ (c.toNat : Int)) && decide ((c.toNat : Int) ≤ 122)) := by
    unfold isSmall; rw [Bool.eq_iff_iff]; simp [UInt8.le_iff_toNat_le]; omega
  have E := Lib.hid (letter_eq c)
  have E1 := Lib.hid e
  clear e
  go_enter Tryz.func93, Tryz.ntmps93
  go_wp2_with fail
  all_goals
    go_ret
    refine ⟨?_, rfl⟩
    rw [E.out, E1.out]
    exact ret_bool (by rw [Bool.eq_iff_iff]; simp_all <;> omega)

theorem limited_any (k n m : Nat) (s : ByteArray) (w : World) (hs : s.size ≤ 9223372036854775807) :
    Calls Tryz.prog 116 #[.int .i64 (k : Int), .string s, .int .i64 (n : Int), .int .i64 (m : Int)] w fun e w' => e = .returned (pieceV (if m < s.size then .bad 12 0 else .mark k s.data.toList n)) ∧ Below w.heap.size w w' := by
  by_cases hm : m < s.size
  · rw [if_pos hm]
    go_enter Tryz.func116, Tryz.ntmps116
    go_wp2_with fail
    refine (fault_any 12 0 _).mono ?_
    rintro e w1 ⟨rfl, hb⟩
    rename_i hK
    refine hK _ _ ?_
    have HA := Lib.hid ((At.new w 131 _).below hb (by simp))
    refine wpList_store_at rfl _ _ _ rfl rfl w.heap.size _ _ [_, _, _, _] rfl rfl HA.out 4 Tryz.sizePiece rfl rfl rfl ?_
    intro w2 hat hg
    go_wp2_with fail
    exact bodyPost_ret (results_cell_row rfl _ _ w.heap.size _ _ (0, 0) _ rfl hat Tryz.underlying131 rfl Tryz.sizePiece) rfl ⟨rfl, below_grown (((Below.refl _ _).alloc (Nat.le_refl _) _).trans (hb.mono (by simp))) hg (by have := hb.size; simp at this; omega) (by omega)⟩
  · rw [if_neg hm]
    go_enter Tryz.func116, Tryz.ntmps116
    go_wp2_with fail
    exact bodyPost_ret (v := pieceV (.mark k s.data.toList n)) (by simp [results, Tryz.results116, go_sem]; rfl) rfl ⟨rfl, (Below.refl _ _).alloc (Nat.le_refl _) _⟩

end Go.Proofs.YtpgmapjjjpcmfaaGreatDoor

namespace Go.Proofs.YtpgmapjjjpcmfaaGreatDoor
open Go.RowKit
open Lx
set_option linter.unusedVariables false
set_option linter.unusedSimpArgs false

/-- The bytes of a string. -/
def bl (s : ByteArray) : List UInt8 := s.data.toList
theorem bl_length (s : ByteArray) : (bl s).length = s.size := by simp [bl]
theorem bl_str (l : List UInt8) : bl (str l) = l := rfl
theorem str_bl (s : ByteArray) : str (bl s) = s := rfl
theorem bl_drop (s : ByteArray) (k : Nat) (h : k < s.size) : (bl s).drop k = s[k] :: (bl s).drop (k + 1) := by
  unfold bl
  rw [List.drop_eq_getElem_cons (by simpa using h)]; rfl
theorem bl_take (s : ByteArray) (k : Nat) (h : k < s.size) : (bl s).take (k + 1) = (bl s).take k ++ [s[k]] := by
  unfold bl
  rw [List.take_succ_eq_append_getElem (by simpa using h)]; rfl
theorem bl_ext (s : ByteArray) (a b : Nat) : bl (s.extract a b) = ((bl s).drop a).take (b - a) := by
  unfold bl; exact Lib.extract_data s a b
theorem bl_end (s : ByteArray) (a : Nat) : bl (s.extract a s.size) = (bl s).drop a := by
  rw [bl_ext, List.take_of_length_le (by simp [bl_length])]
theorem ext_str (s : ByteArray) (a b : Nat) : s.extract a b = str (((bl s).drop a).take (b - a)) := by
  rw [← bl_ext, str_bl]
theorem size_ext (s : ByteArray) (a b : Nat) (h : a ≤ b) (hb : b ≤ s.size) : (s.extract a b).size = b - a := by
  rw [ByteArray.size_extract]; omega

/-! strings.Cut at one byte -/
def laysIB_ren : Go.Shelf.Ren := ⟨fun | 217 => 92 | 266 => 110 | n => n, fun | 9 => 9 | 5 => 5 | 3 => 3 | n => n, fun | n => n⟩
theorem laysIB : Go.Proofs.Lays.n217 Tryz.prog laysIB_ren := {
  mixed := by kernel_rfl
  f217 := Tryz.func92.trans (congrArg some (by kernel_rfl))
  f266 := Tryz.func110.trans (congrArg some (by kernel_rfl))
  t3 := Tryz.underlying3
  a3 := Tryz.isAgg3
  z3 := Tryz.sizeOf3
  v3 := Tryz.zeroValue3
  t5 := Tryz.underlying5
  a5 := Tryz.isAgg5
  z5 := Tryz.sizeOf5
  v5 := Tryz.zeroValue5
  t9 := Tryz.underlying9
  a9 := Tryz.isAgg9
  z9 := Tryz.sizeOf9
  v9 := Tryz.zeroValue9 }

theorem indexByte_any (s : ByteArray) (c : Int) (w : World) :
    Calls Tryz.prog 92 #[.string s, .int .u8 c] w fun e w' => e = .returned (.int .i64 (Lib.indexByte s.data.toList c.toNat.toUInt8)) ∧ w = w' :=
  (Any.stringslite_IndexByte laysIB s c w).mono fun _ _ ⟨h1, h2⟩ => ⟨h1, h2.symm⟩

theorem indexByte_take (l : List UInt8) (c : UInt8) : Lib.indexByte l c = if (l.takeWhile (· != c)).length = l.length then -1 else ((l.takeWhile (· != c)).length : Int) := by
  induction l with
  | nil => rfl
  | cons x r ih =>
    unfold Lib.indexByte
    rw [ih]
    by_cases h : x = c
    · subst h; simp
    · have hb : (x == c) = false := by simpa using h
      have hb' : (x != c) = true := by simpa using h
      have hle := takeWhile_le (· != c) r
      simp only [hb, List.takeWhile_cons, hb', if_true, List.length_cons]
      by_cases hr : (List.takeWhile (fun x => x != c) r).length = r.length
      · simp [hr]
      · simp [hr] <;> omega

theorem line_of {l : List UInt8} : (if Lib.indexByte l 10 < 0 then l.length else (Lib.indexByte l 10).toNat) = (l.takeWhile (· != 10)).length := by
  rw [indexByte_take]
  split
  · split <;> omega
  · split at * <;> omega

theorem index_any (s : ByteArray) (c : UInt8) (w : World) :
    Calls Tryz.prog 145 #[.string s, .string ⟨#[c]⟩] w fun e w' => e = .returned (.int .i64 (Lib.indexByte s.data.toList c)) ∧ w = w' := by
  go_enter Tryz.func145, Tryz.ntmps145
  by_cases h : ([c] == s.toList) = true
  · have hs : s.data.toList = [c] := by rw [← Lib.toList_data]; simpa using (beq_iff_eq.1 h).symm
    have HS := Lib.hid hs
    clear hs
    go_wp2_with fail
    go_ret
    exact ⟨by rw [HS.out]; simp [Lib.indexByte], rfl⟩
  · have h : ([c] == s.toList) = false := by simpa using h
    go_wp2_with fail
    refine (indexByte_any s c.toNat _).mono ?_
    rintro e w' ⟨rfl, rfl⟩
    go_wp2_with fail
    go_ret
    exact ⟨by simp, rfl⟩

/-- What is told by strings.Cut at an LF. -/
structure CutAt (s : ByteArray) (w : World) (e : Ending) (w' : World) : Prop where
  ex : ∃ (x y : ByteArray) (b : Bool) (n : Nat), e = .returned (.tuple #[.string x, .string y, .bool b]) ∧ x.size = ((bl s).takeWhile (· != 10)).length ∧ w' = w.drewN n

theorem cut2_any (s : ByteArray) (w : World) (hs : s.size ≤ 9223372036854775807) :
    Calls Tryz.prog 140 #[.string s, .string ⟨#[10]⟩] w (CutAt s w) := by
  have hl := @line_of (bl s)
  have HL := Lib.hid hl
  have hle := takeWhile_le (· != 10) (bl s)
  rw [bl_length] at hle
  clear hl
  generalize hi : Lib.indexByte (bl s) 10 = i at HL
  have HI := Lib.hid hi
  clear hi
  go_enter Tryz.func140, Tryz.ntmps140
  go_wp2_with fail
  refine (index_any s 10 _).mono ?_
  rintro e w' ⟨rfl, rfl⟩
  rw [show s.data.toList = bl s from rfl, HI.out]
  by_cases h : i < 0
  · go_wp2_with fail
    go_ret3
    refine ⟨s, _, _, 0, rfl, ?_, rfl⟩
    rw [← HL.out, if_pos h, bl_length]
  · obtain ⟨n, rfl⟩ : ∃ n : Nat, i = (n : Int) := ⟨i.toNat, by omega⟩
    have hn : n < s.size := by
      have := (Lib.indexByte_some HI.out).1
      have := (List.getElem?_eq_some_iff.1 this).1
      rwa [bl_length] at this
    have e1 : IntKind.i64.wrap ((n : Int) + 1) = (n : Int) + 1 := IntWalk.i64_in _ (by omega)
    have e2 : (0 : Int) ≤ (n : Int) + 1 := by omega
    have e3 : ((n : Int) + 1).toNat = n + 1 := by omega
    have e4 : (n : Int) + 1 ≤ (s.size : Int) := by omega
    go_wp2_with fail
    go_quiet (fail)
    go_wp2_with fail
    go_ret3
    refine ⟨_, _, _, _, rfl, ?_, rfl⟩
    rw [← HL.out, if_neg (by omega), size_ext s _ _ (by omega) (by omega)]
    simp

theorem cut_any (s : ByteArray) (w : World) (hs : s.size ≤ 9223372036854775807) :
    Calls Tryz.prog 125 #[.string s, .string ⟨#[10]⟩] w (CutAt s w) := by
  go_enter Tryz.func125, Tryz.ntmps125
  go_wp2_with fail
  refine (cut2_any s _ hs).mono ?_
  rintro e w' ⟨x, y, b, n, rfl, hx, rfl⟩
  have HX := Lib.hid hx
  clear hx
  go_wp2_with fail
  go_ret3
  exact ⟨x, _, _, _, rfl, HX.out, rfl⟩

theorem line_any (s : ByteArray) (w : World) (hs : s.size ≤ 9223372036854775807) :
    Calls Tryz.prog 111 #[.string s] w fun e w' => e = .returned (.int .i64 (((bl s).takeWhile (· != 10)).length : Int)) ∧ ∃ n, w' = w.drewN n := by
  have hle := takeWhile_le (· != 10) (bl s)
  rw [bl_length] at hle
  go_enter Tryz.func111, Tryz.ntmps111
  go_wp2_with fail
  refine (cut_any s _ hs).mono ?_
  rintro e w' ⟨x, y, b, n, rfl, hx, rfl⟩
  have HX := Lib.hid hx
  clear hx
  go_wp2_with fail
  go_ret
  exact ⟨by rw [← HX.out]; rfl, n, rfl⟩

theorem adv_bd {p : Nat × Nat} {l : List UInt8} (h1 : 1 ≤ p.1) (h2 : 1 ≤ p.2) : (adv p l).1 ≤ p.1 + l.length ∧ (adv p l).2 ≤ p.2 + l.length := by
  have := adv_le p l h1 h2; omega

theorem behind_any (s : ByteArray) (p : Nat × Nat) (w : World) (h1 : 1 ≤ p.1) (h2 : 1 ≤ p.2) (h3 : p.1 + s.size ≤ 9223372036854775807) (h4 : p.2 + s.size ≤ 9223372036854775807) :
    Calls Tryz.prog 97 #[.agg #[.int .i64 (p.1 : Int), .int .i64 (p.2 : Int)], .string s] w fun e w' => e = .returned (.agg #[.int .i64 ((adv p (bl s)).1 : Int), .int .i64 ((adv p (bl s)).2 : Int)]) ∧ Below w.heap.size w w' := by
  go_enter Tryz.func97, Tryz.ntmps97
  go_wp2_with fail
  go_loopw [8] (fun i wr => ∃ (k a b : Nat), k ≤ s.size ∧ i = .int .i64 (k : Int) ∧ adv p ((bl s).take k) = (a, b) ∧ wr = (w.alloc (.cells #[.int .i64 (a : Int), .int .i64 (b : Int)] 80)).alloc (.cells #[.int .i64 0, .int .i64 0] 80)) (fun i _ => s.size - (intOf i).toNat)
  case atStart => exact ⟨0, p.1, p.2, by omega, rfl, rfl, rfl⟩
  case round =>
    obtain ⟨k, a, b, hk, rfl, ha, rfl⟩ := hrel
    have HA := Lib.hid ha
    have hb := adv_bd (l := (bl s).take k) h1 h2
    have hlen : ((bl s).take k).length = k := by simp [bl_length]; omega
    rw [ha, hlen] at hb
    simp only at hb
    clear ha hlen
    obtain ⟨hb1, hb2⟩ := hb
    by_cases hlt : k < s.size
    · have HT := Lib.hid (bl_take s k hlt)
      by_cases hc : s[k] = 10
      · have HC := Lib.hid hc
        have c1 : ((s[k].toNat : Int) == 10) = true := by rw [hc]; rfl
        clear hc
        go_wp2_with fail
        go_roundw
        case rel => exact ⟨k + 1, a + 1, 1, by omega, by go_num, by rw [HT.out, adv_append, HA.out, adv_one, if_pos HC.out], by first | rfl | (simp; done)⟩
        case measure => simp [intOf]; omega
      · have HC := Lib.hid hc
        have c1 : ((s[k].toNat : Int) == 10) = false := by
          rw [beq_eq_false_iff_ne]; intro e; apply hc; rw [← UInt8.toNat_inj]; have : s[k].toNat = 10 := by omega
          exact this
        clear hc
        go_wp2_with fail
        go_roundw
        case rel => exact ⟨k + 1, a, b + 1, by omega, by go_num, by rw [HT.out, adv_append, HA.out, adv_one, if_neg HC.out], by first | rfl | (simp; done)⟩
        case measure => simp [intOf]; omega
    · obtain rfl : s.size = k := by omega
      go_wp2_with fail
      have e : adv p (bl s) = (a, b) := by rw [← HA.out, ← bl_length, List.take_length]
      rw [e]
      exact bodyPost_ret (v := .agg #[.int .i64 (a : Int), .int .i64 (b : Int)]) (by simp [results, Tryz.results97, go_sem]) rfl ⟨rfl, ((Below.refl _ _).alloc (Nat.le_refl _) _).alloc (by simp) _⟩

theorem At_any (s : ByteArray) (i : Int) (w : World) (hs : s.size ≤ 9223372036854775807) (hk0 : min (max i 0).toNat s.size ≤ 9223372036854775806) :
    Calls Tryz.prog 95 #[.string s, .int .i64 i] w fun e w' => e = .returned (.agg #[.int .i64 ((pos (bl s) (min (max i 0).toNat s.size)).1 : Int), .int .i64 ((pos (bl s) (min (max i 0).toNat s.size)).2 : Int)]) ∧ Below w.heap.size w w' := by
  obtain ⟨k, hk⟩ : ∃ k : Nat, k = min (max i 0).toNat s.size := ⟨_, rfl⟩
  rw [← hk] at hk0 ⊢
  have hk1 : k ≤ s.size := by omega
  have hz : (s.extract 0 k).size = k := by rw [size_ext s 0 k (by omega) hk1]; omega
  have hp : adv (1, 1) (bl (s.extract 0 k)) = pos (bl s) k := by rw [bl_ext]; rfl
  have HP := Lib.hid hp
  have HZ := Lib.hid hz
  have hkk : (min (max i 0) (s.size : Int)).toNat = k := by omega
  have HK := Lib.hid hkk
  clear hp hz hk hkk
  go_enter Tryz.func95, Tryz.ntmps95
  go_wp2_with fail
  rw [HK.out]
  refine (behind_any (s.extract 0 k) (1, 1) _ (by simp) (by simp) (by rw [HZ.out]; simp; omega) (by rw [HZ.out]; simp; omega)).mono ?_
  rw [HP.out]
  rintro e w1 ⟨rfl, hb⟩
  rename_i hK
  refine hK _ _ ?_
  have HA := Lib.hid ((At.new w 80 _).below hb (by simp))
  refine wpList_store_at rfl _ _ _ rfl rfl w.heap.size _ _ [_, _] rfl rfl HA.out 2 Tryz.sizePos rfl rfl rfl ?_
  intro w2 hat hg
  go_wp2_with fail
  exact bodyPost_ret (results_cell_row rfl _ _ w.heap.size _ _ (0, 0) _ rfl hat Tryz.underlying80 rfl Tryz.sizePos) rfl ⟨rfl, below_grown (((Below.refl _ _).alloc (Nat.le_refl _) _).trans (hb.mono (by simp))) hg (by have := hb.size; simp at this; omega) (by omega)⟩

theorem name_cons (c : UInt8) (r : List UInt8) : nameOf (c :: r) = if isLetter c then (c :: r).takeWhile isName else [] := rfl
theorem letter_name {c : UInt8} (h : isLetter c = true) : isName c = true := by unfold isName; rw [h]; rfl

theorem nameSize_any (s : ByteArray) (w : World) (hs : s.size ≤ 9223372036854775807) :
    Calls Tryz.prog 83 #[.string s] w fun e w' => e = .returned (.int .i64 ((nameOf (bl s)).length : Int)) ∧ w = w' := by
  go_enter Tryz.func83, Tryz.ntmps83
  go_wp2_with fail
  go_loop [3] (fun i => ∃ k : Nat, k ≤ s.size ∧ i = .int .i64 (k : Int) ∧ (nameOf (bl s)).length = k + (if k = 0 then nameOf (bl s) else ((bl s).drop k).takeWhile isName).length) (fun i => s.size - (intOf i).toNat)
  case atStart => exact ⟨0, by omega, rfl, by simp⟩
  case round =>
    obtain ⟨k, hk, rfl, hn⟩ := hrel
    have HN := Lib.hid hn
    clear hn
    by_cases hlt : k < s.size
    · have HD := Lib.hid (bl_drop s k hlt)
      by_cases hl : isLetter s[k] = true
      · go_wp2_with (go_at_call 106; refine (letter_any _ _).mono ?_; rintro e w' ⟨rfl, rfl⟩)
        go_round
        case rel =>
          refine ⟨k + 1, by omega, by go_num, ?_⟩
          rw [HN.out]
          by_cases h0 : k = 0
          · subst h0
            have e := HD.out
            simp only [List.drop_zero] at e
            rw [if_pos rfl, if_neg (by omega), e, name_cons, if_pos hl, List.takeWhile_cons_of_pos (letter_name hl)]
            simp; omega
          · rw [if_neg h0, if_neg (by omega), HD.out, List.takeWhile_cons_of_pos (letter_name hl)]
            simp; omega
        case measure => simp [intOf]; omega
      · have hl : isLetter s[k] = false := by simpa using hl
        by_cases h0 : k = 0
        · have hn : (nameOf (bl s)).length = k := by
            rw [HN.out, if_pos h0]
            subst h0
            have e := HD.out
            simp only [List.drop_zero] at e
            rw [e, name_cons, hl]; rfl
          have H := Lib.hid hn
          clear hn
          have hg : decide (0 < k) = false := by simp; omega
          clear h0
          go_wp2_with (go_at_call 106; refine (letter_any _ _).mono ?_; rintro e w' ⟨rfl, rfl⟩)
          go_ret
          exact ⟨by rw [H.out]; rfl, rfl⟩
        · have hg : (0 : Int) < (k : Int) := by omega
          by_cases hd : isDigit s[k] = true
          · go_wp2_with (first | (go_at_call 106; refine (letter_any _ _).mono ?_; rintro e w' ⟨rfl, rfl⟩) | (go_at_call 107; refine (digit_any _ _).mono ?_; rintro e w' ⟨rfl, rfl⟩))
            go_round
            case rel =>
              refine ⟨k + 1, by omega, by go_num, ?_⟩
              have hnm : isName s[k] = true := by unfold isName; rw [hd]; simp
              rw [HN.out, if_neg h0, if_neg (by omega), HD.out, List.takeWhile_cons_of_pos hnm]
              simp; omega
            case measure => simp [intOf]; omega
          · have hd : isDigit s[k] = false := by simpa using hd
            have hn : (nameOf (bl s)).length = k := by
              have hnm : ¬ isName s[k] = true := by unfold isName; rw [hd, hl]; simp
              rw [HN.out, if_neg h0, HD.out, List.takeWhile_cons_of_neg hnm]; simp
            have H := Lib.hid hn
            clear hn
            go_wp2_with (first | (go_at_call 106; refine (letter_any _ _).mono ?_; rintro e w' ⟨rfl, rfl⟩) | (go_at_call 107; refine (digit_any _ _).mono ?_; rintro e w' ⟨rfl, rfl⟩))
            go_ret
            exact ⟨by rw [H.out]; rfl, rfl⟩
    · have hn : (nameOf (bl s)).length = k := by
        rw [HN.out]
        have e : (bl s).drop k = [] := List.drop_of_length_le (by rw [bl_length]; omega)
        by_cases h0 : k = 0
        · subst h0
          simp only [List.drop_zero] at e
          rw [e]; simp [nameOf]
        · rw [if_neg h0, e]; simp
      have H := Lib.hid hn
      clear hn
      go_wp2_with fail
      go_ret
      exact ⟨by rw [H.out]; rfl, rfl⟩

structure Blank (l : List UInt8) (w : World) (e : Ending) (w' : World) : Prop where
  ex : ∃ k n : Nat, e = .returned (.int .i64 (k : Int)) ∧ Skips l k ∧ Firm (l.drop k) ∧ w' = w.drewN n
theorem u8_ne {c d : UInt8} (h : c ≠ d) : ((c.toNat : Int) == (d.toNat : Int)) = false := by
  rw [beq_eq_false_iff_ne]; intro e; apply h; rw [← UInt8.toNat_inj]; omega
theorem u8_is {c d : UInt8} (h : c = d) : ((c.toNat : Int) == (d.toNat : Int)) = true := by rw [h]; simp
theorem blank_any (s : ByteArray) (w : World) (hs : s.size ≤ 4000) :
    Calls Tryz.prog 96 #[.string s] w (Blank (bl s) w) := by
  go_enter Tryz.func96, Tryz.ntmps96
  go_wp2_with fail
  go_loopw [3] (fun i wr => ∃ (k n : Nat), i = .int .i64 (k : Int) ∧ Skips (bl s) k ∧ wr = w.drewN n) (fun i _ => s.size - (intOf i).toNat)
  case atStart => exact ⟨0, 0, rfl, Skips.zero _, rfl⟩
  case round =>
    obtain ⟨k, n, rfl, hk, rfl⟩ := hrel
    have HK := Lib.hid hk
    have hle := hk.le
    rw [bl_length] at hle
    clear hk
    by_cases hlt : k < s.size
    · have HD := Lib.hid (bl_drop s k hlt)
      by_cases h35 : s[k] = 35
      · have c1 : ((s[k].toNat : Int) == 35) = true := u8_is h35
        have hnote : Lx.step ((bl s).drop k) = .skip (((bl s).drop k).takeWhile (· != 10)).length := by rw [HD.out, h35]; exact step_note _
        have H35 := Lib.hid h35
        clear h35
        obtain ⟨m, hm⟩ : ∃ m, m = (((bl s).drop k).takeWhile (· != 10)).length := ⟨_, rfl⟩
        have hm1 : 1 ≤ m := by rw [hm, HD.out, H35.out]; simp
        have hm2 : m ≤ s.size - k := by
          have := takeWhile_le (· != 10) ((bl s).drop k)
          rw [List.length_drop, bl_length] at this
          omega
        have HN := Lib.hid hnote
        have HM := Lib.hid hm
        clear hnote hm
        have hz : (s.extract k s.size).size ≤ 9223372036854775807 := by rw [size_ext s k _ (by omega) (by omega)]; omega
        go_wp2_with (go_at_call 111; refine (line_any _ _ hz).mono ?_; rw [bl_end, ← HM.out]; rintro e w' ⟨rfl, n', rfl⟩)
        go_roundw
        case rel => exact ⟨k + m, _, by first | go_num | (congr 1; omega), HK.out.more (by rw [HD.out]; simp) (by rw [HN.out, HM.out]) (by omega) (by rw [bl_length]; omega), rfl⟩
        case measure => simp [intOf]; omega
      · have c1 : ((s[k].toNat : Int) == 35) = false := u8_ne h35
        have H35 := Lib.hid h35
        clear h35
        by_cases hsp : isSpace s[k] = true
        · have HS := Lib.hid hsp
          have h4 : s[k] = 32 ∨ s[k] = 9 ∨ s[k] = 10 ∨ s[k] = 13 := by unfold isSpace at hsp; simpa [or_assoc] using hsp
          clear hsp
          have hstep : Lx.step ((bl s).drop k) = .skip 1 := by rw [HD.out]; exact step_space _ HS.out
          have HT := Lib.hid hstep
          clear hstep
          have hnum : IntKind.i64.wrap ((k : Int) + 1) = (k : Int) + 1 := IntWalk.i64_in _ (by omega)
          rcases h4 with h | h | h | h
          · have c2 : ((s[k].toNat : Int) == 32) = true := by rw [h]; rfl
            clear h
            go_wp2_with fail
            go_roundw
            case rel => exact ⟨k + 1, _, by go_num, HK.out.more (by rw [HD.out]; simp) HT.out (by omega) (by rw [bl_length]; omega), rfl⟩
            case measure => simp [intOf]; omega
          · have c2 : ((s[k].toNat : Int) == 32) = false := by rw [h]; rfl
            have c3 : ((s[k].toNat : Int) == 9) = true := by rw [h]; rfl
            clear h
            go_wp2_with fail
            go_roundw
            case rel => exact ⟨k + 1, _, by go_num, HK.out.more (by rw [HD.out]; simp) HT.out (by omega) (by rw [bl_length]; omega), rfl⟩
            case measure => simp [intOf]; omega
          · have c2 : ((s[k].toNat : Int) == 32) = false := by rw [h]; rfl
            have c3 : ((s[k].toNat : Int) == 9) = false := by rw [h]; rfl
            have c4 : ((s[k].toNat : Int) == 10) = true := by rw [h]; rfl
            clear h
            go_wp2_with fail
            go_roundw
            case rel => exact ⟨k + 1, _, by go_num, HK.out.more (by rw [HD.out]; simp) HT.out (by omega) (by rw [bl_length]; omega), rfl⟩
            case measure => simp [intOf]; omega
          · have c2 : ((s[k].toNat : Int) == 32) = false := by rw [h]; rfl
            have c3 : ((s[k].toNat : Int) == 9) = false := by rw [h]; rfl
            have c4 : ((s[k].toNat : Int) == 10) = false := by rw [h]; rfl
            have c5 : ((s[k].toNat : Int) == 13) = true := by rw [h]; rfl
            clear h
            go_wp2_with fail
            go_roundw
            case rel => exact ⟨k + 1, _, by go_num, HK.out.more (by rw [HD.out]; simp) HT.out (by omega) (by rw [bl_length]; omega), rfl⟩
            case measure => simp [intOf]; omega
        · have hsp : isSpace s[k] = false := by simpa using hsp
          have HS := Lib.hid hsp
          have h4 : s[k] ≠ 32 ∧ s[k] ≠ 9 ∧ s[k] ≠ 10 ∧ s[k] ≠ 13 := by unfold isSpace at hsp; simpa [and_assoc] using hsp
          have c2 : ((s[k].toNat : Int) == 32) = false := u8_ne h4.1
          have c3 : ((s[k].toNat : Int) == 9) = false := u8_ne h4.2.1
          have c4 : ((s[k].toNat : Int) == 10) = false := u8_ne h4.2.2.1
          have c5 : ((s[k].toNat : Int) == 13) = false := u8_ne h4.2.2.2
          clear hsp h4
          go_wp2_with fail
          go_ret
          exact ⟨k, n, rfl, HK.out, .inr (fun m => by rw [HD.out]; exact step_firm _ HS.out H35.out m), rfl⟩
    · obtain rfl : s.size = k := by omega
      go_wp2_with fail
      go_ret
      exact ⟨_, n, rfl, HK.out, .inl (List.drop_of_length_le (by rw [bl_length]; omega)), rfl⟩

end Go.Proofs.YtpgmapjjjpcmfaaGreatDoor

namespace Go.Proofs.YtpgmapjjjpcmfaaGreatDoor
open Go.RowKit
open Lx
set_option linter.unusedVariables false
set_option linter.unusedSimpArgs false

def eK (k : Nat) : Nat := [3, 3, 3, 3, 4, 4, 4, 4, 4].getD k 0
def eB (k : Nat) : Nat := [92, 34, 110, 116, 92, 93, 45, 110, 116].getD k 0
def eT (k : Nat) : Nat := [92, 34, 10, 9, 92, 93, 45, 10, 9].getD k 0
def escCells : List Value := (List.range 9).flatMap fun k => [.int .i64 (eK k : Int), .int .u8 (eB k : Int), .int .u8 (eT k : Int)]
/-- The table of escapes lies where the program's text lays it. -/
def Tab (w : World) : Prop := w.rangeAt 1 0 escCells
theorem Tab.below {B : Nat} {w w' : World} (h : Tab w) (hb : Below B w w') (h0 : 1 < B) : Tab w' := fun j v hj => (hb.cell (p := ⟨1, _, none⟩) h0).trans (h j v hj)
theorem Tab.drewN {w : World} (h : Tab w) (n : Nat) : Tab (w.drewN n) := h
theorem Tab.alloc {w : World} (h : Tab w) (h0 : 1 < w.heap.size) (o : Obj) : Tab (w.alloc o) := fun j v hj => (World.cell?_alloc_lt w o ⟨1, _, none⟩ h0).trans (h j v hj)

def escV (kind : Nat) : List UInt8 → UInt8 × Bool
  | [] => (0, false)
  | c :: _ => match esc kind c with
    | none => (0, false)
    | some b => (b, true)

theorem escV_none {kind : Nat} {c : UInt8} (r : List UInt8) (h : esc kind c = none) : escV kind (c :: r) = (0, false) := by simp [escV, h]
theorem escV_some {kind : Nat} {c b : UInt8} (r : List UInt8) (h : esc kind c = some b) : escV kind (c :: r) = (b, true) := by simp [escV, h]
theorem eT_small {k : Nat} (hk : k < 9) : eT k < 256 := by
  match k, hk with
  | 0, _ => decide
  | 1, _ => decide
  | 2, _ => decide
  | 3, _ => decide
  | 4, _ => decide
  | 5, _ => decide
  | 6, _ => decide
  | 7, _ => decide
  | 8, _ => decide
theorem esc_hit {kind k : Nat} {c : UInt8} (hk : k < 9) (h1 : eK k = kind) (h2 : eB k = c.toNat) : esc kind c = some (UInt8.ofNat (eT k)) := by
  obtain rfl : c = UInt8.ofNat (eB k) := by rw [h2]; simp
  subst h1
  match k, hk with
  | 0, _ => decide
  | 1, _ => decide
  | 2, _ => decide
  | 3, _ => decide
  | 4, _ => decide
  | 5, _ => decide
  | 6, _ => decide
  | 7, _ => decide
  | 8, _ => decide
theorem esc_miss {kind : Nat} {c : UInt8} (hkind : kind = 3 ∨ kind = 4) (h : ∀ j, j < 9 → ¬ (eK j = kind ∧ eB j = c.toNat)) : esc kind c = none := by
  have h0 := h 0 (by decide)
  have h1 := h 1 (by decide)
  have h2 := h 2 (by decide)
  have h3 := h 3 (by decide)
  have h4 := h 4 (by decide)
  have h5 := h 5 (by decide)
  have h6 := h 6 (by decide)
  have h7 := h 7 (by decide)
  have h8 := h 8 (by decide)
  simp only [eK, eB, List.getD] at h0 h1 h2 h3 h4 h5 h6 h7 h8
  unfold esc
  have e : ∀ n : Nat, n < 256 → (c = UInt8.ofNat n ↔ n = c.toNat) := fun n hn => by
    rw [← UInt8.toNat_inj]; simp; omega
  have e1 := e 110 (by decide)
  have e2 := e 116 (by decide)
  have e3 := e 92 (by decide)
  have e4 := e 34 (by decide)
  have e5 := e 93 (by decide)
  have e6 := e 45 (by decide)
  simp only [UInt8.reduceOfNat] at e1 e2 e3 e4 e5 e6
  rcases hkind with rfl | rfl <;> simp_all

theorem Tryz.sizeTab : (Tryz.prog.info? 169).map (·.size) = some 27 := by kernel_rfl
theorem index_tab (k : Nat) (hk : k < 9) (w : World) : (Instr.index 169 (.agg escCells.toArray) (.int .i64 (k : Int))).run Tryz.prog w = .ok (.agg #[.int .i64 (eK k : Int), .int .u8 (eB k : Int), .int .u8 (eT k : Int)]) w := by
  match k, hk with
  | 0, _ => show (Instr.index _ _ _).run _ w = _; kernel_rfl
  | 1, _ => show (Instr.index _ _ _).run _ w = _; kernel_rfl
  | 2, _ => show (Instr.index _ _ _).run _ w = _; kernel_rfl
  | 3, _ => show (Instr.index _ _ _).run _ w = _; kernel_rfl
  | 4, _ => show (Instr.index _ _ _).run _ w = _; kernel_rfl
  | 5, _ => show (Instr.index _ _ _).run _ w = _; kernel_rfl
  | 6, _ => show (Instr.index _ _ _).run _ w = _; kernel_rfl
  | 7, _ => show (Instr.index _ _ _).run _ w = _; kernel_rfl
  | 8, _ => show (Instr.index _ _ _).run _ w = _; kernel_rfl

theorem escaped_any (kind : Nat) (s : ByteArray) (w : World) (hkind : kind = 3 ∨ kind = 4) (hs : s.size ≤ 9223372036854775807) (hT : Tab w) (h0 : 1 < w.heap.size) :
    Calls Tryz.prog 128 #[.int .i64 (kind : Int), .string s] w fun e w' => e = .returned (.tuple #[.int .u8 ((escV kind (bl s)).1.toNat : Int), .bool (escV kind (bl s)).2]) ∧ Below w.heap.size w w' := by
  have HT := Lib.hid hT
  clear hT
  by_cases hz : s.size = 0
  · have hb : bl s = [] := List.eq_nil_of_length_eq_zero (by rw [bl_length]; exact hz)
    rw [hb]
    have hl : s.toList = [] := by rw [Lib.toList_data]; exact hb
    have hl2 : s.toList.isEmpty = true := by rw [hl]; rfl
    clear hb
    go_enter Tryz.func128, Tryz.ntmps128
    go_wp2_with fail
    go_ret2
    exact ⟨rfl, Below.refl _ _⟩
  · have hl2 : s.toList.isEmpty = false := by
      rw [Lib.toList_data, List.isEmpty_eq_false_iff]
      intro e
      have := bl_length s
      unfold bl at this
      rw [e] at this
      simp at this; omega
    have hsz : 0 < s.size := by omega
    have hbl := bl_drop s 0 hsz
    rw [List.drop_zero] at hbl
    have HB := Lib.hid hbl
    clear hbl hz
    go_enter Tryz.func128, Tryz.ntmps128
    go_wp2_with (refine wpList_load_mid rfl 169 _ rfl 1 0 rfl escCells _ HT.out Tryz.underlying169 rfl Tryz.sizeTab ?_)
    go_loopw [11] (fun i wr => ∃ k : Nat, k ≤ 9 ∧ i = .int .i64 (k : Int) ∧ (∀ j, j < k → ¬ (eK j = kind ∧ eB j = s[0].toNat)) ∧ Below w.heap.size w wr) (fun i _ => 9 - (intOf i).toNat)
    case atStart => exact ⟨0, by omega, rfl, fun j hj => by omega, Below.refl _ _⟩
    case round =>
      obtain ⟨k, hk, rfl, hno, hbel⟩ := hrel
      have HNO := Lib.hid hno
      have HBEL := Lib.hid hbel
      clear hno hbel
      by_cases hlt : k < 9
      · have hidx := index_tab k hlt
        by_cases h1 : eK k = kind
        · have t1 : (eK k == kind) = true := by simpa using h1
          have t2 : ((eK k : Int) == (kind : Int)) = true := by rw [h1]; simp
          have H1 := Lib.hid h1
          clear h1
          by_cases h2 : eB k = s[0].toNat
          · have t3 : (eB k == s[0].toNat) = true := by simpa using h2
            have t4 : ((eB k : Int) == (s[0].toNat : Int)) = true := by rw [h2]; simp
            have H2 := Lib.hid h2
            clear h2
            go_wp2_with fail
            go_quiet (fail)
            go_wp2_with fail
            go_ret2
            have e := esc_hit hlt H1.out H2.out
            refine ⟨?_, below_drewN (HBEL.out.alloc HBEL.out.size _) _⟩
            rw [HB.out, escV_some _ e]
            have e2 : (UInt8.ofNat (eT k)).toNat = eT k := by have := eT_small hlt; simp; omega
            rw [e2]; rfl
          · have t3 : (eB k == s[0].toNat) = false := by simpa using h2
            have t4 : ((eB k : Int) == (s[0].toNat : Int)) = false := by rw [beq_eq_false_iff_ne]; omega
            have H2 := Lib.hid h2
            clear h2
            go_wp2_with fail
            go_quiet (fail)
            go_wp2_with fail
            go_roundw
            case rel => exact ⟨k + 1, by omega, by go_num, fun j hj => by
              by_cases e : j = k
              · subst e; exact fun h => H2.out h.2
              · exact HNO.out j (by omega), below_drewN (HBEL.out.alloc HBEL.out.size _) _⟩
            case measure => simp [intOf]; omega
        · have t1 : (eK k == kind) = false := by simpa using h1
          have t2 : ((eK k : Int) == (kind : Int)) = false := by rw [beq_eq_false_iff_ne]; omega
          have H1 := Lib.hid h1
          clear h1
          go_wp2_with fail
          go_quiet (fail)
          go_wp2_with fail
          go_roundw
          case rel => exact ⟨k + 1, by omega, by go_num, fun j hj => by
            by_cases e : j = k
            · subst e; exact fun h => H1.out h.1
            · exact HNO.out j (by omega), below_drewN (HBEL.out.alloc HBEL.out.size _) _⟩
          case measure => simp [intOf]; omega
      · obtain rfl : k = 9 := by omega
        go_wp2_with fail
        go_ret2
        have e := esc_miss hkind HNO.out
        refine ⟨?_, HBEL.out⟩
        rw [HB.out, escV_none _ e]; rfl

theorem u8info : (Tryz.prog.info? 5).map (fun i => (i.zero, i.size, i.bytes)) = some (some (.int .u8 0), 1, 1) := by kernel_rfl
def bytesV (l : List UInt8) : List Value := l.map fun b => .int .u8 (b.toNat : Int)
theorem bytesV_length (l : List UInt8) : (bytesV l).length = l.length := by simp [bytesV]
theorem bytesV_snoc (l : List UInt8) (b : UInt8) : bytesV (l ++ [b]) = bytesV l ++ [.int .u8 (b.toNat : Int)] := by simp [bytesV]
/-- 'string(b)' of a row of one's own. -/
theorem own_string {w : World} {B g n cap : Nat} {l : List UInt8} (h : w.ownsRow B 5 1 (.slice (some ⟨g, 0, none⟩) n cap) n (bytesV l)) :
    (convert 52 9 (.slice (some ⟨g, 0, none⟩) n cap)).run Tryz.prog w = .ok (.string (str l)) w := by
  have hn : n = l.length := by have := h.1; rw [bytesV_length] at this; omega
  subst hn
  refine run_convert_bytes_back w _ _ 5 _ cap l Tryz.underlying52 Tryz.underlying5 Tryz.underlying9 fun j hj => ?_
  exact h.cells (g := g) rfl j _ (by simp [bytesV, hj])
theorem own_string0 {w : World} {B : Nat} {v : Value} (h : w.ownsRow B 5 1 v 0 []) :
    (convert 52 9 v).run Tryz.prog w = .ok (.string (str [])) w := by
  rcases own_shape h with ⟨rfl, _⟩ | ⟨g, cap, rfl, _⟩
  · exact run_convert_bytes_nil w _ 5 Tryz.underlying52 Tryz.underlying5 0 0 _ Tryz.underlying9
  · exact own_string (l := []) h

set_option maxRecDepth 100000 in
theorem own_str {w : World} {B n cap : Nat} {ao : Option Addr} {l : List UInt8} (h : w.ownsRow B 5 1 (.slice ao n cap) n (bytesV l)) :
    (convert 52 9 (.slice ao n cap)).run Tryz.prog w = .ok (.string (str l)) w := by
  rcases own_shape h with ⟨e, hn, hx⟩ | ⟨g, cap', e, _⟩
  · have hl : l = [] := by
      have := congrArg List.length hx
      rw [bytesV_length] at this
      exact List.eq_nil_of_length_eq_zero this
    subst hn hl
    exact own_string0 h
  · injection e with e1 _ _
    subst e1
    exact own_string h
theorem one_cell (w : World) (x : Value) (t : TypeId) : ∀ j u, [x][j]? = some u → (w.alloc (.cells #[x] t)).cell? ((⟨w.heap.size, 0, none⟩ : Addr).add j) = some u := by
  intro j u hj
  match j, hj with
  | 0, hj => simp at hj; subst hj; simp [Addr.add]
theorem one_one {x : Value} (h : x.oneCell' = true) : ∀ u ∈ [x], u.oneCell' = true := by
  intro u hu; simp at hu; subst hu; exact h
theorem own_form {w : World} {B e size n : Nat} {v : Value} {xs : List Value} (h : w.ownsRow B e size v n xs) : ∃ ao cap, v = .slice ao n cap := by
  rcases own_shape h with ⟨rfl, rfl, _⟩ | ⟨g, cap, e, _⟩
  · exact ⟨_, _, rfl⟩
  · exact ⟨_, _, e⟩
theorem own_lt {w : World} {B e size n : Nat} {v : Value} {xs : List Value} (h : w.ownsRow B e size v n xs) : ∀ k, v.ownBlock = some k → B ≤ k ∧ k < w.heap.size := fun k hk => h.lt k hk

theorem text_quote (r told : List UInt8) (i : Nat) : text (34 :: r) told i = (if told = [] then .bad 10 0 else if 32 < told.length then .bad 12 0 else .mark 3 told (i + 1)) := by
  rw [text.eq_def]; rfl
theorem text_lf (r told : List UInt8) (i : Nat) : text (10 :: r) told i = .bad 11 0 := by rw [text.eq_def]; rfl
theorem text_end (told : List UInt8) (i : Nat) : text [] told i = .bad 11 0 := by rw [text.eq_def]
theorem text_esc (r told : List UInt8) (i : Nat) : text (92 :: r) told i = if (escV 3 r).2 = true then text (r.drop 1) (told ++ [(escV 3 r).1]) (i + 2) else .bad 10 i := by
  rw [text.eq_def]
  cases r with
  | nil => rfl
  | cons d r' =>
    simp only [if_neg (show ¬ (92 : UInt8) = 34 by decide), if_neg (show ¬ (92 : UInt8) = 10 by decide), if_true]
    cases h : esc 3 d with
    | none => simp [escV, h]
    | some b => simp [escV, h]
theorem text_else {c : UInt8} (r told : List UInt8) (i : Nat) (h1 : c ≠ 34) (h2 : c ≠ 10) (h3 : c ≠ 92) : text (c :: r) told i = text r (told ++ [c]) (i + 1) := by
  rw [text.eq_def]; simp only [if_neg h1, if_neg h2, if_neg h3]

set_option maxHeartbeats 1000000 in
theorem text_any (s : ByteArray) (w : World) (hs : s.size ≤ 4000) (hT : Tab w) (h0 : 1 < w.heap.size) :
    Calls Tryz.prog 113 #[.string s] w fun e w' => e = .returned (pieceV (text ((bl s).drop 1) [] 1)) ∧ Below w.heap.size w w' := by
  have HT := Lib.hid hT
  clear hT
  generalize hst : text ((bl s).drop 1) [] 1 = st
  have HST := Lib.hid hst
  clear hst
  obtain ⟨i0, hi, hz0, hz1, hz2⟩ := info_parts u8info
  go_enter Tryz.func113, Tryz.ntmps113
  go_wp2_with fail
  go_loopw [3, 4] (fun v i wr => ∃ (k : Nat) (told : List UInt8) (ao : Option Addr) (cap : Nat), 1 ≤ k ∧ told.length ≤ k ∧ i = .int .i64 (k : Int) ∧ v = .slice ao told.length cap ∧ wr.ownsRow (w.heap.size + 1) 5 1 (.slice ao told.length cap) told.length (bytesV told) ∧ text ((bl s).drop k) told k = st ∧ At wr w.heap.size 131 #[.int .i64 0, .string ⟨#[]⟩, .int .i64 0, .int .i64 0] ∧ Below w.heap.size w wr) (fun _ i _ => s.size - (intOf i).toNat)
  case atStart => exact ⟨1, [], _, _, by omega, by simp, rfl, rfl, World.ownsRow_nil _ _ _ _, HST.out, At.new _ _ _, (Below.refl _ _).alloc (Nat.le_refl _) _⟩
  case round =>
    obtain ⟨k, told, ao, cap, hk1, hl, rfl, rfl, hown, htx, hat, hbel⟩ := hrel
    have HOWN := Lib.hid hown
    have HTX := Lib.hid htx
    have HAT := Lib.hid hat
    have HBEL := Lib.hid hbel
    clear hown htx hat hbel
    by_cases hlt : k < s.size
    · have HD := Lib.hid (bl_drop s k hlt)
      by_cases h34 : s[k] = 34
      · have c1 : ((s[k].toNat : Int) == 34) = true := u8_is h34
        have hm := (HTX.out.symm.trans (by rw [HD.out, h34])).trans (text_quote ((bl s).drop (k + 1)) told k)
        have HM := Lib.hid hm
        clear hm h34
        by_cases hn : told = []
        · subst hn
          go_wp2_with fail
          refine (fault_any 10 0 _).mono ?_
          rintro e w1 ⟨rfl, hb⟩
          first | (rename_i hK; refine hK _ _ ?_) | (rename_i hK _; refine hK _ _ ?_) | (rename_i hK _ _; refine hK _ _ ?_) | (rename_i hK _ _ _; refine hK _ _ ?_)
          have HA := Lib.hid (HAT.out.below hb HAT.out.lt)
          refine wpList_store_at rfl _ _ _ rfl rfl w.heap.size _ _ [_, _, _, _] rfl rfl HA.out 4 Tryz.sizePiece rfl rfl rfl ?_
          intro w2 hat hg
          go_wp2_with fail
          exact bodyPost_ret (results_cell_row rfl _ _ w.heap.size _ _ (0, 0) _ rfl hat Tryz.underlying131 rfl Tryz.sizePiece) rfl ⟨by rw [HM.out]; rfl, below_grown (HBEL.out.trans (hb.mono HBEL.out.size)) hg (by have := hb.size; have := HBEL.out.size; omega) (Nat.le_refl _)⟩
        · have hpos : 0 < told.length := List.length_pos_iff.2 hn
          have hpi : ((told.length : Int) == 0) = false := by rw [beq_eq_false_iff_ne]; omega
          have hpn : (told.length == 0) = false := by rw [beq_eq_false_iff_ne]; omega
          have kc := own_str HOWN.out
          have hq : (if 32 < (str told).size then Step.bad 12 0 else Step.mark 3 (str told).data.toList (k + 1)) = st := by rw [HM.out, if_neg hn]; rfl
          have HQ := Lib.hid hq
          clear hq
          go_wp2_with fail
          rw [show ((k : Int) + 1) = ((k + 1 : Nat) : Int) by omega]
          refine (limited_any 3 (k + 1) 32 (str told) _ (by show told.length ≤ _; omega)).mono ?_
          rw [HQ.out]
          rintro e w1 ⟨rfl, hb⟩
          unfold pieceV
          first | (rename_i hK; refine hK _ _ ?_) | (rename_i hK _; refine hK _ _ ?_) | (rename_i hK _ _; refine hK _ _ ?_) | (rename_i hK _ _ _; refine hK _ _ ?_)
          have HA := Lib.hid (HAT.out.below hb HAT.out.lt)
          refine wpList_store_at rfl _ _ _ rfl rfl w.heap.size _ _ [_, _, _, _] rfl rfl HA.out 4 Tryz.sizePiece rfl rfl rfl ?_
          intro w2 hat hg
          go_wp2_with fail
          exact bodyPost_ret (results_cell_row rfl _ _ w.heap.size _ _ (0, 0) _ rfl hat Tryz.underlying131 rfl Tryz.sizePiece) rfl ⟨rfl, below_grown (HBEL.out.trans (hb.mono HBEL.out.size)) hg (by have := hb.size; have := HBEL.out.size; omega) (Nat.le_refl _)⟩
      · have c1 : ((s[k].toNat : Int) == 34) = false := u8_ne h34
        by_cases h10 : s[k] = 10
        · have c2 : ((s[k].toNat : Int) == 10) = true := u8_is h10
          have hm := (HTX.out.symm.trans (by rw [HD.out, h10])).trans (text_lf ((bl s).drop (k + 1)) told k)
          have HM := Lib.hid hm
          clear hm h10 h34
          go_wp2_with fail
          refine (fault_any 11 0 _).mono ?_
          rintro e w1 ⟨rfl, hb⟩
          first | (rename_i hK; refine hK _ _ ?_) | (rename_i hK _; refine hK _ _ ?_) | (rename_i hK _ _; refine hK _ _ ?_) | (rename_i hK _ _ _; refine hK _ _ ?_)
          have HA := Lib.hid (HAT.out.below hb HAT.out.lt)
          refine wpList_store_at rfl _ _ _ rfl rfl w.heap.size _ _ [_, _, _, _] rfl rfl HA.out 4 Tryz.sizePiece rfl rfl rfl ?_
          intro w2 hat hg
          go_wp2_with fail
          exact bodyPost_ret (results_cell_row rfl _ _ w.heap.size _ _ (0, 0) _ rfl hat Tryz.underlying131 rfl Tryz.sizePiece) rfl ⟨by rw [HM.out]; rfl, below_grown (HBEL.out.trans (hb.mono HBEL.out.size)) hg (by have := hb.size; have := HBEL.out.size; omega) (Nat.le_refl _)⟩
        · have c2 : ((s[k].toNat : Int) == 10) = false := u8_ne h10
          by_cases h92 : s[k] = 92
          · have c3 : ((s[k].toNat : Int) == 92) = true := u8_is h92
            have hm := (HTX.out.symm.trans (by rw [HD.out, h92])).trans (text_esc ((bl s).drop (k + 1)) told k)
            have HM := Lib.hid hm
            clear hm h10 h34 h92
            have hz : (s.extract (k + 1) s.size).size ≤ 9223372036854775807 := by rw [size_ext s _ _ (by omega) (by omega)]; omega
            have hkk : ((k : Int) + 1).toNat = k + 1 := by omega
            have hsz := HBEL.out.size
            rcases hev : escV 3 ((bl s).drop (k + 1)) with ⟨b, ok⟩
            have HEV := Lib.hid hev
            have HM2 : Hid (st = if ok = true then text (((bl s).drop (k + 1)).drop 1) (told ++ [b]) (k + 2) else .bad 10 k) := Lib.hid (by rw [HM.out, hev])
            clear hev
            cases ok with
            | false =>
              go_wp2_with fail
              refine (escaped_any 3 _ _ (.inl rfl) hz (HT.out.below HBEL.out h0) (by omega)).mono ?_
              rw [bl_end, HEV.out]
              rintro e w1 ⟨rfl, hb0⟩
              have HAT1 := Lib.hid (HAT.out.below hb0 HAT.out.lt)
              have HBEL1 := Lib.hid (HBEL.out.trans (hb0.mono HBEL.out.size))
              clear hb0
              go_wp2_with fail
              refine (fault_any 10 k _).mono ?_
              rintro e w1 ⟨rfl, hb⟩
              first | (rename_i hK; refine hK _ _ ?_) | (rename_i hK _; refine hK _ _ ?_) | (rename_i hK _ _; refine hK _ _ ?_) | (rename_i hK _ _ _; refine hK _ _ ?_)
              have HA := Lib.hid (HAT1.out.below hb HAT1.out.lt)
              refine wpList_store_at rfl _ _ _ rfl rfl w.heap.size _ _ [_, _, _, _] rfl rfl HA.out 4 Tryz.sizePiece rfl rfl rfl ?_
              intro w2 hat hg
              go_wp2_with fail
              exact bodyPost_ret (results_cell_row rfl _ _ w.heap.size _ _ (0, 0) _ rfl hat Tryz.underlying131 rfl Tryz.sizePiece) rfl ⟨by rw [HM2.out]; rfl, below_grown (HBEL1.out.trans (hb.mono HBEL1.out.size)) hg (by have := hb.size; have := HBEL1.out.size; omega) (Nat.le_refl _)⟩
            | true =>
              have hc3 : told.length + 1 ≤ maxLen := by unfold maxLen; omega
              have hc4 : (told.length + 1) * 1 ≤ 140737488355328 := by omega
              go_wp2_with fail
              refine (escaped_any 3 _ _ (.inl rfl) hz (HT.out.below HBEL.out h0) (by omega)).mono ?_
              rw [bl_end, HEV.out]
              rintro e w1 ⟨rfl, hb0⟩
              have HAT1 := Lib.hid (HAT.out.below hb0 HAT.out.lt)
              have HBEL1 := Lib.hid (HBEL.out.trans (hb0.mono HBEL.out.size))
              have HOWN1 := Lib.hid (own_below HOWN.out hb0 (fun j hj => (own_lt HOWN.out j hj).2))
              have hc5 : ∀ o, w.heap.size + 1 ≤ (w1.alloc o).heap.size := fun o => by have := HAT1.out.lt; simp; omega
              clear hb0
              go_wp2_with (at_builtin; refine wpList_append_own2 _ rfl (.tmp 49) (.tmp 51) 52 rfl (w.heap.size + 1) 5 i0 _ 1 1 Tryz.underlying52 hi hz0 hz1 hz2 rfl (by decide) _ told.length (bytesV told) rfl (HOWN1.out.alloc _) ⟨w1.heap.size, 0, none⟩ 1 1 [.int .u8 (b.toNat : Int)] rfl rfl (one_cell _ _ _) (one_one rfl) hc3 hc4 (hc5 _) ?_)
              intro v' w5 hown' hgrow hsn
              obtain ⟨ao', cap', rfl⟩ := own_form hown'
              have R5 : w5.ownsRow (w.heap.size + 1) 5 1 (.slice ao' (told.length + 1) cap') (told.length + 1) (bytesV (told ++ [b])) ∧ At w5 w.heap.size 131 #[.int .i64 0, .string ⟨#[]⟩, .int .i64 0, .int .i64 0] ∧ Below w.heap.size w w5 :=
                ⟨by rw [bytesV_snoc]; exact hown', (HAT1.out.alloc _).grown hgrow (fun e => by have := (own_lt HOWN1.out _ e.symm).1; omega), (HBEL1.out.alloc HBEL1.out.size _).grown hgrow (by simp; exact Nat.le_trans HBEL1.out.size (Nat.le_succ _)) (fun j hj => by have := (own_lt HOWN1.out _ hj).1; omega)⟩
              have HR := Lib.hid R5
              clear hown' hgrow hsn R5
              go_wp2_with fail
              go_roundw
              case rel => exact ⟨k + 2, told ++ [b], ao', cap', by omega, by simp; omega, by first | go_num | (congr 1; omega), by simp, by simpa using HR.out.1, by rw [HM2.out, if_pos trivial, List.drop_drop], HR.out.2⟩
              case measure => simp [intOf]; omega
          · have c3 : ((s[k].toNat : Int) == 92) = false := u8_ne h92
            have hm := (HTX.out.symm.trans (by rw [HD.out])).trans (text_else ((bl s).drop (k + 1)) told k h34 h10 h92)
            have HM := Lib.hid hm
            clear hm h10 h34 h92
            have hc3 : told.length + 1 ≤ maxLen := by unfold maxLen; omega
            have hc4 : (told.length + 1) * 1 ≤ 140737488355328 := by omega
            have hc5 : ∀ o, w.heap.size + 1 ≤ (wr.alloc o).heap.size := fun o => by have := HAT.out.lt; simp; omega
            go_wp2_with (at_builtin; refine wpList_append_own2 _ rfl (.tmp 49) (.tmp 51) 52 rfl (w.heap.size + 1) 5 i0 _ 1 1 Tryz.underlying52 hi hz0 hz1 hz2 rfl (by decide) _ told.length (bytesV told) rfl (HOWN.out.alloc _) ⟨wr.heap.size, 0, none⟩ 1 1 [.int .u8 (s[k].toNat : Int)] rfl rfl (one_cell _ _ _) (one_one rfl) hc3 hc4 (hc5 _) ?_)
            intro v' w5 hown' hgrow hsn
            obtain ⟨ao', cap', rfl⟩ := own_form hown'
            have R5 : w5.ownsRow (w.heap.size + 1) 5 1 (.slice ao' (told.length + 1) cap') (told.length + 1) (bytesV (told ++ [s[k]])) ∧ At w5 w.heap.size 131 #[.int .i64 0, .string ⟨#[]⟩, .int .i64 0, .int .i64 0] ∧ Below w.heap.size w w5 :=
              ⟨by rw [bytesV_snoc]; exact hown', (HAT.out.alloc _).grown hgrow (fun e => by have := (own_lt HOWN.out _ e.symm).1; omega), (HBEL.out.alloc HBEL.out.size _).grown hgrow (by simp; exact Nat.le_trans HBEL.out.size (Nat.le_succ _)) (fun j hj => by have := (own_lt HOWN.out _ hj).1; omega)⟩
            have HR := Lib.hid R5
            clear hown' hgrow hsn R5
            go_wp2_with fail
            go_roundw
            case rel => exact ⟨k + 1, told ++ [s[k]], ao', cap', by omega, by simp; omega, by first | go_num | (congr 1; omega), by simp, by simpa using HR.out.1, HM.out.symm, HR.out.2⟩
            case measure => simp [intOf]; omega
    · have hm := (HTX.out.symm.trans (by rw [List.drop_of_length_le (by rw [bl_length]; omega)])).trans (text_end told k)
      have HM := Lib.hid hm
      clear hm
      go_wp2_with fail
      refine (fault_any 11 0 _).mono ?_
      rintro e w1 ⟨rfl, hb⟩
      first | (rename_i hK; refine hK _ _ ?_) | (rename_i hK _; refine hK _ _ ?_) | (rename_i hK _ _; refine hK _ _ ?_) | (rename_i hK _ _ _; refine hK _ _ ?_)
      have HA := Lib.hid (HAT.out.below hb HAT.out.lt)
      refine wpList_store_at rfl _ _ _ rfl rfl w.heap.size _ _ [_, _, _, _] rfl rfl HA.out 4 Tryz.sizePiece rfl rfl rfl ?_
      intro w2 hat hg
      go_wp2_with fail
      exact bodyPost_ret (results_cell_row rfl _ _ w.heap.size _ _ (0, 0) _ rfl hat Tryz.underlying131 rfl Tryz.sizePiece) rfl ⟨by rw [HM.out]; rfl, below_grown (HBEL.out.trans (hb.mono HBEL.out.size)) hg (by have := hb.size; have := HBEL.out.size; omega) (Nat.le_refl _)⟩

end Go.Proofs.YtpgmapjjjpcmfaaGreatDoor
