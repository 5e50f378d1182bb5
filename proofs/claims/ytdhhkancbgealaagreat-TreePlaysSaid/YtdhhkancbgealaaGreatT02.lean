import Derived.WalkKit
import Derived.Test.YtdhhkancbgealaaGreatT00
import Derived.BigQuiet
import Derived.Deep.QuietTactic
import Derived.Lib.Hide
import Derived.Great.BuildSlice
import Derived.Laws.Rows
import Derived.OwnWalk
import Derived.Shelf.Strings.Search1
import Derived.WalkLawsBesides
import Derived.Outline
import Derived.IntWalk
import Derived.Deep.LoopGhost
import Derived.Test.YtdhhkancbgealaaGreatT01
import Derived.Deep.MidRow
import Derived.Laws.IdiomStrings
import Derived.Deep.RegionHeld3
import Derived.Deep.DrawnRows
import Derived.Deep.WholeRow
import Derived.Laws.NewBlocks
import Derived.Deep.RegionWith
section
namespace Go.Proofs.YtdhhkancbgealaaGreat
namespace Lx
inductive Step where
  | skip (n : Nat)
  | mark (kind : Nat) (text : List UInt8) (n : Nat)
  | bad (code n : Nat)
deriving DecidableEq
def isSmall (c : UInt8) : Bool := 97 ≤ c && c ≤ 122
def isLetter (c : UInt8) : Bool := isSmall c || (65 ≤ c && c ≤ 90) || c == 95
def isDigit (c : UInt8) : Bool := 48 ≤ c && c ≤ 57
def isName (c : UInt8) : Bool := isLetter c || isDigit c
def esc (kind : Nat) (c : UInt8) : Option UInt8 :=
  if c = 110 then some 10 else if c = 116 then some 9 else if c = 92 then some 92
  else if kind = 3 then (if c = 34 then some 34 else none) else (if c = 93 then some 93 else if c = 45 then some 45 else none)
def text : List UInt8 → List UInt8 → Nat → Step
  | [], _, _ => .bad 11 0
  | c :: r, told, i =>
    if c = 34 then (if told = [] then .bad 10 0 else if 32 < told.length then .bad 12 0 else .mark 3 told (i + 1))
    else if c = 10 then .bad 11 0
    else if c = 92 then
      match r with
      | [] => .bad 10 i
      | d :: r' => match esc 3 d with
        | none => .bad 10 i
        | some b => text r' (told ++ [b]) (i + 2)
    else text r (told ++ [c]) (i + 1)
def rising (has : Nat → Bool) : List UInt8 := ((List.range 256).filter has).map UInt8.ofNat
structure Parts where
  has : Nat → Bool
  single : Option Nat
  dash : Nat
def none_ : Parts := ⟨fun _ => false, none, 0⟩
def Parts.put (p : Parts) (b : UInt8) : Option Parts :=
  if p.dash = 0 then some ⟨fun j => p.has j || j == b.toNat, some b.toNat, 0⟩
  else if b.toNat < p.single.getD 0 then none
  else some ⟨fun j => p.has j || (p.single.getD 0 ≤ j && j ≤ b.toNat), none, 0⟩
def cls : List UInt8 → Nat → Parts → Step
  | [], _, _ => .bad 11 0
  | c :: r, i, p =>
    if c = 93 then (if 0 < p.dash then .bad 10 p.dash else if rising p.has = [] then .bad 10 0 else .mark 4 (rising p.has) (i + 1))
    else if c = 10 then .bad 11 0
    else if c = 45 ∧ p.dash = 0 then
      match p.single with
      | none => .bad 10 i
      | some _ => cls r (i + 1) { p with dash := i }
    else if c = 92 then
      match r with
      | [] => .bad 10 i
      | d :: r' => match esc 4 d with
        | none => .bad 10 i
        | some b => match p.put b with
          | none => .bad 10 p.dash
          | some q => cls r' (i + 2) q
    else match p.put c with
      | none => .bad 10 p.dash
      | some q => cls r (i + 1) q
def act : List UInt8 → List UInt8 → Nat → Step
  | [], _, _ => .bad 11 0
  | c :: r, acc, o =>
    if c = 123 then (if o = 4 then .bad 13 (acc.length + 1) else act r (acc ++ [c]) (o + 1))
    else if c = 125 then (if o = 1 then (if 200 < acc.length then .bad 12 0 else .mark 9 acc (acc.length + 2)) else act r (acc ++ [c]) (o - 1))
    else act r (acc ++ [c]) o
def words : List (List UInt8) := [[116, 111, 107, 101, 110], [115, 107, 105, 112], [108, 101, 102, 116], [114, 105, 103, 104, 116], [110, 111, 110, 97, 115, 115, 111, 99], [115, 116, 97, 114, 116], [112, 114, 101, 99], [37]]
def wordOf (l : List UInt8) : List UInt8 := if l.head? = some 37 then [37] else l.takeWhile isSmall
def word (l : List UInt8) : Step := if wordOf l ∈ words then .mark 2 (wordOf l) (1 + (wordOf l).length) else .bad 10 0
def nameOf (l : List UInt8) : List UInt8 :=
  match l with
  | [] => []
  | c :: _ => if isLetter c then l.takeWhile isName else []
def step : List UInt8 → Step
  | [] => .skip 0
  | c :: r =>
    if c = 32 ∨ c = 9 ∨ c = 10 ∨ c = 13 then .skip 1
    else if c = 35 then .skip (1 + (r.takeWhile (· != 10)).length)
    else if isLetter c then (if 32 < (nameOf (c :: r)).length then .bad 12 0 else .mark 1 (nameOf (c :: r)) (nameOf (c :: r)).length)
    else if c = 37 then word r
    else if c = 34 then text r [] 1
    else if c = 91 then cls r 1 none_
    else if c = 123 then act r [] 1
    else if c = 43 then .mark 5 [] 1
    else if c = 58 then .mark 6 [] 1
    else if c = 124 then .mark 7 [] 1
    else if c = 59 then .mark 8 [] 1
    else .bad 10 0
inductive Out where
  | ok (ms : List (Nat × List UInt8 × Nat))
  | bad (code at_ : Nat)
def run : Nat → List UInt8 → Nat → List (Nat × List UInt8 × Nat) → Out
  | 0, _, _, acc => .ok acc
  | f + 1, l, i, acc =>
    if l = [] then .ok (acc ++ [(0, [], i)]) else
    match step l with
    | .skip n => run f (l.drop n) (i + n) acc
    | .mark k t n => run f (l.drop n) (i + n) (acc ++ [(k, t, i)])
    | .bad c n => .bad c (i + n)
def lex (l : List UInt8) : Out := if 4000 < l.length then .bad 12 0 else run (l.length + 1) l 0 []
def adv (p : Nat × Nat) (l : List UInt8) : Nat × Nat := l.foldl (fun p b => if b = 10 then (p.1 + 1, 1) else (p.1, p.2 + 1)) p
def pos (l : List UInt8) (i : Nat) : Nat × Nat := adv (1, 1) (l.take i)
structure Mk where
  kind : Nat
  text : List UInt8
  line : Nat
  col : Nat
deriving DecidableEq
def mkOf (l : List UInt8) (m : Nat × List UInt8 × Nat) : Mk := ⟨m.1, m.2.1, (pos l m.2.2).1, (pos l m.2.2).2⟩
def Out.marks (l : List UInt8) : Out → List Mk
  | .ok ms => ms.map (mkOf l)
  | .bad _ _ => []
theorem run_skip {f i n : Nat} {l : List UInt8} {acc : List (Nat × List UInt8 × Nat)} (hf : 0 < f) (hl : l ≠ []) (h : step l = .skip n) : run f l i acc = run (f - 1) (l.drop n) (i + n) acc := by
  cases f with
  | zero => omega
  | succ f => simp [run, hl, h]
example : (lex [97, 32, 123, 49, 123, 50, 125, 125]).marks [] = [⟨1, [97], 1, 1⟩, ⟨9, [49, 123, 50, 125], 1, 1⟩, ⟨0, [], 1, 1⟩] := by decide +kernel
end Lx
end Go.Proofs.YtdhhkancbgealaaGreat
namespace Go.Proofs.YtdhhkancbgealaaGreat
namespace Lx
def Step.Fits (i m : Nat) : Step → Prop
  | .skip n => i < n ∧ n ≤ i + m
  | .mark k t n => i < n ∧ n ≤ i + m ∧ 1 ≤ k ∧ k ≤ 9 ∧ t.length ≤ 256
  | .bad c n => n ≤ i + m ∧ 10 ≤ c ∧ c ≤ 13
theorem Step.Fits.mono {i m i' m' : Nat} {s : Step} (h : s.Fits i m) (h1 : i' ≤ i) (h2 : i + m ≤ i' + m') : s.Fits i' m' := by
  cases s <;> simp only [Step.Fits] at * <;> omega
structure Skips (l : List UInt8) (k : Nat) : Prop where
  le : k ≤ l.length
  run : ∀ f i acc, l.length < f → ∃ f', l.length - k < f' ∧ Lx.run f l i acc = Lx.run f' (l.drop k) (i + k) acc
theorem Skips.zero (l : List UInt8) : Skips l 0 := ⟨by omega, fun f i acc hf => ⟨f, by omega, by simp⟩⟩
theorem Skips.more {l : List UInt8} {k n : Nat} (h : Skips l k) (hl : l.drop k ≠ []) (hs : step (l.drop k) = .skip n) (hn : 0 < n) (hle : k + n ≤ l.length) : Skips l (k + n) :=
  ⟨hle, fun f i acc hf => by
    obtain ⟨f1, h1, h2⟩ := h.run f i acc hf
    refine ⟨f1 - 1, by omega, ?_⟩
    rw [h2, run_skip (by omega) hl hs, List.drop_drop, Nat.add_assoc]⟩
end Lx
end Go.Proofs.YtdhhkancbgealaaGreat
namespace Go.Proofs.YtdhhkancbgealaaGreat
namespace Lx
end Lx
end Go.Proofs.YtdhhkancbgealaaGreat
namespace Go.Proofs.YtdhhkancbgealaaGreat
open Go.RowKit
open Lx
set_option linter.unusedVariables false
set_option linter.unusedSimpArgs false
def str (l : List UInt8) : ByteArray := ⟨l.toArray⟩
namespace Lx
def Step.size : Step → Nat
  | .skip n => n
  | .mark _ _ n => n
  | .bad _ n => n
def Step.code : Step → Nat
  | .bad c _ => c
  | _ => 0
end Lx
theorem wpList_store_at {P : Program} {ops : Array Oper} {rest : List Oper} {o : Oper} {a : Act} {w : World} {Q : Exit → Act → World → Prop} (hgd : o.guard = none) (ty : TypeId) (x y : Operand) (ho : o.op = .store ty x y)
    (hd : o.dst = none) (g : Nat) (t : TypeId) (old : Array Value) (new : List Value) (hx : a.eval x = .pointer (some ⟨g, 0, none⟩)) (hy : a.eval y = .agg new.toArray) (hg : At w g t old) (n : Nat) (hi : (P.info? ty).map (·.size) = some n)
    (hn : new.length = n) (hold : old.size = n) (h1 : new.all (·.oneCell') = true)
    (h : ∀ w', At w' g t new.toArray → w.grownBy w' (some g) → wpList P ops Q rest a w') : wpList P ops Q (o :: rest) a w :=
  wpList_store_rowTo hgd ty x y ho hd g new.toArray hx hy t old hg (by simpa [hn] using hi) (by simpa [hn] using hold) (by simpa using h1)
    (h _ (setRow_heap w g old new.toArray t (0, 0) hg) ⟨rfl, rfl, rfl, by simp, fun j _ hj => setRow_other w g j _ (fun e => hj (by simp [e]))⟩)
theorem below_grown {w w1 w2 : World} {g : Nat} {B : Nat} (h : Below B w w1) (k : w1.grownBy w2 (some g)) (hB : B ≤ w1.heap.size) (hg : B ≤ g) : Below B w w2 :=
  h.grown k hB (fun x hx => by injection hx with hx; omega)
theorem digit2_any (c : UInt8) (w : World) :
    Calls Tryz.prog 97 #[.int .u8 (c.toNat : Int)] w fun e w' => e = .returned (.bool (isDigit c)) ∧ w = w' := by
  have e : isDigit c = (decide (48 ≤ (c.toNat : Int)) && decide ((c.toNat : Int) ≤ 57)) := by
    unfold isDigit; rw [Bool.eq_iff_iff]; simp [UInt8.le_iff_toNat_le]; omega
  have E := Lib.hid e
  clear e
  go_enter Tryz.func97, Tryz.ntmps97
  go_wp2_with fail
  all_goals
    go_ret
    refine ⟨?_, rfl⟩
    rw [E.out]
    exact ret_bool (by rw [Bool.eq_iff_iff]; simp_all <;> omega)
theorem u8_eq (c : UInt8) (n : Nat) (hn : n < 256) : (c == UInt8.ofNat n) = decide ((c.toNat : Int) = n) := by
  rw [Bool.eq_iff_iff]; simp [← UInt8.toNat_inj]; omega
theorem letter_eq (c : UInt8) : isLetter c = (isSmall c || (decide (65 ≤ (c.toNat : Int)) && decide ((c.toNat : Int) ≤ 90)) || decide ((c.toNat : Int) = 95)) := by
  have e : (c == 95) = decide ((c.toNat : Int) = 95) := u8_eq c 95 (by decide)
  unfold isLetter
  rw [e]
  cases isSmall c <;> rw [Bool.eq_iff_iff] <;> simp [UInt8.le_iff_toNat_le] <;> omega
theorem letter2_any (c : UInt8) (w : World) :
    Calls Tryz.prog 96 #[.int .u8 (c.toNat : Int)] w fun e w' => e = .returned (.bool (isLetter c)) ∧ w = w' := by
  have e : isSmall c = (decide (97 ≤ (c.toNat : Int)) && decide ((c.toNat : Int) ≤ 122)) := by
    unfold isSmall; rw [Bool.eq_iff_iff]; simp [UInt8.le_iff_toNat_le]; omega
  have E := Lib.hid (letter_eq c)
  have E1 := Lib.hid e
  clear e
  go_enter Tryz.func96, Tryz.ntmps96
  go_wp2_with fail
  all_goals
    go_ret
    refine ⟨?_, rfl⟩
    rw [E.out, E1.out]
    exact ret_bool (by rw [Bool.eq_iff_iff]; simp_all <;> omega)
end Go.Proofs.YtdhhkancbgealaaGreat
namespace Go.Proofs.YtdhhkancbgealaaGreat
open Go.RowKit
open Lx
set_option linter.unusedVariables false
set_option linter.unusedSimpArgs false
def bl (s : ByteArray) : List UInt8 := s.data.toList
theorem bl_length (s : ByteArray) : (bl s).length = s.size := by simp [bl]
theorem bl_str (l : List UInt8) : bl (str l) = l := rfl
theorem bl_drop (s : ByteArray) (k : Nat) (h : k < s.size) : (bl s).drop k = s[k] :: (bl s).drop (k + 1) := by
  unfold bl
  rw [List.drop_eq_getElem_cons (by simpa using h)]; rfl
theorem name_cons (c : UInt8) (r : List UInt8) : nameOf (c :: r) = if isLetter c then (c :: r).takeWhile isName else [] := rfl
theorem letter_name {c : UInt8} (h : isLetter c = true) : isName c = true := by unfold isName; rw [h]; rfl
end Go.Proofs.YtdhhkancbgealaaGreat
namespace Go.Proofs.YtdhhkancbgealaaGreat
open Go.RowKit
open Lx
set_option linter.unusedVariables false
set_option linter.unusedSimpArgs false
def eT (k : Nat) : Nat := [92, 34, 10, 9, 92, 93, 45, 10, 9].getD k 0
theorem own_form {w : World} {B e size n : Nat} {v : Value} {xs : List Value} (h : w.ownsRow B e size v n xs) : ∃ ao cap, v = .slice ao n cap := by
  rcases own_shape h with ⟨rfl, rfl, _⟩ | ⟨g, cap, e, _⟩
  · exact ⟨_, _, rfl⟩
  · exact ⟨_, _, e⟩
theorem own_lt {w : World} {B e size n : Nat} {v : Value} {xs : List Value} (h : w.ownsRow B e size v n xs) : ∀ k, v.ownBlock = some k → B ≤ k ∧ k < w.heap.size := fun k hk => h.lt k hk
end Go.Proofs.YtdhhkancbgealaaGreat
end
section
namespace Go.Proofs.YtdhhkancbgealaaGreat
open Go.RowKit
open Lx
set_option linter.unusedVariables false
set_option linter.unusedSimpArgs false
def wordAt (j : Nat) : List UInt8 := words.getD j []
def wordsCells : Array Value := (words.map fun x => Value.string (str x)).toArray
def WordsAt (w : World) (b : Nat) : Prop := At w b 9 wordsCells
theorem WordsAt.cell {w : World} {b : Nat} (h : WordsAt w b) {j : Nat} (hj : j < 8) : w.cell? ⟨b, j, none⟩ = some (.string (str (wordAt j))) := by
  have h := At.cell h j
  rw [h]
  match j, hj with
  | 0, _ => rfl
  | 1, _ => rfl
  | 2, _ => rfl
  | 3, _ => rfl
  | 4, _ => rfl
  | 5, _ => rfl
  | 6, _ => rfl
  | 7, _ => rfl
theorem toList_eq (s : ByteArray) : s.toList = bl s := Lib.toList_data s
theorem below_drew {B : Nat} {a w : World} (h : Below B a w) : Below B a w.drew := ⟨h.os, h.tape, h.output, h.size, h.block⟩
end Go.Proofs.YtdhhkancbgealaaGreat
end
section
namespace Go.Proofs.YtdhhkancbgealaaGreat
open Go.RowKit
open Lx
set_option linter.unusedVariables false
set_option linter.unusedSimpArgs false
theorem map_get {n : Nat} (F : Nat → Value) {j : Nat} (hj : j < n) : (((List.range n).map F).toArray)[j]? = some (F j) := by simp [hj]
def setF (F : Nat → Value) (i : Nat) (v : Value) : Nat → Value := fun j => if j = i then v else F j
theorem map_set {n : Nat} (F : Nat → Value) (i : Nat) (v : Value) : (((List.range n).map F).toArray).setIfInBounds i v = ((List.range n).map (setF F i v)).toArray := by
  apply Array.ext_getElem?
  intro j
  rw [Array.getElem?_setIfInBounds]
  by_cases hj : j < n
  · rw [map_get (setF F i v) hj]
    by_cases e : i = j
    · subst e; simp [hj, setF]
    · rw [if_neg e, map_get F hj]; simp [setF, Ne.symm e]
  · have h1 : ∀ K : Nat → Value, (((List.range n).map K).toArray)[j]? = none := fun K => by apply Array.getElem?_eq_none; simp; omega
    rw [h1 F, h1]
    split
    · simp; omega
    · rfl
end Go.Proofs.YtdhhkancbgealaaGreat
namespace Go.Proofs.YtdhhkancbgealaaGreat
open Go.RowKit
open Lx
set_option linter.unusedVariables false
set_option linter.unusedSimpArgs false
end Go.Proofs.YtdhhkancbgealaaGreat
end
section
namespace Go.Proofs.YtdhhkancbgealaaGreat
open Go.RowKit
open Lx
set_option linter.unusedVariables false
set_option linter.unusedSimpArgs false
end Go.Proofs.YtdhhkancbgealaaGreat
namespace Go.Proofs.YtdhhkancbgealaaGreat
open Go.RowKit
open Lx
set_option linter.unusedVariables false
set_option linter.unusedSimpArgs false
def Lx.Mk.cells (m : Mk) : List Value := [.int .i64 (m.kind : Int), .string (str m.text), .int .i64 (m.line : Int), .int .i64 (m.col : Int)]
theorem At.heap {w w' : World} {g : Nat} {t : TypeId} {cs : Array Value} (h : At w g t cs) (e : w'.heap = w.heap) : At w' g t cs := by
  unfold At at *; rw [e]; exact h
end Go.Proofs.YtdhhkancbgealaaGreat
end
section
namespace Go.Proofs.YtdhhkancbgealaaGreat
namespace Lx
def braced (d : Nat) (l : List UInt8) : List UInt8 := List.replicate d 123 ++ l ++ List.replicate d 125
end Lx
end Go.Proofs.YtdhhkancbgealaaGreat
namespace Go.Proofs.YtdhhkancbgealaaGreat
namespace Lx
abbrev M0 := Nat × List UInt8 × Nat
def kt (m : M0) : Nat × List UInt8 := (m.1, m.2.1)
def lead (cm sp : List UInt8) : List UInt8 := 35 :: (cm ++ 10 :: sp)
end Lx
end Go.Proofs.YtdhhkancbgealaaGreat
namespace Go.Proofs.YtdhhkancbgealaaGreat
open Go.RowKit
open Lx
set_option linter.unusedVariables false
set_option linter.unusedSimpArgs false
end Go.Proofs.YtdhhkancbgealaaGreat
namespace Go.Proofs.YtdhhkancbgealaaGreat
open Go.RowKit
open Lx
set_option linter.unusedVariables false
set_option linter.unusedSimpArgs false
end Go.Proofs.YtdhhkancbgealaaGreat
namespace Go.Proofs.YtdhhkancbgealaaGreat
open Go.RowKit
open Lx
set_option linter.unusedVariables false
set_option linter.unusedSimpArgs false
end Go.Proofs.YtdhhkancbgealaaGreat
namespace Go.Proofs.YtdhhkancbgealaaGreat
open Go.RowKit Go.ChangeShapes Go.WideShapes Go.ChangeAt
open Lx
set_option linter.unusedVariables false
set_option linter.unusedSimpArgs false
structure Bytes8 (w : World) (B : Nat) (A : Option Addr) (n : Nat) (X : Nat → Nat) : Prop where
  each : ∀ i, i < n → ∃ b o, A = some ⟨b, o, none⟩ ∧ b < B ∧ w.cell? ⟨b, o + i, none⟩ = some (.int .u8 (X i : Int))
  rx : ∀ i, i < n → X i ≤ 255
  len : n ≤ 9223372036854775807
theorem Bytes8.below {w w' : World} {B : Nat} {A : Option Addr} {n : Nat} {X : Nat → Nat} (h : Bytes8 w B A n X) (hb : Below B w w') : Bytes8 w' B A n X :=
  ⟨fun i hi => by
    obtain ⟨b, o, h1, h2, h3⟩ := h.each i hi
    exact ⟨b, o, h1, h2, (hb.cell (p := ⟨b, _, none⟩) h2).trans h3⟩, h.rx, h.len⟩
section
variable {H : Type} {enc : TypeId × Value → H} {P : Program} {W : World} {base : Nat} {v : Value} {d : DataW H} {p : List MemPlace}
end
namespace Lx
end Lx
end Go.Proofs.YtdhhkancbgealaaGreat
end
