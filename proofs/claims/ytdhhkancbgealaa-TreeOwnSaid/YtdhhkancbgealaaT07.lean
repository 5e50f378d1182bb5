import Derived.Test.YtdhhkancbgealaaT06
import Derived.Test.YtdhhkancbgealaaT04
import Derived.Deep.Matrix
import Derived.Deep.RegionHeld3
import Derived.Lib.Builder
import Derived.Lib.AppendStr
import Derived.Lib.UnsafeStr
section
namespace Go.Proofs.Ytdhhkancbgealaa
namespace Rd
open Lx (Mk M0 kt)
set_option linter.unusedVariables false
set_option linter.unusedSimpArgs false
def ek (m : M0) : Mk := ⟨m.1, m.2.1, 0, 0⟩
end Rd
end Go.Proofs.Ytdhhkancbgealaa
namespace Go.Proofs.Ytdhhkancbgealaa
namespace Rd
open Lx (Mk M0 run isName isLetter isSmall)
set_option linter.unusedVariables false
set_option linter.unusedSimpArgs false
def Cut (r : List UInt8) : Prop := ∀ c t, r = c :: t → isName c = false
theorem Cut.nil : Cut [] := fun _ _ h => by cases h
theorem Cut.cons {c : UInt8} {t : List UInt8} (h : isName c = false) : Cut (c :: t) := fun _ _ e => by cases e; exact h
theorem Cut.append {p r : List UInt8} (hp : Cut p) (hr : Cut r) : Cut (p ++ r) := by
 cases p with
 | nil => exact hr
 | cons c t => exact Cut.cons (hp c t rfl)
def shift (i : Nat) (m : M0) : M0 := (m.1, m.2.1, i + m.2.2)
def Free (p : List UInt8) (ks : List M0) : Prop := ∀ (r : List UInt8) (f i : Nat) (acc : List M0), (p ++ r).length < f → ∃ f', r.length < f' ∧ run f (p ++ r) i acc = run f' r (i + p.length) (acc ++ ks.map (shift i))
def Pl (p : List UInt8) (ks : List M0) : Prop := ∀ (r : List UInt8) (f i : Nat) (acc : List M0), Cut r → (p ++ r).length < f → ∃ f', r.length < f' ∧ run f (p ++ r) i acc = run f' r (i + p.length) (acc ++ ks.map (shift i))
theorem Free.pl {p : List UInt8} {ks : List M0} (h : Free p ks) : Pl p ks := fun r f i acc _ hf => h r f i acc hf
theorem shift_shift (i j : Nat) (ks : List M0) : (ks.map (shift j)).map (shift i) = ks.map (shift (i + j)) := by
 rw [List.map_map]
 apply List.map_congr_left
 intro m _
 simp only [Function.comp, shift, Nat.add_assoc]
theorem Free.then {p q : List UInt8} {ks ls : List M0} (h : Free p ks) (k : Pl q ls) : Pl (p ++ q) (ks ++ ls.map (shift p.length)) := by
 intro r f i acc hr hf
 rw [List.append_assoc] at hf ⊢
 obtain ⟨f1, h1, e1⟩ := h (q ++ r) f i acc hf
 obtain ⟨f2, h2, e2⟩ := k r f1 (i + p.length) (acc ++ ks.map (shift i)) hr h1
 refine ⟨f2, h2, ?_⟩
 rw [e1, e2, List.length_append, List.map_append, shift_shift, Nat.add_assoc, List.append_assoc]
theorem Pl.then {p q : List UInt8} {ks ls : List M0} (h : Pl p ks) (hq : Cut q) (k : Pl q ls) : Pl (p ++ q) (ks ++ ls.map (shift p.length)) := by
 intro r f i acc hr hf
 rw [List.append_assoc] at hf ⊢
 obtain ⟨f1, h1, e1⟩ := h (q ++ r) f i acc (hq.append hr) hf
 obtain ⟨f2, h2, e2⟩ := k r f1 (i + p.length) (acc ++ ks.map (shift i)) hr h1
 refine ⟨f2, h2, ?_⟩
 rw [e1, e2, List.length_append, List.map_append, shift_shift, Nat.add_assoc, List.append_assoc]
def wd (n : Nat) : List UInt8 := [UInt8.ofNat (97 + n % 10), UInt8.ofNat (120 + n / 10 % 3)]
def tokT (n : Nat) : List UInt8 := [37, 116, 111, 107, 101, 110] ++ ([32] ++ (wd n ++ ([32] ++ ((34 :: (wd n ++ [34])) ++ [10]))))
end Rd
end Go.Proofs.Ytdhhkancbgealaa
namespace Go.Proofs.Ytdhhkancbgealaa
open Go.RowKit Go.ChangeShapes Go.WideShapes Go.ChangeAt
set_option linter.unusedVariables false
set_option linter.unusedSimpArgs false
structure Rows8 (w : World) (B : Nat) (A : Option Addr) (n : Nat) (AA : Nat → Option Addr) (NN CC : Nat → Nat) (XX : Nat → Nat → Nat) : Prop where
 each : ∀ i, i < n → ∃ b o, A = some ⟨b, o, none⟩ ∧ b < B ∧ w.cell? ⟨b, o + i, none⟩ = some (.slice (AA i) (NN i) (CC i))
 row : ∀ i, i < n → Bytes8 w B (AA i) (NN i) (XX i)
 len : n ≤ 9223372036854775807
theorem Rows8.below {w w' : World} {B : Nat} {A : Option Addr} {n : Nat} {AA : Nat → Option Addr} {NN CC : Nat → Nat} {XX : Nat → Nat → Nat} (h : Rows8 w B A n AA NN CC XX) (hb : Below B w w') : Rows8 w' B A n AA NN CC XX :=
 ⟨fun i hi => by
  obtain ⟨b, o, h1, h2, h3⟩ := h.each i hi
  exact ⟨b, o, h1, h2, (hb.cell (p := ⟨b, _, none⟩) h2).trans h3⟩, fun i hi => (h.row i hi).below hb, h.len⟩
section
variable {H : Type} {enc : TypeId × Value → H} {P : Program} {W : World} {base : Nat} {v : Value} {d : DataW H} {p : List MemPlace}
end
namespace Rd
open Lx (Mk M0)
def Pe (p : List UInt8) (es : List Mk) : Prop := ∃ ks, Pl p ks ∧ ks.map ek = es
theorem ek_shift (i : Nat) (ks : List M0) : (ks.map (shift i)).map ek = ks.map ek := by
 rw [List.map_map]; rfl
theorem Pe.then {p q : List UInt8} {es fs : List Mk} (h : Pe p es) (hq : Cut q) (k : Pe q fs) : Pe (p ++ q) (es ++ fs) := by
 obtain ⟨ks, h1, h2⟩ := h
 obtain ⟨ls, k1, k2⟩ := k
 exact ⟨_, h1.then hq k1, by rw [List.map_append, ek_shift, h2, k2]⟩
theorem Pe.of {p : List UInt8} {ks : List M0} (h : Pl p ks) : Pe p (ks.map ek) := ⟨ks, h, rfl⟩
theorem Pe.free {p q : List UInt8} {ks : List M0} {fs : List Mk} (h : Free p ks) (k : Pe q fs) : Pe (p ++ q) (ks.map ek ++ fs) := by
 obtain ⟨ls, k1, k2⟩ := k
 exact ⟨_, h.then k1, by rw [List.map_append, ek_shift, k2]⟩
def e1 (n : Nat) : Mk := ⟨1, wd n, 0, 0⟩
def ec (k : Nat) : Mk := ⟨k, [], 0, 0⟩
def rowT (l : List Nat) : List UInt8 := l.flatMap fun n => 32 :: wd n
section
variable (X : Nat → Nat) (st : Nat → Bool) (R : Nat → List Nat)
end
end Rd
end Go.Proofs.Ytdhhkancbgealaa
end
section
namespace Go.Proofs.Ytdhhkancbgealaa
open Go.RowKit
open Lx
set_option linter.unusedVariables false
set_option linter.unusedSimpArgs false
set_option maxRecDepth 100000
end Go.Proofs.Ytdhhkancbgealaa
namespace Go.Proofs.Ytdhhkancbgealaa
open Go.RowKit
open Lx
set_option linter.unusedVariables false
set_option linter.unusedSimpArgs false
set_option maxRecDepth 100000
theorem rulesV_append (a b : List (Rd.Rule × Value)) : rulesV (a ++ b) = rulesV a ++ rulesV b := by simp [rulesV]
theorem GramIs.rules {w : World} {st : ByteArray} {left : Rd.Name} {rs : List Rd.Rule} {A : Option Addr} {cap n : Nat} {ql : List (Rd.Rule × Value)} (h1 : str left = st) (h2 : n = rs.length) (h3 : ql.map (·.1) = rs) (h4 : Lie w 113 A (rulesV ql)) (h5 : ∀ p ∈ ql, Nms w p.2 p.1.right) :
  GramIs w (.agg #[.slice none 0 0, .slice none 0 0, .slice none 0 0, .string st, .slice A n cap]) ⟨[], [], [], left, rs⟩ := by
 subst h1 h2
 exact ⟨_, _, _, _, rfl, ⟨none, 0, rfl, Lie.nil _ _ _⟩, ⟨none, 0, rfl, Lie.nil _ _ _⟩, ⟨none, 0, [], rfl, rfl, Lie.nil _ _ _, by simp⟩, ⟨A, cap, ql, rfl, h3, h4, h5⟩⟩
end Go.Proofs.Ytdhhkancbgealaa
end
section
namespace Go.Proofs.Ytdhhkancbgealaa
namespace Pr
open Lx (Mk M0 isName isLetter isSmall Step)
open Rd (Name Pat Tok Lev Rule G Pl Free Pe Cut ek ec)
set_option linter.unusedVariables false
set_option linter.unusedSimpArgs false
def esc (q : UInt8 → Bool) : List UInt8 → List UInt8
 | [] => []
 | c :: r => if c = 10 then 92 :: 110 :: esc q r else if c = 9 then 92 :: 116 :: esc q r else if q c = true then 92 :: c :: esc q r else c :: esc q r
def inText (c : UInt8) : Bool := c == 92 || c == 34
def inSet (c : UInt8) : Bool := c == 92 || c == 93 || c == 45
def pattern (p : Pat) : List UInt8 := if p.text = [] then 91 :: (esc inSet p.set ++ (93 :: if p.many = true then [43] else [])) else 34 :: (esc inText p.text ++ [34])
def rowT (l : List Name) : List UInt8 := l.flatMap fun n => 32 :: n
def precT (p : Name) : List UInt8 := if p = [] then [] else [32, 37, 112, 114, 101, 99, 32] ++ p
def actT (a : Name) : List UInt8 := if a = [] then [] else 32 :: 123 :: (a ++ [125])
def ruleT (r : Rule) : List UInt8 := r.left ++ ([32, 58] ++ (rowT r.right ++ (precT r.prec ++ (actT r.action ++ [32, 59]))))
def tokT (t : Tok) : List UInt8 := [37, 116, 111, 107, 101, 110, 32] ++ (t.name ++ (32 :: (pattern t.pat ++ [10])))
def skipT (p : Pat) : List UInt8 := [37, 115, 107, 105, 112, 32] ++ (pattern p ++ [10])
def levW (a : Nat) : List UInt8 := if a = 1 then [108, 101, 102, 116] else if a = 2 then [114, 105, 103, 104, 116] else [110, 111, 110, 97, 115, 115, 111, 99]
def levT (v : Lev) : List UInt8 := 37 :: (levW v.assoc ++ (rowT v.names ++ [10]))
def midT (s : Name) : List UInt8 := [37, 115, 116, 97, 114, 116, 32] ++ (s ++ [10, 37, 37, 10])
def rulesT (l : List Rule) : List UInt8 := l.flatMap fun r => ruleT r ++ [10]
def text (g : G) : List UInt8 := g.toks.flatMap tokT ++ (g.skips.flatMap skipT ++ (g.levels.flatMap levT ++ (midT g.start ++ rulesT g.rules)))
def nameOk (n : Name) : Bool := decide (n.length ≤ 32) && (n != [] && Lx.nameOf n == n)
def rises : List UInt8 → Bool
 | a :: b :: r => decide (a < b) && rises (b :: r)
 | _ => true
def patOk (p : Pat) : Bool := if p.text = [] then p.set != [] && rises p.set else decide (p.text.length ≤ 32) && (p.set == [] && !p.many)
def actOk (a : Name) : Bool := Lx.act (a ++ [125]) [] 1 == .mark 9 a (a.length + 2)
def tokOk (t : Tok) : Bool := nameOk t.name && patOk t.pat
def levOk (v : Lev) : Bool := decide (1 ≤ v.assoc ∧ v.assoc ≤ 3) && (v.names != [] && v.names.all nameOk)
def ruleOk (r : Rule) : Bool := nameOk r.left && (decide (r.right.length ≤ 8) && (r.right.all nameOk && ((r.prec == [] || nameOk r.prec) && actOk r.action)))
structure Right (g : G) : Prop where
 ntok : g.toks.length ≤ 20
 nskip : g.skips.length ≤ 4
 nlev : g.levels.length ≤ 10
 nrule : g.rules.length ≤ 40
 rules : g.rules ≠ []
 start : nameOk g.start = true
 toks : ∀ t ∈ g.toks, tokOk t = true
 skips : ∀ p ∈ g.skips, patOk p = true
 levels : ∀ v ∈ g.levels, levOk v = true
 each : ∀ r ∈ g.rules, ruleOk r = true
 tonce : (g.toks.map Tok.name).Nodup
 lonce : (g.levels.flatMap Lev.names).Nodup
theorem nameOk_ex {n : Name} (h : nameOk n = true) : n.length ≤ 32 ∧ ∃ c t, n = c :: t ∧ isLetter c = true ∧ ∀ x ∈ n, isName x = true := by
 unfold nameOk at h
 simp only [Bool.and_eq_true, decide_eq_true_eq, bne_iff_ne, beq_iff_eq] at h
 obtain ⟨h1, h2, h3⟩ := h
 refine ⟨h1, ?_⟩
 cases n with
 | nil => exact absurd rfl h2
 | cons c t =>
  have e : Lx.nameOf (c :: t) = if isLetter c then (c :: t).takeWhile isName else [] := rfl
  rw [e] at h3
  by_cases hc : isLetter c = true
  ·rw [if_pos hc] at h3
   refine ⟨c, t, rfl, hc, fun x hx => ?_⟩
   rw [← h3] at hx
   have : ∀ (l : List UInt8), ∀ x ∈ l.takeWhile isName, isName x = true := by
    intro l
    induction l with
    | nil => intro x hx; simp at hx
    | cons a r ih =>
     intro x hx
     by_cases ha : isName a = true
     ·rw [List.takeWhile_cons_of_pos ha] at hx
      rcases List.mem_cons.1 hx with rfl | hx
      ·exact ha
      ·exact ih x hx
     ·rw [List.takeWhile_cons_of_neg ha] at hx; simp at hx
   exact this _ x hx
  ·rw [if_neg hc] at h3; cases h3
theorem rises_lt : ∀ (l : List UInt8) (a : UInt8), rises (a :: l) = true → ∀ x ∈ l, a < x
 | [], _, _, x, hx => by simp at hx
 | b :: r, a, h, x, hx => by
  unfold rises at h
  simp only [Bool.and_eq_true, decide_eq_true_eq] at h
  rcases List.mem_cons.1 hx with rfl | hx
  ·exact h.1
  ·exact UInt8.lt_trans h.1 (rises_lt r b h.2 x hx)
theorem rises_tail {a : UInt8} {l : List UInt8} (h : rises (a :: l) = true) : rises l = true := by
 cases l with
 | nil => rfl
 | cons b r => unfold rises at h; simp only [Bool.and_eq_true] at h; exact h.2
theorem filter_rises (n : Nat) : ∀ (a : Nat) (l : List UInt8), rises l = true → (∀ x ∈ l, a ≤ x.toNat ∧ x.toNat < a + n) → (List.range' a n).filter (fun j => l.any (fun c => j == c.toNat)) = l.map UInt8.toNat := by
 induction n with
 | zero =>
  intro a l _ hx
  cases l with
  | nil => rfl
  | cons c r => have := hx c (by simp); omega
 | succ n ih =>
  intro a l hr hx
  rw [List.range'_succ]
  cases l with
  | nil => simp
  | cons c r =>
   have hc := hx c (by simp)
   by_cases h : c.toNat = a
   ·have hlt := rises_lt r c hr
    rw [List.filter_cons_of_pos (by simp [h]), List.map_cons, h]
    congr 1
    rw [← ih (a + 1) r (rises_tail hr) (fun x hx' => by
     have h1 := hx x (by simp [hx'])
     have h2 : c.toNat < x.toNat := UInt8.lt_iff_toNat_lt.1 (hlt x hx')
     omega)]
    apply List.filter_congr
    intro j hj
    have := (List.mem_range'_1.1 hj).1
    rw [List.any_cons]
    have e : (j == c.toNat) = false := by rw [beq_eq_false_iff_ne]; omega
    rw [e, Bool.false_or]
   ·have hlt := rises_lt r c hr
    rw [List.filter_cons_of_neg, ih (a + 1) (c :: r) hr (fun x hx' => by
     have h1 := hx x hx'
     rcases List.mem_cons.1 hx' with rfl | h2
     ·omega
     ·have h3 : c.toNat < x.toNat := UInt8.lt_iff_toNat_lt.1 (hlt x h2)
      omega)]
    rw [Bool.not_eq_true, List.any_eq_false]
    intro x hx'
    rcases List.mem_cons.1 hx' with rfl | h2
    ·simp; omega
    ·have h3 : c.toNat < x.toNat := UInt8.lt_iff_toNat_lt.1 (hlt x h2)
     simp; omega
end Pr
end Go.Proofs.Ytdhhkancbgealaa
namespace Go.Proofs.Ytdhhkancbgealaa
namespace Rd
open Lx (Mk)
set_option linter.unusedVariables false
set_option linter.unusedSimpArgs false
end Rd
namespace Pr
open Lx (Mk M0 isName isLetter isSmall Step)
open Rd (Name Pat Tok Lev Rule G Pl Free Pe Cut ek ec Decls)
set_option linter.unusedVariables false
set_option linter.unusedSimpArgs false
end Pr
end Go.Proofs.Ytdhhkancbgealaa
end
section
namespace Go.Proofs.Ytdhhkancbgealaa
open Go.RowKit
open Lx
set_option linter.unusedVariables false
set_option linter.unusedSimpArgs false
set_option maxRecDepth 100000
end Go.Proofs.Ytdhhkancbgealaa
namespace Go.Proofs.Ytdhhkancbgealaa
open Go.RowKit
open Lx
set_option linter.unusedVariables false
set_option linter.unusedSimpArgs false
set_option maxRecDepth 100000
end Go.Proofs.Ytdhhkancbgealaa
end
