import Derived.Test.YtccndcebbjipnaaGreatDoorT13
import Derived.Test.YtccndcebbjipnaaGreatDoorT07
import Derived.Deep.Matrix
import Derived.Deep.RegionHeld3
section
namespace Go.Proofs.YtccndcebbjipnaaGreatDoor
namespace Rd
open Lx (Mk M0 kt)
set_option linter.unusedVariables false
set_option linter.unusedSimpArgs false
def er (m : Mk) : Mk := ⟨m.kind, m.text, 0, 0⟩
def Res.er {α : Type} : Res α → Res α
  | .ok a r => .ok a (r.map Rd.er)
  | .bad e r => .bad e (r.map Rd.er)
def Adds (go : List Rule → Res (List Rule)) (b c : List Rule) (r : List Mk) : Prop :=
  ∃ x, c = b ++ x ∧ ∀ acc : List Rule, acc.length ≤ 40 → (acc.length + x.length ≤ 40 → go acc = .ok (acc ++ x) r) ∧ (40 < acc.length + x.length → ∃ r', go acc = .bad 3 r')
def ek (m : M0) : Mk := ⟨m.1, m.2.1, 0, 0⟩
def ofRules : Res (List Rule) → Res G
  | .ok rs r => .ok ⟨[], [], [], (rs.headD ⟨[], [], [], []⟩).left, rs⟩ r
  | .bad e r => .bad e r
end Rd
end Go.Proofs.YtccndcebbjipnaaGreatDoor
namespace Go.Proofs.YtccndcebbjipnaaGreatDoor
namespace Rd
open Lx (Mk M0 run isName isLetter isSmall)
set_option linter.unusedVariables false
set_option linter.unusedSimpArgs false
def Cut (r : List UInt8) : Prop := ∀ c t, r = c :: t → isName c = false
theorem Cut.nil : Cut [] := fun _ _ h => by cases h
theorem Cut.cons {c : UInt8} {t : List UInt8} (h : isName c = false) : Cut (c :: t) := fun _ _ e => by cases e; exact h
theorem Cut.append {p r : List UInt8} (hp : Cut p) (hr : Cut r) : Cut (p ++ r) := by
  cases p with
  | nil => exact hr
  | cons c t => exact Cut.cons (hp c t rfl)
def shift (i : Nat) (m : M0) : M0 := (m.1, m.2.1, i + m.2.2)
def Free (p : List UInt8) (ks : List M0) : Prop := ∀ (r : List UInt8) (f i : Nat) (acc : List M0), (p ++ r).length < f → ∃ f', r.length < f' ∧ run f (p ++ r) i acc = run f' r (i + p.length) (acc ++ ks.map (shift i))
def Pl (p : List UInt8) (ks : List M0) : Prop := ∀ (r : List UInt8) (f i : Nat) (acc : List M0), Cut r → (p ++ r).length < f → ∃ f', r.length < f' ∧ run f (p ++ r) i acc = run f' r (i + p.length) (acc ++ ks.map (shift i))
theorem Free.pl {p : List UInt8} {ks : List M0} (h : Free p ks) : Pl p ks := fun r f i acc _ hf => h r f i acc hf
theorem shift_shift (i j : Nat) (ks : List M0) : (ks.map (shift j)).map (shift i) = ks.map (shift (i + j)) := by
  rw [List.map_map]
  apply List.map_congr_left
  intro m _
  simp only [Function.comp, shift, Nat.add_assoc]
theorem Free.then {p q : List UInt8} {ks ls : List M0} (h : Free p ks) (k : Pl q ls) : Pl (p ++ q) (ks ++ ls.map (shift p.length)) := by
  intro r f i acc hr hf
  rw [List.append_assoc] at hf ⊢
  obtain ⟨f1, h1, e1⟩ := h (q ++ r) f i acc hf
  obtain ⟨f2, h2, e2⟩ := k r f1 (i + p.length) (acc ++ ks.map (shift i)) hr h1
  refine ⟨f2, h2, ?_⟩
  rw [e1, e2, List.length_append, List.map_append, shift_shift, Nat.add_assoc, List.append_assoc]
theorem Pl.then {p q : List UInt8} {ks ls : List M0} (h : Pl p ks) (hq : Cut q) (k : Pl q ls) : Pl (p ++ q) (ks ++ ls.map (shift p.length)) := by
  intro r f i acc hr hf
  rw [List.append_assoc] at hf ⊢
  obtain ⟨f1, h1, e1⟩ := h (q ++ r) f i acc (hq.append hr) hf
  obtain ⟨f2, h2, e2⟩ := k r f1 (i + p.length) (acc ++ ks.map (shift i)) hr h1
  refine ⟨f2, h2, ?_⟩
  rw [e1, e2, List.length_append, List.map_append, shift_shift, Nat.add_assoc, List.append_assoc]
def wd (n : Nat) : List UInt8 := [UInt8.ofNat (97 + n % 10), UInt8.ofNat (120 + n / 10 % 3)]
def tokT (n : Nat) : List UInt8 := [37, 116, 111, 107, 101, 110] ++ ([32] ++ (wd n ++ ([32] ++ ((34 :: (wd n ++ [34])) ++ [10]))))
def tokM (n : Nat) : List M0 := [(2, [116, 111, 107, 101, 110], 0), (1, wd n, 7), (3, wd n, 10)]
def txt : List Nat → List UInt8
  | [] => []
  | n :: r => tokT n ++ txt r
def marksT : List Nat → List M0
  | [] => []
  | n :: r => tokM n ++ (marksT r).map (shift 15)
theorem marksT_cons (n : Nat) (r : List Nat) : marksT (n :: r) = tokM n ++ (marksT r).map (shift 15) := rfl
def lastT : List UInt8 := [37, 37, 32, 101, 32, 58, 32, 59]
def lastM : List M0 := [(2, [37], 0), (1, [101], 3), (6, [], 5), (8, [], 7)]
def tokOf (n : Nat) : Tok := ⟨wd n, ⟨wd n, [], false⟩⟩
def withToks (l : List Tok) : Decls := ⟨l, [], [], [], false⟩
def Good_ (d : List Tok) : List Nat → Prop
  | [] => True
  | n :: r => (d.any fun t => t.name == wd n) = false ∧ d.length ≠ 20 ∧ Good_ (d ++ [tokOf n]) r
def mk3 (n : Nat) (P Q R : Nat × Nat) : List Mk := [⟨2, [116, 111, 107, 101, 110], P.1, P.2⟩, ⟨1, wd n, Q.1, Q.2⟩, ⟨3, wd n, R.1, R.2⟩]
theorem decls_tok (f n : Nat) (P Q R : Nat × Nat) (d : List Tok) (r : List Mk) : decls (f + 1) (withToks d) (mk3 n P Q R ++ r) =
    if (d.any fun t => t.name == wd n) = true then .bad 15 (⟨1, wd n, Q.1, Q.2⟩ :: ⟨3, wd n, R.1, R.2⟩ :: r) else if d.length = 20 then .bad 3 (⟨1, wd n, Q.1, Q.2⟩ :: ⟨3, wd n, R.1, R.2⟩ :: r) else decls f (withToks (d ++ [tokOf n])) r := by
  have e0 : decls (f + 1) (withToks d) (mk3 n P Q R ++ r) = match token (withToks d) (mk3 n P Q R ++ r) with | .bad e r => .bad e r | .ok d' r => decls f d' r := rfl
  have e1 : token (withToks d) (mk3 n P Q R ++ r) = if (d.any fun t => t.name == wd n) = true then .bad 15 (⟨1, wd n, Q.1, Q.2⟩ :: ⟨3, wd n, R.1, R.2⟩ :: r) else if d.length = 20 then .bad 3 (⟨1, wd n, Q.1, Q.2⟩ :: ⟨3, wd n, R.1, R.2⟩ :: r) else .ok (withToks (d ++ [tokOf n])) r := rfl
  rw [e0, e1]
  by_cases h1 : (d.any fun t => t.name == wd n) = true
  · rw [if_pos h1, if_pos h1]
  · rw [if_neg h1, if_neg h1]
    by_cases h2 : d.length = 20
    · rw [if_pos h2, if_pos h2]
    · rw [if_neg h2, if_neg h2]
theorem decls_good (T : List UInt8) (i : Nat) : ∀ (l : List Nat) (d : List Tok) (f : Nat) (r : List M0), Good_ d l → l.length < f → decls f (withToks d) ((((marksT l).map (shift i)) ++ r).map (Lx.mkOf T)) = decls (f - l.length) (withToks (d ++ l.map tokOf)) (r.map (Lx.mkOf T)) := by
  intro l
  induction l generalizing i with
  | nil => intro d f r _ _; simp [marksT]
  | cons n l ih =>
    intro d f r hg hf
    obtain ⟨h1, h2, h3⟩ := hg
    obtain ⟨f, rfl⟩ : ∃ k, f = k + 1 := ⟨f - 1, by omega⟩
    have e : ((((marksT (n :: l)).map (shift i)) ++ r).map (Lx.mkOf T)) = mk3 n (Lx.pos T (i + 0)) (Lx.pos T (i + 7)) (Lx.pos T (i + 10)) ++ ((((marksT l).map (shift (i + 15))) ++ r).map (Lx.mkOf T)) := by
      simp only [marksT_cons, List.map_append, shift_shift, List.append_assoc]
      rfl
    rw [e, decls_tok, if_neg (by rw [h1]; decide), if_neg h2, ih (i + 15) (d ++ [tokOf n]) f r h3 (by simp at hf; omega)]
    simp
def Fails (d : List Tok) (n c : Nat) : Prop := ((d.any fun t => t.name == wd n) = true ∧ c = 15) ∨ ((d.any fun t => t.name == wd n) = false ∧ d.length = 20 ∧ c = 3)
end Rd
end Go.Proofs.YtccndcebbjipnaaGreatDoor
namespace Go.Proofs.YtccndcebbjipnaaGreatDoor
open Go.RowKit Go.ChangeShapes Go.WideShapes Go.ChangeAt
set_option linter.unusedVariables false
set_option linter.unusedSimpArgs false
structure Rows8 (w : World) (B : Nat) (A : Option Addr) (n : Nat) (AA : Nat → Option Addr) (NN CC : Nat → Nat) (XX : Nat → Nat → Nat) : Prop where
  each : ∀ i, i < n → ∃ b o, A = some ⟨b, o, none⟩ ∧ b < B ∧ w.cell? ⟨b, o + i, none⟩ = some (.slice (AA i) (NN i) (CC i))
  row : ∀ i, i < n → Bytes8 w B (AA i) (NN i) (XX i)
  len : n ≤ 9223372036854775807
theorem Rows8.below {w w' : World} {B : Nat} {A : Option Addr} {n : Nat} {AA : Nat → Option Addr} {NN CC : Nat → Nat} {XX : Nat → Nat → Nat} (h : Rows8 w B A n AA NN CC XX) (hb : Below B w w') : Rows8 w' B A n AA NN CC XX :=
  ⟨fun i hi => by
    obtain ⟨b, o, h1, h2, h3⟩ := h.each i hi
    exact ⟨b, o, h1, h2, (hb.cell (p := ⟨b, _, none⟩) h2).trans h3⟩, fun i hi => (h.row i hi).below hb, h.len⟩
section
variable {H : Type} {enc : TypeId × Value → H} {P : Program} {W : World} {base : Nat} {v : Value} {d : DataW H} {p : List MemPlace}
end
namespace Rd
open Lx (Mk M0)
def Pe (p : List UInt8) (es : List Mk) : Prop := ∃ ks, Pl p ks ∧ ks.map ek = es
theorem ek_shift (i : Nat) (ks : List M0) : (ks.map (shift i)).map ek = ks.map ek := by
  rw [List.map_map]; rfl
theorem Pe.then {p q : List UInt8} {es fs : List Mk} (h : Pe p es) (hq : Cut q) (k : Pe q fs) : Pe (p ++ q) (es ++ fs) := by
  obtain ⟨ks, h1, h2⟩ := h
  obtain ⟨ls, k1, k2⟩ := k
  exact ⟨_, h1.then hq k1, by rw [List.map_append, ek_shift, h2, k2]⟩
theorem Pe.of {p : List UInt8} {ks : List M0} (h : Pl p ks) : Pe p (ks.map ek) := ⟨ks, h, rfl⟩
theorem Pe.free {p q : List UInt8} {ks : List M0} {fs : List Mk} (h : Free p ks) (k : Pe q fs) : Pe (p ++ q) (ks.map ek ++ fs) := by
  obtain ⟨ls, k1, k2⟩ := k
  exact ⟨_, h.then k1, by rw [List.map_append, ek_shift, k2]⟩
def e1 (n : Nat) : Mk := ⟨1, wd n, 0, 0⟩
def ec (k : Nat) : Mk := ⟨k, [], 0, 0⟩
def rowT (l : List Nat) : List UInt8 := l.flatMap fun n => 32 :: wd n
def rowM (l : List Nat) : List Mk := l.map e1
section
variable (X : Nat → Nat) (st : Nat → Bool) (R : Nat → List Nat)
def lf : Nat → Nat
  | 0 => X 0
  | k + 1 => if st (k + 1) = true then X (k + 1) else lf k
def headT (k : Nat) : List UInt8 := if k = 0 then 10 :: (wd (X k) ++ [32, 58]) else if st k = true then 32 :: 59 :: 10 :: (wd (X k) ++ [32, 58]) else [32, 124]
def headM (k : Nat) : List Mk := if k = 0 then [e1 (X k), ec 6] else if st k = true then [ec 8, e1 (X k), ec 6] else [ec 7]
def TT : Nat → List UInt8
  | 0 => [37, 37]
  | k + 1 => TT k ++ (headT X st k ++ rowT (R k))
def MM : Nat → List Mk
  | 0 => [⟨2, [37], 0, 0⟩]
  | k + 1 => MM k ++ (headM X st k ++ rowM (R k))
def ruleOf (k : Nat) : Rule := ⟨wd (lf X st k), (R k).map wd, [], []⟩
def WW : Nat → List Rule
  | 0 => []
  | k + 1 => WW k ++ [ruleOf X st R k]
def AM : Nat → Nat → List Mk
  | _, 0 => [ec 8, ec 0]
  | k, d + 1 => headM X st (k + 1) ++ (rowM (R (k + 1)) ++ AM (k + 1) d)
def goOn (f1 f2 : Nat) (left : Name) (acc : List Rule) (ms : List Mk) : Res (List Rule) :=
  match alts f1 left acc ms with
  | .bad e r => .bad e r
  | .ok acc' r => if (hd r).kind = 0 then .ok acc' r else rules f2 acc' r
end
end Rd
end Go.Proofs.YtccndcebbjipnaaGreatDoor
end
section
namespace Go.Proofs.YtccndcebbjipnaaGreatDoor
open Go.RowKit
open Lx
set_option linter.unusedVariables false
set_option linter.unusedSimpArgs false
set_option maxRecDepth 100000
def There (l : List UInt8) (P : Nat × Nat) (k : Nat) (b : Bool) : Prop := b = true ↔ ∃ j, j < k ∧ pos l j = P
def allNames (ls : List Rd.Lev) (k : Nat) : List Rd.Name := (ls.take k).flatMap Rd.Lev.names
end Go.Proofs.YtccndcebbjipnaaGreatDoor
namespace Go.Proofs.YtccndcebbjipnaaGreatDoor
open Go.RowKit
open Lx
set_option linter.unusedVariables false
set_option linter.unusedSimpArgs false
set_option maxRecDepth 100000
theorem step_append_own3 {P : Program} {ops : Array Oper} {o : Oper} {a : Act} {w : World} {K : Act → World → Prop} {Q : Exit → Act → World → Prop} {E : Prop}
    (hw : Region.wanted o (yielded ops a.tmps) = true) (s x : Operand) (t : TypeId) (hop : o.op = Op.call { callee := Callee.builtin Builtin.append, args := #[s, x], argTypes := #[t, t] })
    (base : Nat) (e : TypeId) (i : TypeInfo) (z : Value) (size bytes : Nat) (h1 : P.underlying t = some (.slice e)) (h2 : P.info? e = some i) (h3 : i.zero = some z) (h4 : i.size = size) (h5 : i.bytes = bytes) (h6 : z.cells.size = size) (h7 : 0 < size)
    (v : Value) (n : Nat) (xs : List Value) (hs : a.eval s = v) (hown : w.ownsRow base e size v n xs)
    (ad : Addr) (m c : Nat) (news : List Value) (hx : a.eval x = .slice (some ad) m c) (hn : news.length = m * size) (hc : ∀ j u, news[j]? = some u → w.cell? (ad.add j) = some u) (h1c : ∀ u ∈ news, u.oneCell' = true)
    (b1 : n + m ≤ maxLen) (b2 : (n + m) * bytes ≤ 140737488355328) (b3 : base ≤ w.heap.size)
    (hK : ∀ v' w', w'.ownsRow base e size v' (n + m) (xs ++ news) → w.grownBy w' v.ownBlock → SameOrNew w v v' → K (a.put o.dst v') w') :
    if Region.wanted o (yielded ops a.tmps) = true then Oper.wp P o a w K Q else E := by
  rw [if_pos hw]
  obtain ⟨v', w', hr, r1, r2, r3⟩ := run_append_own2 (P := P) w base t o.type e i z size bytes h1 h2 h3 h4 h5 h6 h7 v n xs hown ad m c news hn hc h1c b1 b2 b3
  unfold Oper.wp
  simp [execOp, hop, resolve, invoke, builtin, hs, hx, hr, Result.andThen]
  exact hK _ _ r1 r2 r3
theorem rulesV_append (a b : List (Rd.Rule × Value)) : rulesV (a ++ b) = rulesV a ++ rulesV b := by simp [rulesV]
theorem GramIs.rules {w : World} {st : ByteArray} {left : Rd.Name} {rs : List Rd.Rule} {A : Option Addr} {cap n : Nat} {ql : List (Rd.Rule × Value)} (h1 : str left = st) (h2 : n = rs.length) (h3 : ql.map (·.1) = rs) (h4 : Lie w 36 A (rulesV ql)) (h5 : ∀ p ∈ ql, Nms w p.2 p.1.right) :
    GramIs w (.agg #[.slice none 0 0, .slice none 0 0, .slice none 0 0, .string st, .slice A n cap]) ⟨[], [], [], left, rs⟩ := by
  subst h1 h2
  exact ⟨_, _, _, _, rfl, ⟨none, 0, rfl, Lie.nil _ _ _⟩, ⟨none, 0, rfl, Lie.nil _ _ _⟩, ⟨none, 0, [], rfl, rfl, Lie.nil _ _ _, by simp⟩, ⟨A, cap, ql, rfl, h3, h4, h5⟩⟩
end Go.Proofs.YtccndcebbjipnaaGreatDoor
end
