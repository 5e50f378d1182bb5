import Derived.Test.YtdhhkancbgealaaGreatChecked
import Derived.WalkKit
import Derived.WalkSpells
import Derived.Deep.Draws
import Derived.Deep.Slices
import Derived.ProofKit
import Derived.OpenShut
import Derived.Deep.SlicePairs
import Derived.Test.YtdhhkancbgealaaGreatRows
import Derived.WalkLawsBesides
import Derived.BigQuiet
import Derived.Deep.QuietTactic
import Derived.Lib.Hide
section
namespace Go.Proofs.YtdhhkancbgealaaGreat
open Go.RowKit
def At (w : World) (g : Nat) (t : TypeId) (cs : Array Value) : Prop := w.heap[g]? = some (.cells cs t (0, 0))
theorem At.cell {w : World} {g : Nat} {t : TypeId} {cs : Array Value} (h : At w g t cs) (i : Nat) : w.cell? ⟨g, i, none⟩ = cs[i]? := by
  unfold At at h; simp [World.cell?, h]
theorem At.frozen {w : World} {g : Nat} {t : TypeId} {cs : Array Value} (h : At w g t cs) (i : Nat) : w.frozen? ⟨g, i, none⟩ = false := by
  unfold At at h; simp [World.frozen?, h]
theorem At.lt {w : World} {g : Nat} {t : TypeId} {cs : Array Value} (h : At w g t cs) : g < w.heap.size := by
  unfold At at h
  exact (Array.getElem?_eq_some_iff.1 h).1
theorem At.new (w : World) (t : TypeId) (cs : Array Value) : At (w.alloc (.cells cs t)) w.heap.size t cs := by
  exact heap_alloc_new w _
theorem At.drewN {w : World} {g : Nat} {t : TypeId} {cs : Array Value} (h : At w g t cs) (n : Nat) : At (w.drewN n) g t cs := h
theorem At.drew {w : World} {g : Nat} {t : TypeId} {cs : Array Value} (h : At w g t cs) : At w.drew g t cs := h
theorem At.alloc {w : World} {g : Nat} {t : TypeId} {cs : Array Value} (h : At w g t cs) (o : Obj) : At (w.alloc o) g t cs := by
  have := h.lt
  unfold At at *
  rw [Below.heap_alloc w o g this]; exact h
theorem At.set {w : World} {g : Nat} {t : TypeId} {cs : Array Value} (h : At w g t cs) (i : Nat) (u : Value) : At (w.setCell ⟨g, i, none⟩ u) g t (cs.setIfInBounds i u) := by
  unfold At at *; simp [World.setCell, Array.getElem?_modify, h]
theorem At.far {w : World} {g : Nat} {t : TypeId} {cs : Array Value} (h : At w g t cs) {p : Addr} (hp : g ≠ p.block) (u : Value) : At (w.setCell p u) g t cs := by
  unfold At at *
  rw [Below.heap_setCell w p u g hp]; exact h
theorem At.grown {w w' : World} {g : Nat} {t : TypeId} {cs : Array Value} (h : At w g t cs) {row : Option Nat} (hg : w.grownBy w' row) (hne : some g ≠ row) : At w' g t cs := by
  have := hg.block g h.lt hne
  unfold At at *
  rw [this]; exact h
theorem At.below {w w' : World} {g B : Nat} {t : TypeId} {cs : Array Value} (h : At w g t cs) (hb : Below B w w') (hg : g < B) : At w' g t cs := by
  unfold At at *
  rw [hb.block g hg]; exact h
theorem grown_drewN {a w : World} {row : Option Nat} (h : a.grownBy w row) (n : Nat) : a.grownBy (w.drewN n) row := ⟨h.os, h.tape, h.output, h.size, h.block⟩
theorem grown_drew {a w : World} {row : Option Nat} (h : a.grownBy w row) : a.grownBy w.drew row := ⟨h.os, h.tape, h.output, h.size, h.block⟩
theorem grown_alloc {a w : World} {row : Option Nat} (h : a.grownBy w row) (o : Obj) : a.grownBy (w.alloc o) row :=
  ⟨h.os, h.tape, h.output, Nat.le_trans h.size (by simp), fun i hi hne => (Below.heap_alloc w o i (Nat.lt_of_lt_of_le hi h.size)).trans (h.block i hi hne)⟩
theorem grown_set {a w : World} {g : Nat} (h : a.grownBy w (some g)) (i : Nat) (u : Value) : a.grownBy (w.setCell ⟨g, i, none⟩ u) (some g) :=
  ⟨h.os, h.tape, h.output, by simpa [World.setCell] using h.size, fun k hk hne => (Below.heap_setCell w ⟨g, i, none⟩ u k (fun e => hne (by rw [e]))).trans (h.block k hk hne)⟩
theorem grown_trans {a b c : World} {row : Option Nat} (h : a.grownBy b row) (k : b.grownBy c row) : a.grownBy c row :=
  ⟨k.os.trans h.os, k.tape.trans h.tape, k.output.trans h.output, Nat.le_trans h.size k.size, fun i hi hne => (k.block i (Nat.lt_of_lt_of_le hi h.size) hne).trans (h.block i hi hne)⟩
theorem grown_refl (w : World) (row : Option Nat) : w.grownBy w row := ⟨rfl, rfl, rfl, Nat.le_refl _, fun _ _ _ => rfl⟩
theorem below_drewN {B : Nat} {a w : World} (h : Below B a w) (n : Nat) : Below B a (w.drewN n) := ⟨h.os, h.tape, h.output, h.size, h.block⟩
structure Turns (w w' : World) (g : Nat) (t : TypeId) (cs : Array Value) : Prop where
  at_ : At w' g t cs
  grown : w.grownBy w' (some g)
theorem Turns.same {w : World} {g : Nat} {t : TypeId} {cs : Array Value} (h : At w g t cs) (n : Nat) : Turns w (w.drewN n) g t cs := ⟨h.drewN n, grown_drewN (grown_refl w _) n⟩
theorem Turns.other {w w' : World} {g g' : Nat} {t t' : TypeId} {cs cs' : Array Value} (h : Turns w w' g t cs) (h' : At w g' t' cs') (hne : g' ≠ g) : At w' g' t' cs' :=
  h'.grown h.grown (fun e => hne (by injection e))
theorem Turns.below {w w' a : World} {g B : Nat} {t : TypeId} {cs : Array Value} (h : Turns w w' g t cs) (hb : Below B a w) (hB : B ≤ w.heap.size) (hg : B ≤ g) : Below B a w' :=
  hb.grown h.grown hB (fun k hk => by injection hk with hk; omega)
theorem Turns.size {w w' : World} {g : Nat} {t : TypeId} {cs : Array Value} (h : Turns w w' g t cs) : w.heap.size ≤ w'.heap.size := h.grown.size
end Go.Proofs.YtdhhkancbgealaaGreat
end
section
namespace Go.Proofs.YtdhhkancbgealaaGreat
open Go.RowKit Go.ChangeShapes Go.WideShapes Go.ChangeAt
structure Ops (w : World) (B : Nat) (A : Option Addr) (n : Nat) (X Y : Nat → Int) : Prop where
  each : ∀ i, i < n → ∃ b o, A = some ⟨b, o, none⟩ ∧ b < B ∧ w.cell? ⟨b, o + i * 2, none⟩ = some (.int .i64 (X i)) ∧ w.cell? ⟨b, o + i * 2 + 1, none⟩ = some (.int .i64 (Y i))
  rx : ∀ i, i < n → -9223372036854775808 ≤ X i ∧ X i ≤ 9223372036854775807
  ry : ∀ i, i < n → -9223372036854775808 ≤ Y i ∧ Y i ≤ 9223372036854775807
  len : n ≤ 9223372036854775807
theorem Ops.below {w w' : World} {B : Nat} {A : Option Addr} {n : Nat} {X Y : Nat → Int} (h : Ops w B A n X Y) (hb : Below B w w') : Ops w' B A n X Y :=
  ⟨fun i hi => by
    obtain ⟨b, o, h1, h2, h3, h4⟩ := h.each i hi
    exact ⟨b, o, h1, h2, (hb.cell (p := ⟨b, _, none⟩) h2).trans h3, (hb.cell (p := ⟨b, _, none⟩) h2).trans h4⟩, h.rx, h.ry, h.len⟩
theorem cell_spot {w : World} {a : Addr} {v : Value} (h : w.cell? a = some v) : a.block < w.heap.size ∧ a.spot = none := by
  unfold World.cell? at h
  split at h
  · rename_i c t f e
    refine ⟨(Array.getElem?_eq_some_iff.1 e).1, ?_⟩
    split at h
    · cases h
    · rename_i hs; simpa using hs
  · cases h
section
variable {H : Type} {enc : TypeId × Value → H} {P : Program} {W : World} {base : Nat} {v : Value} {d : DataW H} {p : List MemPlace}
theorem at_zero {a : Addr} {u : Value} (h : W.cell? a = some u) : ∃ b o, a = ⟨b, o, none⟩ ∧ b < W.heap.size := by
  obtain ⟨hlt, hsp⟩ := cell_spot h
  obtain ⟨b, o, sp⟩ := a
  obtain rfl : sp = none := hsp
  exact ⟨b, o, rfl, hlt⟩
structure Nums (w : World) (B : Nat) (A : Option Addr) (n : Nat) (X : Nat → Int) : Prop where
  each : ∀ i, i < n → ∃ b o, A = some ⟨b, o, none⟩ ∧ b < B ∧ w.cell? ⟨b, o + i, none⟩ = some (.int .i64 (X i))
  rx : ∀ i, i < n → -9223372036854775808 ≤ X i ∧ X i ≤ 9223372036854775807
  len : n ≤ 9223372036854775807
theorem Nums.below {w w' : World} {B : Nat} {A : Option Addr} {n : Nat} {X : Nat → Int} (h : Nums w B A n X) (hb : Below B w w') : Nums w' B A n X :=
  ⟨fun i hi => by
    obtain ⟨b, o, h1, h2, h3⟩ := h.each i hi
    exact ⟨b, o, h1, h2, (hb.cell (p := ⟨b, _, none⟩) h2).trans h3⟩, h.rx, h.len⟩
end
end Go.Proofs.YtdhhkancbgealaaGreat
end
section
namespace Go.Proofs.YtdhhkancbgealaaGreat
open Go.RowKit Go.ChangeShapes Go.WideShapes Go.ChangeAt
theorem Tryz.own : ownKnob Tryz.prog.godebug = none := by kernel_rfl
theorem Tryz.laidOut : laidOutB Tryz.prog = true := by kernel_rfl
theorem wf_i64 {n : Int} (h : (Lit.int .i64 n).wf = true) : -9223372036854775808 ≤ n ∧ n ≤ 9223372036854775807 := by
  simpa [Lit.wf, IntKind.min, IntKind.max, IntKind.signed, IntKind.bits] using h
section
variable {H : Type} {enc : TypeId × Value → H} {P : Program}
theorem all_stay (hl : laidOutB P = true) {W W' : World} (hb : Below W.heap.size W W') :
    ∀ (ts : List TypeId) (vs : List Value) (ds : List (DataW H)) (ps : List MemPlace), (ts.all fun t => P.readableRec t && decide (t < P.types.size)) = true →
      DataW.TrodAll enc P W 0 (fun _ => true) true ts vs ds ps → (∀ x ∈ ps, x.block < W.heap.size) → DataW.TrodAll enc P W' 0 (fun b => decide (b < W.heap.size)) true ts vs ds ps := by
  intro ts
  induction ts with
  | nil => intro vs ds ps _ h _; obtain ⟨rfl, rfl, rfl⟩ := trodAll_nil h; exact trodAll_mk0
  | cons t ts ih =>
    intro vs ds ps hk h hlt
    obtain ⟨v, vs', d, ds', p, q, rfl, rfl, rfl, hd, hr⟩ := trodAll_cons h
    simp only [List.all_cons, Bool.and_eq_true, decide_eq_true_eq] at hk
    exact trodAll_cons_mk (Below.trod hl hk.1.1 hk.1.2 hd hb (fun x hx => hlt x (by simp [hx]))) (ih vs' ds' q hk.2 hr (fun x hx => hlt x (by simp [hx])))
theorem law_post {f : Func} {s : ChangeSpec} {tb : TypeId} {W W' : World} {args : Array Value} {ds gs : List (DataW H)} {before : List MemPlace} (hl : laidOutB P = true)
    (hW : DataW.Whole enc P f.params.toList s.vars false W args.toList ds gs before) (hvars : s.vars = [])
    (hk : (f.params.toList.all fun t => P.readableRec t && decide (t < P.types.size)) = true) (hr : f.resultTypes = #[tb]) (htb : P.underlying tb = some .bool)
    (hfn : (s.fn H (ds ++ gs)).results = [.lit (.bool true)] ∧ (s.fn H (ds ++ gs)).args = ds ∧ (s.fn H (ds ++ gs)).vars = [])
    (hb : Below W.heap.size W W') : s.post enc P f false true false false W args (.bool true) W' := by
  have hW0 := hW
  obtain ⟨p, q, hA, hV, rfl, _, _⟩ := hW
  rw [hvars] at hV
  obtain ⟨rfl, rfl⟩ := trodVars_none hV
  refine ⟨ds, [], p ++ [], [], p, [], hW0, ?_, ?_, ?_, ?_, fun h => by cases h⟩
  · rw [hfn.1, hr]
    exact trodAll_mk1 (shut_bool htb _)
  · rw [hfn.2.1]
    refine all_stay hl hb _ _ _ _ hk hA (fun x hx => ?_)
    have := hW0.lt x (by simpa using hx)
    exact this
  · rw [hfn.2.2, hvars]; rfl
  · exact World.keptBut_mono (fun x hx => ⟨hx, .inr (.inl (by simpa using hx))⟩) (hb.frame (· ∈ p ++ []))
end
end Go.Proofs.YtdhhkancbgealaaGreat
end
section
namespace Go.Proofs.YtdhhkancbgealaaGreat
set_option linter.unusedVariables false
set_option linter.unusedSimpArgs false
namespace Tr
structure Tok where
 t : Int
 a : Int
 b : Int
deriving DecidableEq
def Tok.zero : Tok := ⟨0, 0, 0⟩
structure Nd where
 leaf : Bool
 under : Bool
 rule : Int
 sym : Int
 tok : Tok
 kids : List Int
def none_ : Nd := ⟨false, false, -1, -1, Tok.zero, []⟩
def leafOf (x : Tok) : Nd := ⟨true, false, -1, x.t, x, []⟩
def nodeOf (rule sym : Int) (ks : List Int) : Nd := ⟨false, false, rule, sym, Tok.zero, ks⟩
def has (L : List Nd) (i : Int) : Bool := decide (0 ≤ i ∧ i < (L.length : Int))
def at_ (L : List Nd) (i : Int) : Nd := if 0 ≤ i then (L[i.toNat]?).getD none_ else none_
def cost (L : List Nd) : Int := (L.map fun x => 1 + (x.kids.length : Int)).sum
def mark (L : List Nd) (i : Int) : List Nd := if 0 ≤ i then L.modify i.toNat fun x => { x with under := true } else L
def marks (L : List Nd) (ks : List Int) : List Nd := ks.foldl mark L
def wrong (L : List Nd) (ks : List Int) : Int :=
 if ks.any (fun k => !has L k) then 2 else if ks.any (fun k => (at_ L k).under) || decide (¬ ks.Nodup) then 15 else 0
structure Ans where
 n : Int
 e : Int
 L : List Nd
def leaf (l : Int) (L : List Nd) (x : Tok) : Ans := if l - cost L < 1 then ⟨0, 5, L⟩ else ⟨L.length, 0, L ++ [leafOf x]⟩
def node (l : Int) (L : List Nd) (rule sym : Int) (ks : List Int) : Ans :=
 if wrong L ks = 0 then if l - cost L < 1 + (ks.length : Int) then ⟨0, 5, L⟩ else ⟨L.length, 0, marks L ks ++ [nodeOf rule sym ks]⟩ else ⟨0, wrong L ks, L⟩
theorem cost_append (L M : List Nd) : cost (L ++ M) = cost L + cost M := by simp [cost]
theorem cost_one (x : Nd) : cost [x] = 1 + (x.kids.length : Int) := by simp [cost]
theorem cost_cons (x : Nd) (L : List Nd) : cost (x :: L) = 1 + (x.kids.length : Int) + cost L := by simp [cost]
theorem cost_len (L : List Nd) : (L.length : Int) ≤ cost L := by
 induction L with
 | nil => simp [cost]
 | cons x L ih => rw [cost_cons, List.length_cons]; omega
theorem cost_modify (L : List Nd) (i : Nat) : cost (L.modify i fun x => { x with under := true }) = cost L := by
 induction L generalizing i with
 | nil => simp [cost]
 | cons x L ih =>
  cases i with
  | zero => simp [cost_cons]
  | succ i => simp [cost_cons, ih]
theorem cost_mark (L : List Nd) (i : Int) : cost (mark L i) = cost L := by
 unfold mark; split
 ·exact cost_modify _ _
 ·rfl
theorem mark_length (L : List Nd) (i : Int) : (mark L i).length = L.length := by
 unfold mark; split <;> simp
theorem marks_length (ks : List Int) : ∀ L : List Nd, (marks L ks).length = L.length := by
 induction ks with
 | nil => intro L; rfl
 | cons k ks ih => intro L; show (marks (mark L k) ks).length = _; rw [ih, mark_length]
theorem cost_marks (ks : List Int) : ∀ L : List Nd, cost (marks L ks) = cost L := by
 induction ks with
 | nil => intro L; rfl
 | cons k ks ih => intro L; show cost (marks (mark L k) ks) = _; rw [ih, cost_mark]
theorem marks_snoc (L : List Nd) (ks : List Int) (k : Int) : marks L (ks ++ [k]) = mark (marks L ks) k := by simp [marks]
theorem has_true {L : List Nd} {i : Int} (h : has L i = true) : 0 ≤ i ∧ i < (L.length : Int) := by unfold has at h; exact of_decide_eq_true h
theorem has_of {L : List Nd} {i : Nat} (h : i < L.length) : has L (i : Int) = true := by unfold has; exact decide_eq_true (by omega)
theorem has_false {L : List Nd} {i : Int} (h : has L i = false) : ¬ (0 ≤ i ∧ i < (L.length : Int)) := by unfold has at h; exact of_decide_eq_false h
theorem at_of {L : List Nd} {i : Nat} {x : Nd} (h : L[i]? = some x) : at_ L (i : Int) = x := by
 unfold at_; rw [if_pos (by omega)]; simp [h]
theorem at_no {L : List Nd} {i : Int} (h : has L i = false) : at_ L i = none_ := by
 have := has_false h
 unfold at_; split
 ·rw [List.getElem?_eq_none (by omega)]; rfl
 ·rfl
theorem has_get {L : List Nd} {i : Int} (h : has L i = true) : ∃ x, L[i.toNat]? = some x ∧ at_ L i = x := by
 have := has_true h
 have hlt : i.toNat < L.length := by omega
 refine ⟨L[i.toNat], List.getElem?_eq_getElem hlt, ?_⟩
 unfold at_; rw [if_pos this.1, List.getElem?_eq_getElem hlt]; rfl
def kidsOf (L : List Nd) (i : Int) : List Int := (at_ L i).kids
def bel (L : List Nd) : Nat → Int → List Int
 | 0, _ => []
 | f + 1, i => ((kidsOf L i).flatMap fun k => bel L f k) ++ [i]
def evs (L : List Nd) : Nat → Int → List (Int × Bool)
 | 0, _ => []
 | f + 1, i => (i, true) :: (((kidsOf L i).flatMap fun k => evs L f k) ++ [(i, false)])
def Down (L : List Nd) : Prop := ∀ i : Int, ∀ k ∈ kidsOf L i, 0 ≤ k ∧ k < i
def Bel (L : List Nd) (i : Int) : List Int := bel L (i.toNat + 1) i
def Evs (L : List Nd) (i : Int) : List (Int × Bool) := evs L (i.toNat + 1) i
theorem bel_fuel {L : List Nd} (h : Down L) : ∀ (f g : Nat) (i : Int), i.toNat < f → i.toNat < g → bel L f i = bel L g i
 | 0, _, _, h1, _ => absurd h1 (Nat.not_lt_zero _)
 | _ + 1, 0, _, _, h2 => absurd h2 (Nat.not_lt_zero _)
 | f + 1, g + 1, i, h1, h2 => by
  have e : (kidsOf L i).flatMap (fun k => bel L f k) = (kidsOf L i).flatMap (fun k => bel L g k) := by
   rw [List.flatMap, List.flatMap]
   congr 1
   refine List.map_congr_left fun k hk => ?_
   have := h i k hk
   exact bel_fuel h f g k (by omega) (by omega)
  show _ ++ _ = _ ++ _
  rw [e]
theorem evs_fuel {L : List Nd} (h : Down L) : ∀ (f g : Nat) (i : Int), i.toNat < f → i.toNat < g → evs L f i = evs L g i
 | 0, _, _, h1, _ => absurd h1 (Nat.not_lt_zero _)
 | _ + 1, 0, _, _, h2 => absurd h2 (Nat.not_lt_zero _)
 | f + 1, g + 1, i, h1, h2 => by
  have e : (kidsOf L i).flatMap (fun k => evs L f k) = (kidsOf L i).flatMap (fun k => evs L g k) := by
   rw [List.flatMap, List.flatMap]
   congr 1
   refine List.map_congr_left fun k hk => ?_
   have := h i k hk
   exact evs_fuel h f g k (by omega) (by omega)
  show _ :: (_ ++ _) = _ :: (_ ++ _)
  rw [e]
theorem Bel_eq {L : List Nd} (h : Down L) (i : Int) : Bel L i = ((kidsOf L i).flatMap fun k => Bel L k) ++ [i] := by
 have e : (kidsOf L i).flatMap (fun k => bel L i.toNat k) = (kidsOf L i).flatMap (fun k => Bel L k) := by
  rw [List.flatMap, List.flatMap]
  congr 1
  refine List.map_congr_left fun k hk => ?_
  have := h i k hk
  exact bel_fuel h _ _ k (by omega) (by omega)
 show _ ++ _ = _
 rw [e]
theorem Evs_eq {L : List Nd} (h : Down L) (i : Int) : Evs L i = (i, true) :: (((kidsOf L i).flatMap fun k => Evs L k) ++ [(i, false)]) := by
 have e : (kidsOf L i).flatMap (fun k => evs L i.toNat k) = (kidsOf L i).flatMap (fun k => Evs L k) := by
  rw [List.flatMap, List.flatMap]
  congr 1
  refine List.map_congr_left fun k hk => ?_
  have := h i k hk
  exact evs_fuel h _ _ k (by omega) (by omega)
 show _ :: (_ ++ _) = _
 rw [e]
def lefts (E : List (Int × Bool)) : List Int := E.filterMap fun e => if e.2 then none else some e.1
theorem lefts_append (E F : List (Int × Bool)) : lefts (E ++ F) = lefts E ++ lefts F := by simp [lefts]
theorem lefts_flat (l : List Int) (f : Int → List (Int × Bool)) : lefts (l.flatMap f) = l.flatMap fun k => lefts (f k) := by
 induction l with
 | nil => rfl
 | cons k l ih => simp only [List.flatMap_cons, lefts_append, ih]
theorem lefts_evs (L : List Nd) : ∀ (f : Nat) (i : Int), lefts (evs L f i) = bel L f i
 | 0, _ => rfl
 | f + 1, i => by
  show lefts ((i, true) :: (_ ++ _)) = _ ++ _
  have e : ∀ E, lefts ((i, true) :: E) = lefts E := fun E => by simp [lefts]
  rw [e, lefts_append, lefts_flat]
  have e2 : (fun k => lefts (evs L f k)) = fun k => bel L f k := funext fun k => lefts_evs L f k
  rw [e2]; simp [lefts]
theorem lefts_Evs (L : List Nd) (i : Int) : lefts (Evs L i) = Bel L i := lefts_evs L _ i
theorem evs_len (L : List Nd) : ∀ (f : Nat) (i : Int), (evs L f i).length = 2 * (bel L f i).length
 | 0, _ => rfl
 | f + 1, i => by
  show ((i, true) :: (_ ++ _)).length = 2 * (_ ++ _ : List Int).length
  have e : ∀ l : List Int, (l.flatMap fun k => evs L f k).length = 2 * (l.flatMap fun k => bel L f k).length := by
   intro l
   induction l with
   | nil => rfl
   | cons k l ih => simp only [List.flatMap_cons, List.length_append, ih, evs_len L f k]; omega
  simp only [List.length_cons, List.length_append, e, List.length_nil]; omega
theorem Evs_len (L : List Nd) (i : Int) : (Evs L i).length = 2 * (Bel L i).length := evs_len L _ i
def unit (L : List Nd) (k : Int) : List (Int × Bool) := if k < 0 then [(-1 - k, false)] else Evs L k
def expR (L : List Nd) (S : List Int) : List (Int × Bool) := S.reverse.flatMap (unit L)
theorem expR_snoc (L : List Nd) (S : List Int) (k : Int) : expR L (S ++ [k]) = unit L k ++ expR L S := by simp [expR]
theorem expR_append (L : List Nd) (S R : List Int) : expR L (S ++ R.reverse) = R.flatMap (unit L) ++ expR L S := by simp [expR]
theorem expR_nil (L : List Nd) : expR L [] = [] := rfl
theorem unit_pos (L : List Nd) (k : Int) : 1 ≤ (unit L k).length := by
 unfold unit; split
 ·simp
 ·show 1 ≤ (evs L (k.toNat + 1) k).length
  show 1 ≤ ((k, true) :: _ : List _).length
  simp
theorem expR_len (L : List Nd) : ∀ S : List Int, S.length ≤ (expR L S).length := by
 intro S
 unfold expR
 rw [← List.length_reverse]
 generalize S.reverse = R
 induction R with
 | nil => simp
 | cons k R ih =>
  have := unit_pos L k
  simp only [List.flatMap_cons, List.length_append, List.length_cons]; omega
theorem expR_enter {L : List Nd} (h : Down L) (S : List Int) (k : Int) (hk : 0 ≤ k) : expR L (S ++ [k]) = (k, true) :: expR L (S ++ [-1 - k] ++ (kidsOf L k).reverse) := by
 rw [expR_snoc, expR_append, expR_snoc]
 have e1 : unit L k = Evs L k := by unfold unit; rw [if_neg (by omega)]
 have e2 : unit L (-1 - k) = [(k, false)] := by unfold unit; rw [if_pos (by omega)]; congr 2; omega
 have e3 : (kidsOf L k).flatMap (unit L) = (kidsOf L k).flatMap fun k => Evs L k := by
  rw [List.flatMap, List.flatMap]
  congr 1
  refine List.map_congr_left fun j hj => ?_
  have := h k j hj
  unfold unit; rw [if_neg (by omega)]
 rw [e1, e2, e3, Evs_eq h]
 simp
theorem expR_leave {L : List Nd} (S : List Int) (k : Int) (hk : k < 0) : expR L (S ++ [k]) = (-1 - k, false) :: expR L S := by
 rw [expR_snoc]
 unfold unit; rw [if_pos hk]; rfl
end Tr
end Go.Proofs.YtdhhkancbgealaaGreat
end
section
namespace Go.Proofs.YtdhhkancbgealaaGreat
open Go.RowKit
def hld (n : Int) : Int := if n < 0 then 0 else if 1099511627776 < n then 1099511627776 else n
theorem hld_range (n : Int) : 0 ≤ hld n ∧ hld n ≤ 1099511627776 := by unfold hld; split <;> (try split) <;> omega
theorem hld_neg {n : Int} (h : n < 0) : hld n = 0 := by unfold hld; rw [if_pos h]
theorem hld_big {n : Int} (h : 1099511627776 < n) : hld n = 1099511627776 := by unfold hld; rw [if_neg (by omega), if_pos h]
theorem hld_in {n : Int} (h : 0 ≤ n) (h' : n ≤ 1099511627776) : hld n = n := by unfold hld; rw [if_neg (by omega), if_neg (by omega)]
theorem ret_int {k : IntKind} {a b : Int} (h : a = b) : Ending.returned (.int k a) = .returned (.int k b) := by rw [h]
theorem ret_bool {a b : Bool} (h : a = b) : Ending.returned (.bool a) = .returned (.bool b) := by rw [h]
set_option maxHeartbeats 400000 in
theorem held_any (n : Int) (w : World) :
  Calls Tryz.prog 40 #[.int .i64 n] w fun e w' => e = .returned (.int .i64 (hld n)) ∧ w = w' := by
 go_enter Tryz.func40, Tryz.ntmps40
 by_cases h1 : n < 0
 ·have h2 : ¬ (1099511627776 : Int) < 0 := by omega
  go_wp2
  all_goals go_ret
  all_goals exact ⟨ret_int (by rw [hld_neg h1]), rfl⟩
 ·by_cases h2 : 1099511627776 < n
  ·go_wp2
   all_goals go_ret
   all_goals exact ⟨ret_int (by rw [hld_big h2]), rfl⟩
  ·go_wp2
   all_goals go_ret
   all_goals exact ⟨ret_int (by rw [hld_in (by omega) (by omega)]), rfl⟩
set_option maxHeartbeats 400000 in
theorem Held_any (n : Int) (w : World) :
  Calls Tryz.prog 12 #[.int .i64 n] w fun e w' => e = .returned (.int .i64 (hld n)) ∧ w = w' := by
 go_enter Tryz.func12, Tryz.ntmps12
 by_cases h1 : n < 0
 ·go_wp2
  all_goals go_ret
  all_goals exact ⟨ret_int (by rw [hld_neg h1]), rfl⟩
 ·by_cases h2 : 1099511627776 < n
  ·go_wp2
   all_goals go_ret
   all_goals exact ⟨ret_int (by rw [hld_big h2]), rfl⟩
  ·go_wp2
   all_goals go_ret
   all_goals exact ⟨ret_int (by rw [hld_in (by omega) (by omega)]), rfl⟩
set_option maxHeartbeats 400000 in
theorem new_any (n : Int) (w : World) :
  Calls Tryz.prog 10 #[.int .i64 n] w fun e w' => e = .returned (.pointer (some ⟨w.heap.size, 0, none⟩)) ∧ w.alloc (.cells #[.int .i64 (hld n), .int .i64 0, .int .i64 0] 87) = w' := by
 go_enter Tryz.func10, Tryz.ntmps10
 go_wp2_with (go_at_call 40; refine (held_any _ _).mono ?_; rintro e w' ⟨rfl, rfl⟩)
 go_ret
 exact ⟨rfl, rfl⟩
set_option maxHeartbeats 400000 in
theorem left_any (b : Nat) (l u m : Int) (w : World) (hm : At w b 87 #[.int .i64 l, .int .i64 u, .int .i64 m]) (hb : 0 ≤ u ∧ u ≤ l ∧ l ≤ 1099511627776) :
  Calls Tryz.prog 90 #[.pointer (some ⟨b, 0, none⟩)] w fun e w' => e = .returned (.int .i64 (l - u)) ∧ ∃ n, w' = w.drewN n := by
 have c0 := hm.cell 0
 have c1 := hm.cell 1
 clear hm
 simp at c0 c1
 go_enter Tryz.func90, Tryz.ntmps90
 go_wp2
 go_quiet (fail)
 go_wp2
 go_ret
 exact ⟨rfl, _, rfl⟩
set_option maxHeartbeats 400000 in
theorem used_any (b : Nat) (l u m : Int) (w : World) (hm : At w b 87 #[.int .i64 l, .int .i64 u, .int .i64 m]) :
  Calls Tryz.prog 18 #[.pointer (some ⟨b, 0, none⟩)] w fun e w' => e = .returned (.int .i64 u) ∧ w = w' := by
 have c1 := hm.cell 1
 clear hm
 simp at c1
 go_enter Tryz.func18, Tryz.ntmps18
 go_wp2
 go_ret
 exact ⟨rfl, rfl⟩
end Go.Proofs.YtdhhkancbgealaaGreat
end
