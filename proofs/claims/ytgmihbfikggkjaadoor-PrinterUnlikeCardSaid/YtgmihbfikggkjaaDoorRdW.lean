/-
  ReaderRules in plain words: its text, the marks of that, the rules that are read of them; an argument of type [][]uint8.
-/
import Derived.Test.YtgmihbfikggkjaaDoorRdU
import Derived.Test.YtgmihbfikggkjaaDoorLwI
import Derived.Deep.Matrix
namespace Go.Proofs.YtgmihbfikggkjaaDoor
open Go.RowKit Go.ChangeShapes Go.WideShapes Go.ChangeAt
set_option linter.unusedVariables false
set_option linter.unusedSimpArgs false

/-- The slice at A has n rows of bytes. -/
structure Rows8 (w : World) (B : Nat) (A : Option Addr) (n : Nat) (AA : Nat → Option Addr) (NN CC : Nat → Nat) (XX : Nat → Nat → Nat) : Prop where
  each : ∀ i, i < n → ∃ b o, A = some ⟨b, o, none⟩ ∧ b < B ∧ w.cell? ⟨b, o + i, none⟩ = some (.slice (AA i) (NN i) (CC i))
  row : ∀ i, i < n → Bytes8 w B (AA i) (NN i) (XX i)
  len : n ≤ 9223372036854775807
theorem Rows8.below {w w' : World} {B : Nat} {A : Option Addr} {n : Nat} {AA : Nat → Option Addr} {NN CC : Nat → Nat} {XX : Nat → Nat → Nat} (h : Rows8 w B A n AA NN CC XX) (hb : Below B w w') : Rows8 w' B A n AA NN CC XX :=
  ⟨fun i hi => by
    obtain ⟨b, o, h1, h2, h3⟩ := h.each i hi
    exact ⟨b, o, h1, h2, (hb.cell (p := ⟨b, _, none⟩) h2).trans h3⟩, fun i hi => (h.row i hi).below hb, h.len⟩
section
variable {H : Type} {enc : TypeId × Value → H} {P : Program} {W : World} {base : Nat} {v : Value} {d : DataW H} {p : List MemPlace}
theorem open_rows8 {t e q : TypeId} (ht : P.underlying t = some (.slice e)) (he : P.underlying e = some (.slice q)) (hq : P.underlying q = some (.int .u8)) (ce : P.cellsOf e = 1) (cq : P.cellsOf q = 1)
    (hv : Value.okWide P W .any base t v) (h : DataW.Trod enc P W 0 (fun _ => true) true t v d p) :
    ∃ A n c AA NN CC XX, v = .slice A n c ∧ Rows8 W W.heap.size A n AA NN CC XX := by
  obtain ⟨A, n, c, rfl⟩ := okWide_slice ht hv
  obtain ⟨fuel, hf⟩ := h
  rcases Go.Deep.open_int_rows ht he hq ce cq hf with ⟨hcs, _⟩ | ⟨a, len, cap, A', L, C, Z, hcs, hb, hl, hm, _, hx⟩
  · simp [Value.cells] at hcs
    obtain ⟨rfl, rfl, rfl⟩ := hcs
    exact ⟨_, _, _, fun _ => none, fun _ => 0, fun _ => 0, fun _ _ => 0, rfl, fun i hi => by omega, fun i hi => by omega, by omega⟩
  · simp [Value.cells] at hcs
    obtain ⟨rfl, rfl, rfl⟩ := hcs
    refine ⟨_, _, _, A', L, C, fun r i => ((Z r).getD i 0).toNat, rfl, fun i hi => ?_, fun i hi => ?_, maxLen_le (by omega)⟩
    · obtain ⟨h1, _⟩ := hx i (by omega)
      obtain ⟨g00, _⟩ := hx 0 (by omega)
      obtain ⟨ab, ao, rfl, hlt⟩ := at_zero (a := a) (by simpa [Addr.add] using g00)
      rw [Go.WideShapes.add_plain] at h1
      exact ⟨ab, ao, rfl, hlt, h1⟩
    · obtain ⟨_, h2, h3, h4, h5, h6, h7⟩ := hx i (by omega)
      have hz : ∀ j, j < C i → 0 ≤ (Z i).getD j 0 ∧ (Z i).getD j 0 ≤ 255 := fun j hj => by
        have hj' : j < (Z i).length := by omega
        have hmem : (Z i).getD j 0 ∈ Z i := by
          rw [List.getD, List.getElem?_eq_getElem hj']; exact List.getElem_mem hj'
        exact u8_wf (h5 _ hmem)
      refine ⟨fun j hj => ?_, fun j hj => ?_, maxLen_le (by omega)⟩
      · cases hA : A' i with
        | none => have := h6 hA; omega
        | some a' =>
          obtain ⟨_, h8⟩ := h7 a' hA
          have g00 := h8 0 (by omega)
          have g := h8 j (by omega)
          obtain ⟨ab, ao, rfl, hlt⟩ := at_zero (a := a') (by simpa [Addr.add] using g00)
          rw [Go.WideShapes.add_plain] at g
          refine ⟨ab, ao, rfl, hlt, ?_⟩
          rw [g]
          have := hz j (by omega)
          congr 2
          omega
      · have := hz j (by omega)
        show ((Z i).getD j 0).toNat ≤ 255
        omega
end

namespace Rd
open Lx (Mk M0)
/-! ## Pieces whose places do not matter -/
def Pe (p : List UInt8) (es : List Mk) : Prop := ∃ ks, Pl p ks ∧ ks.map ek = es
theorem ek_shift (i : Nat) (ks : List M0) : (ks.map (shift i)).map ek = ks.map ek := by
  rw [List.map_map]; rfl
theorem Pe.then {p q : List UInt8} {es fs : List Mk} (h : Pe p es) (hq : Cut q) (k : Pe q fs) : Pe (p ++ q) (es ++ fs) := by
  obtain ⟨ks, h1, h2⟩ := h
  obtain ⟨ls, k1, k2⟩ := k
  exact ⟨_, h1.then hq k1, by rw [List.map_append, ek_shift, h2, k2]⟩
theorem Pe.of {p : List UInt8} {ks : List M0} (h : Pl p ks) : Pe p (ks.map ek) := ⟨ks, h, rfl⟩
theorem Pe.free {p q : List UInt8} {ks : List M0} {fs : List Mk} (h : Free p ks) (k : Pe q fs) : Pe (p ++ q) (ks.map ek ++ fs) := by
  obtain ⟨ls, k1, k2⟩ := k
  exact ⟨_, h.then k1, by rw [List.map_append, ek_shift, k2]⟩
theorem pe_nil : Pe [] [] := ⟨[], free_nil.pl, rfl⟩
def e1 (n : Nat) : Mk := ⟨1, wd n, 0, 0⟩
def ec (k : Nat) : Mk := ⟨k, [], 0, 0⟩

/-- A row of words, each behind a space. -/
def rowT (l : List Nat) : List UInt8 := l.flatMap fun n => 32 :: wd n
def rowM (l : List Nat) : List Mk := l.map e1
theorem rowT_snoc (l : List Nat) (n : Nat) : rowT (l ++ [n]) = rowT l ++ (32 :: wd n) := by simp [rowT]
theorem rowT_cut (l : List Nat) {r : List UInt8} (hr : Cut r) : Cut (rowT l ++ r) := by
  cases l with
  | nil => exact hr
  | cons n l => exact Cut.cons (by decide)
theorem pe_row (l : List Nat) : Pe (rowT l) (rowM l) := by
  induction l with
  | nil => exact pe_nil
  | cons n r ih =>
    have h1 : Pe (32 :: wd n) [e1 n] := Pe.free (free_space (c := 32) (by decide)) (Pe.of (pl_wd n))
    have := h1.then (by have := rowT_cut r Cut.nil; rwa [List.append_nil] at this) ih
    exact this

/-! ## The text of ReaderRules -/
section
variable (X : Nat → Nat) (st : Nat → Bool) (R : Nat → List Nat)
/-- The left side of the k-th alternative. -/
def lf : Nat → Nat
  | 0 => X 0
  | k + 1 => if st (k + 1) = true then X (k + 1) else lf k
def headT (k : Nat) : List UInt8 := if k = 0 then 10 :: (wd (X k) ++ [32, 58]) else if st k = true then 32 :: 59 :: 10 :: (wd (X k) ++ [32, 58]) else [32, 124]
def headM (k : Nat) : List Mk := if k = 0 then [e1 (X k), ec 6] else if st k = true then [ec 8, e1 (X k), ec 6] else [ec 7]
def TT : Nat → List UInt8
  | 0 => [37, 37]
  | k + 1 => TT k ++ (headT X st k ++ rowT (R k))
def MM : Nat → List Mk
  | 0 => [⟨2, [37], 0, 0⟩]
  | k + 1 => MM k ++ (headM X st k ++ rowM (R k))
def ruleOf (k : Nat) : Rule := ⟨wd (lf X st k), (R k).map wd, [], []⟩
def WW : Nat → List Rule
  | 0 => []
  | k + 1 => WW k ++ [ruleOf X st R k]
theorem WW_len (k : Nat) : (WW X st R k).length = k := by
  induction k with
  | zero => rfl
  | succ k ih => simp [WW, ih]
theorem free_one {c : UInt8} {k : Nat} (h : ∀ r, Lx.step (c :: r) = .mark k [] 1) : Free [c] [(k, [], 0)] := free_mark (by simp) (fun r => h r)
theorem pe_left (n : Nat) : Pe (10 :: (wd n ++ [32, 58])) [e1 n, ec 6] := by
  have h1 : Pe [32, 58] [ec 6] := Pe.free (free_space (c := 32) (by decide)) (Pe.of (free_one (c := 58) (k := 6) (fun _ => rfl)).pl)
  have h2 := (Pe.of (pl_wd n)).then (Cut.cons (by decide)) h1
  exact Pe.free (free_space (c := 10) (by decide)) h2
theorem headT_cut (k : Nat) (r : List UInt8) : Cut (headT X st k ++ r) := by
  unfold headT
  split
  · exact Cut.cons (by decide)
  · split <;> exact Cut.cons (by decide)
theorem pe_head (k : Nat) : Pe (headT X st k) (headM X st k) := by
  unfold headT headM
  split
  · exact pe_left _
  · split
    · exact Pe.free (free_space (c := 32) (by decide)) (Pe.free (free_one (c := 59) (k := 8) (fun _ => rfl)) (pe_left _))
    · exact Pe.free (free_space (c := 32) (by decide)) (Pe.of (free_one (c := 124) (k := 7) (fun _ => rfl)).pl)
theorem pe_TT (k : Nat) : Pe (TT X st R k) (MM X st R k) := by
  induction k with
  | zero =>
    have h : Free [37, 37] [(2, [37], 0)] := free_mark (by simp) (fun r => rfl)
    exact Pe.of h.pl
  | succ k ih =>
    have h1 := (pe_head X st k).then (by have := rowT_cut (R k) Cut.nil; rwa [List.append_nil] at this) (pe_row (R k))
    exact ih.then (headT_cut X st k _) h1

/-! ## What is read of it -/
theorem rights_row (l : List Nat) (m : Mk) (t : List Mk) (hm : m.kind ≠ 1) : ∀ acc : List Name, acc.length + l.length ≤ 8 → rights (rowM l ++ m :: t) acc = .ok (acc ++ l.map wd) (m :: t) := by
  induction l with
  | nil =>
    intro acc _
    show rights (m :: t) acc = _
    rw [rights, if_neg hm]; simp
  | cons n l ih =>
    intro acc h
    simp only [List.length_cons] at h
    show rights (e1 n :: (rowM l ++ m :: t)) acc = _
    rw [rights, if_pos (show (e1 n).kind = 1 from rfl), if_neg (by omega), ih _ (by simp; omega)]
    simp [e1]
theorem alt_row (left : Name) (n : Nat) (l : List Nat) (m : Mk) (t : List Mk) (hm : m.kind = 7 ∨ m.kind = 8) (hn : n ≠ 40) (hl : l.length ≤ 8) : alt left n (rowM l ++ m :: t) = .ok ⟨left, l.map wd, [], []⟩ (m :: t) := by
  unfold alt
  rw [if_neg hn, rights_row l m t (by omega) [] (by simpa using hl)]
  simp only [List.nil_append]
  rw [prec_cons, if_neg (by unfold isWord; rcases hm with h | h <;> simp [h])]
  simp only []
  rw [action_cons, if_neg (by omega)]
/-- What stands behind the k-th alternative, with d alternatives more. -/
def AM : Nat → Nat → List Mk
  | _, 0 => [ec 8, ec 0]
  | k, d + 1 => headM X st (k + 1) ++ (rowM (R (k + 1)) ++ AM (k + 1) d)
theorem MM_AM (d : Nat) : ∀ k, MM X st R (k + 1) ++ AM X st R k d = MM X st R (k + 1 + d) ++ [ec 8, ec 0] := by
  induction d with
  | zero => intro k; rfl
  | succ d ih =>
    intro k
    have := ih (k + 1)
    rw [show k + 1 + (d + 1) = k + 1 + 1 + d by omega, ← this]
    show MM X st R (k + 1) ++ (headM X st (k + 1) ++ (rowM (R (k + 1)) ++ AM X st R (k + 1) d)) = MM X st R (k + 1) ++ (headM X st (k + 1) ++ rowM (R (k + 1))) ++ AM X st R (k + 1) d
    simp only [List.append_assoc]
/-- On from the midst of a rule. -/
def goOn (f1 f2 : Nat) (left : Name) (acc : List Rule) (ms : List Mk) : Res (List Rule) :=
  match alts f1 left acc ms with
  | .bad e r => .bad e r
  | .ok acc' r => if (hd r).kind = 0 then .ok acc' r else rules f2 acc' r
theorem goOn_reads (hR : ∀ k, (R k).length ≤ 8) (d : Nat) : ∀ (k f1 f2 : Nat), k + 1 + d ≤ 12 → (rowM (R k) ++ AM X st R k d).length < f1 → (rowM (R k) ++ AM X st R k d).length < f2 →
    goOn f1 f2 (wd (lf X st k)) (WW X st R k) (rowM (R k) ++ AM X st R k d) = .ok (WW X st R (k + 1 + d)) [ec 0] := by
  induction d with
  | zero =>
    intro k f1 f2 h12 h1 h2
    obtain ⟨f1, rfl⟩ : ∃ g, f1 = g + 1 := ⟨f1 - 1, by omega⟩
    unfold goOn
    have e : rowM (R k) ++ AM X st R k 0 = rowM (R k) ++ ec 8 :: [ec 0] := rfl
    rw [e, alts, alt_row _ _ _ _ _ (.inr rfl) (by rw [WW_len]; omega) (hR k)]
    rfl
  | succ d ih =>
    intro k f1 f2 h12 h1 h2
    obtain ⟨f1, rfl⟩ : ∃ g, f1 = g + 1 := ⟨f1 - 1, by omega⟩
    obtain ⟨f2, rfl⟩ : ∃ g, f2 = g + 1 := ⟨f2 - 1, by omega⟩
    have hWn : WW X st R k ++ [⟨wd (lf X st k), (R k).map wd, [], []⟩] = WW X st R (k + 1) := rfl
    have hlen : (rowM (R k) ++ AM X st R k (d + 1)).length = (R k).length + ((headM X st (k + 1)).length + (rowM (R (k + 1)) ++ AM X st R (k + 1) d).length) := by
      simp [AM, rowM]
    by_cases hs : st (k + 1) = true
    · have hh : headM X st (k + 1) = [ec 8, e1 (X (k + 1)), ec 6] := by unfold headM; rw [if_neg (by omega), if_pos hs]
      have hl : lf X st (k + 1) = X (k + 1) := by unfold lf; rw [if_pos hs]
      have e : rowM (R k) ++ AM X st R k (d + 1) = rowM (R k) ++ ec 8 :: (e1 (X (k + 1)) :: ec 6 :: (rowM (R (k + 1)) ++ AM X st R (k + 1) d)) := by
        show rowM (R k) ++ (headM X st (k + 1) ++ _) = _
        rw [hh]; rfl
      rw [hh] at hlen
      simp only [List.length_cons, List.length_nil] at hlen
      have ih' := ih (k + 1) ((e1 (X (k + 1)) :: ec 6 :: (rowM (R (k + 1)) ++ AM X st R (k + 1) d)).length + 1) f2 (by omega) (by simp only [List.length_cons]; omega) (by omega)
      unfold goOn at ih' ⊢
      rw [e, alts, alt_row _ _ _ _ _ (.inr rfl) (by rw [WW_len]; omega) (hR k)]
      simp only []
      rw [if_pos (show (hd (ec 8 :: (e1 (X (k + 1)) :: ec 6 :: (rowM (R (k + 1)) ++ AM X st R (k + 1) d)))).kind = 8 from rfl), List.tail_cons, hWn]
      simp only []
      rw [if_neg (show ¬ (hd (e1 (X (k + 1)) :: ec 6 :: (rowM (R (k + 1)) ++ AM X st R (k + 1) d))).kind = 0 from by rw [hd_cons]; show ¬ (1 : Nat) = 0; omega), rules, rule_two, if_neg (by show ¬ (1 : Nat) ≠ 1; omega), if_neg (by show ¬ (6 : Nat) ≠ 6; omega)]
      rw [hl, show k + 1 + 1 + d = k + 1 + (d + 1) by omega] at ih'
      exact ih'
    · have hh : headM X st (k + 1) = [ec 7] := by unfold headM; rw [if_neg (by omega), if_neg hs]
      have hl : lf X st (k + 1) = lf X st k := by rw [lf, if_neg hs]
      have e : rowM (R k) ++ AM X st R k (d + 1) = rowM (R k) ++ ec 7 :: (rowM (R (k + 1)) ++ AM X st R (k + 1) d) := by
        show rowM (R k) ++ (headM X st (k + 1) ++ _) = _
        rw [hh]; rfl
      rw [hh] at hlen
      simp only [List.length_cons, List.length_nil] at hlen
      have ih' := ih (k + 1) f1 (f2 + 1) (by omega) (by omega) (by omega)
      unfold goOn at ih' ⊢
      rw [e, alts, alt_row _ _ _ _ _ (.inl rfl) (by rw [WW_len]; omega) (hR k)]
      simp only []
      rw [if_neg (show ¬ (hd (ec 7 :: (rowM (R (k + 1)) ++ AM X st R (k + 1) d))).kind = 8 from by show ¬ (7 : Nat) = 8; omega), if_pos (show (hd (ec 7 :: (rowM (R (k + 1)) ++ AM X st R (k + 1) d))).kind = 7 from rfl), List.tail_cons, hWn]
      rw [hl, show k + 1 + 1 + d = k + 1 + (d + 1) by omega] at ih'
      exact ih'
/-- The rules of the text are read as they were written. -/
theorem read_rules (hR : ∀ k, (R k).length ≤ 8) (n : Nat) (h1 : 1 ≤ n) (h12 : n ≤ 12) (hT : (TT X st R n ++ [59]).length ≤ 3998) :
    readD (TT X st R n ++ [59]) = (0, 0, 0) ∧ readG (TT X st R n ++ [59]) = ⟨[], [], [], wd (X 0), WW X st R n⟩ := by
  obtain ⟨d, rfl⟩ : ∃ d, n = 0 + 1 + d := ⟨n - 1, by omega⟩
  have hP : Pe (TT X st R (0 + 1 + d) ++ [59]) (MM X st R (0 + 1 + d) ++ [ec 8]) := (pe_TT X st R _).then (Cut.cons (by decide)) (Pe.of (free_one (c := 59) (k := 8) (fun _ => rfl)).pl)
  obtain ⟨ks, hk1, hk2⟩ := hP
  obtain ⟨f', hf1, hf2⟩ := hk1 [] ((TT X st R (0 + 1 + d) ++ [59]).length + 1) 0 [] Cut.nil (by rw [List.append_nil]; omega)
  rw [List.append_nil, Lx.run_end (by omega), List.nil_append] at hf2
  obtain ⟨l, hl⟩ : ∃ l, TT X st R (0 + 1 + d) ++ [59] = 37 :: 37 :: l := by
    have : ∀ k, ∃ l, TT X st R k = 37 :: 37 :: l := by
      intro k
      induction k with
      | zero => exact ⟨[], rfl⟩
      | succ k ih => obtain ⟨l, hl⟩ := ih; exact ⟨l ++ (headT X st k ++ rowT (R k)), by rw [TT, hl]; rfl⟩
    obtain ⟨l, hl⟩ := this (0 + 1 + d)
    exact ⟨l ++ [59], by rw [hl]; rfl⟩
  have hlex : Lx.lex (TT X st R (0 + 1 + d) ++ [59]) = .ok (ks.map (shift 0) ++ [(0, [], 0 + (TT X st R (0 + 1 + d) ++ [59]).length)]) := by
    unfold Lx.lex
    rw [if_neg (by omega)]
    exact hf2
  have hm0 : ks.map (shift 0) = ks := by
    have : (shift 0) = id := by funext m; simp [shift]
    rw [this, List.map_id]
  rw [hm0] at hlex
  have hMM := MM_AM X st R d 0
  have hall : (ks ++ [(0, [], 0 + (TT X st R (0 + 1 + d) ++ [59]).length)]).map ek = ⟨2, [37], 0, 0⟩ :: e1 (X 0) :: ec 6 :: (rowM (R 0) ++ AM X st R 0 d) := by
    rw [List.map_append, hk2, List.append_assoc]
    show MM X st R (0 + 1 + d) ++ [ec 8, ec 0] = _
    rw [← hMM]
    show ([⟨2, [37], 0, 0⟩] ++ (headM X st 0 ++ rowM (R 0))) ++ AM X st R 0 d = _
    rw [List.append_assoc, List.append_assoc]
    rfl
  rw [hl] at hlex hall ⊢
  have key : (parse ((ks ++ [(0, [], 0 + (37 :: 37 :: l : List UInt8).length)]).map (Lx.mkOf (37 :: 37 :: l)))).grammar = ⟨[], [], [], wd (X 0), WW X st R (0 + 1 + d)⟩ ∧ (parse ((ks ++ [(0, [], 0 + (37 :: 37 :: l : List UInt8).length)]).map (Lx.mkOf (37 :: 37 :: l)))).diag = (0, 0, 0) := by
    generalize (ks ++ [(0, [], 0 + (37 :: 37 :: l : List UInt8).length)]) = all at hall ⊢
    cases all with
    | nil => cases hall
    | cons m0 ms =>
      rw [List.map_cons] at hall ⊢
      have hm0 : ek m0 = ⟨2, [37], 0, 0⟩ := (List.cons.inj hall).1
      have hms : ms.map ek = e1 (X 0) :: ec 6 :: (rowM (R 0) ++ AM X st R 0 d) := (List.cons.inj hall).2
      have hmk : Lx.mkOf (37 :: 37 :: l) m0 = ⟨2, [37], (Lx.mkOf (37 :: 37 :: l) m0).line, (Lx.mkOf (37 :: 37 :: l) m0).col⟩ := by
        have k1 : m0.1 = 2 := congrArg Mk.kind hm0
        have k2 : m0.2.1 = [37] := congrArg Mk.text hm0
        unfold Lx.mkOf
        rw [k1, k2]
      rw [hmk, parse_mark]
      have her := rules_er ((ms.map (Lx.mkOf (37 :: 37 :: l))).length + 1) [] (ms.map (Lx.mkOf (37 :: 37 :: l)))
      rw [er_mkOf, hms, List.length_map] at her
      have hlen := congrArg List.length hms
      rw [List.length_map] at hlen
      have hgo := goOn_reads X st R hR d 0 ((e1 (X 0) :: ec 6 :: (rowM (R 0) ++ AM X st R 0 d)).length + 1) ms.length (by omega) (by simp only [List.length_cons]; omega) (by rw [hlen]; simp only [List.length_cons]; omega)
      have hru : rules (ms.length + 1) [] (e1 (X 0) :: ec 6 :: (rowM (R 0) ++ AM X st R 0 d)) = .ok (WW X st R (0 + 1 + d)) [ec 0] := by
        rw [rules, rule_two, if_neg (by show ¬ (1 : Nat) ≠ 1; omega), if_neg (by show ¬ (6 : Nat) ≠ 6; omega)]
        exact hgo
      rw [hru] at her
      rw [List.length_map]
      obtain ⟨r', hr'⟩ := Res.er_ok her.symm
      rw [hr']
      have hhd : ∀ d, ((WW X st R (0 + 1 + d)).headD ⟨[], [], [], []⟩).left = wd (X 0) := by
        intro d
        induction d with
        | zero => rfl
        | succ d ih =>
          show ((WW X st R (0 + 1 + d) ++ [ruleOf X st R (0 + 1 + d)]).headD ⟨[], [], [], []⟩).left = _
          have hne : WW X st R (0 + 1 + d) ≠ [] := by
            intro e
            have := WW_len X st R (0 + 1 + d)
            rw [e] at this
            simp only [List.length_nil] at this
            omega
          obtain ⟨a, b, hab⟩ := List.exists_cons_of_ne_nil hne
          rw [hab] at ih ⊢
          exact ih
      refine ⟨?_, rfl⟩
      show (⟨[], [], [], ((WW X st R (0 + 1 + d)).headD ⟨[], [], [], []⟩).left, WW X st R (0 + 1 + d)⟩ : G) = _
      rw [hhd]
  unfold readD readG
  rw [hlex]
  exact ⟨key.2, key.1⟩
end
end Rd
end Go.Proofs.YtgmihbfikggkjaaDoor
