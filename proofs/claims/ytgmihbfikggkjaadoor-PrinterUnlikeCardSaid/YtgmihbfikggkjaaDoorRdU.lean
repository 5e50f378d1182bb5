/-
  Texts that are written piece by piece, and their marks: words, declarations of tokens; what is read of a list of tokens that are declared.
-/
import Derived.Test.YtgmihbfikggkjaaDoorRdS
namespace Go.Proofs.YtgmihbfikggkjaaDoor
namespace Rd
open Lx (Mk M0 run isName isLetter isSmall)
set_option linter.unusedVariables false
set_option linter.unusedSimpArgs false

/-! ## Pieces -/
/-- No name goes on into r. -/
def Cut (r : List UInt8) : Prop := ∀ c t, r = c :: t → isName c = false
theorem Cut.nil : Cut [] := fun _ _ h => by cases h
theorem Cut.cons {c : UInt8} {t : List UInt8} (h : isName c = false) : Cut (c :: t) := fun _ _ e => by cases e; exact h
theorem Cut.append {p r : List UInt8} (hp : Cut p) (hr : Cut r) : Cut (p ++ r) := by
  cases p with
  | nil => exact hr
  | cons c t => exact Cut.cons (hp c t rfl)
def shift (i : Nat) (m : M0) : M0 := (m.1, m.2.1, i + m.2.2)
/-- The piece p is lexed to the marks ks, whatever stands behind it (where that does not go on with a name). -/
def Free (p : List UInt8) (ks : List M0) : Prop := ∀ (r : List UInt8) (f i : Nat) (acc : List M0), (p ++ r).length < f → ∃ f', r.length < f' ∧ run f (p ++ r) i acc = run f' r (i + p.length) (acc ++ ks.map (shift i))
def Pl (p : List UInt8) (ks : List M0) : Prop := ∀ (r : List UInt8) (f i : Nat) (acc : List M0), Cut r → (p ++ r).length < f → ∃ f', r.length < f' ∧ run f (p ++ r) i acc = run f' r (i + p.length) (acc ++ ks.map (shift i))
theorem Free.pl {p : List UInt8} {ks : List M0} (h : Free p ks) : Pl p ks := fun r f i acc _ hf => h r f i acc hf
theorem shift_shift (i j : Nat) (ks : List M0) : (ks.map (shift j)).map (shift i) = ks.map (shift (i + j)) := by
  rw [List.map_map]
  apply List.map_congr_left
  intro m _
  simp only [Function.comp, shift, Nat.add_assoc]
theorem Free.then {p q : List UInt8} {ks ls : List M0} (h : Free p ks) (k : Pl q ls) : Pl (p ++ q) (ks ++ ls.map (shift p.length)) := by
  intro r f i acc hr hf
  rw [List.append_assoc] at hf ⊢
  obtain ⟨f1, h1, e1⟩ := h (q ++ r) f i acc hf
  obtain ⟨f2, h2, e2⟩ := k r f1 (i + p.length) (acc ++ ks.map (shift i)) hr h1
  refine ⟨f2, h2, ?_⟩
  rw [e1, e2, List.length_append, List.map_append, shift_shift, Nat.add_assoc, List.append_assoc]
theorem Pl.then {p q : List UInt8} {ks ls : List M0} (h : Pl p ks) (hq : Cut q) (k : Pl q ls) : Pl (p ++ q) (ks ++ ls.map (shift p.length)) := by
  intro r f i acc hr hf
  rw [List.append_assoc] at hf ⊢
  obtain ⟨f1, h1, e1⟩ := h (q ++ r) f i acc (hq.append hr) hf
  obtain ⟨f2, h2, e2⟩ := k r f1 (i + p.length) (acc ++ ks.map (shift i)) hr h1
  refine ⟨f2, h2, ?_⟩
  rw [e1, e2, List.length_append, List.map_append, shift_shift, Nat.add_assoc, List.append_assoc]
theorem free_nil : Free [] [] := fun r f i acc hf => ⟨f, hf, by simp⟩
theorem free_space {c : UInt8} (h : Lx.isSpace c = true) : Free [c] [] := fun r f i acc hf => by
  simp at hf
  exact ⟨f - 1, by omega, by rw [List.cons_append, Lx.run_skip (by omega) (by simp) (Lx.step_space _ h)]; simp⟩
theorem free_mark {p t : List UInt8} {k : Nat} (hp : p ≠ []) (h : ∀ r, Lx.step (p ++ r) = .mark k t p.length) : Free p [(k, t, 0)] := fun r f i acc hf => by
  have h0 := List.length_pos_iff.2 hp
  simp at hf
  refine ⟨f - 1, by omega, ?_⟩
  rw [Lx.run_mark (by omega) (by simp [hp]) (h r), List.drop_left]
  simp [shift]
theorem pl_mark {p t : List UInt8} {k : Nat} (hp : p ≠ []) (h : ∀ r, Cut r → Lx.step (p ++ r) = .mark k t p.length) : Pl p [(k, t, 0)] := fun r f i acc hr hf => by
  have h0 := List.length_pos_iff.2 hp
  simp at hf
  refine ⟨f - 1, by omega, ?_⟩
  rw [Lx.run_mark (by omega) (by simp [hp]) (h r hr), List.drop_left]
  simp [shift]

/-! ## Words -/
/-- The name of a number. -/
def wd (n : Nat) : List UInt8 := [UInt8.ofNat (97 + n % 10), UInt8.ofNat (120 + n / 10 % 3)]
theorem small_letter : ∀ k : Fin 10, isLetter (UInt8.ofNat (97 + k)) = true ∧ isName (UInt8.ofNat (97 + k)) = true ∧ UInt8.ofNat (97 + k) ≠ 34 ∧ UInt8.ofNat (97 + k) ≠ 10 ∧ UInt8.ofNat (97 + k) ≠ 92 := by decide
theorem last_letter : ∀ k : Fin 3, isName (UInt8.ofNat (120 + k)) = true ∧ UInt8.ofNat (120 + k) ≠ 34 ∧ UInt8.ofNat (120 + k) ≠ 10 ∧ UInt8.ofNat (120 + k) ≠ 92 := by decide
theorem wd_ok (n : Nat) : ∃ a b, wd n = [a, b] ∧ isLetter a = true ∧ isName a = true ∧ isName b = true ∧ (a ≠ 34 ∧ a ≠ 10 ∧ a ≠ 92) ∧ b ≠ 34 ∧ b ≠ 10 ∧ b ≠ 92 := by
  obtain ⟨h1, h2, h3, h4, h5⟩ := small_letter ⟨n % 10, by omega⟩
  obtain ⟨h6, h7, h8, h9⟩ := last_letter ⟨n / 10 % 3, by omega⟩
  exact ⟨_, _, rfl, h1, h2, h6, ⟨h3, h4, h5⟩, h7, h8, h9⟩
theorem wd_len (n : Nat) : (wd n).length = 2 := rfl
theorem takeWhile_cut {r : List UInt8} (hr : Cut r) : r.takeWhile isName = [] := by
  cases r with
  | nil => rfl
  | cons c t => rw [List.takeWhile_cons_of_neg (by rw [hr c t rfl]; decide)]
theorem pl_wd (n : Nat) : Pl (wd n) [(1, wd n, 0)] := by
  obtain ⟨a, b, e, h1, h2, h3, _⟩ := wd_ok n
  rw [e]
  refine pl_mark (by simp) fun r hr => ?_
  have hn : Lx.nameOf (a :: ([b] ++ r)) = [a, b] := by
    have e : Lx.nameOf (a :: ([b] ++ r)) = if isLetter a then (a :: ([b] ++ r)).takeWhile isName else [] := rfl
    rw [e, if_pos h1, List.takeWhile_cons_of_pos h2, List.cons_append, List.nil_append, List.takeWhile_cons_of_pos h3, takeWhile_cut hr]
  rw [List.cons_append, Lx.step_letter _ h1, hn]
  rfl
theorem text_plain {c : UInt8} (h : c ≠ 34 ∧ c ≠ 10 ∧ c ≠ 92) (r told : List UInt8) (i : Nat) : Lx.text (c :: r) told i = Lx.text r (told ++ [c]) (i + 1) := by
  rw [Lx.text.eq_def]
  simp only [if_neg h.1, if_neg h.2.1, if_neg h.2.2]
theorem free_quoted (n : Nat) : Free (34 :: (wd n ++ [34])) [(3, wd n, 0)] := by
  obtain ⟨a, b, e, _, _, _, h4, h5⟩ := wd_ok n
  rw [e]
  refine free_mark (by simp) fun r => ?_
  have e2 : (34 :: ([a, b] ++ [34]) ++ r : List UInt8) = 34 :: a :: b :: 34 :: r := rfl
  rw [e2, Lx.step_text, text_plain h4, text_plain h5, Lx.text.eq_def]
  rfl
theorem pl_token : Pl [37, 116, 111, 107, 101, 110] [(2, [116, 111, 107, 101, 110], 0)] := by
  refine pl_mark (by simp) fun r hr => ?_
  have hs : r.takeWhile isSmall = [] := by
    cases r with
    | nil => rfl
    | cons c t =>
      have := hr c t rfl
      rw [List.takeWhile_cons_of_neg]
      intro h
      unfold isName isLetter at this
      rw [h] at this
      simp at this
  have e : Lx.step ([37, 116, 111, 107, 101, 110] ++ r) = Lx.word ([116, 111, 107, 101, 110] ++ r) := rfl
  have e2 : Lx.wordOf ([116, 111, 107, 101, 110] ++ r) = [116, 111, 107, 101, 110] := by
    have : Lx.wordOf ([116, 111, 107, 101, 110] ++ r) = 116 :: 111 :: 107 :: 101 :: 110 :: r.takeWhile isSmall := rfl
    rw [this, hs]
  rw [e]
  unfold Lx.word
  rw [e2]
  rfl

/-! ## Tokens -/
def tokT (n : Nat) : List UInt8 := [37, 116, 111, 107, 101, 110] ++ ([32] ++ (wd n ++ ([32] ++ ((34 :: (wd n ++ [34])) ++ [10]))))
def tokM (n : Nat) : List M0 := [(2, [116, 111, 107, 101, 110], 0), (1, wd n, 7), (3, wd n, 10)]
theorem tokT_len (n : Nat) : (tokT n).length = 15 := rfl
theorem tokT_cut (n : Nat) (r : List UInt8) : Cut (tokT n ++ r) := Cut.cons (by decide)
theorem pl_tokT (n : Nat) : Pl (tokT n) (tokM n) := by
  have h1 := (free_quoted n).then (free_space (c := 10) (by decide)).pl
  have h2 := (free_space (c := 32) (by decide)).then h1
  have h3 := (pl_wd n).then (Cut.cons (by decide)) h2
  have h4 := (free_space (c := 32) (by decide)).then h3
  have h5 := pl_token.then (Cut.cons (by decide)) h4
  exact h5
def txt : List Nat → List UInt8
  | [] => []
  | n :: r => tokT n ++ txt r
def marksT : List Nat → List M0
  | [] => []
  | n :: r => tokM n ++ (marksT r).map (shift 15)
theorem txt_cons (n : Nat) (r : List Nat) : txt (n :: r) = tokT n ++ txt r := rfl
theorem marksT_cons (n : Nat) (r : List Nat) : marksT (n :: r) = tokM n ++ (marksT r).map (shift 15) := rfl
theorem txt_cut (l : List Nat) {r : List UInt8} (hr : Cut r) : Cut (txt l ++ r) := by
  cases l with
  | nil => exact hr
  | cons n l => unfold txt; rw [List.append_assoc]; exact tokT_cut _ _
theorem txt_len (l : List Nat) : (txt l).length = 15 * l.length := by
  induction l with
  | nil => rfl
  | cons n r ih => unfold txt; rw [List.length_append, ih, tokT_len, List.length_cons]; omega
theorem pl_txt (l : List Nat) : Pl (txt l) (marksT l) := by
  induction l with
  | nil => exact free_nil.pl
  | cons n r ih =>
    exact (pl_tokT n).then (by have := txt_cut r Cut.nil; rwa [List.append_nil] at this) ih
theorem txt_snoc (l : List Nat) (n : Nat) : txt (l ++ [n]) = txt l ++ tokT n := by
  induction l with
  | nil => simp [txt]
  | cons m r ih => simp only [List.cons_append, txt, ih, List.append_assoc]

/-- What ends the text. -/
def lastT : List UInt8 := [37, 37, 32, 101, 32, 58, 32, 59]
def lastM : List M0 := [(2, [37], 0), (1, [101], 3), (6, [], 5), (8, [], 7)]
theorem lex_txt (l : List Nat) (h : l.length ≤ 25) : Lx.lex (txt l ++ lastT) = .ok (marksT l ++ lastM.map (shift (15 * l.length)) ++ [(0, [], 15 * l.length + 8)]) := by
  have hl : (txt l ++ lastT).length = 15 * l.length + 8 := by rw [List.length_append, txt_len]; rfl
  unfold Lx.lex
  rw [if_neg (by omega)]
  obtain ⟨f1, h1, e1⟩ := pl_txt l lastT ((txt l ++ lastT).length + 1) 0 [] (Cut.cons (by decide)) (by omega)
  rw [e1]
  have h8 : 8 < f1 := h1
  unfold lastT
  rw [Lx.run_mark (k := 2) (t := [37]) (n := 2) (by omega) (by simp) rfl, show List.drop 2 [37, 37, 32, 101, 32, 58, 32, 59] = ([32, 101, 32, 58, 32, 59] : List UInt8) from rfl]
  rw [Lx.run_skip (n := 1) (by omega) (by simp) rfl, show List.drop 1 [32, 101, 32, 58, 32, 59] = ([101, 32, 58, 32, 59] : List UInt8) from rfl]
  rw [Lx.run_mark (k := 1) (t := [101]) (n := 1) (by omega) (by simp) rfl, show List.drop 1 [101, 32, 58, 32, 59] = ([32, 58, 32, 59] : List UInt8) from rfl]
  rw [Lx.run_skip (n := 1) (by omega) (by simp) rfl, show List.drop 1 [32, 58, 32, 59] = ([58, 32, 59] : List UInt8) from rfl]
  rw [Lx.run_mark (k := 6) (t := []) (n := 1) (by omega) (by simp) rfl, show List.drop 1 [58, 32, 59] = ([32, 59] : List UInt8) from rfl]
  rw [Lx.run_skip (n := 1) (by omega) (by simp) rfl, show List.drop 1 [32, 59] = ([59] : List UInt8) from rfl]
  rw [Lx.run_mark (k := 8) (t := []) (n := 1) (by omega) (by simp) rfl, show List.drop 1 [59] = ([] : List UInt8) from rfl]
  rw [Lx.run_end (by omega), txt_len]
  have hm : (marksT l).map (shift 0) = marksT l := by
    have : (shift 0) = id := by funext m; simp [shift]
    rw [this, List.map_id]
  rw [hm]
  simp [lastM, shift]

/-! ## What is declared -/
def tokOf (n : Nat) : Tok := ⟨wd n, ⟨wd n, [], false⟩⟩
def withToks (l : List Tok) : Decls := ⟨l, [], [], [], false⟩
/-- All of l can be declared behind the tokens d. -/
def Good_ (d : List Tok) : List Nat → Prop
  | [] => True
  | n :: r => (d.any fun t => t.name == wd n) = false ∧ d.length ≠ 20 ∧ Good_ (d ++ [tokOf n]) r
def mk3 (n : Nat) (P Q R : Nat × Nat) : List Mk := [⟨2, [116, 111, 107, 101, 110], P.1, P.2⟩, ⟨1, wd n, Q.1, Q.2⟩, ⟨3, wd n, R.1, R.2⟩]
theorem decls_tok (f n : Nat) (P Q R : Nat × Nat) (d : List Tok) (r : List Mk) : decls (f + 1) (withToks d) (mk3 n P Q R ++ r) =
    if (d.any fun t => t.name == wd n) = true then .bad 15 (⟨1, wd n, Q.1, Q.2⟩ :: ⟨3, wd n, R.1, R.2⟩ :: r) else if d.length = 20 then .bad 3 (⟨1, wd n, Q.1, Q.2⟩ :: ⟨3, wd n, R.1, R.2⟩ :: r) else decls f (withToks (d ++ [tokOf n])) r := by
  have e0 : decls (f + 1) (withToks d) (mk3 n P Q R ++ r) = match token (withToks d) (mk3 n P Q R ++ r) with | .bad e r => .bad e r | .ok d' r => decls f d' r := rfl
  have e1 : token (withToks d) (mk3 n P Q R ++ r) = if (d.any fun t => t.name == wd n) = true then .bad 15 (⟨1, wd n, Q.1, Q.2⟩ :: ⟨3, wd n, R.1, R.2⟩ :: r) else if d.length = 20 then .bad 3 (⟨1, wd n, Q.1, Q.2⟩ :: ⟨3, wd n, R.1, R.2⟩ :: r) else .ok (withToks (d ++ [tokOf n])) r := rfl
  rw [e0, e1]
  by_cases h1 : (d.any fun t => t.name == wd n) = true
  · rw [if_pos h1, if_pos h1]
  · rw [if_neg h1, if_neg h1]
    by_cases h2 : d.length = 20
    · rw [if_pos h2, if_pos h2]
    · rw [if_neg h2, if_neg h2]
theorem decls_good (T : List UInt8) (i : Nat) : ∀ (l : List Nat) (d : List Tok) (f : Nat) (r : List M0), Good_ d l → l.length < f → decls f (withToks d) ((((marksT l).map (shift i)) ++ r).map (Lx.mkOf T)) = decls (f - l.length) (withToks (d ++ l.map tokOf)) (r.map (Lx.mkOf T)) := by
  intro l
  induction l generalizing i with
  | nil => intro d f r _ _; simp [marksT]
  | cons n l ih =>
    intro d f r hg hf
    obtain ⟨h1, h2, h3⟩ := hg
    obtain ⟨f, rfl⟩ : ∃ k, f = k + 1 := ⟨f - 1, by omega⟩
    have e : ((((marksT (n :: l)).map (shift i)) ++ r).map (Lx.mkOf T)) = mk3 n (Lx.pos T (i + 0)) (Lx.pos T (i + 7)) (Lx.pos T (i + 10)) ++ ((((marksT l).map (shift (i + 15))) ++ r).map (Lx.mkOf T)) := by
      simp only [marksT_cons, List.map_append, shift_shift, List.append_assoc]
      rfl
    rw [e, decls_tok, if_neg (by rw [h1]; decide), if_neg h2, ih (i + 15) (d ++ [tokOf n]) f r h3 (by simp at hf; omega)]
    simp
/-- All can be declared. -/
theorem read_toks (l : List Nat) (h : l.length ≤ 25) (hg : Good_ [] l) : readD (txt l ++ lastT) = (0, 0, 0) ∧ readG (txt l ++ lastT) = ⟨l.map tokOf, [], [], [101], [⟨[101], [], [], []⟩]⟩ := by
  have hx := lex_txt l h
  have key : ∃ r, parse ((marksT l ++ lastM.map (shift (15 * l.length)) ++ [(0, [], 15 * l.length + 8)]).map (Lx.mkOf (txt l ++ lastT))) = .ok ⟨l.map tokOf, [], [], [101], [⟨[101], [], [], []⟩]⟩ r := by
    generalize 15 * l.length + 8 = e8
    generalize 15 * l.length = e0
    generalize txt l ++ lastT = T
    have hm : (marksT l).map (shift 0) = marksT l := by
      have : (shift 0) = id := by funext m; simp [shift]
      rw [this, List.map_id]
    have hd := decls_good T 0 l [] (((marksT l ++ lastM.map (shift e0) ++ [(0, [], e8)]).map (Lx.mkOf T)).length + 1) (lastM.map (shift e0) ++ [(0, [], e8)]) hg (by
      have : ∀ l : List Nat, (marksT l).length = 3 * l.length := by
        intro l
        induction l with
        | nil => rfl
        | cons n r ih => unfold marksT; rw [List.length_append, List.length_map, ih]; simp [tokM]; omega
      simp [this]; omega)
    rw [hm, ← List.append_assoc] at hd
    unfold parse
    rw [show none_ = withToks [] from rfl, hd]
    have hlen : ((marksT l ++ lastM.map (shift e0) ++ [(0, [], e8)]).map (Lx.mkOf T)).length + 1 - l.length = (((marksT l ++ lastM.map (shift e0) ++ [(0, [], e8)]).map (Lx.mkOf T)).length - l.length) + 1 := by
      have : ∀ l : List Nat, l.length ≤ (marksT l).length := by
        intro l
        induction l with
        | nil => exact Nat.le_refl _
        | cons n r ih => unfold marksT; rw [List.length_append, List.length_map]; simp [tokM]; omega
      have := this l
      simp; omega
    rw [hlen]
    exact ⟨_, rfl⟩
  obtain ⟨r, hr⟩ := key
  unfold readD readG
  rw [hx]
  simp only []
  rw [hr]
  exact ⟨rfl, rfl⟩
/-! ## Places -/
theorem adv_tok (p : Nat × Nat) (n : Nat) : Lx.adv p (tokT n) = (p.1 + 1, 1) := by
  obtain ⟨a, b, e, _, _, _, h4, h5⟩ := wd_ok n
  unfold tokT
  rw [e]
  simp [Lx.adv, h4.2.1, h5.2.1]
theorem adv_txt (p : Nat × Nat) (l : List Nat) (h : p.2 = 1) : Lx.adv p (txt l) = (p.1 + l.length, 1) := by
  induction l generalizing p with
  | nil => unfold txt; rw [← h]; rfl
  | cons n r ih =>
    unfold txt
    rw [Lx.adv_append, adv_tok, ih _ rfl, List.length_cons]
    congr 1; omega
theorem pos_name (l : List Nat) (n : Nat) (r : List UInt8) : Lx.pos (txt l ++ (tokT n ++ r)) (15 * l.length + 7) = (l.length + 1, 8) := by
  unfold Lx.pos
  have e : (txt l ++ (tokT n ++ r)).take (15 * l.length + 7) = txt l ++ [37, 116, 111, 107, 101, 110, 32] := by
    rw [List.take_append, txt_len, List.take_of_length_le (by rw [txt_len]; omega), Nat.add_sub_cancel_left]
    rfl
  rw [e, Lx.adv_append, adv_txt _ _ rfl, Nat.add_comm]
  rfl
/-- One cannot be declared: the error c. -/
def Fails (d : List Tok) (n c : Nat) : Prop := ((d.any fun t => t.name == wd n) = true ∧ c = 15) ∨ ((d.any fun t => t.name == wd n) = false ∧ d.length = 20 ∧ c = 3)
theorem read_tokfail (l : List Nat) (n : Nat) (l2 : List Nat) (c : Nat) (h : (l ++ n :: l2).length ≤ 25) (hg : Good_ [] l) (hf : Fails (l.map tokOf) n c) :
    readD (txt (l ++ n :: l2) ++ lastT) = (c, l.length + 1, 8) ∧ readG (txt (l ++ n :: l2) ++ lastT) = zero := by
  have hx := lex_txt _ h
  have marks_split : ∀ (a b : List Nat), marksT (a ++ b) = marksT a ++ (marksT b).map (shift (15 * a.length)) := by
    intro a b
    induction a with
    | nil =>
      have : (shift 0) = id := by funext m; simp [shift]
      simp [marksT, this]
    | cons m r ih =>
      simp only [List.cons_append, marksT, ih, List.map_append, shift_shift, List.append_assoc, List.length_cons]
      rw [show 15 + 15 * r.length = 15 * (r.length + 1) by omega]
  have txt_split : ∀ (a b : List Nat), txt (a ++ b) = txt a ++ txt b := by
    intro a b
    induction a with
    | nil => rfl
    | cons m r ih => simp only [List.cons_append, txt, ih, List.append_assoc]
  have mlen : ∀ l : List Nat, l.length ≤ (marksT l).length := by
    intro l
    induction l with
    | nil => exact Nat.le_refl _
    | cons n r ih => unfold marksT; rw [List.length_append, List.length_map]; simp [tokM]; omega
  have hpos : Lx.pos (txt (l ++ n :: l2) ++ lastT) (15 * l.length + 7) = (l.length + 1, 8) := by
    rw [txt_split, txt_cons, List.append_assoc, List.append_assoc]
    exact pos_name l n _
  have key : ∃ Q r, parse ((marksT (l ++ n :: l2) ++ lastM.map (shift (15 * (l ++ n :: l2).length)) ++ [(0, [], 15 * (l ++ n :: l2).length + 8)]).map (Lx.mkOf (txt (l ++ n :: l2) ++ lastT))) = .bad c (Q :: r) ∧ (Q.line, Q.col) = (l.length + 1, 8) := by
    rw [← hpos, marks_split, List.append_assoc]
    generalize lastM.map (shift (15 * (l ++ n :: l2).length)) ++ [(0, [], 15 * (l ++ n :: l2).length + 8)] = tl
    generalize txt (l ++ n :: l2) ++ lastT = T
    have hm : (marksT l).map (shift 0) = marksT l := by
      have : (shift 0) = id := by funext m; simp [shift]
      rw [this, List.map_id]
    obtain ⟨F, hF⟩ : ∃ F, ((marksT l ++ (marksT (n :: l2)).map (shift (15 * l.length)) ++ tl).map (Lx.mkOf T)).length + 1 = F := ⟨_, rfl⟩
    have hFl : l.length < F := by
      have := mlen l
      rw [← hF]; simp; omega
    have hd := decls_good T 0 l [] F ((marksT (n :: l2)).map (shift (15 * l.length)) ++ tl) hg hFl
    rw [hm, List.nil_append] at hd
    rw [List.append_assoc] at hF
    unfold parse
    rw [List.append_assoc, hF, show none_ = withToks [] from rfl, hd]
    obtain ⟨f2, hf2⟩ : ∃ f2, F - l.length = f2 + 1 := ⟨F - l.length - 1, by omega⟩
    have e : (((marksT (n :: l2)).map (shift (15 * l.length)) ++ tl).map (Lx.mkOf T)) = mk3 n (Lx.pos T (15 * l.length + 0)) (Lx.pos T (15 * l.length + 7)) (Lx.pos T (15 * l.length + 10)) ++ ((((marksT l2).map (shift (15 * l.length + 15))) ++ tl).map (Lx.mkOf T)) := by
      simp only [marksT_cons, List.map_append, shift_shift, List.append_assoc]
      rfl
    rw [hf2, e, decls_tok]
    rcases hf with ⟨h1, rfl⟩ | ⟨h1, h2, rfl⟩
    · rw [if_pos h1]
      exact ⟨_, _, rfl, rfl⟩
    · rw [if_neg (by rw [h1]; decide), if_pos h2]
      exact ⟨_, _, rfl, rfl⟩
  obtain ⟨Q, r, hr, hq⟩ := key
  unfold readD readG
  rw [hx]
  simp only []
  rw [hr]
  refine ⟨?_, rfl⟩
  show (c, Q.line, Q.col) = _
  rw [hq]
end Rd
end Go.Proofs.YtgmihbfikggkjaaDoor
