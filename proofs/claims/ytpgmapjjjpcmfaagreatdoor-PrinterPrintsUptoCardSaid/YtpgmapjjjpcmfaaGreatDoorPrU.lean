/-
  The printer in plain words: patterns, rules, a grammar as a text; which grammars can be read; the marks of such a text.
  What a grammar's text is read as: the marks of the text, and what the reader makes of them ('read_text').
-/
import Derived.Test.YtpgmapjjjpcmfaaGreatDoorRdAG
namespace Go.Proofs.YtpgmapjjjpcmfaaGreatDoor
namespace Pr
open Lx (Mk M0 isName isLetter isSmall Step)
open Rd (Name Pat Tok Lev Rule G Pl Free Pe Cut ek ec)
set_option linter.unusedVariables false
set_option linter.unusedSimpArgs false

/-! ## Texts -/
def esc (q : UInt8 → Bool) : List UInt8 → List UInt8
  | [] => []
  | c :: r => if c = 10 then 92 :: 110 :: esc q r else if c = 9 then 92 :: 116 :: esc q r else if q c = true then 92 :: c :: esc q r else c :: esc q r
def inText (c : UInt8) : Bool := c == 92 || c == 34
def inSet (c : UInt8) : Bool := c == 92 || c == 93 || c == 45
theorem esc_append (q : UInt8 → Bool) (a b : List UInt8) : esc q (a ++ b) = esc q a ++ esc q b := by
  induction a with
  | nil => rfl
  | cons c r ih =>
    rw [List.cons_append, esc, esc, ih]
    split
    · rfl
    · split
      · rfl
      · split <;> rfl
theorem esc_len (q : UInt8 → Bool) (l : List UInt8) : (esc q l).length ≤ 2 * l.length := by
  induction l with
  | nil => simp [esc]
  | cons c r ih =>
    rw [esc, List.length_cons]
    split
    · simp only [List.length_cons]; omega
    · split
      · simp only [List.length_cons]; omega
      · split <;> simp only [List.length_cons] <;> omega
theorem esc_more (q : UInt8 → Bool) (l : List UInt8) : l.length ≤ (esc q l).length := by
  induction l with
  | nil => simp [esc]
  | cons c r ih =>
    rw [esc, List.length_cons]
    split
    · simp only [List.length_cons]; omega
    · split
      · simp only [List.length_cons]; omega
      · split <;> simp only [List.length_cons] <;> omega
def pattern (p : Pat) : List UInt8 := if p.text = [] then 91 :: (esc inSet p.set ++ (93 :: if p.many = true then [43] else [])) else 34 :: (esc inText p.text ++ [34])
def rowT (l : List Name) : List UInt8 := l.flatMap fun n => 32 :: n
def precT (p : Name) : List UInt8 := if p = [] then [] else [32, 37, 112, 114, 101, 99, 32] ++ p
def actT (a : Name) : List UInt8 := if a = [] then [] else 32 :: 123 :: (a ++ [125])
def ruleT (r : Rule) : List UInt8 := r.left ++ ([32, 58] ++ (rowT r.right ++ (precT r.prec ++ (actT r.action ++ [32, 59]))))
def tokT (t : Tok) : List UInt8 := [37, 116, 111, 107, 101, 110, 32] ++ (t.name ++ (32 :: (pattern t.pat ++ [10])))
def skipT (p : Pat) : List UInt8 := [37, 115, 107, 105, 112, 32] ++ (pattern p ++ [10])
def levW (a : Nat) : List UInt8 := if a = 1 then [108, 101, 102, 116] else if a = 2 then [114, 105, 103, 104, 116] else [110, 111, 110, 97, 115, 115, 111, 99]
def levT (v : Lev) : List UInt8 := 37 :: (levW v.assoc ++ (rowT v.names ++ [10]))
def midT (s : Name) : List UInt8 := [37, 115, 116, 97, 114, 116, 32] ++ (s ++ [10, 37, 37, 10])
def rulesT (l : List Rule) : List UInt8 := l.flatMap fun r => ruleT r ++ [10]
def text (g : G) : List UInt8 := g.toks.flatMap tokT ++ (g.skips.flatMap skipT ++ (g.levels.flatMap levT ++ (midT g.start ++ rulesT g.rules)))

/-! ## What can be read -/
def nameOk (n : Name) : Bool := decide (n.length ≤ 32) && (n != [] && Lx.nameOf n == n)
def rises : List UInt8 → Bool
  | a :: b :: r => decide (a < b) && rises (b :: r)
  | _ => true
def patOk (p : Pat) : Bool := if p.text = [] then p.set != [] && rises p.set else decide (p.text.length ≤ 32) && (p.set == [] && !p.many)
def actOk (a : Name) : Bool := Lx.act (a ++ [125]) [] 1 == .mark 9 a (a.length + 2)
def tokOk (t : Tok) : Bool := nameOk t.name && patOk t.pat
def levOk (v : Lev) : Bool := decide (1 ≤ v.assoc ∧ v.assoc ≤ 3) && (v.names != [] && v.names.all nameOk)
def ruleOk (r : Rule) : Bool := nameOk r.left && (decide (r.right.length ≤ 8) && (r.right.all nameOk && ((r.prec == [] || nameOk r.prec) && actOk r.action)))
structure Right (g : G) : Prop where
  ntok : g.toks.length ≤ 20
  nskip : g.skips.length ≤ 4
  nlev : g.levels.length ≤ 10
  nrule : g.rules.length ≤ 40
  rules : g.rules ≠ []
  start : nameOk g.start = true
  toks : ∀ t ∈ g.toks, tokOk t = true
  skips : ∀ p ∈ g.skips, patOk p = true
  levels : ∀ v ∈ g.levels, levOk v = true
  each : ∀ r ∈ g.rules, ruleOk r = true
  tonce : (g.toks.map Tok.name).Nodup
  lonce : (g.levels.flatMap Lev.names).Nodup

/-! ## Names, words -/
theorem nameOk_ex {n : Name} (h : nameOk n = true) : n.length ≤ 32 ∧ ∃ c t, n = c :: t ∧ isLetter c = true ∧ ∀ x ∈ n, isName x = true := by
  unfold nameOk at h
  simp only [Bool.and_eq_true, decide_eq_true_eq, bne_iff_ne, beq_iff_eq] at h
  obtain ⟨h1, h2, h3⟩ := h
  refine ⟨h1, ?_⟩
  cases n with
  | nil => exact absurd rfl h2
  | cons c t =>
    have e : Lx.nameOf (c :: t) = if isLetter c then (c :: t).takeWhile isName else [] := rfl
    rw [e] at h3
    by_cases hc : isLetter c = true
    · rw [if_pos hc] at h3
      refine ⟨c, t, rfl, hc, fun x hx => ?_⟩
      rw [← h3] at hx
      have : ∀ (l : List UInt8), ∀ x ∈ l.takeWhile isName, isName x = true := by
        intro l
        induction l with
        | nil => intro x hx; simp at hx
        | cons a r ih =>
          intro x hx
          by_cases ha : isName a = true
          · rw [List.takeWhile_cons_of_pos ha] at hx
            rcases List.mem_cons.1 hx with rfl | hx
            · exact ha
            · exact ih x hx
          · rw [List.takeWhile_cons_of_neg ha] at hx; simp at hx
      exact this _ x hx
    · rw [if_neg hc] at h3; cases h3
theorem takeWhile_all {f : UInt8 → Bool} {n r : List UInt8} (h : ∀ x ∈ n, f x = true) (hr : r.takeWhile f = []) : (n ++ r).takeWhile f = n := by
  induction n with
  | nil => exact hr
  | cons a t ih => rw [List.cons_append, List.takeWhile_cons_of_pos (h a (by simp)), ih (fun x hx => h x (by simp [hx]))]
theorem small_cut {r : List UInt8} (hr : Cut r) : r.takeWhile isSmall = [] := by
  cases r with
  | nil => rfl
  | cons c t =>
    have := hr c t rfl
    rw [List.takeWhile_cons_of_neg]
    intro h
    unfold isName isLetter at this
    rw [h] at this
    simp at this
theorem pl_name {n : Name} (h : nameOk n = true) : Pl n [(1, n, 0)] := by
  obtain ⟨h32, c, t, rfl, hc, ha⟩ := nameOk_ex h
  refine Rd.pl_mark (by simp) fun r hr => ?_
  have hn : Lx.nameOf (c :: (t ++ r)) = c :: t := by
    have e : Lx.nameOf (c :: (t ++ r)) = if isLetter c then (c :: (t ++ r)).takeWhile isName else [] := rfl
    rw [e, if_pos hc, ← List.cons_append, takeWhile_all ha (Rd.takeWhile_cut hr)]
  rw [List.cons_append, Lx.step_letter _ hc, hn, if_neg (by omega)]
theorem pl_small {w : List UInt8} (h : ∀ x ∈ w, isSmall x = true) (h0 : w ≠ []) (hw : w ∈ Lx.words) : Pl (37 :: w) [(2, w, 0)] := by
  refine Rd.pl_mark (by simp) fun r hr => ?_
  have e2 : Lx.wordOf (w ++ r) = w := by
    unfold Lx.wordOf
    rw [if_neg, takeWhile_all h (small_cut hr)]
    cases w with
    | nil => exact absurd rfl h0
    | cons c t =>
      have := h c (by simp)
      intro e
      simp at e
      rw [e] at this
      revert this; decide
  rw [List.cons_append, Lx.step_word]
  unfold Lx.word
  rw [e2, if_pos hw, List.length_cons, Nat.add_comm]

/-! ## Patterns -/
theorem text_esc (l told : List UInt8) (i : Nat) (rest : List UInt8) : Lx.text (esc inText l ++ rest) told i = Lx.text rest (told ++ l) (i + (esc inText l).length) := by
  induction l generalizing told i with
  | nil => simp [esc]
  | cons c r ih =>
    rw [esc]
    by_cases h10 : c = 10
    · subst h10
      rw [if_pos rfl, List.cons_append, List.cons_append]
      have e : Lx.text (92 :: 110 :: (esc inText r ++ rest)) told i = Lx.text (esc inText r ++ rest) (told ++ [10]) (i + 2) := by rw [Lx.text.eq_def]; rfl
      rw [e, ih]
      simp; congr 1; omega
    · rw [if_neg h10]
      by_cases h9 : c = 9
      · subst h9
        rw [if_pos rfl, List.cons_append, List.cons_append]
        have e : Lx.text (92 :: 116 :: (esc inText r ++ rest)) told i = Lx.text (esc inText r ++ rest) (told ++ [9]) (i + 2) := by rw [Lx.text.eq_def]; rfl
        rw [e, ih]
        simp; congr 1; omega
      · rw [if_neg h9]
        by_cases h2 : inText c = true
        · rw [if_pos h2, List.cons_append, List.cons_append]
          have e : Lx.text (92 :: c :: (esc inText r ++ rest)) told i = Lx.text (esc inText r ++ rest) (told ++ [c]) (i + 2) := by
            unfold inText at h2
            simp only [Bool.or_eq_true, beq_iff_eq] at h2
            rcases h2 with rfl | rfl <;> (rw [Lx.text.eq_def]; rfl)
          rw [e, ih]
          simp; congr 1; omega
        · rw [if_neg h2, List.cons_append]
          have e : Lx.text (c :: (esc inText r ++ rest)) told i = Lx.text (esc inText r ++ rest) (told ++ [c]) (i + 1) := by
            rw [Lx.text.eq_def]
            unfold inText at h2
            simp only [Bool.or_eq_true, beq_iff_eq, not_or] at h2
            simp only [if_neg h2.2, if_neg h10, if_neg h2.1]
          rw [e, ih]
          simp; congr 1; omega
theorem put_open {p : Lx.Parts} (h : p.dash = 0) (b : UInt8) : p.put b = some ⟨fun j => p.has j || j == b.toNat, some b.toNat, 0⟩ := by
  unfold Lx.Parts.put; rw [if_pos h]
theorem cls_esc (l : List UInt8) : ∀ (i : Nat) (p : Lx.Parts) (rest : List UInt8), p.dash = 0 → ∃ q : Lx.Parts, q.dash = 0 ∧ (∀ j, q.has j = (p.has j || l.any (fun c => j == c.toNat))) ∧ Lx.cls (esc inSet l ++ rest) i p = Lx.cls rest (i + (esc inSet l).length) q := by
  induction l with
  | nil => intro i p rest hp; exact ⟨p, hp, by simp, by simp [esc]⟩
  | cons c r ih =>
    intro i p rest hp
    have key : ∀ (k : Nat), Lx.cls (esc inSet (c :: r) ++ rest) i p = Lx.cls (esc inSet r ++ rest) (i + k) ⟨fun j => p.has j || j == c.toNat, some c.toNat, 0⟩ → (esc inSet (c :: r)).length = k + (esc inSet r).length →
        ∃ q : Lx.Parts, q.dash = 0 ∧ (∀ j, q.has j = (p.has j || (c :: r).any (fun c => j == c.toNat))) ∧ Lx.cls (esc inSet (c :: r) ++ rest) i p = Lx.cls rest (i + (esc inSet (c :: r)).length) q := by
      intro k he hk
      obtain ⟨q, h1, h2, h3⟩ := ih (i + k) ⟨fun j => p.has j || j == c.toNat, some c.toNat, 0⟩ rest rfl
      refine ⟨q, h1, fun j => ?_, ?_⟩
      · rw [h2, List.any_cons, Bool.or_assoc]
      · rw [he, h3, hk, Nat.add_assoc]
    by_cases h10 : c = 10
    · subst h10
      have e0 : esc inSet (10 :: r) = 92 :: 110 :: esc inSet r := by rw [esc, if_pos rfl]
      refine key 2 ?_ (by rw [e0]; simp only [List.length_cons]; omega)
      rw [e0, List.cons_append, List.cons_append, Lx.cls.eq_def]
      simp only [if_neg (show ¬ (92 : UInt8) = 93 by decide), if_neg (show ¬ (92 : UInt8) = 10 by decide), if_neg (show ¬ ((92 : UInt8) = 45 ∧ p.dash = 0) from fun h => absurd h.1 (by decide)), if_true, show Lx.esc 4 110 = some 10 from rfl, put_open hp]
    · by_cases h9 : c = 9
      · subst h9
        have e0 : esc inSet (9 :: r) = 92 :: 116 :: esc inSet r := by rw [esc, if_neg h10, if_pos rfl]
        refine key 2 ?_ (by rw [e0]; simp only [List.length_cons]; omega)
        rw [e0, List.cons_append, List.cons_append, Lx.cls.eq_def]
        simp only [if_neg (show ¬ (92 : UInt8) = 93 by decide), if_neg (show ¬ (92 : UInt8) = 10 by decide), if_neg (show ¬ ((92 : UInt8) = 45 ∧ p.dash = 0) from fun h => absurd h.1 (by decide)), if_true, show Lx.esc 4 116 = some 9 from rfl, put_open hp]
      · by_cases h2 : inSet c = true
        · have e0 : esc inSet (c :: r) = 92 :: c :: esc inSet r := by rw [esc, if_neg h10, if_neg h9, if_pos h2]
          refine key 2 ?_ (by rw [e0]; simp only [List.length_cons]; omega)
          have h5 : Lx.esc 4 c = some c := by
            unfold inSet at h2
            simp only [Bool.or_eq_true, beq_iff_eq] at h2
            rcases h2 with (rfl | rfl) | rfl <;> rfl
          rw [e0, List.cons_append, List.cons_append, Lx.cls.eq_def]
          simp only [if_neg (show ¬ (92 : UInt8) = 93 by decide), if_neg (show ¬ (92 : UInt8) = 10 by decide), if_neg (show ¬ ((92 : UInt8) = 45 ∧ p.dash = 0) from fun h => absurd h.1 (by decide)), if_true, h5, put_open hp]
        · have e0 : esc inSet (c :: r) = c :: esc inSet r := by rw [esc, if_neg h10, if_neg h9, if_neg h2]
          refine key 1 ?_ (by rw [e0]; simp only [List.length_cons]; omega)
          unfold inSet at h2
          simp only [Bool.or_eq_true, beq_iff_eq, not_or] at h2
          rw [e0, List.cons_append, Lx.cls.eq_def]
          simp only [if_neg h2.1.2, if_neg h10, if_neg (show ¬ (c = 45 ∧ p.dash = 0) from fun h => h2.2 h.1), if_neg h2.1.1, put_open hp]
theorem rises_lt : ∀ (l : List UInt8) (a : UInt8), rises (a :: l) = true → ∀ x ∈ l, a < x
  | [], _, _, x, hx => by simp at hx
  | b :: r, a, h, x, hx => by
    unfold rises at h
    simp only [Bool.and_eq_true, decide_eq_true_eq] at h
    rcases List.mem_cons.1 hx with rfl | hx
    · exact h.1
    · exact UInt8.lt_trans h.1 (rises_lt r b h.2 x hx)
theorem rises_tail {a : UInt8} {l : List UInt8} (h : rises (a :: l) = true) : rises l = true := by
  cases l with
  | nil => rfl
  | cons b r => unfold rises at h; simp only [Bool.and_eq_true] at h; exact h.2
theorem filter_rises (n : Nat) : ∀ (a : Nat) (l : List UInt8), rises l = true → (∀ x ∈ l, a ≤ x.toNat ∧ x.toNat < a + n) → (List.range' a n).filter (fun j => l.any (fun c => j == c.toNat)) = l.map UInt8.toNat := by
  induction n with
  | zero =>
    intro a l _ hx
    cases l with
    | nil => rfl
    | cons c r => have := hx c (by simp); omega
  | succ n ih =>
    intro a l hr hx
    rw [List.range'_succ]
    cases l with
    | nil => simp
    | cons c r =>
      have hc := hx c (by simp)
      by_cases h : c.toNat = a
      · have hlt := rises_lt r c hr
        rw [List.filter_cons_of_pos (by simp [h]), List.map_cons, h]
        congr 1
        rw [← ih (a + 1) r (rises_tail hr) (fun x hx' => by
          have h1 := hx x (by simp [hx'])
          have h2 : c.toNat < x.toNat := UInt8.lt_iff_toNat_lt.1 (hlt x hx')
          omega)]
        apply List.filter_congr
        intro j hj
        have := (List.mem_range'_1.1 hj).1
        rw [List.any_cons]
        have e : (j == c.toNat) = false := by rw [beq_eq_false_iff_ne]; omega
        rw [e, Bool.false_or]
      · have hlt := rises_lt r c hr
        rw [List.filter_cons_of_neg, ih (a + 1) (c :: r) hr (fun x hx' => by
          have h1 := hx x hx'
          rcases List.mem_cons.1 hx' with rfl | h2
          · omega
          · have h3 : c.toNat < x.toNat := UInt8.lt_iff_toNat_lt.1 (hlt x h2)
            omega)]
        rw [Bool.not_eq_true, List.any_eq_false]
        intro x hx'
        rcases List.mem_cons.1 hx' with rfl | h2
        · simp; omega
        · have h3 : c.toNat < x.toNat := UInt8.lt_iff_toNat_lt.1 (hlt x h2)
          simp; omega
theorem rising_of {l : List UInt8} (h : rises l = true) {F : Nat → Bool} (hF : ∀ j, F j = l.any (fun c => j == c.toNat)) : Lx.rising F = l := by
  unfold Lx.rising
  have e : F = fun j => l.any (fun c => j == c.toNat) := funext hF
  rw [e, List.range_eq_range', filter_rises 256 0 l h (fun x _ => ⟨by omega, by have := x.toNat_lt; omega⟩), List.map_map]
  have : (UInt8.ofNat ∘ UInt8.toNat) = id := by funext x; simp
  rw [this, List.map_id]
theorem free_text {t : List UInt8} (h0 : t ≠ []) (h : t.length ≤ 32) : Free (34 :: (esc inText t ++ [34])) [(3, t, 0)] := by
  refine Rd.free_mark (by simp) fun r => ?_
  have e2 : (34 :: (esc inText t ++ [34]) ++ r : List UInt8) = 34 :: (esc inText t ++ (34 :: r)) := by simp
  rw [e2, Lx.step_text, text_esc, Lx.text.eq_def]
  simp only [if_true, List.nil_append, if_neg h0, if_neg (show ¬ 32 < t.length by omega)]
  congr 1
  simp only [List.length_cons, List.length_append, List.length_nil]; omega
theorem free_set {t : List UInt8} (h0 : t ≠ []) (h : rises t = true) : Free (91 :: (esc inSet t ++ [93])) [(4, t, 0)] := by
  refine Rd.free_mark (by simp) fun r => ?_
  have e2 : (91 :: (esc inSet t ++ [93]) ++ r : List UInt8) = 91 :: (esc inSet t ++ (93 :: r)) := by simp
  obtain ⟨q, h1, h2, h3⟩ := cls_esc t 1 Lx.none_ (93 :: r) rfl
  rw [e2, Lx.step_cls, h3, Lx.cls.eq_def]
  have hr : Lx.rising q.has = t := rising_of h (fun j => by rw [h2]; rfl)
  simp only [if_true, h1, if_neg (show ¬ 0 < 0 by omega), hr, if_neg h0]
  congr 1
  simp only [List.length_cons, List.length_append, List.length_nil]; omega
def patM (p : Pat) : List M0 := if p.text = [] then (4, p.set, 0) :: (if p.many = true then [(5, [], (esc inSet p.set).length + 2)] else []) else [(3, p.text, 0)]
theorem free_then {p q : List UInt8} {ks ls : List M0} (h : Free p ks) (k : Free q ls) : Free (p ++ q) (ks ++ ls.map (Rd.shift p.length)) := by
  intro r f i acc hf
  rw [List.append_assoc] at hf ⊢
  obtain ⟨f1, h1, e1⟩ := h (q ++ r) f i acc hf
  obtain ⟨f2, h2, e2⟩ := k r f1 (i + p.length) (acc ++ ks.map (Rd.shift i)) h1
  refine ⟨f2, h2, ?_⟩
  rw [e1, e2, List.length_append, List.map_append, Rd.shift_shift, Nat.add_assoc, List.append_assoc]
theorem free_pattern {p : Pat} (h : patOk p = true) : Free (pattern p) (patM p) := by
  unfold patOk at h
  unfold pattern patM
  by_cases h0 : p.text = []
  · rw [if_pos h0] at h ⊢
    rw [if_pos h0]
    simp only [Bool.and_eq_true, bne_iff_ne] at h
    have h1 := free_set h.1 h.2
    by_cases hm : p.many = true
    · rw [if_pos hm, if_pos hm]
      have h2 := free_then h1 (Rd.free_one (c := 43) (k := 5) (fun _ => rfl))
      have e : 91 :: (esc inSet p.set ++ (93 :: [43])) = 91 :: (esc inSet p.set ++ [93]) ++ [43] := by simp
      rw [e]
      have e2 : (5, ([] : List UInt8), (esc inSet p.set).length + 2) = Rd.shift (91 :: (esc inSet p.set ++ [93])).length (5, [], 0) := by simp [Rd.shift]
      rw [e2]
      exact h2
    · rw [if_neg hm, if_neg hm]
      exact h1
  · rw [if_neg h0] at h ⊢
    rw [if_neg h0]
    simp only [Bool.and_eq_true, decide_eq_true_eq] at h
    exact free_text h0 h.1

/-! ## Actions -/
theorem act_more (l acc : List UInt8) (o : Nat) (r : List UInt8) {k n : Nat} {t : List UInt8} (h : Lx.act l acc o = .mark k t n) : Lx.act (l ++ r) acc o = .mark k t n := by
  induction l generalizing acc o with
  | nil => simp [Lx.act] at h
  | cons c l ih =>
    rw [List.cons_append]
    rw [Lx.act.eq_def] at h ⊢
    simp only [] at h ⊢
    split
    · rename_i hc
      rw [if_pos hc] at h
      split
      · rename_i ho; rw [if_pos ho] at h; cases h
      · rename_i ho; rw [if_neg ho] at h; exact ih _ _ h
    · rename_i hc
      rw [if_neg hc] at h
      split
      · rename_i hd
        rw [if_pos hd] at h
        split
        · rename_i ho; rw [if_pos ho] at h; exact h
        · rename_i ho; rw [if_neg ho] at h; exact ih _ _ h
      · rename_i hd
        rw [if_neg hd] at h
        exact ih _ _ h
theorem free_action {a : Name} (h : actOk a = true) : Free (123 :: (a ++ [125])) [(9, a, 0)] := by
  refine Rd.free_mark (by simp) fun r => ?_
  unfold actOk at h
  rw [beq_iff_eq] at h
  rw [List.cons_append, Lx.step_act, act_more _ _ _ _ h]
  simp

end Pr
end Go.Proofs.YtpgmapjjjpcmfaaGreatDoor

namespace Go.Proofs.YtpgmapjjjpcmfaaGreatDoor
namespace Rd
open Lx (Mk)
set_option linter.unusedVariables false
set_option linter.unusedSimpArgs false

/-! ## Places do not matter to declarations -/
theorem pattern_er (ms : List Mk) : pattern (ms.map er) = (pattern ms).er := by
  unfold pattern
  rw [hd_er, tail_er, hd_er, tail_er, er_kind, er_kind, er_text]
  split
  · rfl
  · split
    · split <;> rfl
    · rfl
theorem token_er (d : Decls) (ms : List Mk) : token d (ms.map er) = (token d ms).er := by
  unfold token
  rw [tail_er, hd_er, tail_er, er_kind, er_text, pattern_er]
  split
  · rfl
  · split
    · rfl
    · split
      · rfl
      · cases pattern ms.tail.tail <;> rfl
theorem skip_er (d : Decls) (ms : List Mk) : skip d (ms.map er) = (skip d ms).er := by
  unfold skip
  rw [tail_er, pattern_er]
  split
  · rfl
  · cases pattern ms.tail <;> rfl
theorem names_er (lev : List Name) (ms : List Mk) (acc : List Name) : names lev (ms.map er) acc = (names lev ms acc).er := by
  induction ms generalizing acc with
  | nil => rfl
  | cons m r ih =>
    rw [List.map_cons, names, names, er_kind, er_text]
    split
    · split
      · rfl
      · exact ih _
    · rfl
theorem level_er (a : Nat) (d : Decls) (ms : List Mk) : level a d (ms.map er) = (level a d ms).er := by
  unfold level
  rw [tail_er, names_er]
  split
  · rfl
  · cases names (levelled d) ms.tail [] with
    | bad e r => rfl
    | ok l r =>
      simp only [Res.er]
      split <;> rfl
theorem start_er (d : Decls) (ms : List Mk) : start d (ms.map er) = (start d ms).er := by
  unfold start
  rw [tail_er, hd_er, tail_er, er_kind, er_text]
  split
  · rfl
  · split <;> rfl
theorem decl_er (d : Decls) (ms : List Mk) : decl d (ms.map er) = (decl d ms).er := by
  unfold decl
  rw [hd_er, er_kind, er_text]
  split
  · generalize wordNo _ = k
    match k with
    | 0 => exact token_er d ms
    | 1 => exact skip_er d ms
    | 2 => exact level_er _ d ms
    | 3 => exact level_er _ d ms
    | 4 => exact level_er _ d ms
    | 5 => exact start_er d ms
    | _ + 6 => rfl
  · rfl
theorem decls_er (f : Nat) (d : Decls) (ms : List Mk) : decls f d (ms.map er) = (decls f d ms).er := by
  induction f generalizing d ms with
  | zero => rfl
  | succ f ih =>
    unfold decls
    rw [hd_er, isWord_er, tail_er, decl_er]
    split
    · rfl
    · cases decl d ms with
      | bad e r => rfl
      | ok d' r => exact ih d' r
theorem parse_er (ms : List Mk) : parse (ms.map er) = (parse ms).er := by
  unfold parse
  rw [decls_er, List.length_map]
  cases decls (ms.length + 1) none_ ms with
  | bad e r => rfl
  | ok d r =>
    simp only [Res.er]
    rw [rules_er, List.length_map]
    cases rules (r.length + 1) [] r <;> rfl
end Rd

namespace Pr
open Lx (Mk M0 isName isLetter isSmall Step)
open Rd (Name Pat Tok Lev Rule G Pl Free Pe Cut ek ec Decls)
set_option linter.unusedVariables false
set_option linter.unusedSimpArgs false

/-! ## The marks of a grammar's text -/
def em (k : Nat) (t : Name) : Mk := ⟨k, t, 0, 0⟩
def patE (p : Pat) : List Mk := if p.text = [] then em 4 p.set :: (if p.many = true then [em 5 []] else []) else [em 3 p.text]
def tokE (t : Tok) : List Mk := em 2 [116, 111, 107, 101, 110] :: em 1 t.name :: patE t.pat
def skipE (p : Pat) : List Mk := em 2 [115, 107, 105, 112] :: patE p
def rowE (l : List Name) : List Mk := l.map (em 1)
def levE (v : Lev) : List Mk := em 2 (levW v.assoc) :: rowE v.names
def precE (p : Name) : List Mk := if p = [] then [] else [em 2 [112, 114, 101, 99], em 1 p]
def actE (a : Name) : List Mk := if a = [] then [] else [em 9 a]
def ruleE (r : Rule) : List Mk := em 1 r.left :: em 6 [] :: (rowE r.right ++ (precE r.prec ++ (actE r.action ++ [em 8 []])))
def midE (s : Name) : List Mk := [em 2 [115, 116, 97, 114, 116], em 1 s, em 2 [37]]
def textE (g : G) : List Mk := g.toks.flatMap tokE ++ (g.skips.flatMap skipE ++ (g.levels.flatMap levE ++ (midE g.start ++ g.rules.flatMap ruleE)))

theorem pe_space {p : List UInt8} {es : List Mk} (h : Pe p es) : Pe (32 :: p) es := Pe.free (Rd.free_space (c := 32) (by decide)) h
theorem pe_lf : Pe [10] [] := Pe.of (Rd.free_space (c := 10) (by decide)).pl
theorem pe_name {n : Name} (h : nameOk n = true) : Pe n [em 1 n] := Pe.of (pl_name h)
theorem pe_word {w : List UInt8} (h : ∀ x ∈ w, isSmall x = true) (h0 : w ≠ []) (hw : w ∈ Lx.words) : Pe (37 :: w) [em 2 w] := Pe.of (pl_small h h0 hw)
theorem patM_ek (p : Pat) : (patM p).map ek = patE p := by
  unfold patM patE
  split
  · cases p.many <;> rfl
  · rfl
theorem pattern_ne (p : Pat) : ∃ c r, pattern p = c :: r ∧ isName c = false := by
  unfold pattern
  split
  · exact ⟨_, _, rfl, by decide⟩
  · exact ⟨_, _, rfl, by decide⟩
theorem pe_pattern_then {p : Pat} (h : patOk p = true) {q : List UInt8} {es : List Mk} (k : Pe q es) : Pe (pattern p ++ q) (patE p ++ es) := by
  rw [← patM_ek]
  exact Pe.free (free_pattern h) k
theorem cut_space (r : List UInt8) : Cut (32 :: r) := Cut.cons (by decide)
theorem cut_lf (r : List UInt8) : Cut (10 :: r) := Cut.cons (by decide)
theorem cut_pct (r : List UInt8) : Cut (37 :: r) := Cut.cons (by decide)
theorem pe_tok {t : Tok} (h : tokOk t = true) : Pe (tokT t) (tokE t) := by
  unfold tokOk at h
  rw [Bool.and_eq_true] at h
  have h1 := pe_pattern_then h.2 pe_lf
  rw [List.append_nil] at h1
  have h2 := (pe_name h.1).then (cut_space _) (pe_space h1)
  have h3 := (pe_word (w := [116, 111, 107, 101, 110]) (by decide) (by decide) (by decide)).then (cut_space _) (pe_space h2)
  exact h3
theorem pe_skip {p : Pat} (h : patOk p = true) : Pe (skipT p) (skipE p) := by
  have h1 := pe_pattern_then h pe_lf
  rw [List.append_nil] at h1
  exact (pe_word (w := [115, 107, 105, 112]) (by decide) (by decide) (by decide)).then (cut_space _) (pe_space h1)
theorem rowT_cut (l : List Name) {r : List UInt8} (hr : Cut r) : Cut (rowT l ++ r) := by
  cases l with
  | nil => exact hr
  | cons n l => exact Cut.cons (by decide)
theorem pe_row {l : List Name} (h : ∀ n ∈ l, nameOk n = true) {q : List UInt8} {es : List Mk} (hq : Cut q) (k : Pe q es) : Pe (rowT l ++ q) (rowE l ++ es) := by
  induction l with
  | nil => exact k
  | cons n r ih =>
    have h1 := ih (fun x hx => h x (by simp [hx]))
    have h2 := (pe_space (pe_name (h n (by simp)))).then (rowT_cut r hq) h1
    have e : rowT (n :: r) ++ q = (32 :: n) ++ (rowT r ++ q) := by simp [rowT]
    rw [e]
    exact h2
theorem levW_ok (a : Nat) : (∀ x ∈ levW a, isSmall x = true) ∧ levW a ≠ [] ∧ levW a ∈ Lx.words := by
  unfold levW
  split
  · decide
  · split <;> decide
theorem pe_lev {v : Lev} (h : levOk v = true) : Pe (levT v) (levE v) := by
  unfold levOk at h
  simp only [Bool.and_eq_true, List.all_eq_true] at h
  obtain ⟨h1, h2, h3⟩ := levW_ok v.assoc
  have k1 := pe_row h.2.2 (cut_lf []) pe_lf
  rw [List.append_nil] at k1
  exact (pe_word h1 h2 h3).then (rowT_cut _ (cut_lf [])) k1
theorem pe_mark {c : UInt8} {k : Nat} (h : ∀ r, Lx.step (c :: r) = .mark k [] 1) {q : List UInt8} {es : List Mk} (hq : Pe q es) : Pe (c :: q) (em k [] :: es) :=
  Pe.free (Rd.free_one h) hq
theorem precT_cut (p : Name) {r : List UInt8} (hr : Cut r) : Cut (precT p ++ r) := by
  unfold precT
  split
  · exact hr
  · exact Cut.cons (by decide)
theorem actT_cut (p : Name) {r : List UInt8} (hr : Cut r) : Cut (actT p ++ r) := by
  unfold actT
  split
  · exact hr
  · exact Cut.cons (by decide)
theorem pe_prec {p : Name} (h : p = [] ∨ nameOk p = true) {q : List UInt8} {es : List Mk} (hq : Cut q) (k : Pe q es) : Pe (precT p ++ q) (precE p ++ es) := by
  unfold precT precE
  by_cases h0 : p = []
  · rw [if_pos h0, if_pos h0]; exact k
  · rw [if_neg h0, if_neg h0]
    have h1 := (pe_name (h.resolve_left h0)).then hq k
    have h2 := (pe_word (w := [112, 114, 101, 99]) (by decide) (by decide) (by decide)).then (cut_space _) (pe_space h1)
    have h3 := pe_space h2
    simpa [em] using h3
theorem pe_act {a : Name} (h : actOk a = true) {q : List UInt8} {es : List Mk} (k : Pe q es) : Pe (actT a ++ q) (actE a ++ es) := by
  unfold actT actE
  by_cases h0 : a = []
  · rw [if_pos h0, if_pos h0]; exact k
  · rw [if_neg h0, if_neg h0]
    have h1 := pe_space (Pe.free (free_action h) k)
    exact h1
theorem pe_rule {r : Rule} (h : ruleOk r = true) {q : List UInt8} {es : List Mk} (k : Pe q es) : Pe (ruleT r ++ (10 :: q)) (ruleE r ++ es) := by
  unfold ruleOk at h
  simp only [Bool.and_eq_true, Bool.or_eq_true, decide_eq_true_eq, beq_iff_eq, List.all_eq_true] at h
  obtain ⟨h1, _, h3, h4, h5⟩ := h
  have k1 : Pe (32 :: 59 :: (10 :: q)) (em 8 [] :: es) := pe_space (pe_mark (c := 59) (k := 8) (fun _ => rfl) (Pe.free (Rd.free_space (c := 10) (by decide)) k))
  have k2 := pe_act h5 k1
  have k3 := pe_prec h4 (actT_cut r.action (cut_space _)) k2
  have k4 := pe_row h3 (precT_cut r.prec (actT_cut r.action (cut_space _))) k3
  have k5 := pe_space (pe_mark (c := 58) (k := 6) (fun _ => rfl) k4)
  have k6 := (pe_name h1).then (cut_space _) k5
  have e : ruleT r ++ (10 :: q) = r.left ++ (32 :: 58 :: (rowT r.right ++ (precT r.prec ++ (actT r.action ++ (32 :: 59 :: (10 :: q)))))) := by simp [ruleT]
  have e2 : ruleE r ++ es = [em 1 r.left] ++ (em 6 [] :: (rowE r.right ++ (precE r.prec ++ (actE r.action ++ (em 8 [] :: es))))) := by simp [ruleE]
  rw [e, e2]
  exact k6
theorem pe_mid {s : Name} (h : nameOk s = true) {q : List UInt8} {es : List Mk} (k : Pe q es) : Pe (midT s ++ q) (midE s ++ es) := by
  have k1 : Pe (10 :: ([37, 37] ++ (10 :: q))) ([em 2 [37]] ++ es) := Pe.free (Rd.free_space (c := 10) (by decide)) (Pe.free (Rd.free_mark (p := [37, 37]) (t := [37]) (k := 2) (by decide) (fun r => rfl)) (Pe.free (Rd.free_space (c := 10) (by decide)) k))
  have k2 := (pe_name h).then (cut_lf _) k1
  have k3 := (pe_word (w := [115, 116, 97, 114, 116]) (by decide) (by decide) (by decide)).then (cut_space _) (pe_space k2)
  have e : midT s ++ q = 37 :: [115, 116, 97, 114, 116] ++ (32 :: (s ++ (10 :: ([37, 37] ++ (10 :: q))))) := by simp [midT]
  rw [e]
  exact k3
theorem pe_flat {α : Type} {f : α → List UInt8} {g : α → List Mk} {l : List α} (h : ∀ x ∈ l, Pe (f x) (g x)) (hc : ∀ x ∈ l, ∀ r, Cut (f x ++ r)) {q : List UInt8} {es : List Mk} (hq : Cut q) (k : Pe q es) : Pe (l.flatMap f ++ q) (l.flatMap g ++ es) ∧ Cut (l.flatMap f ++ q) := by
  induction l with
  | nil => exact ⟨k, hq⟩
  | cons x r ih =>
    obtain ⟨h1, h2⟩ := ih (fun y hy => h y (by simp [hy])) (fun y hy => hc y (by simp [hy]))
    rw [List.flatMap_cons, List.flatMap_cons, List.append_assoc, List.append_assoc]
    exact ⟨(h x (by simp)).then h2 h1, hc x (by simp) _⟩
theorem pe_rules {l : List Rule} (h : ∀ r ∈ l, ruleOk r = true) : Pe (rulesT l) (l.flatMap ruleE) := by
  induction l with
  | nil => exact Rd.pe_nil
  | cons x r ih =>
    have h1 := pe_rule (h x (by simp)) (ih (fun y hy => h y (by simp [hy])))
    have e : rulesT (x :: r) = ruleT x ++ (10 :: rulesT r) := by simp [rulesT]
    rw [e, List.flatMap_cons]
    exact h1
theorem pe_text {g : G} (h : Right g) : Pe (text g) (textE g) := by
  have k1 := pe_mid h.start (pe_rules h.each)
  have c1 : Cut (midT g.start ++ rulesT g.rules) := Cut.cons (by decide)
  have k2 := pe_flat (f := levT) (g := levE) (fun v hv => pe_lev (h.levels v hv)) (fun v _ r => Cut.cons (by decide)) c1 k1
  have k3 := pe_flat (f := skipT) (g := skipE) (fun v hv => pe_skip (h.skips v hv)) (fun v _ r => Cut.cons (by decide)) k2.2 k2.1
  exact (pe_flat (f := tokT) (g := tokE) (fun v hv => pe_tok (h.toks v hv)) (fun v _ r => Cut.cons (by decide)) k3.2 k3.1).1
theorem lex_pe {p : List UInt8} {es : List Mk} (h : Pe p es) (hl : p.length ≤ 4000) : ∃ ms, Lx.lex p = .ok ms ∧ ms.map ek = es ++ [em 0 []] := by
  obtain ⟨ks, h1, h2⟩ := h
  obtain ⟨f', hf1, hf2⟩ := h1 [] (p.length + 1) 0 [] Cut.nil (by rw [List.append_nil]; omega)
  rw [List.append_nil, Lx.run_end (by omega), List.nil_append] at hf2
  refine ⟨_, by unfold Lx.lex; rw [if_neg (by omega)]; exact hf2, ?_⟩
  rw [List.map_append, Rd.ek_shift, h2]
  rfl

/-! ## What is read of the marks -/
theorem pattern_reads {p : Pat} (h : patOk p = true) {m : Mk} {r : List Mk} (hm : m.kind ≠ 5) : Rd.pattern (patE p ++ m :: r) = .ok p (m :: r) := by
  obtain ⟨t, s, b⟩ := p
  unfold patOk at h
  unfold patE
  simp only [] at h ⊢
  by_cases h0 : t = []
  · subst h0
    rw [if_pos rfl]
    cases b with
    | true => rfl
    | false =>
      have e : Rd.pattern (em 4 s :: m :: r) = if m.kind = 5 then .ok ⟨[], s, true⟩ r else .ok ⟨[], s, false⟩ (m :: r) := rfl
      show Rd.pattern (em 4 s :: m :: r) = _
      rw [e, if_neg hm]
  · rw [if_neg h0] at h ⊢
    simp only [Bool.and_eq_true, beq_iff_eq, Bool.not_eq_true'] at h
    obtain ⟨_, rfl, rfl⟩ := h
    rfl
theorem decls_one (f : Nat) (d : Decls) (w : Name) (hw : w ≠ [37]) (r : List Mk) : Rd.decls (f + 1) d (em 2 w :: r) = match Rd.declNo (Rd.wordNo w) d (em 2 w :: r) with | .bad e r => .bad e r | .ok d' r => Rd.decls f d' r := by
  have e : Rd.isWord [37] (Rd.hd (em 2 w :: r)) = false := by
    rw [Rd.hd_cons]; unfold Rd.isWord em; simpa using hw
  rw [Rd.decls, e, if_neg (by decide)]
  rfl
theorem decls_toks (ts : List Tok) : ∀ (d : Decls) (f : Nat) (m : Mk) (r : List Mk), (∀ t ∈ ts, tokOk t = true) → (d.toks.map Tok.name ++ ts.map Tok.name).Nodup → d.toks.length + ts.length ≤ 20 → m.kind = 2 → ts.length ≤ f →
    Rd.decls f d (ts.flatMap tokE ++ m :: r) = Rd.decls (f - ts.length) { d with toks := d.toks ++ ts } (m :: r) := by
  induction ts with
  | nil => intro d f m r _ _ _ _ _; simp
  | cons t ts ih =>
    intro d f m r h1 h2 h3 hm hf
    obtain ⟨f, rfl⟩ : ∃ k, f = k + 1 := ⟨f - 1, by simp at hf; omega⟩
    have ht := h1 t (by simp)
    unfold tokOk at ht
    rw [Bool.and_eq_true] at ht
    obtain ⟨m', r', hr, hk⟩ : ∃ m' r', ts.flatMap tokE ++ m :: r = m' :: r' ∧ m'.kind = 2 := by
      cases ts with
      | nil => exact ⟨m, r, rfl, hm⟩
      | cons a b => exact ⟨_, _, rfl, rfl⟩
    have e : (t :: ts).flatMap tokE ++ m :: r = em 2 [116, 111, 107, 101, 110] :: em 1 t.name :: (patE t.pat ++ m' :: r') := by
      rw [List.flatMap_cons, List.append_assoc, hr]; rfl
    have hany : (d.toks.any fun x => x.name == t.name) = false := by
      rw [List.any_eq_false]
      intro x hx
      rw [List.nodup_append] at h2
      have := h2.2.2 x.name (List.mem_map.2 ⟨x, hx, rfl⟩) t.name (by simp)
      simpa using this
    have et : Rd.token d (em 2 [116, 111, 107, 101, 110] :: em 1 t.name :: (patE t.pat ++ m' :: r')) = if (d.toks.any fun x => x.name == t.name) = true then .bad 15 (em 1 t.name :: (patE t.pat ++ m' :: r')) else if d.toks.length = 20 then .bad 3 (em 1 t.name :: (patE t.pat ++ m' :: r')) else match Rd.pattern (patE t.pat ++ m' :: r') with | .bad e r => .bad e r | .ok p r => .ok { d with toks := d.toks ++ [⟨t.name, p⟩] } r := rfl
    rw [e, decls_one _ _ _ (by decide), show Rd.declNo (Rd.wordNo [116, 111, 107, 101, 110]) d (em 2 [116, 111, 107, 101, 110] :: em 1 t.name :: (patE t.pat ++ m' :: r')) = Rd.token d (em 2 [116, 111, 107, 101, 110] :: em 1 t.name :: (patE t.pat ++ m' :: r')) from rfl, et,
      if_neg (by rw [hany]; decide), if_neg (by simp at h3; omega), pattern_reads ht.2 (by omega)]
    simp only []
    rw [← hr, ih { d with toks := d.toks ++ [⟨t.name, t.pat⟩] } f m r (fun x hx => h1 x (by simp [hx])) (by simpa using h2) (by simp at h3 ⊢; omega) hm (by simp at hf; omega)]
    have e1 : f + 1 - (t :: ts).length = f - ts.length := by simp
    have e2 : d.toks ++ [⟨t.name, t.pat⟩] ++ ts = d.toks ++ t :: ts := by simp
    rw [e1]
    simp only [e2]
theorem decls_skips (ts : List Pat) : ∀ (d : Decls) (f : Nat) (m : Mk) (r : List Mk), (∀ t ∈ ts, patOk t = true) → d.skips.length + ts.length ≤ 4 → m.kind = 2 → ts.length ≤ f →
    Rd.decls f d (ts.flatMap skipE ++ m :: r) = Rd.decls (f - ts.length) { d with skips := d.skips ++ ts } (m :: r) := by
  induction ts with
  | nil => intro d f m r _ _ _ _; simp
  | cons t ts ih =>
    intro d f m r h1 h3 hm hf
    obtain ⟨f, rfl⟩ : ∃ k, f = k + 1 := ⟨f - 1, by simp at hf; omega⟩
    have ht := h1 t (by simp)
    obtain ⟨m', r', hr, hk⟩ : ∃ m' r', ts.flatMap skipE ++ m :: r = m' :: r' ∧ m'.kind = 2 := by
      cases ts with
      | nil => exact ⟨m, r, rfl, hm⟩
      | cons a b => exact ⟨_, _, rfl, rfl⟩
    have e : (t :: ts).flatMap skipE ++ m :: r = em 2 [115, 107, 105, 112] :: (patE t ++ m' :: r') := by
      rw [List.flatMap_cons, List.append_assoc, hr]; rfl
    have et : Rd.skip d (em 2 [115, 107, 105, 112] :: (patE t ++ m' :: r')) = if d.skips.length = 4 then .bad 3 (em 2 [115, 107, 105, 112] :: (patE t ++ m' :: r')) else match Rd.pattern (patE t ++ m' :: r') with | .bad e r => .bad e r | .ok p r => .ok { d with skips := d.skips ++ [p] } r := rfl
    rw [e, decls_one _ _ _ (by decide), show Rd.declNo (Rd.wordNo [115, 107, 105, 112]) d (em 2 [115, 107, 105, 112] :: (patE t ++ m' :: r')) = Rd.skip d (em 2 [115, 107, 105, 112] :: (patE t ++ m' :: r')) from rfl, et,
      if_neg (by simp at h3; omega), pattern_reads ht (by omega)]
    simp only []
    rw [← hr, ih { d with skips := d.skips ++ [t] } f m r (fun x hx => h1 x (by simp [hx])) (by simp at h3 ⊢; omega) hm (by simp at hf; omega)]
    have e1 : f + 1 - (t :: ts).length = f - ts.length := by simp
    have e2 : d.skips ++ [t] ++ ts = d.skips ++ t :: ts := by simp
    rw [e1]
    simp only [e2]
theorem names_row (l : List Name) : ∀ (lev acc : List Name) (m : Mk) (r : List Mk), (lev ++ acc ++ l).Nodup → m.kind ≠ 1 → Rd.names lev (rowE l ++ m :: r) acc = .ok (acc ++ l) (m :: r) := by
  induction l with
  | nil => intro lev acc m r _ hm; show Rd.names lev (m :: r) acc = _; rw [Rd.names, if_neg hm]; simp
  | cons n l ih =>
    intro lev acc m r hn hm
    show Rd.names lev (em 1 n :: (rowE l ++ m :: r)) acc = _
    have hnot : n ∉ lev ++ acc := by
      rw [List.nodup_append] at hn
      exact fun h => hn.2.2 n h n (by simp) rfl
    rw [Rd.names, if_pos (show (em 1 n).kind = 1 from rfl), if_neg (show ¬ (em 1 n).text ∈ lev ++ acc from hnot), show (em 1 n).text = n from rfl, ih lev (acc ++ [n]) m r (by simpa using hn) hm]
    simp
theorem decls_levels (ts : List Lev) : ∀ (d : Decls) (f : Nat) (m : Mk) (r : List Mk), (∀ t ∈ ts, levOk t = true) → (Rd.levelled d ++ ts.flatMap Lev.names).Nodup → d.levels.length + ts.length ≤ 10 → m.kind = 2 → ts.length ≤ f →
    Rd.decls f d (ts.flatMap levE ++ m :: r) = Rd.decls (f - ts.length) { d with levels := d.levels ++ ts } (m :: r) := by
  induction ts with
  | nil => intro d f m r _ _ _ _ _; simp
  | cons t ts ih =>
    intro d f m r h1 h2 h3 hm hf
    obtain ⟨f, rfl⟩ : ∃ k, f = k + 1 := ⟨f - 1, by simp at hf; omega⟩
    obtain ⟨a, l⟩ := t
    have ht := h1 ⟨a, l⟩ (by simp)
    unfold levOk at ht
    simp only [Bool.and_eq_true, decide_eq_true_eq, bne_iff_ne] at ht
    obtain ⟨⟨ha1, ha3⟩, hl0, _⟩ := ht
    obtain ⟨m', r', hr, hk⟩ : ∃ m' r', ts.flatMap levE ++ m :: r = m' :: r' ∧ m'.kind = 2 := by
      cases ts with
      | nil => exact ⟨m, r, rfl, hm⟩
      | cons a b => exact ⟨_, _, rfl, rfl⟩
    have e : ((⟨a, l⟩ : Lev) :: ts).flatMap levE ++ m :: r = em 2 (levW a) :: (rowE l ++ m' :: r') := by
      rw [List.flatMap_cons, List.append_assoc, hr]; rfl
    have et : Rd.level a d (em 2 (levW a) :: (rowE l ++ m' :: r')) = if d.levels.length = 10 then .bad 3 (em 2 (levW a) :: (rowE l ++ m' :: r')) else match Rd.names (Rd.levelled d) (rowE l ++ m' :: r') [] with | .bad e r => .bad e r | .ok l r => if l = [] then .bad 14 r else .ok { d with levels := d.levels ++ [⟨a, l⟩] } r := rfl
    have ed : Rd.declNo (Rd.wordNo (levW a)) d (em 2 (levW a) :: (rowE l ++ m' :: r')) = Rd.level a d (em 2 (levW a) :: (rowE l ++ m' :: r')) := by
      obtain rfl | rfl | rfl : a = 1 ∨ a = 2 ∨ a = 3 := by omega
      · rfl
      · rfl
      · rfl
    have hw : levW a ≠ [37] := by
      obtain rfl | rfl | rfl : a = 1 ∨ a = 2 ∨ a = 3 := by omega
      all_goals decide
    have hnd : (Rd.levelled d ++ [] ++ l).Nodup := by
      rw [List.flatMap_cons, ← List.append_assoc] at h2
      simpa using (List.nodup_append.1 h2).1
    rw [e, decls_one _ _ _ hw, ed, et, if_neg (by simp at h3; omega), names_row l _ [] m' r' hnd (by omega)]
    simp only [List.nil_append]
    rw [if_neg hl0]
    simp only []
    rw [← hr, ih { d with levels := d.levels ++ [⟨a, l⟩] } f m r (fun x hx => h1 x (by simp [hx])) (by
      have : Rd.levelled { d with levels := d.levels ++ [⟨a, l⟩] } = Rd.levelled d ++ l := by simp [Rd.levelled]
      rw [this, List.append_assoc]
      simpa using h2) (by simp at h3 ⊢; omega) hm (by simp at hf; omega)]
    have e1 : f + 1 - ((⟨a, l⟩ : Lev) :: ts).length = f - ts.length := by simp
    have e2 : d.levels ++ [⟨a, l⟩] ++ ts = d.levels ++ ⟨a, l⟩ :: ts := by simp
    rw [e1]
    simp only [e2]
theorem rights_row (l : List Name) (m : Mk) (t : List Mk) (hm : m.kind ≠ 1) : ∀ acc : List Name, acc.length + l.length ≤ 8 → Rd.rights (rowE l ++ m :: t) acc = .ok (acc ++ l) (m :: t) := by
  induction l with
  | nil =>
    intro acc _
    show Rd.rights (m :: t) acc = _
    rw [Rd.rights, if_neg hm]; simp
  | cons n l ih =>
    intro acc h
    simp only [List.length_cons] at h
    show Rd.rights (em 1 n :: (rowE l ++ m :: t)) acc = _
    rw [Rd.rights, if_pos (show (em 1 n).kind = 1 from rfl), if_neg (by omega), ih _ (by simp; omega)]
    simp [em]
theorem rule_reads {x : Rule} (h : ruleOk x = true) {acc : List Rule} (h40 : acc.length < 40) (r : List Mk) : Rd.rule acc (ruleE x ++ r) = .ok (acc ++ [x]) r := by
  obtain ⟨left, right, prec, action⟩ := x
  unfold ruleOk at h
  simp only [Bool.and_eq_true, decide_eq_true_eq] at h
  obtain ⟨_, h8, _, _, _⟩ := h
  have e : ruleE ⟨left, right, prec, action⟩ ++ r = em 1 left :: em 6 [] :: (rowE right ++ (precE prec ++ (actE action ++ (em 8 [] :: r)))) := by simp [ruleE]
  rw [e, Rd.rule_two, if_neg (show ¬ (em 1 left).kind ≠ 1 from fun h => h rfl), if_neg (show ¬ (em 6 []).kind ≠ 6 from fun h => h rfl)]
  have hact : ∀ y : Rule, y.action = [] → Rd.action y (actE action ++ (em 8 [] :: r)) = .ok { y with action := action } (em 8 [] :: r) := by
    intro y hy
    unfold actE
    by_cases h0 : action = []
    · subst h0
      rw [if_pos rfl]
      show Rd.action y (em 8 [] :: r) = _
      rw [Rd.action_cons, if_neg (show ¬ (em 8 []).kind = 9 by decide)]
      obtain ⟨a, b, c, d⟩ := y
      simp only [] at hy
      subst hy
      rfl
    · rw [if_neg h0]; rfl
  obtain ⟨m1, r1, hm1, hk1, hw1⟩ : ∃ m1 r1, actE action ++ (em 8 [] :: r) = m1 :: r1 ∧ m1.kind ≠ 1 ∧ m1.kind ≠ 2 := by
    unfold actE
    by_cases h0 : action = []
    · rw [if_pos h0]; exact ⟨_, _, rfl, by decide, by decide⟩
    · rw [if_neg h0]; exact ⟨_, _, rfl, by simp [em], by simp [em]⟩
  have hprec : Rd.prec (precE prec ++ (actE action ++ (em 8 [] :: r))) = .ok prec (actE action ++ (em 8 [] :: r)) := by
    unfold precE
    by_cases h0 : prec = []
    · rw [if_pos h0, List.nil_append, hm1, Rd.prec_cons]
      have : Rd.isWord [112, 114, 101, 99] m1 = false := by unfold Rd.isWord; simp [hw1]
      rw [this, if_neg (by decide), h0]
    · rw [if_neg h0]; rfl
  obtain ⟨m2, r2, hm2, hk2⟩ : ∃ m2 r2, precE prec ++ (actE action ++ (em 8 [] :: r)) = m2 :: r2 ∧ m2.kind ≠ 1 := by
    unfold precE
    by_cases h0 : prec = []
    · rw [if_pos h0, List.nil_append, hm1]; exact ⟨_, _, rfl, hk1⟩
    · rw [if_neg h0]; exact ⟨_, _, rfl, by simp [em]⟩
  have halt : Rd.alt left acc.length (rowE right ++ (precE prec ++ (actE action ++ (em 8 [] :: r)))) = .ok ⟨left, right, prec, action⟩ (em 8 [] :: r) := by
    unfold Rd.alt
    rw [if_neg (by omega), hm2, rights_row right m2 r2 hk2 [] (by simpa using h8)]
    simp only [List.nil_append]
    rw [← hm2, hprec]
    simp only []
    rw [hact _ rfl]
  rw [show (em 1 left).text = left from rfl, Rd.alts, halt]
  simp only []
  rw [if_pos (show (Rd.hd (em 8 [] :: r)).kind = 8 from rfl), List.tail_cons]
theorem rules_reads (rs : List Rule) : ∀ (acc : List Rule) (f : Nat), (∀ x ∈ rs, ruleOk x = true) → acc.length + rs.length ≤ 40 → rs ≠ [] → rs.length ≤ f → Rd.rules f acc (rs.flatMap ruleE ++ [em 0 []]) = .ok (acc ++ rs) [em 0 []] := by
  induction rs with
  | nil => intro acc f _ _ h0 _; exact absurd rfl h0
  | cons x rs ih =>
    intro acc f h1 h40 _ hf
    obtain ⟨f, rfl⟩ : ∃ k, f = k + 1 := ⟨f - 1, by simp at hf; omega⟩
    rw [List.flatMap_cons, List.append_assoc, Rd.rules, rule_reads (h1 x (by simp)) (by simp at h40; omega)]
    simp only []
    cases rs with
    | nil => rfl
    | cons y rs =>
      rw [if_neg (by show ¬ (1 : Nat) = 0; decide), ih (acc ++ [x]) f (fun z hz => h1 z (by simp at hz ⊢; exact .inr hz)) (by simp at h40 ⊢; omega) (by simp) (by simp at hf ⊢; omega)]
      simp
theorem parse_text {g : G} (h : Right g) : Rd.parse (textE g ++ [em 0 []]) = .ok g [em 0 []] := by
  obtain ⟨toks, skips, levels, start, rules⟩ := g
  obtain ⟨n1, n2, n3, n4, n5, _, h1, h2, h3, h4, h5, h6⟩ := h
  simp only [] at n1 n2 n3 n4 n5 h1 h2 h3 h4 h5 h6
  have tl : ∀ l : List Tok, l.length ≤ (l.flatMap tokE).length := by
    intro l; induction l with
    | nil => simp
    | cons a b ih => rw [List.flatMap_cons, List.length_append, List.length_cons]; have : 1 ≤ (tokE a).length := by simp [tokE]
                     omega
  have sl : ∀ l : List Pat, l.length ≤ (l.flatMap skipE).length := by
    intro l; induction l with
    | nil => simp
    | cons a b ih => rw [List.flatMap_cons, List.length_append, List.length_cons]; have : 1 ≤ (skipE a).length := by simp [skipE]
                     omega
  have ll : ∀ l : List Lev, l.length ≤ (l.flatMap levE).length := by
    intro l; induction l with
    | nil => simp
    | cons a b ih => rw [List.flatMap_cons, List.length_append, List.length_cons]; have : 1 ≤ (levE a).length := by simp [levE]
                     omega
  have rl : ∀ l : List Rule, l.length ≤ (l.flatMap ruleE).length := by
    intro l; induction l with
    | nil => simp
    | cons a b ih => rw [List.flatMap_cons, List.length_append, List.length_cons]; have : 1 ≤ (ruleE a).length := by simp [ruleE]
                     omega
  have e0 : textE ⟨toks, skips, levels, start, rules⟩ ++ [em 0 []] = toks.flatMap tokE ++ (skips.flatMap skipE ++ (levels.flatMap levE ++ (em 2 [115, 116, 97, 114, 116] :: em 1 start :: em 2 [37] :: (rules.flatMap ruleE ++ [em 0 []])))) := by
    simp [textE, midE]
  have hlen : (textE ⟨toks, skips, levels, start, rules⟩ ++ [em 0 []]).length = (toks.flatMap tokE).length + ((skips.flatMap skipE).length + ((levels.flatMap levE).length + ((rules.flatMap ruleE).length + 4))) := by
    rw [e0]; simp only [List.length_append, List.length_cons, List.length_nil]
  obtain ⟨F, hF⟩ : ∃ F, (textE ⟨toks, skips, levels, start, rules⟩ ++ [em 0 []]).length + 1 = F := ⟨_, rfl⟩
  have k1 := tl toks
  have k2 := sl skips
  have k3 := ll levels
  have k4 := rl rules
  unfold Rd.parse
  rw [hF, e0]
  obtain ⟨m3, r3, hm3, q3⟩ : ∃ m r, levels.flatMap levE ++ (em 2 [115, 116, 97, 114, 116] :: em 1 start :: em 2 [37] :: (rules.flatMap ruleE ++ [em 0 []])) = m :: r ∧ m.kind = 2 := by
    cases levels with
    | nil => exact ⟨_, _, rfl, rfl⟩
    | cons a b => exact ⟨_, _, rfl, rfl⟩
  obtain ⟨m2, r2, hm2, q2⟩ : ∃ m r, skips.flatMap skipE ++ (m3 :: r3) = m :: r ∧ m.kind = 2 := by
    cases skips with
    | nil => exact ⟨_, _, rfl, q3⟩
    | cons a b => exact ⟨_, _, rfl, rfl⟩
  rw [hm3, hm2, decls_toks toks Rd.none_ F m2 r2 h1 (by simpa [Rd.none_] using h5) (by simpa [Rd.none_] using n1) q2 (by omega), ← hm2,
    decls_skips skips _ (F - toks.length) m3 r3 h2 (by simpa [Rd.none_] using n2) q3 (by omega), ← hm3,
    decls_levels levels _ (F - toks.length - skips.length) _ _ h3 (by simpa [Rd.none_, Rd.levelled] using h6) (by simpa [Rd.none_] using n3) rfl (by omega)]
  obtain ⟨f, hf⟩ : ∃ f, F - toks.length - skips.length - levels.length = f + 1 + 1 := ⟨F - toks.length - skips.length - levels.length - 2, by omega⟩
  rw [hf, decls_one _ _ _ (by decide)]
  simp only [Rd.none_, List.nil_append]
  have es : ∀ (d : Decls) (r : List Mk), d.started = false → Rd.declNo (Rd.wordNo [115, 116, 97, 114, 116]) d (em 2 [115, 116, 97, 114, 116] :: em 1 start :: r) = .ok { d with start := start, started := true } r := by
    intro d r hd
    have e : Rd.declNo (Rd.wordNo [115, 116, 97, 114, 116]) d (em 2 [115, 116, 97, 114, 116] :: em 1 start :: r) = if d.started = true then .bad 15 (em 2 [115, 116, 97, 114, 116] :: em 1 start :: r) else .ok { d with start := start, started := true } r := rfl
    rw [e, hd, if_neg (by decide)]
  rw [es _ _ rfl]
  simp only []
  have ew : ∀ (d : Decls) (r : List Mk), Rd.decls (f + 1) d (em 2 [37] :: r) = .ok d r := fun d r => rfl
  rw [ew]
  simp only []
  rw [rules_reads rules [] _ h4 (by simpa using n4) n5 (by simp only [List.length_append]; omega)]
  rfl

/-- What is printed reads back as it was. -/
theorem read_text {g : G} (h : Right g) (hl : (text g).length ≤ 4000) : Rd.readD (text g) = (0, 0, 0) ∧ Rd.readG (text g) = g := by
  obtain ⟨ms, h1, h2⟩ := lex_pe (pe_text h) hl
  have h3 := Rd.parse_er (ms.map (Lx.mkOf (text g)))
  rw [Rd.er_mkOf, h2, parse_text h] at h3
  obtain ⟨r', h4⟩ := Rd.Res.er_ok h3.symm
  unfold Rd.readD Rd.readG
  rw [h1]
  simp only []
  rw [h4]
  exact ⟨rfl, rfl⟩
/-- Unlike grammars have unlike texts. -/
theorem text_inj {g h : G} (hg : Right g) (hh : Right h) (hl : (text g).length ≤ 4000) (e : text g = text h) : g = h := by
  have h1 := (read_text hg hl).2
  rw [e] at hl h1
  rw [← h1, (read_text hh hl).2]

end Pr
end Go.Proofs.YtpgmapjjjpcmfaaGreatDoor
