import Derived.Test.YtccndcebbjipnaaGreatDoorT14
namespace Go.Proofs.YtccndcebbjipnaaGreatDoor
namespace Pr
open Lx (Mk M0 isName isLetter isSmall Step)
open Rd (Name Pat Tok Lev Rule G Pl Free Pe Cut ek ec)
set_option linter.unusedVariables false
set_option linter.unusedSimpArgs false
def esc (q : UInt8 → Bool) : List UInt8 → List UInt8
  | [] => []
  | c :: r => if c = 10 then 92 :: 110 :: esc q r else if c = 9 then 92 :: 116 :: esc q r else if q c = true then 92 :: c :: esc q r else c :: esc q r
def inText (c : UInt8) : Bool := c == 92 || c == 34
def inSet (c : UInt8) : Bool := c == 92 || c == 93 || c == 45
def pattern (p : Pat) : List UInt8 := if p.text = [] then 91 :: (esc inSet p.set ++ (93 :: if p.many = true then [43] else [])) else 34 :: (esc inText p.text ++ [34])
def rowT (l : List Name) : List UInt8 := l.flatMap fun n => 32 :: n
def precT (p : Name) : List UInt8 := if p = [] then [] else [32, 37, 112, 114, 101, 99, 32] ++ p
def actT (a : Name) : List UInt8 := if a = [] then [] else 32 :: 123 :: (a ++ [125])
def ruleT (r : Rule) : List UInt8 := r.left ++ ([32, 58] ++ (rowT r.right ++ (precT r.prec ++ (actT r.action ++ [32, 59]))))
def tokT (t : Tok) : List UInt8 := [37, 116, 111, 107, 101, 110, 32] ++ (t.name ++ (32 :: (pattern t.pat ++ [10])))
def skipT (p : Pat) : List UInt8 := [37, 115, 107, 105, 112, 32] ++ (pattern p ++ [10])
def levW (a : Nat) : List UInt8 := if a = 1 then [108, 101, 102, 116] else if a = 2 then [114, 105, 103, 104, 116] else [110, 111, 110, 97, 115, 115, 111, 99]
def levT (v : Lev) : List UInt8 := 37 :: (levW v.assoc ++ (rowT v.names ++ [10]))
def midT (s : Name) : List UInt8 := [37, 115, 116, 97, 114, 116, 32] ++ (s ++ [10, 37, 37, 10])
def rulesT (l : List Rule) : List UInt8 := l.flatMap fun r => ruleT r ++ [10]
def text (g : G) : List UInt8 := g.toks.flatMap tokT ++ (g.skips.flatMap skipT ++ (g.levels.flatMap levT ++ (midT g.start ++ rulesT g.rules)))
def nameOk (n : Name) : Bool := decide (n.length ≤ 32) && (n != [] && Lx.nameOf n == n)
def rises : List UInt8 → Bool
  | a :: b :: r => decide (a < b) && rises (b :: r)
  | _ => true
def patOk (p : Pat) : Bool := if p.text = [] then p.set != [] && rises p.set else decide (p.text.length ≤ 32) && (p.set == [] && !p.many)
def actOk (a : Name) : Bool := Lx.act (a ++ [125]) [] 1 == .mark 9 a (a.length + 2)
def tokOk (t : Tok) : Bool := nameOk t.name && patOk t.pat
def levOk (v : Lev) : Bool := decide (1 ≤ v.assoc ∧ v.assoc ≤ 3) && (v.names != [] && v.names.all nameOk)
def ruleOk (r : Rule) : Bool := nameOk r.left && (decide (r.right.length ≤ 8) && (r.right.all nameOk && ((r.prec == [] || nameOk r.prec) && actOk r.action)))
structure Right (g : G) : Prop where
  ntok : g.toks.length ≤ 20
  nskip : g.skips.length ≤ 4
  nlev : g.levels.length ≤ 10
  nrule : g.rules.length ≤ 40
  rules : g.rules ≠ []
  start : nameOk g.start = true
  toks : ∀ t ∈ g.toks, tokOk t = true
  skips : ∀ p ∈ g.skips, patOk p = true
  levels : ∀ v ∈ g.levels, levOk v = true
  each : ∀ r ∈ g.rules, ruleOk r = true
  tonce : (g.toks.map Tok.name).Nodup
  lonce : (g.levels.flatMap Lev.names).Nodup
theorem nameOk_ex {n : Name} (h : nameOk n = true) : n.length ≤ 32 ∧ ∃ c t, n = c :: t ∧ isLetter c = true ∧ ∀ x ∈ n, isName x = true := by
  unfold nameOk at h
  simp only [Bool.and_eq_true, decide_eq_true_eq, bne_iff_ne, beq_iff_eq] at h
  obtain ⟨h1, h2, h3⟩ := h
  refine ⟨h1, ?_⟩
  cases n with
  | nil => exact absurd rfl h2
  | cons c t =>
    have e : Lx.nameOf (c :: t) = if isLetter c then (c :: t).takeWhile isName else [] := rfl
    rw [e] at h3
    by_cases hc : isLetter c = true
    · rw [if_pos hc] at h3
      refine ⟨c, t, rfl, hc, fun x hx => ?_⟩
      rw [← h3] at hx
      have : ∀ (l : List UInt8), ∀ x ∈ l.takeWhile isName, isName x = true := by
        intro l
        induction l with
        | nil => intro x hx; simp at hx
        | cons a r ih =>
          intro x hx
          by_cases ha : isName a = true
          · rw [List.takeWhile_cons_of_pos ha] at hx
            rcases List.mem_cons.1 hx with rfl | hx
            · exact ha
            · exact ih x hx
          · rw [List.takeWhile_cons_of_neg ha] at hx; simp at hx
      exact this _ x hx
    · rw [if_neg hc] at h3; cases h3
theorem text_esc (l told : List UInt8) (i : Nat) (rest : List UInt8) : Lx.text (esc inText l ++ rest) told i = Lx.text rest (told ++ l) (i + (esc inText l).length) := by
  induction l generalizing told i with
  | nil => simp [esc]
  | cons c r ih =>
    rw [esc]
    by_cases h10 : c = 10
    · subst h10
      rw [if_pos rfl, List.cons_append, List.cons_append]
      have e : Lx.text (92 :: 110 :: (esc inText r ++ rest)) told i = Lx.text (esc inText r ++ rest) (told ++ [10]) (i + 2) := by rw [Lx.text.eq_def]; rfl
      rw [e, ih]
      simp; congr 1; omega
    · rw [if_neg h10]
      by_cases h9 : c = 9
      · subst h9
        rw [if_pos rfl, List.cons_append, List.cons_append]
        have e : Lx.text (92 :: 116 :: (esc inText r ++ rest)) told i = Lx.text (esc inText r ++ rest) (told ++ [9]) (i + 2) := by rw [Lx.text.eq_def]; rfl
        rw [e, ih]
        simp; congr 1; omega
      · rw [if_neg h9]
        by_cases h2 : inText c = true
        · rw [if_pos h2, List.cons_append, List.cons_append]
          have e : Lx.text (92 :: c :: (esc inText r ++ rest)) told i = Lx.text (esc inText r ++ rest) (told ++ [c]) (i + 2) := by
            unfold inText at h2
            simp only [Bool.or_eq_true, beq_iff_eq] at h2
            rcases h2 with rfl | rfl <;> (rw [Lx.text.eq_def]; rfl)
          rw [e, ih]
          simp; congr 1; omega
        · rw [if_neg h2, List.cons_append]
          have e : Lx.text (c :: (esc inText r ++ rest)) told i = Lx.text (esc inText r ++ rest) (told ++ [c]) (i + 1) := by
            rw [Lx.text.eq_def]
            unfold inText at h2
            simp only [Bool.or_eq_true, beq_iff_eq, not_or] at h2
            simp only [if_neg h2.2, if_neg h10, if_neg h2.1]
          rw [e, ih]
          simp; congr 1; omega
theorem put_open {p : Lx.Parts} (h : p.dash = 0) (b : UInt8) : p.put b = some ⟨fun j => p.has j || j == b.toNat, some b.toNat, 0⟩ := by
  unfold Lx.Parts.put; rw [if_pos h]
theorem cls_esc (l : List UInt8) : ∀ (i : Nat) (p : Lx.Parts) (rest : List UInt8), p.dash = 0 → ∃ q : Lx.Parts, q.dash = 0 ∧ (∀ j, q.has j = (p.has j || l.any (fun c => j == c.toNat))) ∧ Lx.cls (esc inSet l ++ rest) i p = Lx.cls rest (i + (esc inSet l).length) q := by
  induction l with
  | nil => intro i p rest hp; exact ⟨p, hp, by simp, by simp [esc]⟩
  | cons c r ih =>
    intro i p rest hp
    have key : ∀ (k : Nat), Lx.cls (esc inSet (c :: r) ++ rest) i p = Lx.cls (esc inSet r ++ rest) (i + k) ⟨fun j => p.has j || j == c.toNat, some c.toNat, 0⟩ → (esc inSet (c :: r)).length = k + (esc inSet r).length →
        ∃ q : Lx.Parts, q.dash = 0 ∧ (∀ j, q.has j = (p.has j || (c :: r).any (fun c => j == c.toNat))) ∧ Lx.cls (esc inSet (c :: r) ++ rest) i p = Lx.cls rest (i + (esc inSet (c :: r)).length) q := by
      intro k he hk
      obtain ⟨q, h1, h2, h3⟩ := ih (i + k) ⟨fun j => p.has j || j == c.toNat, some c.toNat, 0⟩ rest rfl
      refine ⟨q, h1, fun j => ?_, ?_⟩
      · rw [h2, List.any_cons, Bool.or_assoc]
      · rw [he, h3, hk, Nat.add_assoc]
    by_cases h10 : c = 10
    · subst h10
      have e0 : esc inSet (10 :: r) = 92 :: 110 :: esc inSet r := by rw [esc, if_pos rfl]
      refine key 2 ?_ (by rw [e0]; simp only [List.length_cons]; omega)
      rw [e0, List.cons_append, List.cons_append, Lx.cls.eq_def]
      simp only [if_neg (show ¬ (92 : UInt8) = 93 by decide), if_neg (show ¬ (92 : UInt8) = 10 by decide), if_neg (show ¬ ((92 : UInt8) = 45 ∧ p.dash = 0) from fun h => absurd h.1 (by decide)), if_true, show Lx.esc 4 110 = some 10 from rfl, put_open hp]
    · by_cases h9 : c = 9
      · subst h9
        have e0 : esc inSet (9 :: r) = 92 :: 116 :: esc inSet r := by rw [esc, if_neg h10, if_pos rfl]
        refine key 2 ?_ (by rw [e0]; simp only [List.length_cons]; omega)
        rw [e0, List.cons_append, List.cons_append, Lx.cls.eq_def]
        simp only [if_neg (show ¬ (92 : UInt8) = 93 by decide), if_neg (show ¬ (92 : UInt8) = 10 by decide), if_neg (show ¬ ((92 : UInt8) = 45 ∧ p.dash = 0) from fun h => absurd h.1 (by decide)), if_true, show Lx.esc 4 116 = some 9 from rfl, put_open hp]
      · by_cases h2 : inSet c = true
        · have e0 : esc inSet (c :: r) = 92 :: c :: esc inSet r := by rw [esc, if_neg h10, if_neg h9, if_pos h2]
          refine key 2 ?_ (by rw [e0]; simp only [List.length_cons]; omega)
          have h5 : Lx.esc 4 c = some c := by
            unfold inSet at h2
            simp only [Bool.or_eq_true, beq_iff_eq] at h2
            rcases h2 with (rfl | rfl) | rfl <;> rfl
          rw [e0, List.cons_append, List.cons_append, Lx.cls.eq_def]
          simp only [if_neg (show ¬ (92 : UInt8) = 93 by decide), if_neg (show ¬ (92 : UInt8) = 10 by decide), if_neg (show ¬ ((92 : UInt8) = 45 ∧ p.dash = 0) from fun h => absurd h.1 (by decide)), if_true, h5, put_open hp]
        · have e0 : esc inSet (c :: r) = c :: esc inSet r := by rw [esc, if_neg h10, if_neg h9, if_neg h2]
          refine key 1 ?_ (by rw [e0]; simp only [List.length_cons]; omega)
          unfold inSet at h2
          simp only [Bool.or_eq_true, beq_iff_eq, not_or] at h2
          rw [e0, List.cons_append, Lx.cls.eq_def]
          simp only [if_neg h2.1.2, if_neg h10, if_neg (show ¬ (c = 45 ∧ p.dash = 0) from fun h => h2.2 h.1), if_neg h2.1.1, put_open hp]
theorem rises_lt : ∀ (l : List UInt8) (a : UInt8), rises (a :: l) = true → ∀ x ∈ l, a < x
  | [], _, _, x, hx => by simp at hx
  | b :: r, a, h, x, hx => by
    unfold rises at h
    simp only [Bool.and_eq_true, decide_eq_true_eq] at h
    rcases List.mem_cons.1 hx with rfl | hx
    · exact h.1
    · exact UInt8.lt_trans h.1 (rises_lt r b h.2 x hx)
theorem rises_tail {a : UInt8} {l : List UInt8} (h : rises (a :: l) = true) : rises l = true := by
  cases l with
  | nil => rfl
  | cons b r => unfold rises at h; simp only [Bool.and_eq_true] at h; exact h.2
theorem filter_rises (n : Nat) : ∀ (a : Nat) (l : List UInt8), rises l = true → (∀ x ∈ l, a ≤ x.toNat ∧ x.toNat < a + n) → (List.range' a n).filter (fun j => l.any (fun c => j == c.toNat)) = l.map UInt8.toNat := by
  induction n with
  | zero =>
    intro a l _ hx
    cases l with
    | nil => rfl
    | cons c r => have := hx c (by simp); omega
  | succ n ih =>
    intro a l hr hx
    rw [List.range'_succ]
    cases l with
    | nil => simp
    | cons c r =>
      have hc := hx c (by simp)
      by_cases h : c.toNat = a
      · have hlt := rises_lt r c hr
        rw [List.filter_cons_of_pos (by simp [h]), List.map_cons, h]
        congr 1
        rw [← ih (a + 1) r (rises_tail hr) (fun x hx' => by
          have h1 := hx x (by simp [hx'])
          have h2 : c.toNat < x.toNat := UInt8.lt_iff_toNat_lt.1 (hlt x hx')
          omega)]
        apply List.filter_congr
        intro j hj
        have := (List.mem_range'_1.1 hj).1
        rw [List.any_cons]
        have e : (j == c.toNat) = false := by rw [beq_eq_false_iff_ne]; omega
        rw [e, Bool.false_or]
      · have hlt := rises_lt r c hr
        rw [List.filter_cons_of_neg, ih (a + 1) (c :: r) hr (fun x hx' => by
          have h1 := hx x hx'
          rcases List.mem_cons.1 hx' with rfl | h2
          · omega
          · have h3 : c.toNat < x.toNat := UInt8.lt_iff_toNat_lt.1 (hlt x h2)
            omega)]
        rw [Bool.not_eq_true, List.any_eq_false]
        intro x hx'
        rcases List.mem_cons.1 hx' with rfl | h2
        · simp; omega
        · have h3 : c.toNat < x.toNat := UInt8.lt_iff_toNat_lt.1 (hlt x h2)
          simp; omega
def patM (p : Pat) : List M0 := if p.text = [] then (4, p.set, 0) :: (if p.many = true then [(5, [], (esc inSet p.set).length + 2)] else []) else [(3, p.text, 0)]
end Pr
end Go.Proofs.YtccndcebbjipnaaGreatDoor
namespace Go.Proofs.YtccndcebbjipnaaGreatDoor
namespace Rd
open Lx (Mk)
set_option linter.unusedVariables false
set_option linter.unusedSimpArgs false
end Rd
namespace Pr
open Lx (Mk M0 isName isLetter isSmall Step)
open Rd (Name Pat Tok Lev Rule G Pl Free Pe Cut ek ec Decls)
set_option linter.unusedVariables false
set_option linter.unusedSimpArgs false
def em (k : Nat) (t : Name) : Mk := ⟨k, t, 0, 0⟩
def patE (p : Pat) : List Mk := if p.text = [] then em 4 p.set :: (if p.many = true then [em 5 []] else []) else [em 3 p.text]
def tokE (t : Tok) : List Mk := em 2 [116, 111, 107, 101, 110] :: em 1 t.name :: patE t.pat
def skipE (p : Pat) : List Mk := em 2 [115, 107, 105, 112] :: patE p
def rowE (l : List Name) : List Mk := l.map (em 1)
def levE (v : Lev) : List Mk := em 2 (levW v.assoc) :: rowE v.names
def precE (p : Name) : List Mk := if p = [] then [] else [em 2 [112, 114, 101, 99], em 1 p]
def actE (a : Name) : List Mk := if a = [] then [] else [em 9 a]
def ruleE (r : Rule) : List Mk := em 1 r.left :: em 6 [] :: (rowE r.right ++ (precE r.prec ++ (actE r.action ++ [em 8 []])))
def midE (s : Name) : List Mk := [em 2 [115, 116, 97, 114, 116], em 1 s, em 2 [37]]
def textE (g : G) : List Mk := g.toks.flatMap tokE ++ (g.skips.flatMap skipE ++ (g.levels.flatMap levE ++ (midE g.start ++ g.rules.flatMap ruleE)))
end Pr
end Go.Proofs.YtccndcebbjipnaaGreatDoor
