/-
  What the laws of the lexer say, in plain words: quotes, braces, classes, spaces; a step does not hang on what stands behind an LF.
-/
import Derived.Test.YtgmihbfikggkjaaDoorLxQ
namespace Go.Proofs.YtgmihbfikggkjaaDoor
namespace Lx

/-! What is written between quotes -/
def quote : List UInt8 → List UInt8
  | [] => []
  | c :: r => if c = 10 then 92 :: 110 :: quote r else if c = 34 ∨ c = 92 then 92 :: c :: quote r else c :: quote r
theorem quote_len (l : List UInt8) : l.length ≤ (quote l).length ∧ (quote l).length ≤ 2 * l.length := by
  induction l with
  | nil => simp [quote]
  | cons c r ih =>
    unfold quote
    split
    · simp; omega
    · split <;> simp <;> omega
theorem text_quoted (l told : List UInt8) (i : Nat) (rest : List UInt8) : text (quote l ++ rest) told i = text rest (told ++ l) (i + (quote l).length) := by
  induction l generalizing told i with
  | nil => simp [quote]
  | cons c r ih =>
    unfold quote
    by_cases h10 : c = 10
    · subst h10
      rw [if_pos rfl, List.cons_append, List.cons_append]
      have e : text (92 :: 110 :: (quote r ++ rest)) told i = text (quote r ++ rest) (told ++ [10]) (i + 2) := by rw [text.eq_def]; rfl
      rw [e, ih]
      simp; congr 1; omega
    · rw [if_neg h10]
      by_cases h2 : c = 34 ∨ c = 92
      · rw [if_pos h2, List.cons_append, List.cons_append]
        have e : text (92 :: c :: (quote r ++ rest)) told i = text (quote r ++ rest) (told ++ [c]) (i + 2) := by
          rcases h2 with rfl | rfl <;> (rw [text.eq_def]; rfl)
        rw [e, ih]
        simp; congr 1; omega
      · rw [if_neg h2, List.cons_append]
        have e : text (c :: (quote r ++ rest)) told i = text (quote r ++ rest) (told ++ [c]) (i + 1) := by
          rw [text.eq_def]
          have h34 : c ≠ 34 := fun h => h2 (.inl h)
          have h92 : c ≠ 92 := fun h => h2 (.inr h)
          simp only [if_neg h34, if_neg h10, if_neg h92]
        rw [e, ih]
        simp; congr 1; omega

/-- Spaces ahead of a text. -/
theorem run_spaces (n f i : Nat) (l : List UInt8) (acc : List (Nat × List UInt8 × Nat)) (hf : n < f) :
    run f (List.replicate n 32 ++ l) i acc = run (f - n) l (i + n) acc := by
  induction n generalizing f i with
  | zero => simp
  | succ n ih =>
    rw [List.replicate_succ, List.cons_append, run_skip (by omega) (by simp) (step_space _ (by decide)), List.drop_one, List.tail_cons, ih (f - 1) (i + 1) (by omega)]
    congr 1 <;> omega

/-! Actions -/
theorem act_plain (s : List UInt8) (acc : List UInt8) (o : Nat) (rest : List UInt8) (h : ∀ c ∈ s, c ≠ 123 ∧ c ≠ 125) : act (s ++ rest) acc o = act rest (acc ++ s) o := by
  induction s generalizing acc with
  | nil => simp
  | cons c r ih =>
    have hc := h c (by simp)
    rw [List.cons_append]
    have e : act (c :: (r ++ rest)) acc o = act (r ++ rest) (acc ++ [c]) o := by
      rw [act.eq_def]; simp only [if_neg hc.1, if_neg hc.2]
    rw [e, ih _ (fun d hd => h d (by simp [hd]))]
    simp
theorem act_opens (k : Nat) (acc : List UInt8) (o : Nat) (rest : List UInt8) (h : o + k ≤ 4) : act (List.replicate k 123 ++ rest) acc o = act rest (acc ++ List.replicate k 123) (o + k) := by
  induction k generalizing acc o with
  | zero => simp
  | succ k ih =>
    rw [List.replicate_succ, List.cons_append]
    have e : act (123 :: (List.replicate k 123 ++ rest)) acc o = act (List.replicate k 123 ++ rest) (acc ++ [123]) (o + 1) := by
      rw [act.eq_def]; simp only [if_true, if_neg (show ¬ o = 4 by omega)]
    rw [e, ih _ _ (by omega)]
    congr 1
    · simp
    · omega
theorem act_closes (k : Nat) (acc : List UInt8) (o : Nat) (rest : List UInt8) (h : k < o) : act (List.replicate k 125 ++ rest) acc o = act rest (acc ++ List.replicate k 125) (o - k) := by
  induction k generalizing acc o with
  | zero => simp
  | succ k ih =>
    rw [List.replicate_succ, List.cons_append]
    have e : act (125 :: (List.replicate k 125 ++ rest)) acc o = act (List.replicate k 125 ++ rest) (acc ++ [125]) (o - 1) := by
      rw [act.eq_def]; simp only [if_neg (show ¬ (125 : UInt8) = 123 by decide), if_true, if_neg (show ¬ o = 1 by omega)]
    rw [e, ih _ _ (by omega)]
    congr 1
    · simp
    · omega
/-- A text between d braces, and what of it is told. -/
def braced (d : Nat) (l : List UInt8) : List UInt8 := List.replicate d 123 ++ l ++ List.replicate d 125
def inner (d : Nat) (l : List UInt8) : List UInt8 := List.replicate (d - 1) 123 ++ l ++ List.replicate (d - 1) 125
theorem braced_inner {d : Nat} (l : List UInt8) (hd : 1 ≤ d) : braced d l = 123 :: (inner d l ++ [125]) := by
  obtain ⟨e, rfl⟩ : ∃ e, d = e + 1 := ⟨d - 1, by omega⟩
  unfold braced inner
  simp only [Nat.add_sub_cancel]
  rw [List.replicate_succ, List.replicate_succ' (n := e) (a := (125 : UInt8))]
  simp
theorem braced_len {d : Nat} (l : List UInt8) : (braced d l).length = 2 * d + l.length := by simp [braced]; omega
theorem step_braced {d : Nat} {l : List UInt8} (hd : 1 ≤ d) (h4 : d ≤ 4) (h : ∀ c ∈ l, c ≠ 123 ∧ c ≠ 125) :
    step (braced d l) = if 200 < (inner d l).length then .bad 12 0 else .mark 9 (inner d l) ((inner d l).length + 2) := by
  rw [braced_inner l hd, step_act]
  unfold inner
  rw [List.append_assoc, List.append_assoc, act_opens _ _ _ _ (by omega), act_plain _ _ _ _ h, act_closes _ _ _ _ (by omega)]
  have e : 1 + (d - 1) - (d - 1) = 1 := by omega
  rw [e, act.eq_def]
  simp only [if_neg (show ¬ (125 : UInt8) = 123 by decide), if_true, List.nil_append, List.append_assoc]
theorem step_braced5 {d : Nat} {l : List UInt8} (hd : 5 ≤ d) : step (braced d l) = .bad 13 4 := by
  obtain ⟨e, rfl⟩ : ∃ e, d = e + 5 := ⟨d - 5, by omega⟩
  have h : braced (e + 5) l = 123 :: (List.replicate 3 123 ++ (123 :: (List.replicate e 123 ++ l ++ List.replicate (e + 5) 125))) := by
    unfold braced
    simp [List.replicate_succ]
  rw [h, step_act, act_opens _ _ _ _ (by omega), act.eq_def]
  simp
theorem lex_braced5 {d : Nat} {l : List UInt8} (hd : 5 ≤ d) (hl : (braced d l).length ≤ 4000) : lex (braced d l) = .bad 13 4 := by
  have hne : braced d l ≠ [] := by rw [braced_inner l (by omega)]; simp
  unfold lex
  rw [if_neg (by omega), run_bad (by omega) hne (step_braced5 hd)]
theorem pos_braced5 {d : Nat} {l : List UInt8} (hd : 5 ≤ d) : pos (braced d l) 4 = (1, 5) := by
  obtain ⟨e, rfl⟩ : ∃ e, d = e + 5 := ⟨d - 5, by omega⟩
  have h : braced (e + 5) l = 123 :: 123 :: 123 :: 123 :: (123 :: (List.replicate e 123 ++ l ++ List.replicate (e + 5) 125)) := by
    unfold braced
    simp [List.replicate_succ]
  rw [h]; rfl
theorem lex_braced_long {d : Nat} {l : List UInt8} (hd : 1 ≤ d) (h4 : d ≤ 4) (h : ∀ c ∈ l, c ≠ 123 ∧ c ≠ 125) (hl : (braced d l).length ≤ 4000) (hlong : 200 < (braced d l).length - 2) : lex (braced d l) = .bad 12 0 := by
  have hne : braced d l ≠ [] := by rw [braced_inner l (by omega)]; simp
  have hi : (inner d l).length = (braced d l).length - 2 := by rw [braced_inner l hd]; simp
  unfold lex
  rw [if_neg (by omega), run_bad (by omega) hne (by rw [step_braced hd h4 h, if_pos (by omega)])]
theorem lex_braced {d : Nat} {l : List UInt8} (hd : 1 ≤ d) (h4 : d ≤ 4) (h : ∀ c ∈ l, c ≠ 123 ∧ c ≠ 125) (hl : (braced d l).length ≤ 4000) (hshort : (braced d l).length - 2 ≤ 200) :
    lex (braced d l) = .ok [(9, inner d l, 0), (0, [], (braced d l).length)] := by
  have hne : braced d l ≠ [] := by rw [braced_inner l (by omega)]; simp
  have hi : (inner d l).length + 2 = (braced d l).length := by rw [braced_inner l hd]; simp
  unfold lex
  rw [if_neg (by omega), run_mark (by omega) hne (by rw [step_braced hd h4 h, if_neg (by omega)]), hi, List.drop_length, run_end (by omega)]
  simp

theorem lex_quote {n : Nat} {l : List UInt8} (hl : n + (quote l).length + 2 ≤ 4000) :
    lex (List.replicate n 32 ++ (34 :: (quote l ++ [34]))) =
      if l = [] then .bad 10 n else if 32 < l.length then .bad 12 n else .ok [(3, l, n), (0, [], n + (quote l).length + 2)] := by
  have hs : step (34 :: (quote l ++ [34])) = if l = [] then .bad 10 0 else if 32 < l.length then .bad 12 0 else .mark 3 l ((quote l).length + 2) := by
    rw [step_text, text_quoted, text.eq_def]
    simp only [if_true, List.nil_append]
    by_cases h : l = []
    · simp [h]
    · by_cases h2 : 32 < l.length
      · simp [h, h2]
      · simp [h, h2]; omega
  have hlen : (List.replicate n 32 ++ (34 :: (quote l ++ [34])) : List UInt8).length = n + (quote l).length + 2 := by simp; omega
  unfold lex
  rw [if_neg (by omega), run_spaces _ _ _ _ _ (by omega), hlen]
  by_cases h : l = []
  · rw [if_pos h] at hs ⊢
    rw [run_bad (by omega) (by simp) hs]; simp
  · rw [if_neg h] at hs ⊢
    by_cases h2 : 32 < l.length
    · rw [if_pos h2] at hs ⊢
      rw [run_bad (by omega) (by simp) hs]; simp
    · rw [if_neg h2] at hs ⊢
      rw [run_mark (by omega) (by simp) hs]
      have e : List.drop ((quote l).length + 2) (34 :: (quote l ++ [34])) = [] := by
        apply List.drop_of_length_le; simp
      rw [e, run_end (by omega)]
      simp; omega
theorem pos_spaces (n : Nat) (r : List UInt8) : pos (List.replicate n 32 ++ r) n = (1, n + 1) := by
  unfold pos
  have e : (List.replicate n (32 : UInt8) ++ r).take n = List.replicate n 32 := by
    rw [List.take_append_of_le_length (by simp)]; simp
  rw [e]
  have h : ∀ k c, adv (1, c) (List.replicate k 32) = (1, c + k) := by
    intro k
    induction k with
    | zero => intro c; rfl
    | succ k ih =>
      intro c
      have e2 : adv (1, c) (List.replicate (k + 1) 32) = adv (1, c + 1) (List.replicate k 32) := rfl
      rw [e2, ih]; congr 1; omega
  rw [h]; congr 1; omega
end Lx
end Go.Proofs.YtgmihbfikggkjaaDoor
