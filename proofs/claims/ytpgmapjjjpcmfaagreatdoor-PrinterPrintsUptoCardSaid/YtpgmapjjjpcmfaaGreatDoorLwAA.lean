/-
  What the laws of the lexer say, in plain words: quotes, braces, classes, spaces; a step does not hang on what stands behind an LF.
  A step does not hang on what stands behind an LF; blanks ahead of a text, and behind it, change nothing but places.
  The walk of tronagelaw05's awake: the chapter's examples.
  The walk of LexerActions.
  The walk of LexerSpaces.
  LexerClasses' plain words: a range, and single bytes, between brackets; a slice of bytes as an argument.
-/
import Derived.Test.YtpgmapjjjpcmfaaGreatDoorLxAA
import Derived.Test.YtpgmapjjjpcmfaaGreatDoorLxAC
import Derived.Test.YtpgmapjjjpcmfaaGreatDoorOps
namespace Go.Proofs.YtpgmapjjjpcmfaaGreatDoor
namespace Lx

/-! What is written between quotes -/
def quote : List UInt8 → List UInt8
  | [] => []
  | c :: r => if c = 10 then 92 :: 110 :: quote r else if c = 34 ∨ c = 92 then 92 :: c :: quote r else c :: quote r
theorem quote_len (l : List UInt8) : l.length ≤ (quote l).length ∧ (quote l).length ≤ 2 * l.length := by
  induction l with
  | nil => simp [quote]
  | cons c r ih =>
    unfold quote
    split
    · simp; omega
    · split <;> simp <;> omega
theorem text_quoted (l told : List UInt8) (i : Nat) (rest : List UInt8) : text (quote l ++ rest) told i = text rest (told ++ l) (i + (quote l).length) := by
  induction l generalizing told i with
  | nil => simp [quote]
  | cons c r ih =>
    unfold quote
    by_cases h10 : c = 10
    · subst h10
      rw [if_pos rfl, List.cons_append, List.cons_append]
      have e : text (92 :: 110 :: (quote r ++ rest)) told i = text (quote r ++ rest) (told ++ [10]) (i + 2) := by rw [text.eq_def]; rfl
      rw [e, ih]
      simp; congr 1; omega
    · rw [if_neg h10]
      by_cases h2 : c = 34 ∨ c = 92
      · rw [if_pos h2, List.cons_append, List.cons_append]
        have e : text (92 :: c :: (quote r ++ rest)) told i = text (quote r ++ rest) (told ++ [c]) (i + 2) := by
          rcases h2 with rfl | rfl <;> (rw [text.eq_def]; rfl)
        rw [e, ih]
        simp; congr 1; omega
      · rw [if_neg h2, List.cons_append]
        have e : text (c :: (quote r ++ rest)) told i = text (quote r ++ rest) (told ++ [c]) (i + 1) := by
          rw [text.eq_def]
          have h34 : c ≠ 34 := fun h => h2 (.inl h)
          have h92 : c ≠ 92 := fun h => h2 (.inr h)
          simp only [if_neg h34, if_neg h10, if_neg h92]
        rw [e, ih]
        simp; congr 1; omega

/-- Spaces ahead of a text. -/
theorem run_spaces (n f i : Nat) (l : List UInt8) (acc : List (Nat × List UInt8 × Nat)) (hf : n < f) :
    run f (List.replicate n 32 ++ l) i acc = run (f - n) l (i + n) acc := by
  induction n generalizing f i with
  | zero => simp
  | succ n ih =>
    rw [List.replicate_succ, List.cons_append, run_skip (by omega) (by simp) (step_space _ (by decide)), List.drop_one, List.tail_cons, ih (f - 1) (i + 1) (by omega)]
    congr 1 <;> omega

/-! Actions -/
theorem act_plain (s : List UInt8) (acc : List UInt8) (o : Nat) (rest : List UInt8) (h : ∀ c ∈ s, c ≠ 123 ∧ c ≠ 125) : act (s ++ rest) acc o = act rest (acc ++ s) o := by
  induction s generalizing acc with
  | nil => simp
  | cons c r ih =>
    have hc := h c (by simp)
    rw [List.cons_append]
    have e : act (c :: (r ++ rest)) acc o = act (r ++ rest) (acc ++ [c]) o := by
      rw [act.eq_def]; simp only [if_neg hc.1, if_neg hc.2]
    rw [e, ih _ (fun d hd => h d (by simp [hd]))]
    simp
theorem act_opens (k : Nat) (acc : List UInt8) (o : Nat) (rest : List UInt8) (h : o + k ≤ 4) : act (List.replicate k 123 ++ rest) acc o = act rest (acc ++ List.replicate k 123) (o + k) := by
  induction k generalizing acc o with
  | zero => simp
  | succ k ih =>
    rw [List.replicate_succ, List.cons_append]
    have e : act (123 :: (List.replicate k 123 ++ rest)) acc o = act (List.replicate k 123 ++ rest) (acc ++ [123]) (o + 1) := by
      rw [act.eq_def]; simp only [if_true, if_neg (show ¬ o = 4 by omega)]
    rw [e, ih _ _ (by omega)]
    congr 1
    · simp
    · omega
theorem act_closes (k : Nat) (acc : List UInt8) (o : Nat) (rest : List UInt8) (h : k < o) : act (List.replicate k 125 ++ rest) acc o = act rest (acc ++ List.replicate k 125) (o - k) := by
  induction k generalizing acc o with
  | zero => simp
  | succ k ih =>
    rw [List.replicate_succ, List.cons_append]
    have e : act (125 :: (List.replicate k 125 ++ rest)) acc o = act (List.replicate k 125 ++ rest) (acc ++ [125]) (o - 1) := by
      rw [act.eq_def]; simp only [if_neg (show ¬ (125 : UInt8) = 123 by decide), if_true, if_neg (show ¬ o = 1 by omega)]
    rw [e, ih _ _ (by omega)]
    congr 1
    · simp
    · omega
/-- A text between d braces, and what of it is told. -/
def braced (d : Nat) (l : List UInt8) : List UInt8 := List.replicate d 123 ++ l ++ List.replicate d 125
def inner (d : Nat) (l : List UInt8) : List UInt8 := List.replicate (d - 1) 123 ++ l ++ List.replicate (d - 1) 125
theorem braced_inner {d : Nat} (l : List UInt8) (hd : 1 ≤ d) : braced d l = 123 :: (inner d l ++ [125]) := by
  obtain ⟨e, rfl⟩ : ∃ e, d = e + 1 := ⟨d - 1, by omega⟩
  unfold braced inner
  simp only [Nat.add_sub_cancel]
  rw [List.replicate_succ, List.replicate_succ' (n := e) (a := (125 : UInt8))]
  simp
theorem braced_len {d : Nat} (l : List UInt8) : (braced d l).length = 2 * d + l.length := by simp [braced]; omega
theorem step_braced {d : Nat} {l : List UInt8} (hd : 1 ≤ d) (h4 : d ≤ 4) (h : ∀ c ∈ l, c ≠ 123 ∧ c ≠ 125) :
    step (braced d l) = if 200 < (inner d l).length then .bad 12 0 else .mark 9 (inner d l) ((inner d l).length + 2) := by
  rw [braced_inner l hd, step_act]
  unfold inner
  rw [List.append_assoc, List.append_assoc, act_opens _ _ _ _ (by omega), act_plain _ _ _ _ h, act_closes _ _ _ _ (by omega)]
  have e : 1 + (d - 1) - (d - 1) = 1 := by omega
  rw [e, act.eq_def]
  simp only [if_neg (show ¬ (125 : UInt8) = 123 by decide), if_true, List.nil_append, List.append_assoc]
theorem step_braced5 {d : Nat} {l : List UInt8} (hd : 5 ≤ d) : step (braced d l) = .bad 13 4 := by
  obtain ⟨e, rfl⟩ : ∃ e, d = e + 5 := ⟨d - 5, by omega⟩
  have h : braced (e + 5) l = 123 :: (List.replicate 3 123 ++ (123 :: (List.replicate e 123 ++ l ++ List.replicate (e + 5) 125))) := by
    unfold braced
    simp [List.replicate_succ]
  rw [h, step_act, act_opens _ _ _ _ (by omega), act.eq_def]
  simp
theorem lex_braced5 {d : Nat} {l : List UInt8} (hd : 5 ≤ d) (hl : (braced d l).length ≤ 4000) : lex (braced d l) = .bad 13 4 := by
  have hne : braced d l ≠ [] := by rw [braced_inner l (by omega)]; simp
  unfold lex
  rw [if_neg (by omega), run_bad (by omega) hne (step_braced5 hd)]
theorem pos_braced5 {d : Nat} {l : List UInt8} (hd : 5 ≤ d) : pos (braced d l) 4 = (1, 5) := by
  obtain ⟨e, rfl⟩ : ∃ e, d = e + 5 := ⟨d - 5, by omega⟩
  have h : braced (e + 5) l = 123 :: 123 :: 123 :: 123 :: (123 :: (List.replicate e 123 ++ l ++ List.replicate (e + 5) 125)) := by
    unfold braced
    simp [List.replicate_succ]
  rw [h]; rfl
theorem lex_braced_long {d : Nat} {l : List UInt8} (hd : 1 ≤ d) (h4 : d ≤ 4) (h : ∀ c ∈ l, c ≠ 123 ∧ c ≠ 125) (hl : (braced d l).length ≤ 4000) (hlong : 200 < (braced d l).length - 2) : lex (braced d l) = .bad 12 0 := by
  have hne : braced d l ≠ [] := by rw [braced_inner l (by omega)]; simp
  have hi : (inner d l).length = (braced d l).length - 2 := by rw [braced_inner l hd]; simp
  unfold lex
  rw [if_neg (by omega), run_bad (by omega) hne (by rw [step_braced hd h4 h, if_pos (by omega)])]
theorem lex_braced {d : Nat} {l : List UInt8} (hd : 1 ≤ d) (h4 : d ≤ 4) (h : ∀ c ∈ l, c ≠ 123 ∧ c ≠ 125) (hl : (braced d l).length ≤ 4000) (hshort : (braced d l).length - 2 ≤ 200) :
    lex (braced d l) = .ok [(9, inner d l, 0), (0, [], (braced d l).length)] := by
  have hne : braced d l ≠ [] := by rw [braced_inner l (by omega)]; simp
  have hi : (inner d l).length + 2 = (braced d l).length := by rw [braced_inner l hd]; simp
  unfold lex
  rw [if_neg (by omega), run_mark (by omega) hne (by rw [step_braced hd h4 h, if_neg (by omega)]), hi, List.drop_length, run_end (by omega)]
  simp

theorem lex_quote {n : Nat} {l : List UInt8} (hl : n + (quote l).length + 2 ≤ 4000) :
    lex (List.replicate n 32 ++ (34 :: (quote l ++ [34]))) =
      if l = [] then .bad 10 n else if 32 < l.length then .bad 12 n else .ok [(3, l, n), (0, [], n + (quote l).length + 2)] := by
  have hs : step (34 :: (quote l ++ [34])) = if l = [] then .bad 10 0 else if 32 < l.length then .bad 12 0 else .mark 3 l ((quote l).length + 2) := by
    rw [step_text, text_quoted, text.eq_def]
    simp only [if_true, List.nil_append]
    by_cases h : l = []
    · simp [h]
    · by_cases h2 : 32 < l.length
      · simp [h, h2]
      · simp [h, h2]; omega
  have hlen : (List.replicate n 32 ++ (34 :: (quote l ++ [34])) : List UInt8).length = n + (quote l).length + 2 := by simp; omega
  unfold lex
  rw [if_neg (by omega), run_spaces _ _ _ _ _ (by omega), hlen]
  by_cases h : l = []
  · rw [if_pos h] at hs ⊢
    rw [run_bad (by omega) (by simp) hs]; simp
  · rw [if_neg h] at hs ⊢
    by_cases h2 : 32 < l.length
    · rw [if_pos h2] at hs ⊢
      rw [run_bad (by omega) (by simp) hs]; simp
    · rw [if_neg h2] at hs ⊢
      rw [run_mark (by omega) (by simp) hs]
      have e : List.drop ((quote l).length + 2) (34 :: (quote l ++ [34])) = [] := by
        apply List.drop_of_length_le; simp
      rw [e, run_end (by omega)]
      simp; omega
theorem pos_spaces (n : Nat) (r : List UInt8) : pos (List.replicate n 32 ++ r) n = (1, n + 1) := by
  unfold pos
  have e : (List.replicate n (32 : UInt8) ++ r).take n = List.replicate n 32 := by
    rw [List.take_append_of_le_length (by simp)]; simp
  rw [e]
  have h : ∀ k c, adv (1, c) (List.replicate k 32) = (1, c + k) := by
    intro k
    induction k with
    | zero => intro c; rfl
    | succ k ih =>
      intro c
      have e2 : adv (1, c) (List.replicate (k + 1) 32) = adv (1, c + 1) (List.replicate k 32) := rfl
      rw [e2, ih]; congr 1; omega
  rw [h]; congr 1; omega
end Lx
end Go.Proofs.YtpgmapjjjpcmfaaGreatDoor

namespace Go.Proofs.YtpgmapjjjpcmfaaGreatDoor
namespace Lx

theorem takeWhile_stop (p : UInt8 → Bool) (hp : p 10 = false) (l rest : List UInt8) : (l ++ 10 :: rest).takeWhile p = l.takeWhile p := by
  induction l with
  | nil => simp [hp]
  | cons c r ih => rw [List.cons_append, List.takeWhile_cons, List.takeWhile_cons, ih]

theorem text_tail (l told : List UInt8) (i : Nat) (rest : List UInt8) : text l told i = .bad 11 0 ∨ text (l ++ 10 :: rest) told i = text l told i := by
  fun_induction text l told i
  case case1 => exact .inl rfl
  all_goals first
    | (right; rw [List.cons_append, text.eq_def]; simp_all; done)
    | (rename_i ih; rcases ih with h | h
       · exact .inl h
       · right; rw [List.cons_append, text.eq_def]; simp_all; done)
    | (rename_i ih; rcases ih with h | h
       · exact .inl h
       · right; rw [List.cons_append, List.cons_append, text.eq_def]; simp_all; done)
    | (right; rw [List.cons_append, text.eq_def]; simp_all [esc]; done)
    | skip

theorem cls_tail (l : List UInt8) (i : Nat) (p : Parts) (rest : List UInt8) : cls l i p = .bad 11 0 ∨ cls (l ++ 10 :: rest) i p = cls l i p := by
  fun_induction cls l i p
  case case1 => exact .inl rfl
  all_goals first
    | (right; rw [List.cons_append, cls.eq_def]; simp_all; done)
    | (rename_i ih; rcases ih with h | h
       · exact .inl h
       · right; rw [List.cons_append, cls.eq_def]; simp_all; done)
    | (rename_i ih; rcases ih with h | h
       · exact .inl h
       · right; rw [List.cons_append, List.cons_append, cls.eq_def]; simp_all; done)
    | (right; rw [List.cons_append, cls.eq_def]; simp_all [esc]; done)
    | skip

theorem act_tail (l acc : List UInt8) (o : Nat) (rest : List UInt8) : act l acc o = .bad 11 0 ∨ act (l ++ 10 :: rest) acc o = act l acc o := by
  fun_induction act l acc o
  case case1 => exact .inl rfl
  all_goals first
    | (right; rw [List.cons_append, act.eq_def]; simp_all; done)
    | (rename_i ih; rcases ih with h | h
       · exact .inl h
       · right; rw [List.cons_append, act.eq_def]; simp_all; done)
    | skip

theorem word_tail (l rest : List UInt8) : word (l ++ 10 :: rest) = word l := by
  have h : wordOf (l ++ 10 :: rest) = wordOf l := by
    unfold wordOf
    have h1 : (l ++ 10 :: rest).head? = some 37 ↔ l.head? = some 37 := by
      cases l with
      | nil => simp
      | cons c r => simp
    by_cases h : l.head? = some 37
    · rw [if_pos h, if_pos (h1.2 h)]
    · rw [if_neg h, if_neg (fun h' => h (h1.1 h')), takeWhile_stop _ (by decide)]
  unfold word
  rw [h]
theorem name_tail (c : UInt8) (l rest : List UInt8) : nameOf (c :: (l ++ 10 :: rest)) = nameOf (c :: l) := by
  have e1 : nameOf (c :: (l ++ 10 :: rest)) = if isLetter c then (c :: (l ++ 10 :: rest)).takeWhile isName else [] := rfl
  have e2 : nameOf (c :: l) = if isLetter c then (c :: l).takeWhile isName else [] := rfl
  rw [e1, e2]
  have := takeWhile_stop isName (by decide) (c :: l) rest
  rw [List.cons_append] at this
  rw [this]

theorem step_tail (l rest : List UInt8) (hl : l ≠ []) : step l = .bad 11 0 ∨ step (l ++ 10 :: rest) = step l := by
  cases l with
  | nil => exact absurd rfl hl
  | cons c r =>
    rw [List.cons_append]
    unfold step
    simp only []
    by_cases h1 : c = 32 ∨ c = 9 ∨ c = 10 ∨ c = 13
    · simp only [if_pos h1]; exact .inr trivial
    · simp only [if_neg h1]
      by_cases h2 : c = 35
      · simp only [if_pos h2, takeWhile_stop (· != 10) (by decide)]; exact .inr trivial
      · simp only [if_neg h2]
        by_cases h3 : isLetter c = true
        · simp only [if_pos h3, name_tail]; exact .inr trivial
        · simp only [if_neg h3]
          by_cases h4 : c = 37
          · simp only [if_pos h4, word_tail]; exact .inr trivial
          · simp only [if_neg h4]
            by_cases h5 : c = 34
            · simp only [if_pos h5]; exact text_tail _ _ _ _
            · simp only [if_neg h5]
              by_cases h6 : c = 91
              · simp only [if_pos h6]; exact cls_tail _ _ _ _
              · simp only [if_neg h6]
                by_cases h7 : c = 123
                · simp only [if_pos h7]; exact act_tail _ _ _ _
                · simp only [if_neg h7]; exact .inr trivial
abbrev M0 := Nat × List UInt8 × Nat
/-- Kind and text of a mark. -/
def kt (m : M0) : Nat × List UInt8 := (m.1, m.2.1)

/-- What comes of a text l, and of l with an LF and whatever behind it. -/
theorem run_tail (rest : List UInt8) : ∀ (n : Nat) (l : List UInt8) (f i : Nat) (acc : List M0) (f' j : Nat) (acc' : List M0), l.length ≤ n → l.length < f → (l ++ 10 :: rest).length < f' →
    (∃ ms ms' : List M0, run f l i acc = .ok (acc ++ ms ++ [(0, [], i + l.length)]) ∧ (∃ f2, (10 :: rest).length < f2 ∧ run f' (l ++ 10 :: rest) j acc' = run f2 (10 :: rest) (j + l.length) (acc' ++ ms')) ∧ ms.map kt = ms'.map kt) ∨
    (∃ c p, run f l i acc = .bad c p ∧ (c = 11 ∨ ∃ p', run f' (l ++ 10 :: rest) j acc' = .bad c p')) := by
  intro n
  induction n with
  | zero =>
    intro l f i acc f' j acc' hn hf hf'
    obtain rfl : l = [] := List.eq_nil_of_length_eq_zero (by omega)
    exact .inl ⟨[], [], by rw [run_end (by omega)]; simp, ⟨f', by simpa using hf', by simp⟩, rfl⟩
  | succ n ih =>
    intro l f i acc f' j acc' hn hf hf'
    by_cases hl : l = []
    · subst hl
      exact .inl ⟨[], [], by rw [run_end (by omega)]; simp, ⟨f', by simpa using hf', by simp⟩, rfl⟩
    · have hl' : l ++ 10 :: rest ≠ [] := by simp
      obtain ⟨c0, r0, rfl⟩ := List.exists_cons_of_ne_nil hl
      have hfit := step_fits c0 r0
      rcases step_tail (c0 :: r0) rest hl with h11 | hsame
      · exact .inr ⟨11, _, run_bad (by omega) hl h11, .inl rfl⟩
      · cases hs : step (c0 :: r0) with
        | skip m =>
          rw [hs] at hfit hsame
          obtain ⟨m1, m2⟩ := hfit
          rw [run_skip (by omega) hl hs, run_skip (by omega) hl' hsame]
          have hd : (c0 :: r0 ++ 10 :: rest).drop m = (c0 :: r0).drop m ++ 10 :: rest := List.drop_append_of_le_length (by omega)
          rw [hd]
          have hlen : ((c0 :: r0).drop m).length = (c0 :: r0).length - m := List.length_drop ..
          rcases ih ((c0 :: r0).drop m) (f - 1) (i + m) acc (f' - 1) (j + m) acc' (by rw [hlen]; omega) (by rw [hlen]; omega) (by rw [List.length_append, hlen]; rw [List.length_append] at hf'; omega) with ⟨ms, ms', e1, ⟨f2, e2, e3⟩, e4⟩ | ⟨c, p, e1, e2⟩
          · refine .inl ⟨ms, ms', ?_, ⟨f2, e2, ?_⟩, e4⟩
            · rw [e1, hlen, show i + m + ((c0 :: r0).length - m) = i + (c0 :: r0).length by omega]
            · rw [e3, hlen, show j + m + ((c0 :: r0).length - m) = j + (c0 :: r0).length by omega]
          · exact .inr ⟨c, p, e1, e2⟩
        | mark k t m =>
          rw [hs] at hfit hsame
          obtain ⟨m1, m2, _⟩ := hfit
          rw [run_mark (by omega) hl hs, run_mark (by omega) hl' hsame]
          have hd : (c0 :: r0 ++ 10 :: rest).drop m = (c0 :: r0).drop m ++ 10 :: rest := List.drop_append_of_le_length (by omega)
          rw [hd]
          have hlen : ((c0 :: r0).drop m).length = (c0 :: r0).length - m := List.length_drop ..
          rcases ih ((c0 :: r0).drop m) (f - 1) (i + m) (acc ++ [(k, t, i)]) (f' - 1) (j + m) (acc' ++ [(k, t, j)]) (by rw [hlen]; omega) (by rw [hlen]; omega) (by rw [List.length_append, hlen]; rw [List.length_append] at hf'; omega) with ⟨ms, ms', e1, ⟨f2, e2, e3⟩, e4⟩ | ⟨c, p, e1, e2⟩
          · refine .inl ⟨(k, t, i) :: ms, (k, t, j) :: ms', ?_, ⟨f2, e2, ?_⟩, ?_⟩
            · rw [e1, hlen, show i + m + ((c0 :: r0).length - m) = i + (c0 :: r0).length by omega]
              simp only [List.append_assoc, List.cons_append, List.nil_append]
            · rw [e3, hlen, show j + m + ((c0 :: r0).length - m) = j + (c0 :: r0).length by omega]
              simp only [List.append_assoc, List.cons_append, List.nil_append]
            · simp only [List.map_cons, e4]; rfl
          · exact .inr ⟨c, p, e1, e2⟩
        | bad c m =>
          rw [hs] at hsame
          exact .inr ⟨c, _, run_bad (by omega) hl hs, .inr ⟨_, run_bad (by omega) hl' hsame⟩⟩

/-- A remark, an LF, and blanks. -/
def lead (cm sp : List UInt8) : List UInt8 := 35 :: (cm ++ 10 :: sp)
theorem skips_space (sp X : List UInt8) (h : ∀ c ∈ sp, isSpace c = true) : Skips (sp ++ X) sp.length := by
  have gen : ∀ k, k ≤ sp.length → Skips (sp ++ X) k := by
    intro k
    induction k with
    | zero => intro _; exact Skips.zero _
    | succ k ih =>
      intro hk
      have hd : (sp ++ X).drop k = sp[k] :: (sp ++ X).drop (k + 1) := by
        rw [List.drop_eq_getElem_cons (by simp; omega), List.getElem_append_left (by omega)]
      exact (ih (by omega)).more (by rw [hd]; simp) (by rw [hd]; exact step_space _ (h _ (List.getElem_mem _))) (by omega) (by simp; omega)
  exact gen sp.length (Nat.le_refl _)
theorem skips_cons {n : Nat} {l : List UInt8} (hl : l ≠ []) (h1 : step l = .skip n) (hn : 0 < n) (hle : n ≤ l.length) {k : Nat} (h : Skips (l.drop n) k) : Skips l (n + k) :=
  ⟨by have := h.le; rw [List.length_drop] at this; omega, fun f i acc hf => by
    obtain ⟨f1, e1, e2⟩ := h.run (f - 1) (i + n) acc (by rw [List.length_drop]; omega)
    refine ⟨f1, by rw [List.length_drop] at e1; omega, ?_⟩
    rw [run_skip (by omega) hl h1, e2, List.drop_drop, Nat.add_assoc]⟩
theorem skips_lead (cm sp X : List UInt8) (hc : ∀ c ∈ cm, c ≠ 10) (h : ∀ c ∈ sp, isSpace c = true) : Skips (lead cm sp ++ X) (lead cm sp).length := by
  have hne : lead cm sp ++ X ≠ [] := by simp [lead]
  have htw : (cm ++ 10 :: (sp ++ X)).takeWhile (· != 10) = cm := by
    rw [takeWhile_stop _ (by decide)]
    induction cm with
    | nil => rfl
    | cons c r ih =>
      rw [List.takeWhile_cons_of_pos (by simpa using hc c (by simp)), ih (fun d hd => hc d (by simp [hd])) (by simp [lead])]
  have e : lead cm sp ++ X = 35 :: (cm ++ 10 :: (sp ++ X)) := by simp [lead]
  have hst : step (lead cm sp ++ X) = .skip (1 + cm.length) := by
    rw [e]
    have : step (35 :: (cm ++ 10 :: (sp ++ X))) = .skip (1 + ((cm ++ 10 :: (sp ++ X)).takeWhile (· != 10)).length) := rfl
    rw [this, htw]
  have hlen : (lead cm sp).length = (1 + cm.length) + (1 + sp.length) := by simp [lead]; omega
  rw [hlen]
  refine skips_cons hne hst (by omega) (by rw [List.length_append, hlen]; omega) ?_
  have hd : (lead cm sp ++ X).drop (1 + cm.length) = 10 :: (sp ++ X) := by
    rw [e, Nat.add_comm, List.drop_succ_cons]; simp
  rw [hd]
  exact skips_cons (by simp) (step_space _ (by decide)) (by omega) (by simp) (by simpa using skips_space sp X h)
theorem skips_note (cm : List UInt8) (hc : ∀ c ∈ cm, c ≠ 10) : Skips (35 :: cm) (35 :: cm).length := by
  have htw : cm.takeWhile (· != 10) = cm := by
    induction cm with
    | nil => rfl
    | cons c r ih => rw [List.takeWhile_cons_of_pos (by simpa using hc c (by simp)), ih (fun d hd => hc d (by simp [hd]))]
  have hst : step (35 :: cm) = .skip (1 + cm.length) := by
    have : step (35 :: cm) = .skip (1 + (cm.takeWhile (· != 10)).length) := rfl
    rw [this, htw]
  have hd : (35 :: cm).drop (1 + cm.length) = [] := List.drop_of_length_le (by simp; omega)
  have := skips_cons (k := 0) (by simp) hst (by omega) (by simp; omega) (by rw [hd]; exact Skips.zero _)
  have e : (35 :: cm).length = 1 + cm.length + 0 := by simp; omega
  rw [e]; exact this

/-- The text of LexerSpaces. -/
def spaced (s cm sp : List UInt8) : List UInt8 := lead cm sp ++ (s ++ 10 :: (lead cm sp ++ 35 :: cm))
theorem lex_spaced (s cm sp : List UInt8) (hc : ∀ c ∈ cm, c ≠ 10) (h : ∀ c ∈ sp, isSpace c = true) (hs : s.length ≤ 4000) (hl : (spaced s cm sp).length ≤ 4000) :
    (∃ ms ms' : List M0, lex s = .ok ms ∧ lex (spaced s cm sp) = .ok ms' ∧ ms.map kt = ms'.map kt) ∨ (∃ c p, lex s = .bad c p ∧ (c = 11 ∨ ∃ p', lex (spaced s cm sp) = .bad c p')) := by
  unfold lex
  rw [if_neg (by omega), if_neg (by omega)]
  obtain ⟨f1, e1, e2⟩ := (skips_lead cm sp (s ++ 10 :: (lead cm sp ++ 35 :: cm)) hc h).run ((spaced s cm sp).length + 1) 0 [] (by unfold spaced; omega)
  have hd : (lead cm sp ++ (s ++ 10 :: (lead cm sp ++ 35 :: cm))).drop (lead cm sp).length = s ++ 10 :: (lead cm sp ++ 35 :: cm) := by simp
  rw [hd] at e2
  have e2' : run ((spaced s cm sp).length + 1) (spaced s cm sp) 0 [] = run f1 (s ++ 10 :: (lead cm sp ++ 35 :: cm)) (0 + (lead cm sp).length) [] := e2
  rw [e2']
  have e1' : (s ++ 10 :: (lead cm sp ++ 35 :: cm)).length < f1 := by
    rw [List.length_append] at e1; omega
  rcases run_tail (lead cm sp ++ 35 :: cm) s.length s (s.length + 1) 0 [] f1 (0 + (lead cm sp).length) [] (Nat.le_refl _) (by omega) e1' with ⟨ms, ms', g1, ⟨f2, g2, g3⟩, g4⟩ | ⟨c, p, g1, g2⟩
  · left
    have hk1 : Skips (10 :: (lead cm sp ++ 35 :: cm)) (1 + (lead cm sp).length) :=
      skips_cons (by simp) (step_space _ (by decide)) (by omega) (by simp) (by simpa using skips_lead cm sp (35 :: cm) hc h)
    obtain ⟨f3, h1, h2⟩ := hk1.run f2 (0 + (lead cm sp).length + s.length) ([] ++ ms') g2
    have hd1 : (10 :: (lead cm sp ++ 35 :: cm)).drop (1 + (lead cm sp).length) = 35 :: cm := by
      rw [Nat.add_comm, List.drop_succ_cons]; simp
    rw [hd1] at h2
    have h1' : (35 :: cm).length < f3 := by
      simp only [List.length_cons, List.length_append] at h1 ⊢; omega
    obtain ⟨f4, h3, h4⟩ := (skips_note cm hc).run f3 (0 + (lead cm sp).length + s.length + (1 + (lead cm sp).length)) ([] ++ ms') h1'
    rw [List.drop_length] at h4
    refine ⟨_, [] ++ ms' ++ [(0, [], 0 + (lead cm sp).length + s.length + (1 + (lead cm sp).length) + (35 :: cm).length)], g1, ?_, ?_⟩
    · rw [g3, h2, h4, run_end (by omega)]
    · simp [g4, kt]
  · right
    exact ⟨c, p, g1, g2⟩
end Lx
end Go.Proofs.YtpgmapjjjpcmfaaGreatDoor

namespace Go.Proofs.YtpgmapjjjpcmfaaGreatDoor
open Go.RowKit
open Lx
set_option linter.unusedVariables false
set_option linter.unusedSimpArgs false

/-- Lex told these marks, and this of what is wrong. -/
structure LexIs (MS : List Mk) (D : Nat × Nat × Nat) (w : World) (e : Ending) (w' : World) : Prop where
  ex : ∃ (A : Option Addr) (cap : Nat), e = .returned (.tuple #[.slice A MS.length cap, diagV D]) ∧ MAt w' A MS
  below : Below w.heap.size w w'
theorem lex_is (s : ByteArray) (MS : List Mk) (D : Nat × Nat × Nat) (w : World) (hm : s.size ≤ 9223372036854775807) (hT : Tab w) (h0 : 1 < w.heap.size) (h1 : (lex (bl s)).marks (bl s) = MS) (h2 : (lex (bl s)).diag (bl s) = D) :
    Calls Tryz.prog 75 #[.string s] w (LexIs MS D w) := by
  subst h1 h2
  exact (lex_any s w hm hT h0).mono fun e w' ⟨h3, h4⟩ => ⟨h3, h4⟩

theorem aw1 : (lex [97, 32, 123, 49, 123, 50, 125, 125]).marks [97, 32, 123, 49, 123, 50, 125, 125] = [⟨1, [97], 1, 1⟩, ⟨9, [49, 123, 50, 125], 1, 3⟩, ⟨0, [], 1, 9⟩] := by decide +kernel
theorem aw1d : (lex [97, 32, 123, 49, 123, 50, 125, 125]).diag [97, 32, 123, 49, 123, 50, 125, 125] = (0, 0, 0) := by decide +kernel
theorem aw2 : (lex [37, 116, 111, 107, 101, 110, 32, 78, 32, 91, 48, 45, 57, 93, 43]).marks [37, 116, 111, 107, 101, 110, 32, 78, 32, 91, 48, 45, 57, 93, 43] = [⟨2, [116, 111, 107, 101, 110], 1, 1⟩, ⟨1, [78], 1, 8⟩, ⟨4, [48, 49, 50, 51, 52, 53, 54, 55, 56, 57], 1, 10⟩, ⟨5, [], 1, 15⟩, ⟨0, [], 1, 16⟩] := by decide +kernel
theorem aw2d : (lex [37, 116, 111, 107, 101, 110, 32, 78, 32, 91, 48, 45, 57, 93, 43]).diag [37, 116, 111, 107, 101, 110, 32, 78, 32, 91, 48, 45, 57, 93, 43] = (0, 0, 0) := by decide +kernel
theorem aw3 : (lex [91, 98, 45, 97, 93]).marks [91, 98, 45, 97, 93] = [] := by decide +kernel
theorem aw3d : (lex [91, 98, 45, 97, 93]).diag [91, 98, 45, 97, 93] = (10, 1, 3) := by decide +kernel


end Go.Proofs.YtpgmapjjjpcmfaaGreatDoor

namespace Go.Proofs.YtpgmapjjjpcmfaaGreatDoor
open Go.RowKit
open Lx
set_option linter.unusedVariables false
set_option linter.unusedSimpArgs false

theorem bl_append (a b : ByteArray) : bl (a ++ b) = bl a ++ bl b := by
  unfold bl; rw [ByteArray.data_append]; simp
theorem bl_opens {d : Nat} (hd : d ≤ 6) : bl ((⟨#[123, 123, 123, 123, 123, 123]⟩ : ByteArray).extract 0 d) = List.replicate d 123 := by
  rw [bl_ext]
  match d, hd with
  | 0, _ => rfl
  | 1, _ => rfl
  | 2, _ => rfl
  | 3, _ => rfl
  | 4, _ => rfl
  | 5, _ => rfl
  | 6, _ => rfl
theorem bl_closes {d : Nat} (hd : d ≤ 6) : bl ((⟨#[125, 125, 125, 125, 125, 125]⟩ : ByteArray).extract 0 d) = List.replicate d 125 := by
  rw [bl_ext]
  match d, hd with
  | 0, _ => rfl
  | 1, _ => rfl
  | 2, _ => rfl
  | 3, _ => rfl
  | 4, _ => rfl
  | 5, _ => rfl
  | 6, _ => rfl


end Go.Proofs.YtpgmapjjjpcmfaaGreatDoor

namespace Go.Proofs.YtpgmapjjjpcmfaaGreatDoor
open Go.RowKit
open Lx
set_option linter.unusedVariables false
set_option linter.unusedSimpArgs false

theorem run_code : ∀ (f : Nat) (l : List UInt8) (i : Nat) (acc : List M0) (c p : Nat), Lx.run f l i acc = .bad c p → 10 ≤ c ∧ c ≤ 13 := by
  intro f
  induction f with
  | zero => intro l i acc c p h; simp [Lx.run] at h
  | succ f ih =>
    intro l i acc c p h
    by_cases hl : l = []
    · subst hl; simp [Lx.run] at h
    · obtain ⟨c0, r0, rfl⟩ := List.exists_cons_of_ne_nil hl
      have hfit := step_fits c0 r0
      cases hs : Lx.step (c0 :: r0) with
      | skip m => rw [Lx.run_skip (by omega) hl hs] at h; exact ih _ _ _ _ _ h
      | mark k t m => rw [Lx.run_mark (by omega) hl hs] at h; exact ih _ _ _ _ _ h
      | bad c' m =>
        rw [Lx.run_bad (by omega) hl hs] at h
        rw [hs] at hfit
        injection h with h1 h2
        subst h1
        exact hfit.2
theorem lex_code {l : List UInt8} {c p : Nat} (h : lex l = .bad c p) : 10 ≤ c ∧ c ≤ 13 := by
  unfold lex at h
  split at h
  · injection h with h1 h2; omega
  · exact run_code _ _ _ _ _ _ h
theorem run_count : ∀ (f : Nat) (l : List UInt8) (i : Nat) (acc : List M0) (ms : List M0), l.length < f → Lx.run f l i acc = .ok ms → ms.length ≤ acc.length + l.length + 1 := by
  intro f
  induction f with
  | zero => intro l i acc ms hf h; omega
  | succ f ih =>
    intro l i acc ms hf h
    by_cases hl : l = []
    · subst hl
      rw [Lx.run_end (by omega)] at h
      injection h with h
      rw [← h]; simp
    · obtain ⟨c0, r0, rfl⟩ := List.exists_cons_of_ne_nil hl
      have hfit := step_fits c0 r0
      cases hs : Lx.step (c0 :: r0) with
      | skip m =>
        rw [hs] at hfit
        obtain ⟨m1, m2⟩ := hfit
        rw [Lx.run_skip (by omega) hl hs] at h
        have hd : ((c0 :: r0).drop m).length = (c0 :: r0).length - m := List.length_drop ..
        have := ih _ _ _ _ (by rw [hd]; omega) h
        rw [hd] at this; omega
      | mark k t m =>
        rw [hs] at hfit
        obtain ⟨m1, m2, _⟩ := hfit
        rw [Lx.run_mark (by omega) hl hs] at h
        have hd : ((c0 :: r0).drop m).length = (c0 :: r0).length - m := List.length_drop ..
        have := ih _ _ _ _ (by rw [hd]; omega) h
        rw [hd] at this; simp at this ⊢; omega
      | bad c' m =>
        rw [Lx.run_bad (by omega) hl hs] at h
        cases h
theorem lex_count {l : List UInt8} {ms : List M0} (h : lex l = .ok ms) : ms.length ≤ l.length + 1 := by
  unfold lex at h
  split at h
  · cases h
  · have := run_count _ _ _ _ _ (by omega) h; simpa using this
theorem bl_blank {m : Nat} (hm : m < 4) : ∃ x, bl ((⟨#[32, 9, 13, 10]⟩ : ByteArray).extract m (m + 1)) = [x] ∧ isSpace x = true := by
  match m, hm with
  | 0, _ => exact ⟨32, rfl, rfl⟩
  | 1, _ => exact ⟨9, rfl, rfl⟩
  | 2, _ => exact ⟨13, rfl, rfl⟩
  | 3, _ => exact ⟨10, rfl, rfl⟩


end Go.Proofs.YtpgmapjjjpcmfaaGreatDoor

namespace Go.Proofs.YtpgmapjjjpcmfaaGreatDoor
open Go.RowKit Go.ChangeShapes Go.WideShapes Go.ChangeAt
open Lx
set_option linter.unusedVariables false
set_option linter.unusedSimpArgs false

theorem u8_wf {n : Int} (h : (Lit.int .u8 n).wf = true) : 0 ≤ n ∧ n ≤ 255 := by
  simpa [Lit.wf, IntKind.min, IntKind.max, IntKind.signed, IntKind.bits] using h
/-- The slice at A has n bytes, the numbers X i; they lie below block B. -/
structure Bytes8 (w : World) (B : Nat) (A : Option Addr) (n : Nat) (X : Nat → Nat) : Prop where
  each : ∀ i, i < n → ∃ b o, A = some ⟨b, o, none⟩ ∧ b < B ∧ w.cell? ⟨b, o + i, none⟩ = some (.int .u8 (X i : Int))
  rx : ∀ i, i < n → X i ≤ 255
  len : n ≤ 9223372036854775807
theorem Bytes8.below {w w' : World} {B : Nat} {A : Option Addr} {n : Nat} {X : Nat → Nat} (h : Bytes8 w B A n X) (hb : Below B w w') : Bytes8 w' B A n X :=
  ⟨fun i hi => by
    obtain ⟨b, o, h1, h2, h3⟩ := h.each i hi
    exact ⟨b, o, h1, h2, (hb.cell (p := ⟨b, _, none⟩) h2).trans h3⟩, h.rx, h.len⟩

section
variable {H : Type} {enc : TypeId × Value → H} {P : Program} {W : World} {base : Nat} {v : Value} {d : DataW H} {p : List MemPlace}
theorem open_u8s {t e : TypeId} (ht : P.underlying t = some (.slice e)) (he : P.underlying e = some (.int .u8)) (ce : P.cellsOf e = 1)
    (hv : Value.okWide P W .any base t v) (h : DataW.Trod enc P W 0 (fun _ => true) true t v d p) :
    ∃ A n c X, v = .slice A n c ∧ Bytes8 W W.heap.size A n X := by
  obtain ⟨A, n, c, rfl⟩ := okWide_slice ht hv
  obtain ⟨fuel, hf⟩ := h
  rcases Go.Deep.open_slice1 ht ce hf with ⟨hcs, _⟩ | ⟨a, len, cap, m, k, V, D, Pl, hcs, hb, hl, hm, hmm, hx, hi⟩
  · simp [Value.cells] at hcs
    obtain ⟨rfl, rfl, rfl⟩ := hcs
    exact ⟨_, _, _, fun _ => 0, rfl, fun i hi => by omega, fun i hi => by omega, by omega⟩
  · simp [Value.cells] at hcs
    obtain ⟨rfl, rfl, rfl⟩ := hcs
    have hlm : n ≤ m := by rw [hmm]; split <;> omega
    have hread : ∀ i, i < n → ∃ x : Nat, V i = .int .u8 (x : Int) ∧ x ≤ 255 := by
      intro i hin
      obtain ⟨_, t0⟩ := hi i (by omega)
      obtain ⟨x0, e0, _, w0⟩ := DataW.trod_int he t0
      simp at e0
      have := u8_wf w0
      exact ⟨x0.toNat, by rw [e0]; congr 1; omega, by omega⟩
    obtain ⟨Z, hZ⟩ := Go.Deep.choose_lt hread
    refine ⟨_, _, _, Z, rfl, fun i hin => ?_, fun i hin => (hZ i hin).2, maxLen_le (by omega)⟩
    obtain ⟨g0, _⟩ := hi i (by omega)
    rw [(hZ i hin).1] at g0
    obtain ⟨g00, _⟩ := hi 0 (by omega)
    obtain ⟨ab, ao, rfl, hlt⟩ := at_zero (a := a) (by simpa [Addr.add] using g00)
    rw [Go.WideShapes.add_plain] at g0
    exact ⟨ab, ao, rfl, hlt, g0⟩
end

namespace Lx
def isAlnum (c : UInt8) : Bool := isDigit c || (65 ≤ c && c ≤ 90) || isSmall c
theorem alnum_plain {c : UInt8} (h : isAlnum c = true) : c ≠ 93 ∧ c ≠ 10 ∧ c ≠ 45 ∧ c ≠ 92 := by
  refine ⟨?_, ?_, ?_, ?_⟩ <;> (rintro rfl; revert h; decide)
theorem put_none (b : UInt8) : none_.put b = some ⟨fun j => false || j == b.toNat, some b.toNat, 0⟩ := rfl
theorem cls_put {c : UInt8} (h : isAlnum c = true) (r : List UInt8) (i : Nat) (p q : Parts) (hp : p.put c = some q) : cls (c :: r) i p = cls r (i + 1) q := by
  obtain ⟨h1, h2, h3, h4⟩ := alnum_plain h
  conv => lhs; unfold cls
  rw [if_neg h1, if_neg h2, if_neg (fun h => h3 h.1), if_neg h4, hp]
theorem cls_put_no {c : UInt8} (h : isAlnum c = true) (r : List UInt8) (i : Nat) (p : Parts) (hp : p.put c = none) : cls (c :: r) i p = .bad 10 p.dash := by
  obtain ⟨h1, h2, h3, h4⟩ := alnum_plain h
  unfold cls
  rw [if_neg h1, if_neg h2, if_neg (fun h => h3 h.1), if_neg h4, hp]
theorem cls_singles : ∀ (cs : List UInt8) (i : Nat) (p : Parts) (F : Nat → Bool), (∀ c ∈ cs, isAlnum c = true) → p.dash = 0 → (∀ j, F j = (p.has j || cs.any (fun c => j == c.toNat))) → rising F ≠ [] → cls (cs ++ [93]) i p = .mark 4 (rising F) (i + cs.length + 1) := by
  intro cs
  induction cs with
  | nil =>
    intro i p F _ hd hF hne
    have e : p.has = F := by funext j; rw [hF j]; simp
    subst e
    show cls [93] i p = _
    unfold cls
    rw [if_pos rfl, if_neg (by omega), if_neg hne]; rfl
  | cons c cs ih =>
    intro i p F ha hd hF hne
    show cls (c :: (cs ++ [93])) i p = _
    have hp : p.put c = some ⟨fun j => p.has j || j == c.toNat, some c.toNat, 0⟩ := by unfold Parts.put; rw [if_pos hd]
    rw [cls_put (ha c (by simp)) _ _ _ _ hp, ih (i + 1) _ F (fun c hc => ha c (by simp [hc])) rfl (fun j => by rw [hF j]; simp [Bool.or_assoc]) hne]
    simp; omega
/-- A class of a range and single bytes. -/
def classy (a b : UInt8) (cs : List UInt8) : List UInt8 := 91 :: a :: 45 :: b :: cs ++ [93]
theorem step_classy_no {a b : UInt8} {cs : List UInt8} (ha : isAlnum a = true) (hb : isAlnum b = true) (h : b.toNat < a.toNat) : step (classy a b cs) = .bad 10 2 := by
  have e : step (classy a b cs) = cls (a :: 45 :: b :: cs ++ [93]) 1 none_ := rfl
  rw [e]
  show cls (a :: (45 :: b :: cs ++ [93])) 1 none_ = _
  rw [cls_put ha _ _ _ _ (put_none a)]
  show cls (45 :: (b :: (cs ++ [93]))) 2 _ = _
  unfold cls
  rw [if_neg (by decide), if_neg (by decide), if_pos ⟨rfl, rfl⟩]
  show cls (b :: (cs ++ [93])) 3 _ = _
  rw [cls_put_no hb]
  unfold Parts.put
  rw [if_neg (by simp), if_pos (by simpa using h)]
theorem step_classy {a b : UInt8} {cs : List UInt8} {F : Nat → Bool} (ha : isAlnum a = true) (hb : isAlnum b = true) (hcs : ∀ c ∈ cs, isAlnum c = true) (h : a.toNat ≤ b.toNat)
    (hF : ∀ j, F j = ((decide (a.toNat ≤ j) && decide (j ≤ b.toNat)) || cs.any (fun c => j == c.toNat))) : step (classy a b cs) = .mark 4 (rising F) (cs.length + 5) := by
  have hne : rising F ≠ [] := by
    unfold rising
    have : a.toNat ∈ (List.range 256).filter F := by
      rw [List.mem_filter]
      refine ⟨List.mem_range.2 a.toNat_lt, ?_⟩
      rw [hF]; simp [h]
    intro e
    rw [List.map_eq_nil_iff] at e
    rw [e] at this; cases this
  have e : step (classy a b cs) = cls (a :: 45 :: b :: cs ++ [93]) 1 none_ := rfl
  rw [e]
  show cls (a :: (45 :: b :: cs ++ [93])) 1 none_ = _
  rw [cls_put ha _ _ _ _ (put_none a)]
  show cls (45 :: (b :: (cs ++ [93]))) 2 _ = _
  unfold cls
  rw [if_neg (by decide), if_neg (by decide), if_pos ⟨rfl, rfl⟩]
  show cls (b :: (cs ++ [93])) 3 _ = _
  have hp : ∀ (f : Nat → Bool), Parts.put ⟨f, some a.toNat, 2⟩ b = some ⟨fun j => f j || (decide (a.toNat ≤ j) && decide (j ≤ b.toNat)), none, 0⟩ := by
    intro f; unfold Parts.put
    rw [if_neg (by simp), if_neg (by simp; omega)]; rfl
  rw [cls_put hb _ _ _ _ (hp _), cls_singles cs 4 _ F hcs rfl _ hne]
  · simp; omega
  · intro j
    rw [hF j]
    have : ((j == a.toNat) || (decide (a.toNat ≤ j) && decide (j ≤ b.toNat))) = (decide (a.toNat ≤ j) && decide (j ≤ b.toNat)) := by
      by_cases hj : j = a.toNat
      · subst hj; simp [h]
      · simp [hj]
    simp only [Bool.false_or, this]
theorem classy_len (a b : UInt8) (cs : List UInt8) : (classy a b cs).length = cs.length + 5 := by simp [classy]
theorem lex_classy_no {a b : UInt8} {cs : List UInt8} (ha : isAlnum a = true) (hb : isAlnum b = true) (h : b.toNat < a.toNat) (hl : cs.length ≤ 100) : lex (classy a b cs) = .bad 10 2 := by
  unfold lex
  rw [if_neg (by rw [classy_len]; omega), Lx.run_bad (by omega) (by simp [classy]) (step_classy_no ha hb h)]
theorem lex_classy {a b : UInt8} {cs : List UInt8} {F : Nat → Bool} (ha : isAlnum a = true) (hb : isAlnum b = true) (hcs : ∀ c ∈ cs, isAlnum c = true) (h : a.toNat ≤ b.toNat)
    (hF : ∀ j, F j = ((decide (a.toNat ≤ j) && decide (j ≤ b.toNat)) || cs.any (fun c => j == c.toNat))) (hl : cs.length ≤ 100) : lex (classy a b cs) = .ok [(4, rising F, 0), (0, [], cs.length + 5)] := by
  have hlen := classy_len a b cs
  unfold lex
  rw [if_neg (by omega), Lx.run_mark (by omega) (by simp [classy]) (step_classy ha hb hcs h hF)]
  have e : (classy a b cs).drop (cs.length + 5) = [] := List.drop_of_length_le (by omega)
  rw [e, Lx.run_end (by omega)]
  simp
theorem pos_classy {a b : UInt8} {cs : List UInt8} (ha : isAlnum a = true) : pos (classy a b cs) 2 = (1, 3) := by
  obtain ⟨_, h, _⟩ := alnum_plain ha
  show adv (1, 1) [91, a] = _
  unfold adv
  simp [h]
def ALL : ByteArray := ⟨#[48, 49, 50, 51, 52, 53, 54, 55, 56, 57, 65, 66, 67, 68, 69, 70, 71, 72, 73, 74, 75, 76, 77, 78, 79, 80, 81, 82, 83, 84, 85, 86, 87, 88, 89, 90, 97, 98, 99, 100, 101, 102, 103, 104, 105, 106, 107, 108, 109, 110, 111, 112, 113, 114, 115, 116, 117, 118, 119, 120, 121, 122]⟩
theorem all_size : ALL.size = 62 := by rfl
theorem all_alnum : ∀ k (h : k < ALL.size), isAlnum ALL[k] = true := by
  have : ∀ k : Fin 62, isAlnum (ALL[k.val]'(by rw [all_size]; exact k.isLt)) = true := by decide
  intro k h
  exact this ⟨k, by rw [all_size] at h; exact h⟩
end Lx

end Go.Proofs.YtpgmapjjjpcmfaaGreatDoor
