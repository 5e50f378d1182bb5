/-
  A step does not hang on what stands behind an LF; blanks ahead of a text, and behind it, change nothing but places.
-/
import Derived.Test.YtgmihbfikggkjaaDoorLwM
namespace Go.Proofs.YtgmihbfikggkjaaDoor
namespace Lx

theorem takeWhile_stop (p : UInt8 → Bool) (hp : p 10 = false) (l rest : List UInt8) : (l ++ 10 :: rest).takeWhile p = l.takeWhile p := by
  induction l with
  | nil => simp [hp]
  | cons c r ih => rw [List.cons_append, List.takeWhile_cons, List.takeWhile_cons, ih]

theorem text_tail (l told : List UInt8) (i : Nat) (rest : List UInt8) : text l told i = .bad 11 0 ∨ text (l ++ 10 :: rest) told i = text l told i := by
  fun_induction text l told i
  case case1 => exact .inl rfl
  all_goals first
    | (right; rw [List.cons_append, text.eq_def]; simp_all; done)
    | (rename_i ih; rcases ih with h | h
       · exact .inl h
       · right; rw [List.cons_append, text.eq_def]; simp_all; done)
    | (rename_i ih; rcases ih with h | h
       · exact .inl h
       · right; rw [List.cons_append, List.cons_append, text.eq_def]; simp_all; done)
    | (right; rw [List.cons_append, text.eq_def]; simp_all [esc]; done)
    | skip

theorem cls_tail (l : List UInt8) (i : Nat) (p : Parts) (rest : List UInt8) : cls l i p = .bad 11 0 ∨ cls (l ++ 10 :: rest) i p = cls l i p := by
  fun_induction cls l i p
  case case1 => exact .inl rfl
  all_goals first
    | (right; rw [List.cons_append, cls.eq_def]; simp_all; done)
    | (rename_i ih; rcases ih with h | h
       · exact .inl h
       · right; rw [List.cons_append, cls.eq_def]; simp_all; done)
    | (rename_i ih; rcases ih with h | h
       · exact .inl h
       · right; rw [List.cons_append, List.cons_append, cls.eq_def]; simp_all; done)
    | (right; rw [List.cons_append, cls.eq_def]; simp_all [esc]; done)
    | skip

theorem act_tail (l acc : List UInt8) (o : Nat) (rest : List UInt8) : act l acc o = .bad 11 0 ∨ act (l ++ 10 :: rest) acc o = act l acc o := by
  fun_induction act l acc o
  case case1 => exact .inl rfl
  all_goals first
    | (right; rw [List.cons_append, act.eq_def]; simp_all; done)
    | (rename_i ih; rcases ih with h | h
       · exact .inl h
       · right; rw [List.cons_append, act.eq_def]; simp_all; done)
    | skip

theorem word_tail (l rest : List UInt8) : word (l ++ 10 :: rest) = word l := by
  have h : wordOf (l ++ 10 :: rest) = wordOf l := by
    unfold wordOf
    have h1 : (l ++ 10 :: rest).head? = some 37 ↔ l.head? = some 37 := by
      cases l with
      | nil => simp
      | cons c r => simp
    by_cases h : l.head? = some 37
    · rw [if_pos h, if_pos (h1.2 h)]
    · rw [if_neg h, if_neg (fun h' => h (h1.1 h')), takeWhile_stop _ (by decide)]
  unfold word
  rw [h]
theorem name_tail (c : UInt8) (l rest : List UInt8) : nameOf (c :: (l ++ 10 :: rest)) = nameOf (c :: l) := by
  have e1 : nameOf (c :: (l ++ 10 :: rest)) = if isLetter c then (c :: (l ++ 10 :: rest)).takeWhile isName else [] := rfl
  have e2 : nameOf (c :: l) = if isLetter c then (c :: l).takeWhile isName else [] := rfl
  rw [e1, e2]
  have := takeWhile_stop isName (by decide) (c :: l) rest
  rw [List.cons_append] at this
  rw [this]

theorem step_tail (l rest : List UInt8) (hl : l ≠ []) : step l = .bad 11 0 ∨ step (l ++ 10 :: rest) = step l := by
  cases l with
  | nil => exact absurd rfl hl
  | cons c r =>
    rw [List.cons_append]
    unfold step
    simp only []
    by_cases h1 : c = 32 ∨ c = 9 ∨ c = 10 ∨ c = 13
    · simp only [if_pos h1]; exact .inr trivial
    · simp only [if_neg h1]
      by_cases h2 : c = 35
      · simp only [if_pos h2, takeWhile_stop (· != 10) (by decide)]; exact .inr trivial
      · simp only [if_neg h2]
        by_cases h3 : isLetter c = true
        · simp only [if_pos h3, name_tail]; exact .inr trivial
        · simp only [if_neg h3]
          by_cases h4 : c = 37
          · simp only [if_pos h4, word_tail]; exact .inr trivial
          · simp only [if_neg h4]
            by_cases h5 : c = 34
            · simp only [if_pos h5]; exact text_tail _ _ _ _
            · simp only [if_neg h5]
              by_cases h6 : c = 91
              · simp only [if_pos h6]; exact cls_tail _ _ _ _
              · simp only [if_neg h6]
                by_cases h7 : c = 123
                · simp only [if_pos h7]; exact act_tail _ _ _ _
                · simp only [if_neg h7]; exact .inr trivial
abbrev M0 := Nat × List UInt8 × Nat
/-- Kind and text of a mark. -/
def kt (m : M0) : Nat × List UInt8 := (m.1, m.2.1)

/-- What comes of a text l, and of l with an LF and whatever behind it. -/
theorem run_tail (rest : List UInt8) : ∀ (n : Nat) (l : List UInt8) (f i : Nat) (acc : List M0) (f' j : Nat) (acc' : List M0), l.length ≤ n → l.length < f → (l ++ 10 :: rest).length < f' →
    (∃ ms ms' : List M0, run f l i acc = .ok (acc ++ ms ++ [(0, [], i + l.length)]) ∧ (∃ f2, (10 :: rest).length < f2 ∧ run f' (l ++ 10 :: rest) j acc' = run f2 (10 :: rest) (j + l.length) (acc' ++ ms')) ∧ ms.map kt = ms'.map kt) ∨
    (∃ c p, run f l i acc = .bad c p ∧ (c = 11 ∨ ∃ p', run f' (l ++ 10 :: rest) j acc' = .bad c p')) := by
  intro n
  induction n with
  | zero =>
    intro l f i acc f' j acc' hn hf hf'
    obtain rfl : l = [] := List.eq_nil_of_length_eq_zero (by omega)
    exact .inl ⟨[], [], by rw [run_end (by omega)]; simp, ⟨f', by simpa using hf', by simp⟩, rfl⟩
  | succ n ih =>
    intro l f i acc f' j acc' hn hf hf'
    by_cases hl : l = []
    · subst hl
      exact .inl ⟨[], [], by rw [run_end (by omega)]; simp, ⟨f', by simpa using hf', by simp⟩, rfl⟩
    · have hl' : l ++ 10 :: rest ≠ [] := by simp
      obtain ⟨c0, r0, rfl⟩ := List.exists_cons_of_ne_nil hl
      have hfit := step_fits c0 r0
      rcases step_tail (c0 :: r0) rest hl with h11 | hsame
      · exact .inr ⟨11, _, run_bad (by omega) hl h11, .inl rfl⟩
      · cases hs : step (c0 :: r0) with
        | skip m =>
          rw [hs] at hfit hsame
          obtain ⟨m1, m2⟩ := hfit
          rw [run_skip (by omega) hl hs, run_skip (by omega) hl' hsame]
          have hd : (c0 :: r0 ++ 10 :: rest).drop m = (c0 :: r0).drop m ++ 10 :: rest := List.drop_append_of_le_length (by omega)
          rw [hd]
          have hlen : ((c0 :: r0).drop m).length = (c0 :: r0).length - m := List.length_drop ..
          rcases ih ((c0 :: r0).drop m) (f - 1) (i + m) acc (f' - 1) (j + m) acc' (by rw [hlen]; omega) (by rw [hlen]; omega) (by rw [List.length_append, hlen]; rw [List.length_append] at hf'; omega) with ⟨ms, ms', e1, ⟨f2, e2, e3⟩, e4⟩ | ⟨c, p, e1, e2⟩
          · refine .inl ⟨ms, ms', ?_, ⟨f2, e2, ?_⟩, e4⟩
            · rw [e1, hlen, show i + m + ((c0 :: r0).length - m) = i + (c0 :: r0).length by omega]
            · rw [e3, hlen, show j + m + ((c0 :: r0).length - m) = j + (c0 :: r0).length by omega]
          · exact .inr ⟨c, p, e1, e2⟩
        | mark k t m =>
          rw [hs] at hfit hsame
          obtain ⟨m1, m2, _⟩ := hfit
          rw [run_mark (by omega) hl hs, run_mark (by omega) hl' hsame]
          have hd : (c0 :: r0 ++ 10 :: rest).drop m = (c0 :: r0).drop m ++ 10 :: rest := List.drop_append_of_le_length (by omega)
          rw [hd]
          have hlen : ((c0 :: r0).drop m).length = (c0 :: r0).length - m := List.length_drop ..
          rcases ih ((c0 :: r0).drop m) (f - 1) (i + m) (acc ++ [(k, t, i)]) (f' - 1) (j + m) (acc' ++ [(k, t, j)]) (by rw [hlen]; omega) (by rw [hlen]; omega) (by rw [List.length_append, hlen]; rw [List.length_append] at hf'; omega) with ⟨ms, ms', e1, ⟨f2, e2, e3⟩, e4⟩ | ⟨c, p, e1, e2⟩
          · refine .inl ⟨(k, t, i) :: ms, (k, t, j) :: ms', ?_, ⟨f2, e2, ?_⟩, ?_⟩
            · rw [e1, hlen, show i + m + ((c0 :: r0).length - m) = i + (c0 :: r0).length by omega]
              simp only [List.append_assoc, List.cons_append, List.nil_append]
            · rw [e3, hlen, show j + m + ((c0 :: r0).length - m) = j + (c0 :: r0).length by omega]
              simp only [List.append_assoc, List.cons_append, List.nil_append]
            · simp only [List.map_cons, e4]; rfl
          · exact .inr ⟨c, p, e1, e2⟩
        | bad c m =>
          rw [hs] at hsame
          exact .inr ⟨c, _, run_bad (by omega) hl hs, .inr ⟨_, run_bad (by omega) hl' hsame⟩⟩

/-- A remark, an LF, and blanks. -/
def lead (cm sp : List UInt8) : List UInt8 := 35 :: (cm ++ 10 :: sp)
theorem skips_space (sp X : List UInt8) (h : ∀ c ∈ sp, isSpace c = true) : Skips (sp ++ X) sp.length := by
  have gen : ∀ k, k ≤ sp.length → Skips (sp ++ X) k := by
    intro k
    induction k with
    | zero => intro _; exact Skips.zero _
    | succ k ih =>
      intro hk
      have hd : (sp ++ X).drop k = sp[k] :: (sp ++ X).drop (k + 1) := by
        rw [List.drop_eq_getElem_cons (by simp; omega), List.getElem_append_left (by omega)]
      exact (ih (by omega)).more (by rw [hd]; simp) (by rw [hd]; exact step_space _ (h _ (List.getElem_mem _))) (by omega) (by simp; omega)
  exact gen sp.length (Nat.le_refl _)
theorem skips_cons {n : Nat} {l : List UInt8} (hl : l ≠ []) (h1 : step l = .skip n) (hn : 0 < n) (hle : n ≤ l.length) {k : Nat} (h : Skips (l.drop n) k) : Skips l (n + k) :=
  ⟨by have := h.le; rw [List.length_drop] at this; omega, fun f i acc hf => by
    obtain ⟨f1, e1, e2⟩ := h.run (f - 1) (i + n) acc (by rw [List.length_drop]; omega)
    refine ⟨f1, by rw [List.length_drop] at e1; omega, ?_⟩
    rw [run_skip (by omega) hl h1, e2, List.drop_drop, Nat.add_assoc]⟩
theorem skips_lead (cm sp X : List UInt8) (hc : ∀ c ∈ cm, c ≠ 10) (h : ∀ c ∈ sp, isSpace c = true) : Skips (lead cm sp ++ X) (lead cm sp).length := by
  have hne : lead cm sp ++ X ≠ [] := by simp [lead]
  have htw : (cm ++ 10 :: (sp ++ X)).takeWhile (· != 10) = cm := by
    rw [takeWhile_stop _ (by decide)]
    induction cm with
    | nil => rfl
    | cons c r ih =>
      rw [List.takeWhile_cons_of_pos (by simpa using hc c (by simp)), ih (fun d hd => hc d (by simp [hd])) (by simp [lead])]
  have e : lead cm sp ++ X = 35 :: (cm ++ 10 :: (sp ++ X)) := by simp [lead]
  have hst : step (lead cm sp ++ X) = .skip (1 + cm.length) := by
    rw [e]
    have : step (35 :: (cm ++ 10 :: (sp ++ X))) = .skip (1 + ((cm ++ 10 :: (sp ++ X)).takeWhile (· != 10)).length) := rfl
    rw [this, htw]
  have hlen : (lead cm sp).length = (1 + cm.length) + (1 + sp.length) := by simp [lead]; omega
  rw [hlen]
  refine skips_cons hne hst (by omega) (by rw [List.length_append, hlen]; omega) ?_
  have hd : (lead cm sp ++ X).drop (1 + cm.length) = 10 :: (sp ++ X) := by
    rw [e, Nat.add_comm, List.drop_succ_cons]; simp
  rw [hd]
  exact skips_cons (by simp) (step_space _ (by decide)) (by omega) (by simp) (by simpa using skips_space sp X h)
theorem skips_note (cm : List UInt8) (hc : ∀ c ∈ cm, c ≠ 10) : Skips (35 :: cm) (35 :: cm).length := by
  have htw : cm.takeWhile (· != 10) = cm := by
    induction cm with
    | nil => rfl
    | cons c r ih => rw [List.takeWhile_cons_of_pos (by simpa using hc c (by simp)), ih (fun d hd => hc d (by simp [hd]))]
  have hst : step (35 :: cm) = .skip (1 + cm.length) := by
    have : step (35 :: cm) = .skip (1 + (cm.takeWhile (· != 10)).length) := rfl
    rw [this, htw]
  have hd : (35 :: cm).drop (1 + cm.length) = [] := List.drop_of_length_le (by simp; omega)
  have := skips_cons (k := 0) (by simp) hst (by omega) (by simp; omega) (by rw [hd]; exact Skips.zero _)
  have e : (35 :: cm).length = 1 + cm.length + 0 := by simp; omega
  rw [e]; exact this

/-- The text of LexerSpaces. -/
def spaced (s cm sp : List UInt8) : List UInt8 := lead cm sp ++ (s ++ 10 :: (lead cm sp ++ 35 :: cm))
theorem lex_spaced (s cm sp : List UInt8) (hc : ∀ c ∈ cm, c ≠ 10) (h : ∀ c ∈ sp, isSpace c = true) (hs : s.length ≤ 4000) (hl : (spaced s cm sp).length ≤ 4000) :
    (∃ ms ms' : List M0, lex s = .ok ms ∧ lex (spaced s cm sp) = .ok ms' ∧ ms.map kt = ms'.map kt) ∨ (∃ c p, lex s = .bad c p ∧ (c = 11 ∨ ∃ p', lex (spaced s cm sp) = .bad c p')) := by
  unfold lex
  rw [if_neg (by omega), if_neg (by omega)]
  obtain ⟨f1, e1, e2⟩ := (skips_lead cm sp (s ++ 10 :: (lead cm sp ++ 35 :: cm)) hc h).run ((spaced s cm sp).length + 1) 0 [] (by unfold spaced; omega)
  have hd : (lead cm sp ++ (s ++ 10 :: (lead cm sp ++ 35 :: cm))).drop (lead cm sp).length = s ++ 10 :: (lead cm sp ++ 35 :: cm) := by simp
  rw [hd] at e2
  have e2' : run ((spaced s cm sp).length + 1) (spaced s cm sp) 0 [] = run f1 (s ++ 10 :: (lead cm sp ++ 35 :: cm)) (0 + (lead cm sp).length) [] := e2
  rw [e2']
  have e1' : (s ++ 10 :: (lead cm sp ++ 35 :: cm)).length < f1 := by
    rw [List.length_append] at e1; omega
  rcases run_tail (lead cm sp ++ 35 :: cm) s.length s (s.length + 1) 0 [] f1 (0 + (lead cm sp).length) [] (Nat.le_refl _) (by omega) e1' with ⟨ms, ms', g1, ⟨f2, g2, g3⟩, g4⟩ | ⟨c, p, g1, g2⟩
  · left
    have hk1 : Skips (10 :: (lead cm sp ++ 35 :: cm)) (1 + (lead cm sp).length) :=
      skips_cons (by simp) (step_space _ (by decide)) (by omega) (by simp) (by simpa using skips_lead cm sp (35 :: cm) hc h)
    obtain ⟨f3, h1, h2⟩ := hk1.run f2 (0 + (lead cm sp).length + s.length) ([] ++ ms') g2
    have hd1 : (10 :: (lead cm sp ++ 35 :: cm)).drop (1 + (lead cm sp).length) = 35 :: cm := by
      rw [Nat.add_comm, List.drop_succ_cons]; simp
    rw [hd1] at h2
    have h1' : (35 :: cm).length < f3 := by
      simp only [List.length_cons, List.length_append] at h1 ⊢; omega
    obtain ⟨f4, h3, h4⟩ := (skips_note cm hc).run f3 (0 + (lead cm sp).length + s.length + (1 + (lead cm sp).length)) ([] ++ ms') h1'
    rw [List.drop_length] at h4
    refine ⟨_, [] ++ ms' ++ [(0, [], 0 + (lead cm sp).length + s.length + (1 + (lead cm sp).length) + (35 :: cm).length)], g1, ?_, ?_⟩
    · rw [g3, h2, h4, run_end (by omega)]
    · simp [g4, kt]
  · right
    exact ⟨c, p, g1, g2⟩
end Lx
end Go.Proofs.YtgmihbfikggkjaaDoor
