/-
  What holds of the lexer in plain words: the sizes of a step, and what each first byte makes of it.
-/
import Derived.Test.YtgmihbfikggkjaaDoorLxP
namespace Go.Proofs.YtgmihbfikggkjaaDoor
namespace Lx

theorem word_len {l : List UInt8} (h : l ∈ words) : 1 ≤ l.length ∧ l.length ≤ 8 := by
  have : ∀ x ∈ words, 1 ≤ x.length ∧ x.length ≤ 8 := by decide
  exact this l h
theorem wordOf_le (l : List UInt8) : (wordOf l).length ≤ max l.length 1 ∧ (l = [] → wordOf l = []) := by
  unfold wordOf
  split
  · rename_i h
    refine ⟨by simp; omega, fun e => by rw [e] at h; cases h⟩
  · exact ⟨by have := takeWhile_le isSmall l; omega, fun e => by rw [e]; rfl⟩
theorem word_fits (l : List UInt8) : (word l).Fits 0 (1 + l.length) := by
  unfold word
  split
  · rename_i h
    have h1 := word_len h
    have h2 := wordOf_le l
    by_cases e : l = []
    · have := h2.2 e; rw [this] at h1; simp at h1
    · have : 0 < l.length := List.length_pos_iff.2 e
      simp only [Step.Fits]; omega
  · simp [Step.Fits]
theorem nameOf_le (l : List UInt8) : (nameOf l).length ≤ l.length := by
  unfold nameOf
  split
  · simp
  · split
    · exact takeWhile_le _ _
    · simp
theorem nameOf_pos {c : UInt8} {r : List UInt8} (h : isLetter c = true) : 0 < (nameOf (c :: r)).length := by
  unfold nameOf
  simp only [h, if_true]
  have : isName c = true := by unfold isName; rw [h]; rfl
  rw [List.takeWhile_cons_of_pos this]; simp
theorem step_fits (c : UInt8) (r : List UInt8) : (step (c :: r)).Fits 0 (c :: r).length := by
  have hl : (c :: r).length = 1 + r.length := by simp; omega
  unfold step
  simp only []
  split
  · simp only [Step.Fits, hl]; omega
  · split
    · have := takeWhile_le (· != 10) r
      simp only [Step.Fits, hl]; omega
    · split
      · rename_i h
        have h1 := nameOf_le (c :: r)
        have h2 := nameOf_pos (r := r) h
        split
        · simp only [Step.Fits, hl]; omega
        · simp only [Step.Fits]; omega
      · split
        · rw [hl]; exact word_fits r
        · split
          · exact (text_fits r [] 1).mono (by omega) (by simp; omega)
          · split
            · exact (cls_fits r 1 none_ (by simp [none_])).mono (by omega) (by simp; omega)
            · split
              · exact (act_fits r [] 1).mono (by omega) (by simp; omega)
              · repeat' split
                all_goals (simp only [Step.Fits, hl, List.length_nil]; omega)

theorem step_letter {c : UInt8} (r : List UInt8) (h : isLetter c = true) : step (c :: r) = if 32 < (nameOf (c :: r)).length then .bad 12 0 else .mark 1 (nameOf (c :: r)) (nameOf (c :: r)).length := by
  have h1 : ¬ (c = 32 ∨ c = 9 ∨ c = 10 ∨ c = 13) := by rintro (rfl | rfl | rfl | rfl) <;> revert h <;> decide
  have h2 : ¬ c = 35 := by rintro rfl; revert h; decide
  unfold step
  simp only [if_neg h1, if_neg h2, h, if_true]
theorem step_word (r : List UInt8) : step (37 :: r) = word r := rfl
theorem step_text (r : List UInt8) : step (34 :: r) = text r [] 1 := rfl
theorem step_cls (r : List UInt8) : step (91 :: r) = cls r 1 none_ := rfl
theorem step_act (r : List UInt8) : step (123 :: r) = act r [] 1 := rfl
theorem step_43 (r : List UInt8) : step (43 :: r) = .mark 5 [] 1 := rfl
theorem step_58 (r : List UInt8) : step (58 :: r) = .mark 6 [] 1 := rfl
theorem step_124 (r : List UInt8) : step (124 :: r) = .mark 7 [] 1 := rfl
theorem step_59 (r : List UInt8) : step (59 :: r) = .mark 8 [] 1 := rfl
theorem step_else {c : UInt8} (r : List UInt8) (hs : isSpace c = false) (h0 : c ≠ 35) (h : isLetter c = false) (h1 : c ≠ 37) (h2 : c ≠ 34) (h3 : c ≠ 91) (h4 : c ≠ 123) (h5 : c ≠ 43) (h6 : c ≠ 58) (h7 : c ≠ 124) (h8 : c ≠ 59) : step (c :: r) = .bad 10 0 := by
  have hs' : ¬ (c = 32 ∨ c = 9 ∨ c = 10 ∨ c = 13) := by unfold isSpace at hs; simpa [or_assoc, and_assoc] using hs
  unfold step
  simp only [if_neg hs', if_neg h0, h, if_neg h1, if_neg h2, if_neg h3, if_neg h4, if_neg h5, if_neg h6, if_neg h7, if_neg h8]
  rfl
theorem firm_head {c : UInt8} {r : List UInt8} (h : Firm (c :: r)) : isSpace c = false ∧ c ≠ 35 := by
  rcases h with h | h
  · cases h
  · constructor
    · cases hs : isSpace c with
      | false => rfl
      | true => exact absurd (step_space r hs) (h 1)
    · rintro rfl
      exact absurd (step_note r) (h _)
end Lx
end Go.Proofs.YtgmihbfikggkjaaDoor
