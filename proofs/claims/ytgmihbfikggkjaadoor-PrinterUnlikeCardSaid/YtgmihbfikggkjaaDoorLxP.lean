/-
  What holds of the lexer in plain words: sizes of steps; a step does not hang on what stands behind an LF.
-/
import Derived.Test.YtgmihbfikggkjaaDoorLxM
namespace Go.Proofs.YtgmihbfikggkjaaDoor
namespace Lx

/-- A step of a text of so many bytes that begins with i bytes more. -/
def Step.Fits (i m : Nat) : Step → Prop
  | .skip n => i < n ∧ n ≤ i + m
  | .mark k t n => i < n ∧ n ≤ i + m ∧ 1 ≤ k ∧ k ≤ 9 ∧ t.length ≤ 256
  | .bad c n => n ≤ i + m ∧ 10 ≤ c ∧ c ≤ 13
theorem Step.Fits.mono {i m i' m' : Nat} {s : Step} (h : s.Fits i m) (h1 : i' ≤ i) (h2 : i + m ≤ i' + m') : s.Fits i' m' := by
  cases s <;> simp only [Step.Fits] at * <;> omega

theorem rising_length (has : Nat → Bool) : (rising has).length ≤ 256 := by
  unfold rising
  rw [List.length_map]
  have := List.length_filter_le has (List.range 256)
  simpa using this

theorem text_fits (l told : List UInt8) (i : Nat) : (text l told i).Fits i l.length := by
  fun_induction text l told i
  all_goals first
    | (refine Step.Fits.mono (by assumption) (by omega) (by simp; omega))
    | (simp_all [Step.Fits] <;> omega)

theorem put_dash {p q : Parts} {b : UInt8} (h : p.put b = some q) : q.dash = 0 := by
  unfold Parts.put at h
  split at h
  · injection h with h; rw [← h]
  · split at h
    · cases h
    · injection h with h; rw [← h]

theorem cls_fits (l : List UInt8) (i : Nat) (p : Parts) (hp : p.dash < i) : (cls l i p).Fits i l.length := by
  fun_induction cls l i p
  all_goals first
    | (rename_i ih; exact (ih (by simp)).mono (by omega) (by simp; omega))
    | (rename_i ih; exact (ih (by have := put_dash ‹Parts.put _ _ = some _›; omega)).mono (by omega) (by simp; omega))
    | (have := rising_length; simp_all [Step.Fits] <;> omega)

theorem act_fits (l acc : List UInt8) (o : Nat) : (act l acc o).Fits (acc.length + 1) l.length := by
  fun_induction act l acc o
  all_goals first
    | (rename_i ih; exact ih.mono (by simp) (by simp; omega))
    | (simp_all [Step.Fits] <;> omega)

theorem takeWhile_le {α : Type} (f : α → Bool) (l : List α) : (l.takeWhile f).length ≤ l.length := (List.takeWhile_sublist f).length_le
/-- So many bytes at the beginning are nothing. -/
structure Skips (l : List UInt8) (k : Nat) : Prop where
  le : k ≤ l.length
  run : ∀ f i acc, l.length < f → ∃ f', l.length - k < f' ∧ Lx.run f l i acc = Lx.run f' (l.drop k) (i + k) acc
theorem Skips.zero (l : List UInt8) : Skips l 0 := ⟨by omega, fun f i acc hf => ⟨f, by omega, by simp⟩⟩
theorem Skips.more {l : List UInt8} {k n : Nat} (h : Skips l k) (hl : l.drop k ≠ []) (hs : step (l.drop k) = .skip n) (hn : 0 < n) (hle : k + n ≤ l.length) : Skips l (k + n) :=
  ⟨hle, fun f i acc hf => by
    obtain ⟨f1, h1, h2⟩ := h.run f i acc hf
    refine ⟨f1 - 1, by omega, ?_⟩
    rw [h2, run_skip (by omega) hl hs, List.drop_drop, Nat.add_assoc]⟩
/-- What stands behind is the end, or no nothing. -/
def Firm (l : List UInt8) : Prop := l = [] ∨ ∀ n, step l ≠ .skip n
def isSpace (c : UInt8) : Bool := c == 32 || c == 9 || c == 10 || c == 13
theorem text_noskip (l told : List UInt8) (i n : Nat) : text l told i ≠ .skip n := by
  fun_induction text l told i <;> first | (intro h; cases h) | assumption
theorem cls_noskip (l : List UInt8) (i : Nat) (p : Parts) (n : Nat) : cls l i p ≠ .skip n := by
  fun_induction cls l i p <;> first | (intro h; cases h) | assumption
theorem act_noskip (l acc : List UInt8) (o n : Nat) : act l acc o ≠ .skip n := by
  fun_induction act l acc o <;> first | (intro h; cases h) | assumption
theorem word_noskip (l : List UInt8) (n : Nat) : word l ≠ .skip n := by
  unfold word; split <;> (intro h; cases h)
theorem step_firm {c : UInt8} (r : List UInt8) (h : isSpace c = false) (h35 : c ≠ 35) (n : Nat) : step (c :: r) ≠ .skip n := by
  have hs : ¬ (c = 32 ∨ c = 9 ∨ c = 10 ∨ c = 13) := by
    unfold isSpace at h; simpa [or_assoc, and_assoc] using h
  unfold step
  simp only [if_neg hs, if_neg h35]
  repeat' split
  all_goals first | exact word_noskip _ _ | exact text_noskip _ _ _ _ | exact cls_noskip _ _ _ _ | exact act_noskip _ _ _ _ | (intro h; cases h)
theorem step_space {c : UInt8} (r : List UInt8) (h : isSpace c = true) : step (c :: r) = .skip 1 := by
  have hs : (c = 32 ∨ c = 9 ∨ c = 10 ∨ c = 13) := by
    unfold isSpace at h; simpa [or_assoc, and_assoc] using h
  unfold step
  simp only [if_pos hs]
theorem step_note (r : List UInt8) : step (35 :: r) = .skip (((35 :: r).takeWhile (· != 10)).length) := by
  have e : step (35 :: r) = .skip (1 + (r.takeWhile (· != 10)).length) := rfl
  rw [e, List.takeWhile_cons_of_pos (by decide), List.length_cons, Nat.add_comm]

end Lx
end Go.Proofs.YtgmihbfikggkjaaDoor
