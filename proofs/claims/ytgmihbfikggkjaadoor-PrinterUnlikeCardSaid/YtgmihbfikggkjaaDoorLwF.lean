/-
  The walk of LexerSpaces.
-/
import Derived.Test.YtgmihbfikggkjaaDoorLwC
import Derived.Test.YtgmihbfikggkjaaDoorLwN
namespace Go.Proofs.YtgmihbfikggkjaaDoor
open Go.RowKit
open Lx
set_option linter.unusedVariables false
set_option linter.unusedSimpArgs false

theorem run_code : ∀ (f : Nat) (l : List UInt8) (i : Nat) (acc : List M0) (c p : Nat), Lx.run f l i acc = .bad c p → 10 ≤ c ∧ c ≤ 13 := by
  intro f
  induction f with
  | zero => intro l i acc c p h; simp [Lx.run] at h
  | succ f ih =>
    intro l i acc c p h
    by_cases hl : l = []
    · subst hl; simp [Lx.run] at h
    · obtain ⟨c0, r0, rfl⟩ := List.exists_cons_of_ne_nil hl
      have hfit := step_fits c0 r0
      cases hs : Lx.step (c0 :: r0) with
      | skip m => rw [Lx.run_skip (by omega) hl hs] at h; exact ih _ _ _ _ _ h
      | mark k t m => rw [Lx.run_mark (by omega) hl hs] at h; exact ih _ _ _ _ _ h
      | bad c' m =>
        rw [Lx.run_bad (by omega) hl hs] at h
        rw [hs] at hfit
        injection h with h1 h2
        subst h1
        exact hfit.2
theorem lex_code {l : List UInt8} {c p : Nat} (h : lex l = .bad c p) : 10 ≤ c ∧ c ≤ 13 := by
  unfold lex at h
  split at h
  · injection h with h1 h2; omega
  · exact run_code _ _ _ _ _ _ h
theorem run_count : ∀ (f : Nat) (l : List UInt8) (i : Nat) (acc : List M0) (ms : List M0), l.length < f → Lx.run f l i acc = .ok ms → ms.length ≤ acc.length + l.length + 1 := by
  intro f
  induction f with
  | zero => intro l i acc ms hf h; omega
  | succ f ih =>
    intro l i acc ms hf h
    by_cases hl : l = []
    · subst hl
      rw [Lx.run_end (by omega)] at h
      injection h with h
      rw [← h]; simp
    · obtain ⟨c0, r0, rfl⟩ := List.exists_cons_of_ne_nil hl
      have hfit := step_fits c0 r0
      cases hs : Lx.step (c0 :: r0) with
      | skip m =>
        rw [hs] at hfit
        obtain ⟨m1, m2⟩ := hfit
        rw [Lx.run_skip (by omega) hl hs] at h
        have hd : ((c0 :: r0).drop m).length = (c0 :: r0).length - m := List.length_drop ..
        have := ih _ _ _ _ (by rw [hd]; omega) h
        rw [hd] at this; omega
      | mark k t m =>
        rw [hs] at hfit
        obtain ⟨m1, m2, _⟩ := hfit
        rw [Lx.run_mark (by omega) hl hs] at h
        have hd : ((c0 :: r0).drop m).length = (c0 :: r0).length - m := List.length_drop ..
        have := ih _ _ _ _ (by rw [hd]; omega) h
        rw [hd] at this; simp at this ⊢; omega
      | bad c' m =>
        rw [Lx.run_bad (by omega) hl hs] at h
        cases h
theorem lex_count {l : List UInt8} {ms : List M0} (h : lex l = .ok ms) : ms.length ≤ l.length + 1 := by
  unfold lex at h
  split at h
  · cases h
  · have := run_count _ _ _ _ _ (by omega) h; simpa using this
theorem bl_blank {m : Nat} (hm : m < 4) : ∃ x, bl ((⟨#[32, 9, 13, 10]⟩ : ByteArray).extract m (m + 1)) = [x] ∧ isSpace x = true := by
  match m, hm with
  | 0, _ => exact ⟨32, rfl, rfl⟩
  | 1, _ => exact ⟨9, rfl, rfl⟩
  | 2, _ => exact ⟨13, rfl, rfl⟩
  | 3, _ => exact ⟨10, rfl, rfl⟩


end Go.Proofs.YtgmihbfikggkjaaDoor
