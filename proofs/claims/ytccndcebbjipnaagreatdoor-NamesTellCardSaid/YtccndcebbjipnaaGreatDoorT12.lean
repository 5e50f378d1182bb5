import Derived.Test.YtccndcebbjipnaaGreatDoorT07
namespace Go.Proofs.YtccndcebbjipnaaGreatDoor
open Go.RowKit
open Lx
set_option linter.unusedVariables false
set_option linter.unusedSimpArgs false
namespace Lx
def Ahead (a b : Nat × Nat) : Prop := a.1 < b.1 ∨ a.1 = b.1 ∧ a.2 < b.2
theorem Ahead.trans {a b c : Nat × Nat} (h : Ahead a b) (h' : Ahead b c) : Ahead a c := by
  unfold Ahead at *; omega
structure Orderly (i : Nat) (acc : List M0) : Prop where
  rise : acc.Pairwise (fun a b => a.2.2 < b.2.2)
  each : ∀ m ∈ acc, 1 ≤ m.1 ∧ m.1 ≤ 9 ∧ m.2.2 < i
theorem Orderly.mono {i j : Nat} {acc : List M0} (h : Orderly i acc) (hij : i ≤ j) : Orderly j acc :=
  ⟨h.rise, fun m hm => by have := h.each m hm; omega⟩
theorem Orderly.snoc {i n k : Nat} {t : List UInt8} {acc : List M0} (h : Orderly i acc) (hn : 0 < n) (h1 : 1 ≤ k) (h9 : k ≤ 9) : Orderly (i + n) (acc ++ [(k, t, i)]) :=
  ⟨by
    rw [List.pairwise_append]
    refine ⟨h.rise, by simp, fun a ha b hb => ?_⟩
    simp at hb; subst hb
    exact (h.each a ha).2.2,
   fun m hm => by
    rcases List.mem_append.1 hm with hm | hm
    · have := h.each m hm; omega
    · simp at hm; subst hm; simp; omega⟩
theorem run_good : ∀ (f : Nat) (l : List UInt8) (i : Nat) (acc : List M0) (ms : List M0), l.length < f → Orderly i acc → Lx.run f l i acc = .ok ms → ∃ ms0, ms = ms0 ++ [(0, [], i + l.length)] ∧ Orderly (i + l.length) ms0 := by
  intro f
  induction f with
  | zero => intro l i acc ms hf; omega
  | succ f ih =>
    intro l i acc ms hf hg h
    by_cases hl : l = []
    · subst hl
      rw [Lx.run_end (by omega)] at h
      injection h with h
      exact ⟨acc, h.symm, hg⟩
    · obtain ⟨c0, r0, rfl⟩ := List.exists_cons_of_ne_nil hl
      have hfit := step_fits c0 r0
      cases hs : Lx.step (c0 :: r0) with
      | skip m =>
        rw [hs] at hfit
        obtain ⟨m1, m2⟩ := hfit
        rw [Lx.run_skip (by omega) hl hs] at h
        have hd : ((c0 :: r0).drop m).length = (c0 :: r0).length - m := List.length_drop ..
        have hle : (c0 :: r0).length = r0.length + 1 := rfl
        have := ih _ _ _ _ (by rw [hd]; omega) (hg.mono (by omega)) h
        rwa [hd, show i + m + ((c0 :: r0).length - m) = i + (c0 :: r0).length by omega] at this
      | mark k t m =>
        rw [hs] at hfit
        obtain ⟨m1, m2, m3, m4, _⟩ := hfit
        rw [Lx.run_mark (by omega) hl hs] at h
        have hd : ((c0 :: r0).drop m).length = (c0 :: r0).length - m := List.length_drop ..
        have hle : (c0 :: r0).length = r0.length + 1 := rfl
        have := ih _ _ _ _ (by rw [hd]; omega) (hg.snoc (t := t) (by omega) m3 m4) h
        rwa [hd, show i + m + ((c0 :: r0).length - m) = i + (c0 :: r0).length by omega] at this
      | bad c' m =>
        rw [Lx.run_bad (by omega) hl hs] at h
        cases h
theorem run_at : ∀ (f : Nat) (l : List UInt8) (i : Nat) (acc : List M0) (c p : Nat), Lx.run f l i acc = .bad c p → 10 ≤ c ∧ c ≤ 13 ∧ p ≤ i + l.length := by
  intro f
  induction f with
  | zero => intro l i acc c p h; simp [Lx.run] at h
  | succ f ih =>
    intro l i acc c p h
    by_cases hl : l = []
    · subst hl; simp [Lx.run] at h
    · obtain ⟨c0, r0, rfl⟩ := List.exists_cons_of_ne_nil hl
      have hfit := step_fits c0 r0
      have hle : (c0 :: r0).length = r0.length + 1 := rfl
      cases hs : Lx.step (c0 :: r0) with
      | skip m =>
        rw [hs] at hfit
        obtain ⟨m1, m2⟩ := hfit
        rw [Lx.run_skip (by omega) hl hs] at h
        have := ih _ _ _ _ _ h
        rw [List.length_drop] at this; omega
      | mark k t m =>
        rw [hs] at hfit
        obtain ⟨m1, m2, _⟩ := hfit
        rw [Lx.run_mark (by omega) hl hs] at h
        have := ih _ _ _ _ _ h
        rw [List.length_drop] at this; omega
      | bad c' m =>
        rw [Lx.run_bad (by omega) hl hs] at h
        rw [hs] at hfit
        obtain ⟨m1, m2, m3⟩ := hfit
        injection h with h1 h2
        subst h1 h2
        omega
theorem lex_at {l : List UInt8} {c p : Nat} (h : lex l = .bad c p) : 10 ≤ c ∧ c ≤ 13 ∧ p ≤ l.length := by
  unfold lex at h
  split at h
  · injection h with h1 h2; omega
  · have := run_at _ _ _ _ _ _ h; omega
theorem lex_good {l : List UInt8} {ms : List M0} (h : lex l = .ok ms) : ∃ ms0, ms = ms0 ++ [(0, [], l.length)] ∧ Orderly l.length ms0 := by
  unfold lex at h
  split at h
  · cases h
  · have := run_good _ _ _ _ _ (by omega) ⟨List.Pairwise.nil, by simp⟩ h
    simpa using this
end Lx
end Go.Proofs.YtccndcebbjipnaaGreatDoor
