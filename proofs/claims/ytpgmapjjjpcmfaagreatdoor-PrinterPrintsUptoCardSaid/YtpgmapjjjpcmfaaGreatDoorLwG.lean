/-
  LexerInside's plain words: marks stand in order, each at a place of the text; so does what is wrong. The walk of inside.
-/
import Derived.Test.YtpgmapjjjpcmfaaGreatDoorLwAA
namespace Go.Proofs.YtpgmapjjjpcmfaaGreatDoor
open Go.RowKit
open Lx
set_option linter.unusedVariables false
set_option linter.unusedSimpArgs false

namespace Lx
/-- The first mark stands ahead of the second one. -/
def Ahead (a b : Nat × Nat) : Prop := a.1 < b.1 ∨ a.1 = b.1 ∧ a.2 < b.2
theorem Ahead.trans {a b c : Nat × Nat} (h : Ahead a b) (h' : Ahead b c) : Ahead a c := by
  unfold Ahead at *; omega
theorem pos_step (l : List UInt8) (i : Nat) (h : i < l.length) : Ahead (pos l i) (pos l (i + 1)) := by
  unfold pos
  rw [List.take_succ_eq_append_getElem h, adv_append, adv_one]
  unfold Ahead
  split
  · left; simp
  · right; simp
theorem pos_rises (l : List UInt8) (i : Nat) : ∀ n, i < n → n ≤ l.length → Ahead (pos l i) (pos l n) := by
  intro n
  induction n with
  | zero => intro h; omega
  | succ n ih =>
    intro h1 h2
    by_cases h : i = n
    · subst h; exact pos_step l i (by omega)
    · exact (ih (by omega) (by omega)).trans (pos_step l n (by omega))

/-- The marks of a list: kinds that are no end, places that rise, ahead of i. -/
structure Orderly (i : Nat) (acc : List M0) : Prop where
  rise : acc.Pairwise (fun a b => a.2.2 < b.2.2)
  each : ∀ m ∈ acc, 1 ≤ m.1 ∧ m.1 ≤ 9 ∧ m.2.2 < i
theorem Orderly.mono {i j : Nat} {acc : List M0} (h : Orderly i acc) (hij : i ≤ j) : Orderly j acc :=
  ⟨h.rise, fun m hm => by have := h.each m hm; omega⟩
theorem Orderly.snoc {i n k : Nat} {t : List UInt8} {acc : List M0} (h : Orderly i acc) (hn : 0 < n) (h1 : 1 ≤ k) (h9 : k ≤ 9) : Orderly (i + n) (acc ++ [(k, t, i)]) :=
  ⟨by
    rw [List.pairwise_append]
    refine ⟨h.rise, by simp, fun a ha b hb => ?_⟩
    simp at hb; subst hb
    exact (h.each a ha).2.2,
   fun m hm => by
    rcases List.mem_append.1 hm with hm | hm
    · have := h.each m hm; omega
    · simp at hm; subst hm; simp; omega⟩

theorem run_good : ∀ (f : Nat) (l : List UInt8) (i : Nat) (acc : List M0) (ms : List M0), l.length < f → Orderly i acc → Lx.run f l i acc = .ok ms → ∃ ms0, ms = ms0 ++ [(0, [], i + l.length)] ∧ Orderly (i + l.length) ms0 := by
  intro f
  induction f with
  | zero => intro l i acc ms hf; omega
  | succ f ih =>
    intro l i acc ms hf hg h
    by_cases hl : l = []
    · subst hl
      rw [Lx.run_end (by omega)] at h
      injection h with h
      exact ⟨acc, h.symm, hg⟩
    · obtain ⟨c0, r0, rfl⟩ := List.exists_cons_of_ne_nil hl
      have hfit := step_fits c0 r0
      cases hs : Lx.step (c0 :: r0) with
      | skip m =>
        rw [hs] at hfit
        obtain ⟨m1, m2⟩ := hfit
        rw [Lx.run_skip (by omega) hl hs] at h
        have hd : ((c0 :: r0).drop m).length = (c0 :: r0).length - m := List.length_drop ..
        have hle : (c0 :: r0).length = r0.length + 1 := rfl
        have := ih _ _ _ _ (by rw [hd]; omega) (hg.mono (by omega)) h
        rwa [hd, show i + m + ((c0 :: r0).length - m) = i + (c0 :: r0).length by omega] at this
      | mark k t m =>
        rw [hs] at hfit
        obtain ⟨m1, m2, m3, m4, _⟩ := hfit
        rw [Lx.run_mark (by omega) hl hs] at h
        have hd : ((c0 :: r0).drop m).length = (c0 :: r0).length - m := List.length_drop ..
        have hle : (c0 :: r0).length = r0.length + 1 := rfl
        have := ih _ _ _ _ (by rw [hd]; omega) (hg.snoc (t := t) (by omega) m3 m4) h
        rwa [hd, show i + m + ((c0 :: r0).length - m) = i + (c0 :: r0).length by omega] at this
      | bad c' m =>
        rw [Lx.run_bad (by omega) hl hs] at h
        cases h
theorem run_at : ∀ (f : Nat) (l : List UInt8) (i : Nat) (acc : List M0) (c p : Nat), Lx.run f l i acc = .bad c p → 10 ≤ c ∧ c ≤ 13 ∧ p ≤ i + l.length := by
  intro f
  induction f with
  | zero => intro l i acc c p h; simp [Lx.run] at h
  | succ f ih =>
    intro l i acc c p h
    by_cases hl : l = []
    · subst hl; simp [Lx.run] at h
    · obtain ⟨c0, r0, rfl⟩ := List.exists_cons_of_ne_nil hl
      have hfit := step_fits c0 r0
      have hle : (c0 :: r0).length = r0.length + 1 := rfl
      cases hs : Lx.step (c0 :: r0) with
      | skip m =>
        rw [hs] at hfit
        obtain ⟨m1, m2⟩ := hfit
        rw [Lx.run_skip (by omega) hl hs] at h
        have := ih _ _ _ _ _ h
        rw [List.length_drop] at this; omega
      | mark k t m =>
        rw [hs] at hfit
        obtain ⟨m1, m2, _⟩ := hfit
        rw [Lx.run_mark (by omega) hl hs] at h
        have := ih _ _ _ _ _ h
        rw [List.length_drop] at this; omega
      | bad c' m =>
        rw [Lx.run_bad (by omega) hl hs] at h
        rw [hs] at hfit
        obtain ⟨m1, m2, m3⟩ := hfit
        injection h with h1 h2
        subst h1 h2
        omega
theorem lex_at {l : List UInt8} {c p : Nat} (h : lex l = .bad c p) : 10 ≤ c ∧ c ≤ 13 ∧ p ≤ l.length := by
  unfold lex at h
  split at h
  · injection h with h1 h2; omega
  · have := run_at _ _ _ _ _ _ h; omega
theorem lex_good {l : List UInt8} {ms : List M0} (h : lex l = .ok ms) : ∃ ms0, ms = ms0 ++ [(0, [], l.length)] ∧ Orderly l.length ms0 := by
  unfold lex at h
  split at h
  · cases h
  · have := run_good _ _ _ _ _ (by omega) ⟨List.Pairwise.nil, by simp⟩ h
    simpa using this
/-- Each mark of a list stands at a place of the text; all but the last are no end; each stands ahead of the next. -/
theorem marks_good {l : List UInt8} {ms : List M0} (h : lex l = .ok ms) : ms ≠ [] ∧ ((ms.map (mkOf l)).getD (ms.length - 1) ⟨0, [], 0, 0⟩).kind = 0 ∧ ((ms.map (mkOf l)).getD (ms.length - 1) ⟨0, [], 0, 0⟩).text = [] ∧
    ∀ i, i < ms.length → (∃ j, j ≤ l.length ∧ pos l j = (((ms.map (mkOf l)).getD i ⟨0, [], 0, 0⟩).line, ((ms.map (mkOf l)).getD i ⟨0, [], 0, 0⟩).col)) ∧
      (i + 1 < ms.length → (1 ≤ ((ms.map (mkOf l)).getD i ⟨0, [], 0, 0⟩).kind ∧ ((ms.map (mkOf l)).getD i ⟨0, [], 0, 0⟩).kind ≤ 9) ∧
        Ahead (((ms.map (mkOf l)).getD i ⟨0, [], 0, 0⟩).line, ((ms.map (mkOf l)).getD i ⟨0, [], 0, 0⟩).col) (((ms.map (mkOf l)).getD (i + 1) ⟨0, [], 0, 0⟩).line, ((ms.map (mkOf l)).getD (i + 1) ⟨0, [], 0, 0⟩).col)) := by
  obtain ⟨ms0, rfl, hg⟩ := lex_good h
  have hlen : (ms0 ++ [(0, [], l.length)] : List M0).length = ms0.length + 1 := by simp
  have hidx : ∀ i (hi : i < (ms0 ++ [(0, [], l.length)] : List M0).length), ((ms0 ++ [(0, [], l.length)] : List M0)[i]).2.2 ≤ l.length := by
    intro i hi
    rw [List.getElem_append]
    split
    · have := (hg.each _ (List.getElem_mem ‹_›)).2.2; omega
    · simp
  have hget : ∀ i (hi : i < (ms0 ++ [(0, [], l.length)] : List M0).length), (((ms0 ++ [(0, [], l.length)] : List M0).map (mkOf l)).getD i ⟨0, [], 0, 0⟩) = mkOf l ((ms0 ++ [(0, [], l.length)] : List M0)[i]) := by
    intro i hi
    simp only [List.getD, List.getElem?_map, List.getElem?_eq_getElem hi, Option.map_some, Option.getD_some]
  refine ⟨by simp, ?_, ?_, fun i hi => ⟨?_, fun hi1 => ?_⟩⟩
  · rw [hget _ (by omega)]
    simp [hlen, mkOf]
  · rw [hget _ (by omega)]
    simp [hlen, mkOf]
  · rw [hget _ hi]
    exact ⟨_, hidx i hi, rfl⟩
  · rw [hget _ hi, hget _ hi1]
    have hi0 : i < ms0.length := by omega
    have e1 : (ms0 ++ [(0, [], l.length)] : List M0)[i] = ms0[i] := List.getElem_append_left hi0
    have hm := hg.each _ (List.getElem_mem hi0)
    refine ⟨by rw [e1]; exact ⟨hm.1, hm.2.1⟩, pos_rises l _ _ ?_ (hidx _ hi1)⟩
    rw [e1]
    by_cases h2 : i + 1 < ms0.length
    · rw [List.getElem_append_left h2]
      exact List.pairwise_iff_getElem.1 hg.rise i (i + 1) hi0 h2 (by omega)
    · rw [List.getElem_append_right (by omega)]
      simp
      exact hm.2.2
end Lx


end Go.Proofs.YtpgmapjjjpcmfaaGreatDoor
