/-
  Plain facts of plans: what is not wrong; each name has one number; rules by numbers are the rules.
-/
import Derived.Test.YtpgmapjjjpcmfaaGreatDoorNmM
namespace Go.Proofs.YtpgmapjjjpcmfaaGreatDoor
namespace Nm
open Rd (Name Pat Tok Lev Rule G)
set_option linter.unusedVariables false
set_option linter.unusedSimpArgs false

theorem end_not {n : Name} (h : Pr.nameOk n = true) : n ≠ endN := by
  obtain ⟨_, c, t, rfl, hc, _⟩ := Pr.nameOk_ex h
  intro e
  unfold endN at e
  injection e with e1 _
  subst e1
  revert hc; decide
section
variable {g : G}
theorem rule_ok (h : Pr.Right g) : ∀ r ∈ g.rules, Pr.nameOk r.left = true ∧ r.right.length ≤ 8 ∧ (∀ n ∈ r.right, Pr.nameOk n = true) ∧ (r.prec = [] ∨ Pr.nameOk r.prec = true) ∧ Pr.actOk r.action = true := fun r hr => by
  have := h.each r hr
  unfold Pr.ruleOk at this
  simpa only [Bool.and_eq_true, Bool.or_eq_true, decide_eq_true_eq, beq_iff_eq, List.all_eq_true] using this
theorem lev_ok (h : Pr.Right g) : ∀ v ∈ g.levels, 1 ≤ v.assoc ∧ v.assoc ≤ 3 ∧ v.names ≠ [] ∧ ∀ n ∈ v.names, Pr.nameOk n = true := fun v hv => by
  have := h.levels v hv
  unfold Pr.levOk at this
  simp only [Bool.and_eq_true, decide_eq_true_eq, bne_iff_ne, List.all_eq_true] at this
  exact ⟨this.1.1, this.1.2, this.2.1, this.2.2⟩
theorem terms_len : (terms g).length = g.toks.length + 1 := by unfold terms; simp
theorem level_range (n : Name) : 0 ≤ level g n ∧ level g n ≤ (g.levels.length : Int) := by
  have h1 := find_ge (p := hasN n) g.levels
  have h2 := find_lt (p := hasN n) g.levels
  unfold level; omega
theorem level_end (h : Pr.Right g) : level g endN = 0 := by
  unfold level
  rw [find_none]
  · rfl
  · intro v hv
    unfold hasN
    rw [decide_eq_false_iff_not]
    intro hn
    exact end_not ((lev_ok h v hv).2.2.2 _ hn) rfl

/-- What there is where nothing is wrong. -/
structure Fine (g : G) : Prop where
  right : Pr.Right g
  apart : ∀ t ∈ g.toks, t.name ∉ vars g
  rules : ∀ r ∈ g.rules, (∀ n ∈ r.right, 0 ≤ symG g n) ∧ (r.prec = [] ∨ level g r.prec ≠ 0)
  start : g.start ∈ vars g
end

/-! ## Numbers and names -/
section
variable {T V : List Name}
theorem sym_range (n : Name) : sym T V n = -1 ∨ 0 ≤ sym T V n ∧ sym T V n < (T.length : Int) + (V.length : Int) := by
  have h1 := find_lt (p := isN n) T
  have h2 := find_lt (p := isN n) V
  unfold sym place
  split
  · right; omega
  · split
    · right; omega
    · left; rfl
end

section
variable {g : G}
end
end Nm
end Go.Proofs.YtpgmapjjjpcmfaaGreatDoor

