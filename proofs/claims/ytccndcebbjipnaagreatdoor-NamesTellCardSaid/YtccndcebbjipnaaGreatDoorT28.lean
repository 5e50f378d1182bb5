import Derived.Test.YtccndcebbjipnaaGreatDoorT20
namespace Go.Proofs.YtccndcebbjipnaaGreatDoor
namespace Nm
open Rd (Name Pat Tok Lev Rule G)
set_option linter.unusedVariables false
set_option linter.unusedSimpArgs false
theorem end_not {n : Name} (h : Pr.nameOk n = true) : n ≠ endN := by
  obtain ⟨_, c, t, rfl, hc, _⟩ := Pr.nameOk_ex h
  intro e
  unfold endN at e
  injection e with e1 _
  subst e1
  revert hc; decide
section
variable {g : G}
theorem tok_ok (h : Pr.Right g) : ∀ t ∈ g.toks, Pr.nameOk t.name = true := fun t ht => by
  have := h.toks t ht
  unfold Pr.tokOk at this
  simp only [Bool.and_eq_true] at this
  exact this.1
theorem rule_ok (h : Pr.Right g) : ∀ r ∈ g.rules, Pr.nameOk r.left = true ∧ r.right.length ≤ 8 ∧ (∀ n ∈ r.right, Pr.nameOk n = true) ∧ (r.prec = [] ∨ Pr.nameOk r.prec = true) ∧ Pr.actOk r.action = true := fun r hr => by
  have := h.each r hr
  unfold Pr.ruleOk at this
  simpa only [Bool.and_eq_true, Bool.or_eq_true, decide_eq_true_eq, beq_iff_eq, List.all_eq_true] using this
theorem lev_ok (h : Pr.Right g) : ∀ v ∈ g.levels, 1 ≤ v.assoc ∧ v.assoc ≤ 3 ∧ v.names ≠ [] ∧ ∀ n ∈ v.names, Pr.nameOk n = true := fun v hv => by
  have := h.levels v hv
  unfold Pr.levOk at this
  simp only [Bool.and_eq_true, decide_eq_true_eq, bne_iff_ne, List.all_eq_true] at this
  exact ⟨this.1.1, this.1.2, this.2.1, this.2.2⟩
theorem vars_ok (h : Pr.Right g) : ∀ n ∈ vars g, Pr.nameOk n = true := fun n hn => by
  unfold vars at hn
  rw [varsOf_mem] at hn
  obtain ⟨r, hr, rfl⟩ := List.mem_map.1 hn
  exact (rule_ok h r hr).1
theorem left_mem {r : Rule} (hr : r ∈ g.rules) : r.left ∈ vars g := by
  unfold vars; rw [varsOf_mem]; exact List.mem_map.2 ⟨r, hr, rfl⟩
theorem terms_len : (terms g).length = g.toks.length + 1 := by unfold terms; simp
theorem vars_len : (vars g).length ≤ g.rules.length := by have := varsOf_len (g.rules.map Rule.left); unfold vars; simpa using this
theorem level_range (n : Name) : 0 ≤ level g n ∧ level g n ≤ (g.levels.length : Int) := by
  have h1 := find_ge (p := hasN n) g.levels
  have h2 := find_lt (p := hasN n) g.levels
  unfold level; omega
theorem level_end (h : Pr.Right g) : level g endN = 0 := by
  unfold level
  rw [find_none]
  · rfl
  · intro v hv
    unfold hasN
    rw [decide_eq_false_iff_not]
    intro hn
    exact end_not ((lev_ok h v hv).2.2.2 _ hn) rfl
structure Fine (g : G) : Prop where
  right : Pr.Right g
  apart : ∀ t ∈ g.toks, t.name ∉ vars g
  rules : ∀ r ∈ g.rules, (∀ n ∈ r.right, 0 ≤ symG g n) ∧ (r.prec = [] ∨ level g r.prec ≠ 0)
  start : g.start ∈ vars g
theorem wrong_fine (h : Pr.Right g) (hw : (wrong g).1 = 0) : Fine g := by
  unfold wrong at hw
  split at hw
  · cases hw
  · rename_i ht
    rw [List.find?_eq_none] at ht
    split at hw
    · rename_i x hx
      obtain ⟨r, hr, hw2⟩ := List.exists_of_findSome?_eq_some hx
      unfold wrongRule at hw2
      split at hw2
      · cases hw2; cases hw
      · split at hw2
        · cases hw2; cases hw
        · cases hw2
    · rename_i hr
      rw [List.findSome?_eq_none_iff] at hr
      split at hw
      · rename_i hs
        refine ⟨h, fun t htm hn => ?_, fun r hrm => ?_, place_ge.1 hs⟩
        · have := ht t htm
          unfold wrongTok at this
          rw [decide_eq_true_eq] at this
          exact this (place_ge.2 hn)
        · have := hr r hrm
          unfold wrongRule at this
          split at this
          · cases this
          · rename_i hn
            rw [List.find?_eq_none] at hn
            split at this
            · cases this
            · rename_i hp
              refine ⟨fun n hnm => ?_, ?_⟩
              · have := hn n hnm
                unfold wrongName at this
                rw [decide_eq_true_eq] at this
                omega
              · by_cases h0 : r.prec = []
                · exact .inl h0
                · exact .inr fun e => hp ⟨h0, e⟩
      · cases hw
end
section
variable {T V : List Name}
theorem sym_range (n : Name) : sym T V n = -1 ∨ 0 ≤ sym T V n ∧ sym T V n < (T.length : Int) + (V.length : Int) := by
  have h1 := find_lt (p := isN n) T
  have h2 := find_lt (p := isN n) V
  unfold sym place
  split
  · right; omega
  · split
    · right; omega
    · left; rfl
end
section
variable {g : G}
end
end Nm
end Go.Proofs.YtccndcebbjipnaaGreatDoor
