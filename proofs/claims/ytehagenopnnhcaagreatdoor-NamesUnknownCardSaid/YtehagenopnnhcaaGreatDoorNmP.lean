import Derived.Test.YtehagenopnnhcaaGreatDoorNmM
namespace Go.Proofs.YtehagenopnnhcaaGreatDoor
namespace Nm
open Rd (Name Pat Tok Lev Rule G)
set_option linter.unusedVariables false
set_option linter.unusedSimpArgs false
theorem place_nodup {l : List Name} {n : Name} {k : Nat} (h : l.Nodup) (hk : l[k]? = some n) : place l n = (k : Int) := by
 refine find_hit hk (by simp [isN]) fun y hy => ?_
 unfold isN
 rw [beq_eq_false_iff_ne]
 intro e
 subst e
 obtain ⟨j, hj, e⟩ := List.mem_iff_getElem.1 hy
 rw [List.getElem_take] at e
 rw [List.length_take] at hj
 obtain ⟨hk1, hk2⟩ := List.getElem?_eq_some_iff.1 hk
 exact List.pairwise_iff_getElem.1 h j k (by omega) hk1 (by omega) (e.trans hk2.symm)
theorem name_ne {n : Name} (h : Pr.nameOk n = true) : n ≠ [] := by
 obtain ⟨_, c, t, rfl, _⟩ := Pr.nameOk_ex h; simp
theorem end_not {n : Name} (h : Pr.nameOk n = true) : n ≠ endN := by
 obtain ⟨_, c, t, rfl, hc, _⟩ := Pr.nameOk_ex h
 intro e
 unfold endN at e
 injection e with e1 _
 subst e1
 revert hc; decide
theorem acc_not {n : Name} (h : Pr.nameOk n = true) : n ≠ accN := by
 obtain ⟨_, c, t, rfl, hc, _⟩ := Pr.nameOk_ex h
 intro e
 unfold accN at e
 injection e with e1 _
 subst e1
 revert hc; decide
section
variable {g : G}
theorem tok_ok (h : Pr.Right g) : ∀ t ∈ g.toks, Pr.nameOk t.name = true := fun t ht => by
 have := h.toks t ht
 unfold Pr.tokOk at this
 simp only [Bool.and_eq_true] at this
 exact this.1
theorem rule_ok (h : Pr.Right g) : ∀ r ∈ g.rules, Pr.nameOk r.left = true ∧ r.right.length ≤ 8 ∧ (∀ n ∈ r.right, Pr.nameOk n = true) ∧ (r.prec = [] ∨ Pr.nameOk r.prec = true) ∧ Pr.actOk r.action = true := fun r hr => by
 have := h.each r hr
 unfold Pr.ruleOk at this
 simpa only [Bool.and_eq_true, Bool.or_eq_true, decide_eq_true_eq, beq_iff_eq, List.all_eq_true] using this
theorem lev_ok (h : Pr.Right g) : ∀ v ∈ g.levels, 1 ≤ v.assoc ∧ v.assoc ≤ 3 ∧ v.names ≠ [] ∧ ∀ n ∈ v.names, Pr.nameOk n = true := fun v hv => by
 have := h.levels v hv
 unfold Pr.levOk at this
 simp only [Bool.and_eq_true, decide_eq_true_eq, bne_iff_ne, List.all_eq_true] at this
 exact ⟨this.1.1, this.1.2, this.2.1, this.2.2⟩
theorem vars_ok (h : Pr.Right g) : ∀ n ∈ vars g, Pr.nameOk n = true := fun n hn => by
 unfold vars at hn
 rw [varsOf_mem] at hn
 obtain ⟨r, hr, rfl⟩ := List.mem_map.1 hn
 exact (rule_ok h r hr).1
theorem left_mem {r : Rule} (hr : r ∈ g.rules) : r.left ∈ vars g := by
 unfold vars; rw [varsOf_mem]; exact List.mem_map.2 ⟨r, hr, rfl⟩
theorem terms_nodup (h : Pr.Right g) : (terms g).Nodup := by
 unfold terms
 rw [List.nodup_cons]
 refine ⟨fun hm => ?_, h.tonce⟩
 obtain ⟨t, ht, e⟩ := List.mem_map.1 hm
 exact end_not (tok_ok h t ht) e
theorem vars_nodup : (vars g).Nodup := varsOf_nodup _
theorem terms_ne (h : Pr.Right g) : ∀ n ∈ terms g, n ≠ [] := fun n hn => by
 unfold terms at hn
 rcases List.mem_cons.1 hn with rfl | hn
 ·decide
 ·obtain ⟨t, ht, rfl⟩ := List.mem_map.1 hn
  exact name_ne (tok_ok h t ht)
theorem terms_len : (terms g).length = g.toks.length + 1 := by unfold terms; simp
theorem vars_len : (vars g).length ≤ g.rules.length := by have := varsOf_len (g.rules.map Rule.left); unfold vars; simpa using this
theorem level_range (n : Name) : 0 ≤ level g n ∧ level g n ≤ (g.levels.length : Int) := by
 have h1 := find_ge (p := hasN n) g.levels
 have h2 := find_lt (p := hasN n) g.levels
 unfold level; omega
theorem level_end (h : Pr.Right g) : level g endN = 0 := by
 unfold level
 rw [find_none]
 ·rfl
 ·intro v hv
  unfold hasN
  rw [decide_eq_false_iff_not]
  intro hn
  exact end_not ((lev_ok h v hv).2.2.2 _ hn) rfl
structure Fine (g : G) : Prop where
 right : Pr.Right g
 apart : ∀ t ∈ g.toks, t.name ∉ vars g
 rules : ∀ r ∈ g.rules, (∀ n ∈ r.right, 0 ≤ symG g n) ∧ (r.prec = [] ∨ level g r.prec ≠ 0)
 start : g.start ∈ vars g
theorem wrong_code (h : Pr.Right g) : ((wrong g).1 = 0 ∧ (wrong g).2 = []) ∨ ((wrong g).1 = 15 ∨ (wrong g).1 = 16) ∧ (wrong g).2 ≠ [] := by
 unfold wrong
 split
 ·rename_i t ht
  exact .inr ⟨.inl rfl, name_ne (tok_ok h t (List.mem_of_find?_eq_some ht))⟩
 ·split
  ·rename_i x hx
   obtain ⟨r, hr, hw⟩ := List.exists_of_findSome?_eq_some hx
   unfold wrongRule at hw
   split at hw
   ·rename_i n hn
    cases hw
    exact .inr ⟨.inr rfl, name_ne ((rule_ok h r hr).2.2.1 n (List.mem_of_find?_eq_some hn))⟩
   ·split at hw
    ·rename_i hp
     cases hw
     exact .inr ⟨.inr rfl, hp.1⟩
    ·cases hw
  ·split
   ·exact .inl ⟨rfl, rfl⟩
   ·exact .inr ⟨.inr rfl, name_ne h.start⟩
theorem wrong_fine (h : Pr.Right g) (hw : (wrong g).1 = 0) : Fine g := by
 unfold wrong at hw
 split at hw
 ·cases hw
 ·rename_i ht
  rw [List.find?_eq_none] at ht
  split at hw
  ·rename_i x hx
   obtain ⟨r, hr, hw2⟩ := List.exists_of_findSome?_eq_some hx
   unfold wrongRule at hw2
   split at hw2
   ·cases hw2; cases hw
   ·split at hw2
    ·cases hw2; cases hw
    ·cases hw2
  ·rename_i hr
   rw [List.findSome?_eq_none_iff] at hr
   split at hw
   ·rename_i hs
    refine ⟨h, fun t htm hn => ?_, fun r hrm => ?_, place_ge.1 hs⟩
    ·have := ht t htm
     unfold wrongTok at this
     rw [decide_eq_true_eq] at this
     exact this (place_ge.2 hn)
    ·have := hr r hrm
     unfold wrongRule at this
     split at this
     ·cases this
     ·rename_i hn
      rw [List.find?_eq_none] at hn
      split at this
      ·cases this
      ·rename_i hp
       refine ⟨fun n hnm => ?_, ?_⟩
       ·have := hn n hnm
        unfold wrongName at this
        rw [decide_eq_true_eq] at this
        omega
       ·by_cases h0 : r.prec = []
        ·exact .inl h0
        ·exact .inr fun e => hp ⟨h0, e⟩
   ·cases hw
theorem apart_all (h : Fine g) : ∀ n ∈ terms g, n ∉ vars g := fun n hn hv => by
 unfold terms at hn
 rcases List.mem_cons.1 hn with rfl | hn
 ·exact end_not (vars_ok h.right _ hv) rfl
 ·obtain ⟨t, ht, rfl⟩ := List.mem_map.1 hn
  exact h.apart t ht hv
end
section
variable {T V : List Name}
theorem sym_range (n : Name) : sym T V n = -1 ∨ 0 ≤ sym T V n ∧ sym T V n < (T.length : Int) + (V.length : Int) := by
 have h1 := find_lt (p := isN n) T
 have h2 := find_lt (p := isN n) V
 unfold sym place
 split
 ·right; omega
 ·split
  ·right; omega
  ·left; rfl
theorem name_sym (n : Name) (h : 0 ≤ sym T V n) : nameAt T V (sym T V n) = n := by
 unfold sym at h ⊢
 by_cases h1 : 0 ≤ place T n
 ·rw [if_pos h1] at h ⊢
  obtain ⟨k, hk, hg⟩ := place_get (place_ge.1 h1)
  have hl := (List.getElem?_eq_some_iff.1 hg).1
  rw [hk]
  unfold nameAt
  rw [if_neg (by omega), if_neg (by omega), if_pos (by omega)]
  simp [List.getD, hg]
 ·rw [if_neg h1] at h ⊢
  by_cases h2 : 0 ≤ place V n
  ·rw [if_pos h2] at h ⊢
   obtain ⟨k, hk, hg⟩ := place_get (place_ge.1 h2)
   have hl := (List.getElem?_eq_some_iff.1 hg).1
   rw [hk]
   unfold nameAt
   rw [if_neg (by omega), if_neg (by omega), if_neg (by omega)]
   have e : ((T.length : Int) + (k : Int) - (T.length : Int)).toNat = k := by omega
   rw [e]
   simp [List.getD, hg]
  ·rw [if_neg h2] at h; omega
theorem sym_name (hT : T.Nodup) (hV : V.Nodup) (hd : ∀ n ∈ T, n ∉ V) (k : Nat) (h : (k : Int) < (T.length : Int) + (V.length : Int)) :
  sym T V (nameAt T V (k : Int)) = (k : Int) ∧ nameAt T V (k : Int) ∈ T ++ V := by
 unfold nameAt
 rw [if_neg (by omega), if_neg (by omega)]
 by_cases hk : k < T.length
 ·rw [if_pos (by omega), Int.toNat_natCast]
  have hg : T[k]? = some (T.getD k []) := by simp [List.getD, List.getElem?_eq_getElem hk]
  refine ⟨?_, List.mem_append_left _ (List.mem_of_getElem? hg)⟩
  have hp := place_nodup hT hg
  unfold sym
  rw [hp, if_pos (by omega)]
 ·rw [if_neg (by omega)]
  obtain ⟨j, rfl⟩ : ∃ j, k = T.length + j := ⟨k - T.length, by omega⟩
  have e : (((T.length + j : Nat) : Int) - (T.length : Int)).toNat = j := by omega
  rw [e]
  have hj : j < V.length := by omega
  have hg : V[j]? = some (V.getD j []) := by simp [List.getD, List.getElem?_eq_getElem hj]
  have hm := List.mem_of_getElem? hg
  refine ⟨?_, List.mem_append_right _ hm⟩
  have hp := place_nodup hV hg
  have hn : place T (V.getD j []) < 0 := place_neg.2 fun ht => hd _ ht hm
  unfold sym
  rw [if_neg (by omega), hp, if_pos (by omega)]; omega
theorem sym_term (hT : T.Nodup) {n : Name} {k : Nat} (h : T[k]? = some n) : sym T V n = (k : Int) := by
 unfold sym
 rw [place_nodup hT h, if_pos (by omega)]
theorem sym_var {n : Name} (h : n ∉ T) (hv : n ∈ V) : (T.length : Int) ≤ sym T V n := by
 unfold sym
 have h1 := place_neg.2 h
 have h2 := place_ge.2 hv
 rw [if_neg (by omega), if_pos h2]; omega
end
section
variable {g : G}
theorem lastL_range {L right : List Int} {m : Int} (h : ∀ x ∈ L, 0 ≤ x ∧ x ≤ m) (hm : 0 ≤ m) : 0 ≤ lastL L right ∧ lastL L right ≤ m := by
 have key : ∀ (r : List Int) (a : Int), 0 ≤ a ∧ a ≤ m → 0 ≤ r.foldl (fun a s => if 0 ≤ s ∧ s < (L.length : Int) then L.getD s.toNat 0 else a) a ∧ r.foldl (fun a s => if 0 ≤ s ∧ s < (L.length : Int) then L.getD s.toNat 0 else a) a ≤ m := by
  intro r
  induction r with
  | nil => intro a h; exact h
  | cons s r ih =>
   intro a ha
   rw [List.foldl_cons]
   apply ih
   split
   ·rename_i hs
    have hk : s.toNat < L.length := by omega
    have hg : L[s.toNat]? = some (L.getD s.toNat 0) := by simp [List.getD, List.getElem?_eq_getElem hk]
    exact h _ (List.mem_of_getElem? hg)
   ·exact ha
 exact key right 0 ⟨by omega, hm⟩
theorem levels_range : ∀ x ∈ levelsG g, 0 ≤ x ∧ x ≤ (g.levels.length : Int) := fun x hx => by
 unfold levelsG at hx
 obtain ⟨n, _, rfl⟩ := List.mem_map.1 hx
 exact level_range n
theorem prod_level (r : Rule) : 0 ≤ (prod g r).level ∧ (prod g r).level ≤ (g.levels.length : Int) := by
 unfold prod
 simp only []
 split
 ·exact lastL_range levels_range (by omega)
 ·exact level_range _
theorem show_start (h : Fine g) : showT (plan g) 0 = accN ++ ([32, 58] ++ (32 :: g.start)) := by
 have hs : 0 ≤ symG g g.start := by
  have := sym_var (T := terms g) (V := vars g) (n := g.start) (fun hn => apart_all h _ hn h.start) h.start
  unfold symG; omega
 have h1 : nameAt (terms g) (vars g) (acceptG g) = accN := by
  unfold nameAt acceptG
  rw [if_neg (by omega), if_pos rfl]
 have h2 := name_sym (T := terms g) (V := vars g) g.start hs
 unfold showT plan
 simp only [List.length_cons]
 rw [if_neg (by omega)]
 show nameAt (terms g) (vars g) (acceptG g) ++ ([32, 58] ++ [symG g g.start].flatMap fun s => 32 :: nameAt (terms g) (vars g) s) = _
 rw [h1, List.flatMap_singleton]
 unfold symG
 rw [h2]
theorem show_rule (h : Fine g) {k : Nat} {r : Rule} (hk : g.rules[k]? = some r) : showT (plan g) ((k : Int) + 1) = r.left ++ ([32, 58] ++ r.right.flatMap fun n => 32 :: n) := by
 have hr := List.mem_of_getElem? hk
 have hlt := (List.getElem?_eq_some_iff.1 hk).1
 have e : (plan g).rules.getD ((k : Int) + 1).toNat ⟨0, [], 0⟩ = prod g r := by
  have e1 : ((k : Int) + 1).toNat = k + 1 := by omega
  rw [e1]
  unfold plan
  simp [List.getD, hk]
 have hl : 0 ≤ symG g r.left := by
  have := sym_var (T := terms g) (V := vars g) (n := r.left) (fun hn => apart_all h _ hn (left_mem hr)) (left_mem hr)
  unfold symG; omega
 unfold showT
 rw [if_neg (by unfold plan; simp only [List.length_cons, List.length_map]; omega), e]
 unfold prod
 simp only []
 congr 1
 ·exact name_sym _ hl
 ·congr 1
  rw [List.flatMap_map]
  have hn := (h.rules r hr).1
  have key : ∀ l : List Name, (∀ n ∈ l, 0 ≤ symG g n) → l.flatMap (fun n => 32 :: nameAt (plan g).terms (plan g).vars (symG g n)) = l.flatMap fun n => 32 :: n := by
   intro l
   induction l with
   | nil => intro _; rfl
   | cons n t ih =>
    intro hl
    rw [List.flatMap_cons, List.flatMap_cons, ih (fun m hm => hl m (by simp [hm]))]
    congr 2
    exact name_sym n (hl n (by simp))
  exact key _ hn
theorem left_var (h : Fine g) {r : Rule} (hr : r ∈ g.rules) : ((terms g).length : Int) ≤ (prod g r).left :=
 sym_var (fun hn => apart_all h _ hn (left_mem hr)) (left_mem hr)
end
end Nm
end Go.Proofs.YtehagenopnnhcaaGreatDoor
