/-
  What is so of each list of marks: what is wrong is so with one of them; what is read has no more of anything than may be.
-/
import Derived.Test.YtgmihbfikggkjaaDoorRdL
namespace Go.Proofs.YtgmihbfikggkjaaDoor
namespace Rd
open Lx (Mk)
set_option linter.unusedVariables false
set_option linter.unusedSimpArgs false

/-- The last mark is an end. -/
def Good (ms : List Mk) : Prop := ∃ p e, ms = p ++ [e] ∧ e.kind = 0
/-- What is left of marks. -/
structure Sf (ms r : List Mk) : Prop where
  suf : r <:+ ms
  good : Good ms → Good r
theorem Sf.refl (ms : List Mk) : Sf ms ms := ⟨List.suffix_refl _, fun h => h⟩
theorem Sf.trans {a b c : List Mk} (h : Sf a b) (k : Sf b c) : Sf a c := ⟨k.suf.trans h.suf, fun g => k.good (h.good g)⟩
theorem Sf.tail {ms : List Mk} (h : (hd ms).kind ≠ 0) : Sf ms ms.tail := by
  refine ⟨List.tail_suffix _, ?_⟩
  rintro ⟨p, e, rfl, he⟩
  cases p with
  | nil => exact absurd he h
  | cons m p => exact ⟨p, e, rfl, he⟩
theorem Good.ne {ms : List Mk} (h : Good ms) : ms ≠ [] := by obtain ⟨p, e, rfl, _⟩ := h; simp
def Res.Sf {α : Type} (ms : List Mk) (x : Res α) : Prop := Rd.Sf ms x.rest
theorem Res.Sf.trans {α : Type} {a b : List Mk} {x : Res α} (h : Rd.Sf a b) (k : x.Sf b) : x.Sf a := Rd.Sf.trans h k

theorem pattern_sf (ms : List Mk) : (pattern ms).Sf ms := by
  unfold pattern
  split
  · exact Sf.tail (by omega)
  · split
    · split
      · exact (Sf.tail (ms := ms) (by omega)).trans (Sf.tail (by omega))
      · exact Sf.tail (by omega)
    · exact Sf.refl _
theorem names_sf (lev : List Name) (ms : List Mk) (acc : List Name) : (names lev ms acc).Sf ms := by
  fun_induction names lev ms acc
  · exact Sf.refl _
  · exact Sf.refl _
  · rename_i m r acc h1 h2 ih
    exact (Sf.tail (ms := m :: r) (by rw [hd_cons]; omega)).trans ih
  · exact Sf.refl _
theorem rights_sf (ms : List Mk) (acc : List Name) : (rights ms acc).Sf ms := by
  fun_induction rights ms acc
  · exact Sf.refl _
  · exact Sf.refl _
  · rename_i m r acc h1 h2 ih
    exact (Sf.tail (ms := m :: r) (by rw [hd_cons]; omega)).trans ih
  · exact Sf.refl _
theorem word_kind {t : Name} {m : Mk} (h : isWord t m = true) : m.kind = 2 := by
  unfold isWord at h
  simp at h
  exact h.1
theorem prec_sf (ms : List Mk) : (prec ms).Sf ms := by
  unfold prec
  split
  · rename_i h
    have hk := word_kind h
    split
    · exact (Sf.tail (ms := ms) (by omega)).trans (Sf.tail (by omega))
    · exact Sf.tail (by omega)
  · exact Sf.refl _
theorem action_sf (x : Rule) (ms : List Mk) : (action x ms).Sf ms := by
  unfold action
  split
  · exact Sf.tail (by omega)
  · exact Sf.refl _
theorem alt_sf (left : Name) (n : Nat) (ms : List Mk) : (alt left n ms).Sf ms := by
  unfold alt
  split
  · exact Sf.refl _
  · have h1 := rights_sf ms []
    cases hr : rights ms [] with
    | bad e r => rw [hr] at h1; exact h1
    | ok l r =>
      rw [hr] at h1
      have h2 := prec_sf r
      simp only []
      cases hp : prec r with
      | bad e r' => rw [hp] at h2; exact Sf.trans h1 h2
      | ok p r' => rw [hp] at h2; exact (Sf.trans h1 h2).trans (action_sf _ r')
theorem alts_sf (f : Nat) (left : Name) (acc : List Rule) (ms : List Mk) : (alts f left acc ms).Sf ms := by
  induction f generalizing acc ms with
  | zero => exact Sf.refl _
  | succ f ih =>
    unfold alts
    have h1 := alt_sf left acc.length ms
    cases ha : alt left acc.length ms with
    | bad e r => rw [ha] at h1; exact h1
    | ok x r =>
      rw [ha] at h1
      simp only []
      split
      · rename_i h8; exact Sf.trans h1 (Sf.tail (ms := r) (by rw [h8]; decide))
      · split
        · rename_i h7; exact (Sf.trans h1 (Sf.tail (ms := r) (by rw [h7]; decide))).trans (ih _ _)
        · exact h1
theorem rule_sf (acc : List Rule) (ms : List Mk) : (rule acc ms).Sf ms := by
  unfold rule
  split
  · exact Sf.refl _
  · split
    · exact Sf.tail (ms := ms) (by omega)
    · exact ((Sf.tail (ms := ms) (by omega)).trans (Sf.tail (ms := ms.tail) (by omega))).trans (alts_sf _ _ _ _)
theorem rules_sf (f : Nat) (acc : List Rule) (ms : List Mk) : (rules f acc ms).Sf ms := by
  induction f generalizing acc ms with
  | zero => exact Sf.refl _
  | succ f ih =>
    unfold rules
    have h1 := rule_sf acc ms
    cases ha : rule acc ms with
    | bad e r => rw [ha] at h1; exact h1
    | ok x r =>
      rw [ha] at h1
      simp only []
      split
      · exact h1
      · exact Sf.trans h1 (ih _ _)
theorem token_sf (d : Decls) (ms : List Mk) (h : (hd ms).kind ≠ 0) : (token d ms).Sf ms := by
  unfold token
  have h0 := Sf.tail h
  split
  · exact h0
  · split
    · exact h0
    · split
      · exact h0
      · have h1 := pattern_sf ms.tail.tail
        have h2 : Sf ms.tail ms.tail.tail := Sf.tail (by omega)
        cases hp : pattern ms.tail.tail <;> rw [hp] at h1 <;> exact (h0.trans h2).trans h1
theorem skip_sf (d : Decls) (ms : List Mk) (h : (hd ms).kind ≠ 0) : (skip d ms).Sf ms := by
  unfold skip
  have h0 := Sf.tail h
  split
  · exact Sf.refl _
  · have h1 := pattern_sf ms.tail
    cases hp : pattern ms.tail <;> rw [hp] at h1 <;> exact h0.trans h1
theorem level_sf (a : Nat) (d : Decls) (ms : List Mk) (h : (hd ms).kind ≠ 0) : (level a d ms).Sf ms := by
  unfold level
  have h0 := Sf.tail h
  split
  · exact Sf.refl _
  · have h1 := names_sf (levelled d) ms.tail []
    cases hp : names (levelled d) ms.tail [] with
    | bad e r => rw [hp] at h1; exact h0.trans h1
    | ok l r =>
      rw [hp] at h1
      simp only []
      split <;> exact h0.trans h1
theorem start_sf (d : Decls) (ms : List Mk) (h : (hd ms).kind ≠ 0) : (start d ms).Sf ms := by
  unfold start
  have h0 := Sf.tail h
  split
  · exact Sf.refl _
  · split
    · exact h0.trans (Sf.tail (by omega))
    · exact h0
theorem decl_sf (d : Decls) (ms : List Mk) : (decl d ms).Sf ms := by
  unfold decl
  split
  · rename_i h
    generalize wordNo _ = k
    match k with
    | 0 => exact token_sf d ms (by omega)
    | 1 => exact skip_sf d ms (by omega)
    | 2 => exact level_sf 1 d ms (by omega)
    | 3 => exact level_sf 2 d ms (by omega)
    | 4 => exact level_sf 3 d ms (by omega)
    | 5 => exact start_sf d ms (by omega)
    | _ + 6 => exact Sf.refl _
  · exact Sf.refl _
theorem decls_sf (f : Nat) (d : Decls) (ms : List Mk) : (decls f d ms).Sf ms := by
  induction f generalizing d ms with
  | zero => exact Sf.refl _
  | succ f ih =>
    unfold decls
    split
    · rename_i h
      have := word_kind h
      exact Sf.tail (by omega)
    · have h1 := decl_sf d ms
      cases ha : decl d ms with
      | bad e r => rw [ha] at h1; exact h1
      | ok x r => rw [ha] at h1; exact Sf.trans h1 (ih _ _)
theorem parse_sf (ms : List Mk) : (parse ms).Sf ms := by
  unfold parse
  have h1 := decls_sf (ms.length + 1) none_ ms
  cases hd : decls (ms.length + 1) none_ ms with
  | bad e r => rw [hd] at h1; exact h1
  | ok d r =>
    rw [hd] at h1
    have h2 := rules_sf (r.length + 1) [] r
    simp only []
    cases hr : rules (r.length + 1) [] r with
    | bad e r' => rw [hr] at h2; exact Sf.trans h1 h2
    | ok rs r' => rw [hr] at h2; exact Sf.trans h1 h2
theorem parse_code {ms : List Mk} {c : Nat} {r : List Mk} (h : parse ms = .bad c r) : c ≠ 0 := by
  unfold parse at h
  cases hd : decls (ms.length + 1) none_ ms with
  | bad e r => rw [hd] at h; cases h; exact decls_code hd
  | ok d r =>
    rw [hd] at h
    simp only [] at h
    cases hr : rules (r.length + 1) [] r with
    | bad e r' => rw [hr] at h; cases h; exact rules_code hr
    | ok rs r' => rw [hr] at h; cases h
/-- What is wrong is so with one of the marks. -/
theorem parse_bad {ms : List Mk} {c : Nat} {r : List Mk} (h : parse ms = .bad c r) (hg : Good ms) : c ≠ 0 ∧ hd r ∈ ms := by
  have h1 := parse_sf ms
  rw [h] at h1
  have h2 : Sf ms r := h1
  refine ⟨parse_code h, ?_⟩
  have hne := (h2.good hg).ne
  cases r with
  | nil => exact absurd rfl hne
  | cons m r' => exact h2.suf.subset (by simp [hd_cons])

/-! ## What is read -/

/-- Names are not empty. -/
def Tx (ms : List Mk) : Prop := ∀ m ∈ ms, m.kind = 1 → m.text ≠ []
theorem Tx.sf {ms r : List Mk} (h : Tx ms) (k : Sf ms r) : Tx r := fun m hm => h m (k.suf.subset hm)
theorem Tx.hd {ms : List Mk} (h : Tx ms) (h1 : (hd ms).kind = 1) : (hd ms).text ≠ [] := by
  cases ms with
  | nil => simp [hd_nil] at h1
  | cons m r => exact h m (by simp) h1

structure DOk (d : Decls) : Prop where
  toks : (d.toks.map Tok.name).Nodup
  ntok : d.toks.length ≤ 20
  nskip : d.skips.length ≤ 4
  nlev : d.levels.length ≤ 10
  lev : (levelled d).Nodup
  each : ∀ l ∈ d.levels, l.names ≠ [] ∧ 1 ≤ l.assoc ∧ l.assoc ≤ 3
  start : d.started = true → d.start ≠ []
theorem DOk.none_ : DOk none_ := ⟨List.nodup_nil, by decide, by decide, by decide, List.nodup_nil, by simp [Rd.none_], by simp [Rd.none_]⟩
theorem token_ok {d d' : Decls} {ms r : List Mk} (h : DOk d) (he : token d ms = .ok d' r) : DOk d' := by
  unfold token at he
  split at he
  · cases he
  · split at he
    · cases he
    · rename_i hany
      split at he
      · cases he
      · cases hp : pattern ms.tail.tail with
        | bad e r' => rw [hp] at he; cases he
        | ok p r' =>
          rw [hp] at he
          cases he
          refine ⟨?_, by simp; have := h.ntok; omega, h.nskip, h.nlev, h.lev, h.each, h.start⟩
          rw [List.map_append, List.nodup_append]
          refine ⟨h.toks, by simp, fun a ha b hb e => ?_⟩
          simp at hb
          subst hb
          rw [e] at ha
          obtain ⟨t, ht, hn⟩ := List.mem_map.1 ha
          apply hany
          rw [List.any_eq_true]
          exact ⟨t, ht, by simp [hn]⟩
theorem skip_ok {d d' : Decls} {ms r : List Mk} (h : DOk d) (he : skip d ms = .ok d' r) : DOk d' := by
  unfold skip at he
  split at he
  · cases he
  · cases hp : pattern ms.tail with
    | bad e r' => rw [hp] at he; cases he
    | ok p r' =>
      rw [hp] at he
      cases he
      exact ⟨h.toks, h.ntok, by simp; have := h.nskip; omega, h.nlev, h.lev, h.each, h.start⟩
theorem names_nodup {lev : List Name} {ms : List Mk} {acc l : List Name} {r : List Mk} : (lev ++ acc).Nodup → names lev ms acc = .ok l r → (lev ++ l).Nodup := by
  fun_induction names lev ms acc
  · intro hn h; cases h; exact hn
  · intro hn h; cases h
  · rename_i m r acc h1 h2 ih
    intro hn h
    refine ih ?_ h
    rw [← List.append_assoc, List.nodup_append]
    refine ⟨hn, by simp, fun a ha b hb e => ?_⟩
    simp at hb
    subst hb
    rw [e] at ha
    exact h2 ha
  · intro hn h; cases h; exact hn
theorem level_ok {a : Nat} {d d' : Decls} {ms r : List Mk} (ha : 1 ≤ a ∧ a ≤ 3) (h : DOk d) (he : level a d ms = .ok d' r) : DOk d' := by
  unfold level at he
  split at he
  · cases he
  · cases hn : names (levelled d) ms.tail [] with
    | bad e r' => rw [hn] at he; cases he
    | ok l r' =>
      rw [hn] at he
      simp only [] at he
      split at he
      · cases he
      · rename_i hl
        cases he
        have h2 := names_nodup (by simpa using h.lev) hn
        refine ⟨h.toks, h.ntok, h.nskip, by simp; have := h.nlev; omega, ?_, ?_, h.start⟩
        · have : levelled { d with levels := d.levels ++ [⟨a, l⟩] } = levelled d ++ l := by simp [levelled]
          rw [this]; exact h2
        · intro x hx
          rcases List.mem_append.1 hx with hx | hx
          · exact h.each x hx
          · simp at hx; subst hx; exact ⟨hl, ha⟩
theorem start_ok {d d' : Decls} {ms r : List Mk} (h : DOk d) (ht : Tx ms) (hk : (hd ms).kind ≠ 0) (he : start d ms = .ok d' r) : DOk d' := by
  unfold start at he
  split at he
  · cases he
  · split at he
    · rename_i h1
      cases he
      exact ⟨h.toks, h.ntok, h.nskip, h.nlev, h.lev, h.each, fun _ => (ht.sf (Sf.tail hk)).hd h1⟩
    · cases he
theorem decl_ok {d d' : Decls} {ms r : List Mk} (h : DOk d) (ht : Tx ms) (he : decl d ms = .ok d' r) : DOk d' := by
  unfold decl at he
  split at he
  · rename_i hk
    revert he
    generalize wordNo _ = k
    intro he
    match k, he with
    | 0, he => exact token_ok h he
    | 1, he => exact skip_ok h he
    | 2, he => exact level_ok (by decide) h he
    | 3, he => exact level_ok (by decide) h he
    | 4, he => exact level_ok (by decide) h he
    | 5, he => exact start_ok h ht (by omega) he
    | _ + 6, he => cases he
  · cases he
theorem decls_ok {f : Nat} {d d' : Decls} {ms r : List Mk} (h : DOk d) (ht : Tx ms) (he : decls f d ms = .ok d' r) : DOk d' := by
  induction f generalizing d ms with
  | zero => unfold decls at he; cases he
  | succ f ih =>
    unfold decls at he
    split at he
    · cases he; exact h
    · have h1 := decl_sf d ms
      cases hd : decl d ms with
      | bad e r' => rw [hd] at he; cases he
      | ok d2 r' =>
        rw [hd] at he h1
        exact ih (decl_ok h ht hd) (ht.sf h1) he
/-- Rules that are read: each has a name, and no more on its right than may be. -/
def ROk (rs : List Rule) : Prop := rs.length ≤ 40 ∧ ∀ r ∈ rs, r.left ≠ [] ∧ r.right.length ≤ 8
theorem rights_len {ms : List Mk} {acc l : List Name} {r : List Mk} : acc.length ≤ 8 → rights ms acc = .ok l r → l.length ≤ 8 := by
  fun_induction rights ms acc
  · intro hn h; cases h; exact hn
  · intro hn h; cases h
  · rename_i m r acc h1 h2 ih
    intro hn h
    exact ih (by simp; omega) h
  · intro hn h; cases h; exact hn
theorem alt_ok {left : Name} {n : Nat} {ms r : List Mk} {x : Rule} (he : alt left n ms = .ok x r) : n ≠ 40 ∧ x.left = left ∧ x.right.length ≤ 8 := by
  unfold alt at he
  split at he
  · cases he
  · rename_i hn
    cases hr : rights ms [] with
    | bad e r' => rw [hr] at he; cases he
    | ok l r' =>
      rw [hr] at he
      simp only [] at he
      have hl := rights_len (by simp) hr
      cases hp : prec r' with
      | bad e r2 => rw [hp] at he; cases he
      | ok p r2 =>
        rw [hp] at he
        simp only [] at he
        unfold action at he
        split at he <;> cases he <;> exact ⟨hn, rfl, hl⟩
theorem alts_ok_ {f : Nat} {left : Name} {acc rs : List Rule} {ms r : List Mk} (h : ROk acc) (hl : left ≠ []) (he : alts f left acc ms = .ok rs r) : ROk rs := by
  induction f generalizing acc ms with
  | zero => unfold alts at he; cases he
  | succ f ih =>
    unfold alts at he
    cases ha : alt left acc.length ms with
    | bad e r' => rw [ha] at he; cases he
    | ok x r' =>
      rw [ha] at he
      simp only [] at he
      obtain ⟨h1, h2, h3⟩ := alt_ok ha
      have hn : ROk (acc ++ [x]) := ⟨by simp; have := h.1; omega, fun y hy => by
        rcases List.mem_append.1 hy with hy | hy
        · exact h.2 y hy
        · simp at hy; subst hy; exact ⟨by rw [h2]; exact hl, h3⟩⟩
      split at he
      · cases he; exact hn
      · split at he
        · exact ih hn he
        · cases he
theorem rule_ok_ {acc rs : List Rule} {ms r : List Mk} (h : ROk acc) (ht : Tx ms) (he : rule acc ms = .ok rs r) : ROk rs := by
  unfold rule at he
  split at he
  · cases he
  · rename_i h1
    split at he
    · cases he
    · exact alts_ok_ h (ht.hd (by omega)) he
theorem rules_ok_ {f : Nat} {acc rs : List Rule} {ms r : List Mk} (h : ROk acc) (ht : Tx ms) (he : rules f acc ms = .ok rs r) : ROk rs := by
  induction f generalizing acc ms with
  | zero => unfold rules at he; cases he
  | succ f ih =>
    unfold rules at he
    have h1 := rule_sf acc ms
    cases hd : rule acc ms with
    | bad e r' => rw [hd] at he; cases he
    | ok d' r' =>
      rw [hd] at he h1
      simp only [] at he
      split at he
      · cases he; exact rule_ok_ h ht hd
      · exact ih (rule_ok_ h ht hd) (ht.sf h1) he
structure GOk (G : G) : Prop where
  toks : (G.toks.map Tok.name).Nodup
  ntok : G.toks.length ≤ 20
  nskip : G.skips.length ≤ 4
  nlev : G.levels.length ≤ 10
  lev : (G.levels.flatMap Lev.names).Nodup
  each : ∀ l ∈ G.levels, l.names ≠ [] ∧ 1 ≤ l.assoc ∧ l.assoc ≤ 3
  start : G.start ≠ []
  rules : G.rules ≠ []
  rok : ROk G.rules
theorem parse_ok {ms r : List Mk} {g : G} (ht : Tx ms) (he : parse ms = .ok g r) : GOk g := by
  unfold parse at he
  cases hd : decls (ms.length + 1) none_ ms with
  | bad e r => rw [hd] at he; cases he
  | ok d r =>
    rw [hd] at he
    simp only [] at he
    have h1 := decls_sf (ms.length + 1) none_ ms
    rw [hd] at h1
    have h2 := decls_ok DOk.none_ ht hd
    cases hr : rules (r.length + 1) [] r with
    | bad e r' => rw [hr] at he; cases he
    | ok rs r' =>
      rw [hr] at he
      cases he
      have h3 := rules_ne hr
      have h4 := rules_ok_ ⟨by simp, by simp⟩ (ht.sf h1) hr
      refine ⟨h2.toks, h2.ntok, h2.nskip, h2.nlev, h2.lev, h2.each, ?_, h3, h4⟩
      unfold startOf
      split
      · exact h2.start ‹_›
      · obtain ⟨x, l, rfl⟩ := List.exists_cons_of_ne_nil h3
        exact (h4.2 x (by simp)).1

theorem names_count {lev : List Name} {ms : List Mk} {acc l : List Name} {r : List Mk} : names lev ms acc = .ok l r → l.length + r.length = acc.length + ms.length := by
  fun_induction names lev ms acc
  · intro h; cases h; rfl
  · intro h; cases h
  · rename_i m r acc h1 h2 ih
    intro h
    have := ih h
    simp at this ⊢; omega
  · intro h; cases h; rfl
theorem decl_count {d d' : Decls} {ms r : List Mk} (he : decl d ms = .ok d' r) : (levelled d').length + r.length ≤ (levelled d).length + ms.length := by
  have hl := decl_less d ms
  rw [he] at hl
  have hl' : r.length < ms.length := hl
  have hlev : ∀ a, level a d ms = .ok d' r → (levelled d').length + r.length ≤ (levelled d).length + ms.length := by
    intro a h
    unfold level at h
    split at h
    · cases h
    · cases hn : names (levelled d) ms.tail [] with
      | bad e r' => rw [hn] at h; cases h
      | ok l r' =>
        rw [hn] at h
        simp only [] at h
        split at h
        · cases h
        · cases h
          have h1 := names_count hn
          have : levelled { d with levels := d.levels ++ [⟨a, l⟩] } = levelled d ++ l := by simp [levelled]
          rw [this, List.length_append]
          simp at h1; omega
  unfold decl at he
  split at he
  · revert he
    generalize wordNo _ = k
    intro he
    match k, he with
    | 0, he =>
      simp only [declNo] at he
      unfold token at he
      repeat' split at he
      all_goals first
        | (cases he; done)
        | (cases he; simp only [levelled] at *; omega)
    | 1, he =>
      simp only [declNo] at he
      unfold skip at he
      repeat' split at he
      all_goals first
        | (cases he; done)
        | (cases he; simp only [levelled] at *; omega)
    | 2, he => exact hlev 1 he
    | 3, he => exact hlev 2 he
    | 4, he => exact hlev 3 he
    | 5, he =>
      simp only [declNo] at he
      unfold start at he
      repeat' split at he
      all_goals first
        | (cases he; done)
        | (cases he; simp only [levelled] at *; omega)
    | _ + 6, he => cases he
  · cases he
theorem decls_count {f : Nat} {d d' : Decls} {ms r : List Mk} (he : decls f d ms = .ok d' r) : (levelled d').length + r.length ≤ (levelled d).length + ms.length := by
  induction f generalizing d ms with
  | zero => unfold decls at he; cases he
  | succ f ih =>
    unfold decls at he
    split at he
    · cases he; simp
    · cases hd : decl d ms with
      | bad e r' => rw [hd] at he; cases he
      | ok d2 r' =>
        rw [hd] at he
        have h1 := decl_count hd
        have h2 := ih he
        omega
theorem parse_count {ms r : List Mk} {g : G} (he : parse ms = .ok g r) : (g.levels.flatMap Lev.names).length ≤ ms.length := by
  unfold parse at he
  cases hd : decls (ms.length + 1) none_ ms with
  | bad e r => rw [hd] at he; cases he
  | ok d r =>
    rw [hd] at he
    simp only [] at he
    have h1 := decls_count hd
    cases hr : rules (r.length + 1) [] r with
    | bad e r' => rw [hr] at he; cases he
    | ok rs r' =>
      rw [hr] at he
      cases he
      have e0 : (levelled none_).length = 0 := rfl
      show (levelled d).length ≤ _
      omega

/-! ## Of a text -/
theorem lex_marks_good {l : List UInt8} {ms : List Lx.M0} (h : Lx.lex l = .ok ms) : Good (ms.map (Lx.mkOf l)) ∧ Tx (ms.map (Lx.mkOf l)) ∧ ∀ m ∈ ms.map (Lx.mkOf l), ∃ i, i ≤ l.length ∧ Lx.pos l i = (m.line, m.col) := by
  obtain ⟨ms0, rfl, ho⟩ := Lx.lex_good h
  have he := Lx.lex_each h
  refine ⟨⟨ms0.map (Lx.mkOf l), Lx.mkOf l (0, [], l.length), by simp, rfl⟩, fun m hm hk => ?_, fun m hm => ?_⟩
  · obtain ⟨m0, hm0, rfl⟩ := List.mem_map.1 hm
    exact (he m0 hm0).2 hk
  · obtain ⟨m0, hm0, rfl⟩ := List.mem_map.1 hm
    refine ⟨m0.2.2, ?_, rfl⟩
    rcases List.mem_append.1 hm0 with h1 | h1
    · have := (ho.each m0 h1).2.2; omega
    · simp at h1; subst h1; exact Nat.le_refl _
theorem read_bad {l : List UInt8} {c : Nat} {P : Nat × Nat} (h : readD l = (c, P.1, P.2)) (hc : c ≠ 0) : (∃ i, i ≤ l.length ∧ Lx.pos l i = P) ∧ readG l = zero := by
  unfold readD at h
  unfold readG
  cases hx : Lx.lex l with
  | bad c' i =>
    rw [hx] at h
    simp only [Prod.mk.injEq] at h
    exact ⟨⟨i, (Lx.lex_at hx).2.2, Prod.ext h.2.1 h.2.2⟩, rfl⟩
  | ok ms =>
    rw [hx] at h
    simp only [] at h ⊢
    obtain ⟨h1, h2, h3⟩ := lex_marks_good hx
    cases hp : parse (ms.map (Lx.mkOf l)) with
    | ok g r =>
      rw [hp] at h
      simp only [Res.diag, Prod.mk.injEq] at h
      omega
    | bad e r =>
      rw [hp] at h
      simp only [Res.diag, Prod.mk.injEq] at h
      refine ⟨?_, rfl⟩
      obtain ⟨_, hm⟩ := parse_bad hp h1
      obtain ⟨i, hi, he⟩ := h3 _ hm
      exact ⟨i, hi, by rw [he]; exact Prod.ext h.2.1 h.2.2⟩
theorem read_good {l : List UInt8} {P : Nat × Nat} (h : readD l = (0, P.1, P.2)) : GOk (readG l) ∧ ((readG l).levels.flatMap Lev.names).length ≤ 4001 := by
  unfold readD at h
  unfold readG
  cases hx : Lx.lex l with
  | bad c' i =>
    rw [hx] at h
    simp only [Prod.mk.injEq] at h
    have := (Lx.lex_at hx).1
    omega
  | ok ms =>
    rw [hx] at h
    simp only [] at h ⊢
    obtain ⟨h1, h2, h3⟩ := lex_marks_good hx
    cases hp : parse (ms.map (Lx.mkOf l)) with
    | ok g r =>
      refine ⟨parse_ok h2 hp, ?_⟩
      have h4 := parse_count hp
      have h5 := lex_count hx
      have h6 := Lx.lex_len hx
      simp at h4
      show (g.levels.flatMap Lev.names).length ≤ _
      simp; omega
    | bad e r =>
      rw [hp] at h
      simp only [Res.diag, Prod.mk.injEq] at h
      exact absurd h.1 (parse_code hp)
end Rd
end Go.Proofs.YtgmihbfikggkjaaDoor
