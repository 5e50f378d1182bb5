/-
  What is read can be read: each grammar that the reader reads is one that the printer prints.
  The walks of printer.Canon, tronagelaw07.PrinterReads.
  The walk of tronagelaw07.PrinterReads.
-/
import Derived.Test.YtgmihbfikggkjaaGreatDoorPrAA
import Derived.Test.YtgmihbfikggkjaaGreatDoorPrU
import Derived.Test.YtgmihbfikggkjaaGreatDoorPrP
namespace Go.Proofs.YtgmihbfikggkjaaGreatDoor
namespace Pr
open Lx (Mk M0 Step isName isLetter isSmall)
open Rd (Name Pat Tok Lev Rule G Decls Res)
set_option linter.unusedVariables false
set_option linter.unusedSimpArgs false

/-! ## Marks -/
/-- What a mark's text is like, by its kind. -/
def MkOk (k : Nat) (t : List UInt8) : Prop := (k = 1 → nameOk t = true) ∧ (k = 3 → t ≠ [] ∧ t.length ≤ 32) ∧ (k = 4 → t ≠ [] ∧ rises t = true) ∧ (k = 9 → actOk t = true)
theorem text_ok (l told : List UInt8) (i : Nat) {k n : Nat} {t : List UInt8} (h : Lx.text l told i = .mark k t n) : k = 3 ∧ t ≠ [] ∧ t.length ≤ 32 := by
  fun_induction Lx.text l told i
  all_goals first
    | (cases h; done)
    | (rename_i ih; exact ih h)
    | (rename_i h1 h2; cases h; exact ⟨rfl, h1, by omega⟩)
theorem rises_range (n : Nat) : ∀ a, a + n ≤ 256 → ∀ F : Nat → Bool, rises (((List.range' a n).filter F).map UInt8.ofNat) = true ∧ ∀ x ∈ ((List.range' a n).filter F).map UInt8.ofNat, a ≤ x.toNat := by
  induction n with
  | zero => intro a _ F; exact ⟨rfl, by simp⟩
  | succ n ih =>
    intro a ha F
    obtain ⟨h1, h2⟩ := ih (a + 1) (by omega) F
    rw [List.range'_succ]
    by_cases hF : F a = true
    · rw [List.filter_cons_of_pos hF, List.map_cons]
      have ht : (UInt8.ofNat a).toNat = a := by simp; omega
      refine ⟨?_, fun x hx => ?_⟩
      · generalize hl : ((List.range' (a + 1) n).filter F).map UInt8.ofNat = l at h1 h2
        cases l with
        | nil => rfl
        | cons b r =>
          unfold rises
          have := h2 b (by simp)
          rw [Bool.and_eq_true, decide_eq_true_eq]
          exact ⟨UInt8.lt_iff_toNat_lt.2 (by omega), h1⟩
      · rcases List.mem_cons.1 hx with rfl | hx
        · omega
        · have := h2 x hx; omega
    · rw [List.filter_cons_of_neg hF]
      exact ⟨h1, fun x hx => by have := h2 x hx; omega⟩
theorem rising_rises (F : Nat → Bool) : rises (Lx.rising F) = true := by
  unfold Lx.rising
  rw [List.range_eq_range']
  exact (rises_range 256 0 (by omega) F).1
theorem cls_ok (l : List UInt8) (i : Nat) (p : Lx.Parts) {k n : Nat} {t : List UInt8} (h : Lx.cls l i p = .mark k t n) : k = 4 ∧ t ≠ [] ∧ rises t = true := by
  fun_induction Lx.cls l i p
  all_goals first
    | (cases h; done)
    | (rename_i ih; exact ih h)
    | (rename_i h1 h2; cases h; exact ⟨rfl, h2, rising_rises _⟩)
theorem act_self (l acc : List UInt8) (o : Nat) {k n : Nat} {t : List UInt8} (h : Lx.act l acc o = .mark k t n) : ∃ s, t = acc ++ s ∧ Lx.act (s ++ [125]) acc o = .mark k t n := by
  induction l generalizing acc o with
  | nil => simp [Lx.act] at h
  | cons c l ih =>
    rw [Lx.act.eq_def] at h
    simp only [] at h
    split at h
    · rename_i hc
      split at h
      · cases h
      · rename_i ho
        obtain ⟨s, h1, h2⟩ := ih _ _ h
        refine ⟨c :: s, by rw [h1]; simp, ?_⟩
        rw [List.cons_append, Lx.act.eq_def]
        simp only [if_pos hc, if_neg ho]
        exact h2
    · rename_i hc
      split at h
      · rename_i hd
        split at h
        · rename_i ho
          split at h
          · cases h
          · rename_i hl
            cases h
            refine ⟨[], by simp, ?_⟩
            rw [List.nil_append, Lx.act.eq_def]
            simp only [if_neg (show ¬ (125 : UInt8) = 123 by decide), if_true, if_pos ho, if_neg hl]
        · rename_i ho
          obtain ⟨s, h1, h2⟩ := ih _ _ h
          refine ⟨c :: s, by rw [h1]; simp, ?_⟩
          rw [List.cons_append, Lx.act.eq_def]
          simp only [if_neg hc, if_pos hd, if_neg ho]
          exact h2
      · rename_i hd
        obtain ⟨s, h1, h2⟩ := ih _ _ h
        refine ⟨c :: s, by rw [h1]; simp, ?_⟩
        rw [List.cons_append, Lx.act.eq_def]
        simp only [if_neg hc, if_neg hd]
        exact h2
theorem nameOf_ok {c : UInt8} {r : List UInt8} (hc : isLetter c = true) (h32 : ¬ 32 < (Lx.nameOf (c :: r)).length) : nameOk (Lx.nameOf (c :: r)) = true := by
  have e : ∀ (d : UInt8) (q : List UInt8), Lx.nameOf (d :: q) = if isLetter d then (d :: q).takeWhile isName else [] := fun _ _ => rfl
  have hn : isName c = true := by unfold isName; rw [hc]; rfl
  have e1 : Lx.nameOf (c :: r) = c :: r.takeWhile isName := by rw [e, if_pos hc, List.takeWhile_cons_of_pos hn]
  rw [e1] at h32 ⊢
  unfold nameOk
  simp only [Bool.and_eq_true, decide_eq_true_eq, bne_iff_ne, beq_iff_eq]
  refine ⟨by omega, by simp, ?_⟩
  rw [e, if_pos hc, List.takeWhile_cons_of_pos hn]
  congr 1
  have : ∀ l : List UInt8, (l.takeWhile isName).takeWhile isName = l.takeWhile isName := by
    intro l
    induction l with
    | nil => rfl
    | cons a l ih =>
      by_cases ha : isName a = true
      · rw [List.takeWhile_cons_of_pos ha, List.takeWhile_cons_of_pos ha, ih]
      · rw [List.takeWhile_cons_of_neg ha]; rfl
  exact this r
theorem word_kind2 (l : List UInt8) {k n : Nat} {t : List UInt8} (h : Lx.word l = .mark k t n) : k = 2 := by
  unfold Lx.word at h
  split at h
  · cases h; rfl
  · cases h
theorem step_ok (l : List UInt8) {k n : Nat} {t : List UInt8} (h : Lx.step l = .mark k t n) : MkOk k t := by
  cases l with
  | nil => simp [Lx.step] at h
  | cons c r =>
    rw [Lx.step.eq_def] at h
    simp only [] at h
    split at h
    · cases h
    · split at h
      · cases h
      · split at h
        · rename_i hc
          split at h
          · cases h
          · rename_i h32
            cases h
            exact ⟨fun _ => nameOf_ok hc h32, fun e => by omega, fun e => by omega, fun e => by omega⟩
        · split at h
          · have := word_kind2 _ h
            subst this
            exact ⟨fun e => by omega, fun e => by omega, fun e => by omega, fun e => by omega⟩
          · split at h
            · obtain ⟨rfl, h1, h2⟩ := text_ok _ _ _ h
              exact ⟨fun e => by omega, fun _ => ⟨h1, h2⟩, fun e => by omega, fun e => by omega⟩
            · split at h
              · obtain ⟨rfl, h1, h2⟩ := cls_ok _ _ _ h
                exact ⟨fun e => by omega, fun e => by omega, fun _ => ⟨h1, h2⟩, fun e => by omega⟩
              · split at h
                · obtain ⟨rfl, hn, _⟩ := act_mark _ _ _ h
                  obtain ⟨s, h1, h2⟩ := act_self _ _ _ h
                  simp only [List.nil_append] at h1
                  subst h1
                  refine ⟨fun e => by omega, fun e => by omega, fun e => by omega, fun _ => ?_⟩
                  unfold actOk
                  rw [beq_iff_eq, h2, hn]
                · split at h
                  · cases h; exact ⟨fun e => by omega, fun e => by omega, fun e => by omega, fun e => by omega⟩
                  · split at h
                    · cases h; exact ⟨fun e => by omega, fun e => by omega, fun e => by omega, fun e => by omega⟩
                    · split at h
                      · cases h; exact ⟨fun e => by omega, fun e => by omega, fun e => by omega, fun e => by omega⟩
                      · split at h
                        · cases h; exact ⟨fun e => by omega, fun e => by omega, fun e => by omega, fun e => by omega⟩
                        · cases h
theorem run_ok : ∀ (f : Nat) (l : List UInt8) (i : Nat) (acc ms : List M0), (∀ m ∈ acc, MkOk m.1 m.2.1) → Lx.run f l i acc = .ok ms → ∀ m ∈ ms, MkOk m.1 m.2.1 := by
  have h0 : MkOk 0 [] := ⟨fun e => by omega, fun e => by omega, fun e => by omega, fun e => by omega⟩
  intro f
  induction f with
  | zero => intro l i acc ms ha h; simp [Lx.run] at h; subst h; exact ha
  | succ f ih =>
    intro l i acc ms ha h
    rw [Lx.run] at h
    split at h
    · cases h
      intro m hm
      rcases List.mem_append.1 hm with hm | hm
      · exact ha m hm
      · simp at hm; subst hm; exact h0
    · split at h
      · exact ih _ _ _ _ ha h
      · rename_i hs
        refine ih _ _ _ _ (fun m hm => ?_) h
        rcases List.mem_append.1 hm with hm | hm
        · exact ha m hm
        · simp at hm; subst hm; exact step_ok _ hs
      · cases h
def Mx (ms : List Mk) : Prop := ∀ m ∈ ms, MkOk m.kind m.text
theorem Mx.hd {ms : List Mk} (h : Mx ms) : MkOk (Rd.hd ms).kind (Rd.hd ms).text := by
  cases ms with
  | nil => exact ⟨fun e => by simp [Rd.hd_nil] at e, fun e => by simp [Rd.hd_nil] at e, fun e => by simp [Rd.hd_nil] at e, fun e => by simp [Rd.hd_nil] at e⟩
  | cons m r => exact h m (by simp)
theorem Mx.tail {ms : List Mk} (h : Mx ms) : Mx ms.tail := fun m hm => h m (List.mem_of_mem_tail hm)
theorem Mx.sf {ms r : List Mk} (h : Mx ms) (k : Rd.Sf ms r) : Mx r := fun m hm => h m (k.suf.subset hm)
theorem lex_mx {l : List UInt8} {ms : List M0} (h : Lx.lex l = .ok ms) : Mx (ms.map (Lx.mkOf l)) := by
  unfold Lx.lex at h
  split at h
  · cases h
  · intro m hm
    obtain ⟨x, hx, rfl⟩ := List.mem_map.1 hm
    exact run_ok _ _ _ _ _ (by simp) h x hx

/-! ## What is read of them -/
theorem pattern_good {ms r : List Mk} {p : Pat} (h : Mx ms) (he : Rd.pattern ms = .ok p r) : patOk p = true := by
  unfold Rd.pattern at he
  split at he
  · rename_i h3
    cases he
    obtain ⟨h1, h2⟩ := h.hd.2.1 h3
    unfold patOk
    rw [if_neg h1]
    simp [h2]
  · split at he
    · rename_i h4
      obtain ⟨h1, h2⟩ := h.hd.2.2.1 h4
      split at he <;> cases he <;> (unfold patOk; simp [h1, h2])
    · cases he
structure DGood (d : Decls) : Prop where
  toks : ∀ t ∈ d.toks, tokOk t = true
  skips : ∀ p ∈ d.skips, patOk p = true
  lev : ∀ v ∈ d.levels, v.names.all nameOk = true
  start : d.started = true → nameOk d.start = true
theorem token_good {d d' : Decls} {ms r : List Mk} (h : DGood d) (hm : Mx ms) (he : Rd.token d ms = .ok d' r) : DGood d' := by
  unfold Rd.token at he
  split at he
  · cases he
  · rename_i h1
    split at he
    · cases he
    · split at he
      · cases he
      · cases hp : Rd.pattern ms.tail.tail with
        | bad e r' => rw [hp] at he; cases he
        | ok p r' =>
          rw [hp] at he
          cases he
          refine ⟨fun t ht => ?_, h.skips, h.lev, h.start⟩
          rcases List.mem_append.1 ht with ht | ht
          · exact h.toks t ht
          · simp at ht
            subst ht
            unfold tokOk
            rw [Bool.and_eq_true]
            exact ⟨hm.tail.hd.1 (by simpa using h1), pattern_good hm.tail.tail hp⟩
theorem skip_good {d d' : Decls} {ms r : List Mk} (h : DGood d) (hm : Mx ms) (he : Rd.skip d ms = .ok d' r) : DGood d' := by
  unfold Rd.skip at he
  split at he
  · cases he
  · cases hp : Rd.pattern ms.tail with
    | bad e r' => rw [hp] at he; cases he
    | ok p r' =>
      rw [hp] at he
      cases he
      refine ⟨h.toks, fun t ht => ?_, h.lev, h.start⟩
      rcases List.mem_append.1 ht with ht | ht
      · exact h.skips t ht
      · simp at ht; subst ht; exact pattern_good hm.tail hp
theorem names_good {lev : List Name} {ms : List Mk} {acc l : List Name} {r : List Mk} (hm : Mx ms) (ha : ∀ n ∈ acc, nameOk n = true) (he : Rd.names lev ms acc = .ok l r) : ∀ n ∈ l, nameOk n = true := by
  induction ms generalizing acc with
  | nil => simp [Rd.names] at he; rw [← he.1]; exact ha
  | cons m ms ih =>
    rw [Rd.names] at he
    split at he
    · rename_i h1
      split at he
      · cases he
      · refine ih (fun x hx => hm x (by simp [hx])) (fun n hn => ?_) he
        rcases List.mem_append.1 hn with hn | hn
        · exact ha n hn
        · simp at hn; subst hn; exact (hm m (by simp)).1 h1
    · cases he; exact ha
theorem level_good {a : Nat} {d d' : Decls} {ms r : List Mk} (h : DGood d) (hm : Mx ms) (he : Rd.level a d ms = .ok d' r) : DGood d' := by
  unfold Rd.level at he
  split at he
  · cases he
  · cases hn : Rd.names (Rd.levelled d) ms.tail [] with
    | bad e r' => rw [hn] at he; cases he
    | ok l r' =>
      rw [hn] at he
      simp only [] at he
      split at he
      · cases he
      · cases he
        refine ⟨h.toks, h.skips, fun v hv => ?_, h.start⟩
        rcases List.mem_append.1 hv with hv | hv
        · exact h.lev v hv
        · simp at hv
          subst hv
          rw [List.all_eq_true]
          exact names_good hm.tail (by simp) hn
theorem start_good {d d' : Decls} {ms r : List Mk} (h : DGood d) (hm : Mx ms) (he : Rd.start d ms = .ok d' r) : DGood d' := by
  unfold Rd.start at he
  split at he
  · cases he
  · split at he
    · rename_i h1
      cases he
      exact ⟨h.toks, h.skips, h.lev, fun _ => hm.tail.hd.1 h1⟩
    · cases he
theorem decl_good {d d' : Decls} {ms r : List Mk} (h : DGood d) (hm : Mx ms) (he : Rd.decl d ms = .ok d' r) : DGood d' := by
  unfold Rd.decl at he
  split at he
  · revert he
    generalize Rd.wordNo _ = k
    intro he
    match k, he with
    | 0, he => exact token_good h hm he
    | 1, he => exact skip_good h hm he
    | 2, he => exact level_good h hm he
    | 3, he => exact level_good h hm he
    | 4, he => exact level_good h hm he
    | 5, he => exact start_good h hm he
    | _ + 6, he => cases he
  · cases he
theorem decls_good {f : Nat} {d d' : Decls} {ms r : List Mk} (h : DGood d) (hm : Mx ms) (he : Rd.decls f d ms = .ok d' r) : DGood d' := by
  induction f generalizing d ms with
  | zero => unfold Rd.decls at he; cases he
  | succ f ih =>
    unfold Rd.decls at he
    split at he
    · cases he; exact h
    · have h1 := Rd.decl_sf d ms
      cases hd : Rd.decl d ms with
      | bad e r' => rw [hd] at he; cases he
      | ok d2 r' =>
        rw [hd] at he h1
        exact ih (decl_good h hm hd) (hm.sf h1) he
theorem rights_good {ms : List Mk} {acc l : List Name} {r : List Mk} (hm : Mx ms) (ha : ∀ n ∈ acc, nameOk n = true) (he : Rd.rights ms acc = .ok l r) : ∀ n ∈ l, nameOk n = true := by
  induction ms generalizing acc with
  | nil => simp [Rd.rights] at he; rw [← he.1]; exact ha
  | cons m ms ih =>
    rw [Rd.rights] at he
    split at he
    · rename_i h1
      split at he
      · cases he
      · refine ih (fun x hx => hm x (by simp [hx])) (fun n hn => ?_) he
        rcases List.mem_append.1 hn with hn | hn
        · exact ha n hn
        · simp at hn; subst hn; exact (hm m (by simp)).1 h1
    · cases he; exact ha
theorem prec_good {ms r : List Mk} {p : Name} (hm : Mx ms) (he : Rd.prec ms = .ok p r) : p = [] ∨ nameOk p = true := by
  unfold Rd.prec at he
  split at he
  · split at he
    · rename_i h1; cases he; exact .inr (hm.tail.hd.1 h1)
    · cases he
  · cases he; exact .inl rfl
theorem actOk_nil : actOk [] = true := by decide
theorem alt_good {left : Name} {n : Nat} {ms r : List Mk} {x : Rule} (hl : nameOk left = true) (hm : Mx ms) (he : Rd.alt left n ms = .ok x r) : ruleOk x = true := by
  have h8 := (Rd.alt_ok he).2.2
  unfold Rd.alt at he
  split at he
  · cases he
  · have s1 := Rd.rights_sf ms []
    cases hr : Rd.rights ms [] with
    | bad e r' => rw [hr] at he; cases he
    | ok l r' =>
      rw [hr] at he s1
      simp only [] at he
      have m1 : Mx r' := hm.sf s1
      have s2 := Rd.prec_sf r'
      have hln := rights_good hm (by simp) hr
      cases hp : Rd.prec r' with
      | bad e r2 => rw [hp] at he; cases he
      | ok p r2 =>
        rw [hp] at he s2
        simp only [] at he
        have m2 : Mx r2 := m1.sf s2
        have hpp := prec_good m1 hp
        unfold Rd.action at he
        unfold ruleOk
        simp only [Bool.and_eq_true, Bool.or_eq_true, decide_eq_true_eq, beq_iff_eq, List.all_eq_true]
        split at he
        · rename_i h9
          cases he
          exact ⟨hl, h8, hln, hpp, m2.hd.2.2.2 h9⟩
        · cases he
          exact ⟨hl, h8, hln, hpp, actOk_nil⟩
theorem alts_good {f : Nat} {left : Name} {acc rs : List Rule} {ms r : List Mk} (h : ∀ x ∈ acc, ruleOk x = true) (hl : nameOk left = true) (hm : Mx ms) (he : Rd.alts f left acc ms = .ok rs r) : ∀ x ∈ rs, ruleOk x = true := by
  induction f generalizing acc ms with
  | zero => unfold Rd.alts at he; cases he
  | succ f ih =>
    unfold Rd.alts at he
    have s1 := Rd.alt_sf left acc.length ms
    cases ha : Rd.alt left acc.length ms with
    | bad e r' => rw [ha] at he; cases he
    | ok x r' =>
      rw [ha] at he s1
      simp only [] at he
      have hx := alt_good hl hm ha
      have hn : ∀ y ∈ acc ++ [x], ruleOk y = true := fun y hy => by
        rcases List.mem_append.1 hy with hy | hy
        · exact h y hy
        · simp at hy; subst hy; exact hx
      split at he
      · cases he; exact hn
      · split at he
        · exact ih hn (show Mx r'.tail from Mx.tail (hm.sf s1)) he
        · cases he
theorem rule_good {acc rs : List Rule} {ms r : List Mk} (h : ∀ x ∈ acc, ruleOk x = true) (hm : Mx ms) (he : Rd.rule acc ms = .ok rs r) : ∀ x ∈ rs, ruleOk x = true := by
  unfold Rd.rule at he
  split at he
  · cases he
  · rename_i h1
    split at he
    · cases he
    · exact alts_good h (hm.hd.1 (by simpa using h1)) hm.tail.tail he
theorem rules_good {f : Nat} {acc rs : List Rule} {ms r : List Mk} (h : ∀ x ∈ acc, ruleOk x = true) (hm : Mx ms) (he : Rd.rules f acc ms = .ok rs r) : ∀ x ∈ rs, ruleOk x = true := by
  induction f generalizing acc ms with
  | zero => unfold Rd.rules at he; cases he
  | succ f ih =>
    unfold Rd.rules at he
    have s1 := Rd.rule_sf acc ms
    cases hd : Rd.rule acc ms with
    | bad e r' => rw [hd] at he; cases he
    | ok d' r' =>
      rw [hd] at he s1
      simp only [] at he
      split at he
      · cases he; exact rule_good h hm hd
      · exact ih (rule_good h hm hd) (hm.sf s1) he
/-- What is read can be read again. -/
theorem read_right {l : List UInt8} {P : Nat × Nat} (h : Rd.readD l = (0, P.1, P.2)) : Right (Rd.readG l) ∧ (lvl (Rd.readG l)).length ≤ 4001 := by
  obtain ⟨hok, hcount⟩ := Rd.read_good h
  refine ⟨?_, hcount⟩
  unfold Rd.readD at h
  unfold Rd.readG at hok ⊢
  cases hx : Lx.lex l with
  | bad c i =>
    rw [hx] at h
    simp only [] at h
    have := Lx.lex_at hx
    injection h with h _
    omega
  | ok ms =>
    rw [hx] at h hok
    simp only [] at h hok ⊢
    have hm := lex_mx hx
    generalize ms.map (Lx.mkOf l) = MS at h hm hok ⊢
    cases hp : Rd.parse MS with
    | bad e r =>
      rw [hp] at h
      have := Rd.parse_code hp
      simp only [Rd.Res.diag] at h
      injection h with h _
      exact absurd h this
    | ok g r =>
      rw [hp] at hok
      simp only [Rd.Res.grammar] at hok ⊢
      unfold Rd.parse at hp
      have s1 := Rd.decls_sf (MS.length + 1) Rd.none_ MS
      cases hd : Rd.decls (MS.length + 1) Rd.none_ MS with
      | bad e r' => rw [hd] at hp; cases hp
      | ok d r' =>
        rw [hd] at hp s1
        simp only [] at hp
        have hdg := decls_good (d := Rd.none_) ⟨by simp [Rd.none_], by simp [Rd.none_], by simp [Rd.none_], by simp [Rd.none_]⟩ hm hd
        cases hr : Rd.rules (r'.length + 1) [] r' with
        | bad e r2 => rw [hr] at hp; cases hp
        | ok rs r2 =>
          rw [hr] at hp
          cases hp
          have hrg := rules_good (by simp) (show Mx r' from hm.sf s1) hr
          refine ⟨hok.ntok, hok.nskip, hok.nlev, hok.rok.1, hok.rules, ?_, hdg.toks, hdg.skips, fun v hv => ?_, hrg, hok.toks, hok.lev⟩
          · show nameOk (Rd.startOf d rs) = true
            unfold Rd.startOf
            split
            · exact hdg.start ‹_›
            · obtain ⟨x, q, hq⟩ := List.exists_cons_of_ne_nil hok.rules
              have hq : rs = x :: q := hq
              rw [hq]
              have := hrg x (by rw [hq]; simp)
              unfold ruleOk at this
              rw [Bool.and_eq_true] at this
              exact this.1
          · obtain ⟨h1, h2, h3⟩ := hok.each v hv
            unfold levOk
            simp only [Bool.and_eq_true, decide_eq_true_eq, bne_iff_ne]
            exact ⟨⟨h2, h3⟩, h1, hdg.lev v hv⟩
end Pr
end Go.Proofs.YtgmihbfikggkjaaGreatDoor

namespace Go.Proofs.YtgmihbfikggkjaaGreatDoor
open Go.RowKit
open Lx
set_option linter.unusedVariables false
set_option linter.unusedSimpArgs false
set_option maxRecDepth 100000

theorem Right.sz {G : Rd.G} (h : Pr.Right G) (hN : (Pr.lvl G).length ≤ 10000) : Sz G := by
  refine ⟨by have := h.ntok; omega, by have := h.nskip; omega, by have := h.nlev; omega, by have := h.nrule; omega, fun t ht => ?_, fun p hp => ?_, fun v hv => ?_, by have := Pr.name_len h.start; omega, fun r hr => ?_⟩
  · have h1 := h.toks t ht
    unfold Pr.tokOk at h1
    rw [Bool.and_eq_true] at h1
    have h2 := Pr.name_len h1.1
    have h3 := h1.2
    unfold Pr.patOk at h3
    refine ⟨by omega, ?_, ?_⟩
    · by_cases h0 : t.pat.text = []
      · rw [h0]; simp
      · rw [if_neg h0] at h3; simp only [Bool.and_eq_true, decide_eq_true_eq] at h3; omega
    · by_cases h0 : t.pat.text = []
      · rw [if_pos h0] at h3; simp only [Bool.and_eq_true] at h3; have := Pr.rises_len h3.2; omega
      · rw [if_neg h0] at h3; simp only [Bool.and_eq_true, beq_iff_eq] at h3; rw [h3.2.1]; simp
  · have h3 := h.skips p hp
    unfold Pr.patOk at h3
    refine ⟨?_, ?_⟩
    · by_cases h0 : p.text = []
      · rw [h0]; simp
      · rw [if_neg h0] at h3; simp only [Bool.and_eq_true, decide_eq_true_eq] at h3; omega
    · by_cases h0 : p.text = []
      · rw [if_pos h0] at h3; simp only [Bool.and_eq_true] at h3; have := Pr.rises_len h3.2; omega
      · rw [if_neg h0] at h3; simp only [Bool.and_eq_true, beq_iff_eq] at h3; rw [h3.2.1]; simp
  · have h1 := h.levels v hv
    unfold Pr.levOk at h1
    simp only [Bool.and_eq_true, List.all_eq_true] at h1
    refine ⟨?_, fun n hn => by have := Pr.name_len (h1.2.2 n hn); omega⟩
    unfold Pr.lvl at hN
    obtain ⟨s1, s2, hs⟩ := List.append_of_mem hv
    rw [hs] at hN
    simp only [List.flatMap_append, List.flatMap_cons, List.length_append] at hN
    omega
  · have h1 := h.each r hr
    unfold Pr.ruleOk at h1
    simp only [Bool.and_eq_true, Bool.or_eq_true, decide_eq_true_eq, beq_iff_eq, List.all_eq_true] at h1
    obtain ⟨k1, k2, k3, k4, k5⟩ := h1
    refine ⟨by have := Pr.name_len k1; omega, ?_, by have := Pr.action_len k5; omega, by omega, fun n hn => by have := Pr.name_len (k3 n hn); omega⟩
    rcases k4 with h | h
    · rw [h]; simp
    · have := Pr.name_len h; omega
theorem Right.few {G : Rd.G} (h : Pr.Right G) (hN : (Pr.lvl G).length ≤ 10000) : (∀ v ∈ G.levels, v.names.length ≤ 1000000) ∧ (∀ r ∈ G.rules, r.right.length ≤ 1000000) := by
  refine ⟨fun v hv => ?_, fun r hr => ?_⟩
  · unfold Pr.lvl at hN
    obtain ⟨s1, s2, hs⟩ := List.append_of_mem hv
    rw [hs] at hN
    simp only [List.flatMap_append, List.flatMap_cons, List.length_append] at hN
    omega
  · have h1 := h.each r hr
    unfold Pr.ruleOk at h1
    simp only [Bool.and_eq_true, Bool.or_eq_true, decide_eq_true_eq, beq_iff_eq, List.all_eq_true] at h1
    obtain ⟨k1, k2, k3, k4, k5⟩ := h1
    omega
theorem Right.assoc {G : Rd.G} (h : Pr.Right G) : ∀ x ∈ G.levels, 1 ≤ x.assoc ∧ x.assoc ≤ 3 := fun x hx => by
  have h1 := h.levels x hx
  unfold Pr.levOk at h1
  simp only [Bool.and_eq_true, decide_eq_true_eq] at h1
  exact h1.1
theorem printV_right {G : Rd.G} (h : Pr.Right G) : printV G = if 4000 < (Pr.text G).length then .tuple #[.string (str []), .int .i64 12] else .tuple #[.string (str (Pr.text G)), .int .i64 0] := by
  unfold printV
  rw [if_pos ((Pr.rightB_iff G).2 h)]
/-- Print of what is read. -/
theorem print_read {v : Value} {G : Rd.G} {w : World} (h : GramIs w v G) (hr : Pr.Right G) (hN : (Pr.lvl G).length ≤ 4001) (w' : World) (hb : Below w.heap.size w w') (hT : Tab w) (h0 : 1 < w.heap.size) :
    Calls Tryz.prog 8 #[v] w' fun e w'' => e = .returned (printV G) ∧ Below w'.heap.size w' w'' :=
  print_any v G w.heap.size w' ((h.gramC (Right.assoc hr)).below hb) hb.size (Right.sz hr (by omega)) (hT.below hb h0) h0 (fun _ => by omega)

/-- What Canon answers. -/
def canonV (l : List UInt8) : Value :=
  if (Rd.readD l).1 ≠ 0 then .tuple #[.string (str []), diagV (Rd.readD l)]
  else if 4000 < (Pr.text (Rd.readG l)).length then .tuple #[.string (str []), diagV (12, 1, 1)] else .tuple #[.string (str (Pr.text (Rd.readG l))), diagV (0, 0, 0)]

theorem gram_form {w : World} {v : Value} {G : Rd.G} (h : GramIs w v G) : ∃ E1 m1 f1 E2 m2 f2 E3 m3 f3 st E4 m4 f4, v = .agg #[.slice E1 m1 f1, .slice E2 m2 f2, .slice E3 m3 f3, .string st, .slice E4 m4 f4] := by
  obtain ⟨tv, sv, lv, rv, hgv, ⟨E1, f1, rfl, _⟩, ⟨E2, f2, rfl, _⟩, ⟨E3, f3, pl3, rfl, _⟩, ⟨E4, f4, ql3, rfl, _⟩⟩ := h.ex
  exact ⟨_, _, _, _, _, _, _, _, _, _, _, _, _, hgv⟩
theorem diag_new (w : World) : At (w.alloc (.cells #[.int .i64 0, .int .i64 0, .int .i64 0] 45)) w.heap.size 45 #[.int .i64 0, .int .i64 0, .int .i64 0] := At.new _ _ _

set_option maxHeartbeats 2000000 in
theorem canon_any (s : ByteArray) (w : World) (hs : s.size ≤ 9223372036854775806) (hT : Tab w) (h0 : 1 < w.heap.size) :
    Calls Tryz.prog 18 #[.string s] w fun e w' => e = .returned (canonV (bl s)) ∧ Below w.heap.size w w' := by
  have hb0 := (Below.refl w.heap.size w).alloc (Nat.le_refl _) (.cells #[.int .i64 0, .int .i64 0, .int .i64 0] 45)
  have hd0 := diag_new w
  obtain ⟨W0, hW0⟩ : ∃ W0, w.alloc (.cells #[.int .i64 0, .int .i64 0, .int .i64 0] 45) = W0 := ⟨_, rfl⟩
  rw [hW0] at hb0 hd0
  obtain ⟨g0, hg0⟩ : ∃ g0, w.heap.size = g0 := ⟨_, rfl⟩
  rw [hg0] at hd0
  have HG0 := Lib.hid hg0
  have HW0 := Lib.hid hW0
  have hT0 := hT.below hb0 h0
  have h00 : 1 < W0.heap.size := by have := hb0.size; omega
  have HD0 := Lib.hid hd0
  have HB0 := Lib.hid hb0
  have HT0 := Lib.hid hT0
  have hgl0 := hd0.lt
  have hs0 := hb0.size
  obtain ⟨DD, hDD⟩ : ∃ DD, Rd.readD (bl s) = DD := ⟨_, rfl⟩
  obtain ⟨c, P⟩ := DD
  obtain ⟨CV, hCV⟩ : ∃ CV, canonV (bl s) = CV := ⟨_, rfl⟩
  rw [hCV]
  have HCV := Lib.hid hCV
  have HRD := Lib.hid (read_is s (Rd.readG (bl s)) (c, P) W0 (by omega) hT0 h00 rfl hDD)
  have HDD := Lib.hid hDD
  clear hT h0 hb0 hd0 hW0 hg0 hT0 hDD hCV
  by_cases hc : c = 0
  · subst hc
    obtain ⟨hright, hcnt⟩ := Pr.read_right (l := bl s) (P := P) HDD.out
    have HRI := Lib.hid hright
    have HPV := Lib.hid (printV_right hright)
    have HAT := Lib.hid (show ∀ w', Calls Tryz.prog 48 #[.string s, .int .i64 0] w' fun e w'' => e = .returned (.agg #[.int .i64 1, .int .i64 1]) ∧ Below w'.heap.size w' w'' from fun w' => At_any s 0 w' (by omega) (by simp))
    clear hright
    go_enter Tryz.func18, Tryz.ntmps18
    go_wp2_with fail
    rw [HW0.out, HG0.out]
    refine HRD.out.mono ?_
    rintro e w1 ⟨⟨gv, rfl, hgi⟩, hb1⟩
    have hs1 := hb1.size
    have HPR := Lib.hid (show ∀ w', Below w1.heap.size w1 w' → Calls Tryz.prog 8 #[gv] w' fun e w'' => e = .returned (printV (Rd.readG (bl s))) ∧ Below w'.heap.size w' w'' from fun w' hw' => print_read hgi HRI.out hcnt w' hw' (HT0.out.below hb1 h00) (by omega))
    have HDD1 := Lib.hid (HD0.out.below hb1 hgl0)
    have HB1 := Lib.hid (HB0.out.trans (hb1.mono hs0))
    obtain ⟨E1, m1, f1, E2, m2, f2, E3, m3, f3, st, E4, m4, f4, rfl⟩ := gram_form hgi
    rw [show diagV (0, P.1, P.2) = .agg #[.int .i64 0, .int .i64 (P.1 : Int), .int .i64 (P.2 : Int)] from rfl]
    obtain ⟨hg, hd, hbn⟩ := two_new w1 #[.slice E1 m1 f1, .slice E2 m2 f2, .slice E3 m3 f3, .string st, .slice E4 m4 f4] #[.int .i64 0, .int .i64 (P.1 : Int), .int .i64 (P.2 : Int)]
    have HBN := Lib.hid hbn
    have hd0n := HDD1.out.below hbn HDD1.out.lt
    have HDN := Lib.hid hd0n
    have HB2 := Lib.hid (HB1.out.trans (hbn.mono HB1.out.size))
    have hgl1 := HDD1.out.lt
    clear hgi hb1 hcnt hg hd hbn hd0n
    by_cases hlong : 4000 < (Pr.text (Rd.readG (bl s))).length
    · have hv : CV = .tuple #[.string (str []), .agg #[.int .i64 12, .int .i64 1, .int .i64 1]] := by
        rw [← HCV.out]; unfold canonV; rw [HDD.out, if_neg (by simp), if_pos hlong]; rfl
      have hp : printV (Rd.readG (bl s)) = .tuple #[.string (str []), .int .i64 12] := by rw [HPV.out, if_pos hlong]
      rw [hp] at HPR
      have HV := Lib.hid hv
      clear hlong hv hp
      go_wp2_with fail
      refine (HPR.out _ HBN.out).mono ?_
      rintro e w3 ⟨rfl, hb3⟩
      have HD3 := Lib.hid (HDN.out.below hb3 HDN.out.lt)
      have HB3 := Lib.hid (HB2.out.trans (hb3.mono HB2.out.size))
      clear hb3
      go_wp2_with fail
      refine (HAT.out _).mono ?_
      rintro e w4 ⟨rfl, hb4⟩
      have hd4 := HD3.out.below hb4 HD3.out.lt
      have HD4 := Lib.hid hd4
      have HB4 := Lib.hid (HB3.out.trans (hb4.mono HB3.out.size))
      have c0 := hd4.cell 0
      have c1 := hd4.cell 1
      have c2 := hd4.cell 2
      have cf := hd4.frozen
      simp only [List.getElem?_toArray, List.getElem?_cons_zero, List.getElem?_cons_succ] at c0 c1 c2
      clear hd4 hb4
      go_wp2_with fail
      refine bodyPost_ret (results_tmp_cell rfl _ _ _ rfl g0 _ _ _ rfl (HD4.out.three _ _ _) Tryz.underlying45 rfl Tryz.sizeDiag) rfl ⟨by rw [HV.out]; rfl, below_grown HB4.out (grown_three _ _ _ _ _) HB4.out.size (by rw [HG0.out]; exact Nat.le_refl _)⟩
    · have hv : CV = .tuple #[.string (str (Pr.text (Rd.readG (bl s)))), .agg #[.int .i64 0, .int .i64 0, .int .i64 0]] := by
        rw [← HCV.out]; unfold canonV; rw [HDD.out, if_neg (by simp), if_neg hlong]; rfl
      have hp : printV (Rd.readG (bl s)) = .tuple #[.string (str (Pr.text (Rd.readG (bl s)))), .int .i64 0] := by rw [HPV.out, if_neg hlong]
      rw [hp] at HPR
      have HV := Lib.hid hv
      clear hlong hv hp
      generalize str (Pr.text (Rd.readG (bl s))) = TT at HV HPR
      go_wp2_with fail
      refine (HPR.out _ HBN.out).mono ?_
      rintro e w3 ⟨rfl, hb3⟩
      have hd4 := HDN.out.below hb3 HDN.out.lt
      have HD4 := Lib.hid hd4
      have HB4 := Lib.hid (HB2.out.trans (hb3.mono HB2.out.size))
      have c0 := hd4.cell 0
      have c1 := hd4.cell 1
      have c2 := hd4.cell 2
      have cf := hd4.frozen
      simp only [List.getElem?_toArray, List.getElem?_cons_zero, List.getElem?_cons_succ] at c0 c1 c2
      clear hd4 hb3
      go_wp2_with fail
      refine bodyPost_ret (results_tmp_cell rfl _ _ _ rfl g0 _ _ _ rfl (HD4.out.three _ _ _) Tryz.underlying45 rfl Tryz.sizeDiag) rfl ⟨by rw [HV.out]; rfl, below_grown HB4.out (grown_three _ _ _ _ _) HB4.out.size (by rw [HG0.out]; exact Nat.le_refl _)⟩
  · have hv : CV = .tuple #[.string (str []), .agg #[.int .i64 (c : Int), .int .i64 (P.1 : Int), .int .i64 (P.2 : Int)]] := by
      rw [← HCV.out]; unfold canonV; rw [HDD.out, if_pos hc]; rfl
    have HV := Lib.hid hv
    have e1 : ((c : Int) == 0) = false := by rw [beq_eq_false_iff_ne]; omega
    have e2 : (c == 0) = false := by rw [beq_eq_false_iff_ne]; omega
    have e3 : ((c : Int) != 0) = true := by rw [bne_iff_ne]; omega
    have e4 : (c != 0) = true := by rw [bne_iff_ne]; omega
    clear hv hc
    go_enter Tryz.func18, Tryz.ntmps18
    go_wp2_with fail
    rw [HW0.out, HG0.out]
    refine HRD.out.mono ?_
    rintro e w1 ⟨⟨gv, rfl, hgi⟩, hb1⟩
    have hs1 := hb1.size
    have HDD1 := Lib.hid (HD0.out.below hb1 hgl0)
    have HB1 := Lib.hid (HB0.out.trans (hb1.mono hs0))
    obtain ⟨E1, m1, f1, E2, m2, f2, E3, m3, f3, st, E4, m4, f4, rfl⟩ := gram_form hgi
    rw [show diagV (c, P.1, P.2) = .agg #[.int .i64 (c : Int), .int .i64 (P.1 : Int), .int .i64 (P.2 : Int)] from rfl]
    obtain ⟨hg, hd, hbn⟩ := two_new w1 #[.slice E1 m1 f1, .slice E2 m2 f2, .slice E3 m3 f3, .string st, .slice E4 m4 f4] #[.int .i64 (c : Int), .int .i64 (P.1 : Int), .int .i64 (P.2 : Int)]
    have hgl1 := HDD1.out.lt
    have hd0n := HDD1.out.below hbn HDD1.out.lt
    have HB2 := HB1.out.trans (hbn.mono HB1.out.size)
    clear hgi hb1 hg
    go_wp2_with fail
    obtain ⟨w3, hw3⟩ : ∃ w3, (w1.alloc (.cells #[.slice E1 m1 f1, .slice E2 m2 f2, .slice E3 m3 f3, .string st, .slice E4 m4 f4] 27)).alloc (.cells #[.int .i64 (c : Int), .int .i64 (P.1 : Int), .int .i64 (P.2 : Int)] 45) = w3 := ⟨_, rfl⟩
    rw [hw3] at hd hd0n HB2 ⊢
    have HDN := Lib.hid hd0n
    have HB2 := Lib.hid HB2
    have c0 := hd0n.cell 0
    have c1 := hd0n.cell 1
    have c2 := hd0n.cell 2
    have cf := hd0n.frozen
    have d0 := hd.cell 0
    have d1 := hd.cell 1
    have d2 := hd.cell 2
    simp only [List.getElem?_toArray, List.getElem?_cons_zero, List.getElem?_cons_succ] at c0 c1 c2 d0 d1 d2
    have hl0 := hd0n.lt
    have hl1 := hd.lt
    clear hd hd0n hw3 hbn
    go_region
    go_wp2_with fail
    refine bodyPost_ret (results_tmp_cell rfl _ _ _ rfl g0 _ _ _ rfl ((HDN.out.three _ _ _).drew) Tryz.underlying45 rfl Tryz.sizeDiag) rfl ⟨by rw [HV.out]; rfl, below_drew (below_grown HB2.out (grown_three _ _ _ _ _) HB2.out.size (by rw [HG0.out]; exact Nat.le_refl _))⟩

end Go.Proofs.YtgmihbfikggkjaaGreatDoor

namespace Go.Proofs.YtgmihbfikggkjaaGreatDoor
open Go.RowKit
open Lx
set_option linter.unusedVariables false
set_option linter.unusedSimpArgs false
set_option maxRecDepth 100000

set_option maxHeartbeats 4000000 in
theorem reads_law (s : ByteArray) (hs : s.size ≤ 9223372036854775807) (W : World) (hT : Tab W) (h0 : 1 < W.heap.size) :
    Calls Tryz.prog 5 #[.string s] W fun e w' => e = .returned (.bool true) ∧ Below W.heap.size W w' := by
  have HT := Lib.hid hT
  clear hT
  by_cases h600 : (600 : Int) < (s.size : Int)
  · go_enter Tryz.func5, Tryz.ntmps5
    go_wp2_with fail
    refine (awake7_any _ HT.out h0).mono ?_
    rintro e w1 ⟨rfl, hb1⟩
    go_wp2_with fail
    go_ret
    exact ⟨rfl, hb1⟩
  have hle : (s.size : Int) ≤ 600 := by omega
  have hsm : s.size ≤ 9223372036854775806 := by omega
  clear h600
  obtain ⟨DD, hDD⟩ : ∃ DD, Rd.readD (bl s) = DD := ⟨_, rfl⟩
  obtain ⟨GG, hGG⟩ : ∃ GG, Rd.readG (bl s) = GG := ⟨_, rfl⟩
  obtain ⟨c, P⟩ := DD
  obtain ⟨CV, hCV⟩ : ∃ CV, canonV (bl s) = CV := ⟨_, rfl⟩
  have hcan : ∀ w', Tab w' → 1 < w'.heap.size → Calls Tryz.prog 18 #[.string s] w' fun e w'' => e = .returned CV ∧ Below w'.heap.size w' w'' := fun w' a b => by rw [← hCV]; exact canon_any s w' hsm a b
  have HRD := Lib.hid (fun w' a b => read_is s GG (c, P) w' (Nat.le_trans hsm (by decide)) a b hGG hDD)
  by_cases hc : c = 0
  · subst hc
    obtain ⟨hright, hcnt⟩ := Pr.read_right (l := bl s) (P := P) hDD
    rw [hGG] at hright hcnt
    have HRI := Lib.hid hright
    have HCNT := Lib.hid hcnt
    have HPV := Lib.hid (printV_right hright)
    have HRB := Lib.hid ((Pr.rightB_iff GG).2 hright)
    by_cases hlong : 4000 < (Pr.text GG).length
    · have hv : CV = .tuple #[.string ⟨#[]⟩, .agg #[.int .i64 12, .int .i64 1, .int .i64 1]] := by
        rw [← hCV]; unfold canonV; rw [hDD, hGG, if_neg (by simp), if_pos hlong]; rfl
      have hp : printV GG = .tuple #[.string ⟨#[]⟩, .int .i64 12] := by rw [HPV.out, if_pos hlong]; rfl
      rw [hv] at hcan
      have HCAN := Lib.hid hcan
      have HP := Lib.hid hp
      clear hcan hp hv hlong hCV hright hcnt hDD hGG
      go_enter Tryz.func5, Tryz.ntmps5
      go_wp2_with fail
      refine (awake7_any _ HT.out h0).mono ?_
      rintro e w1 ⟨rfl, hb1⟩
      have HB1 := Lib.hid hb1
      have HT1 := Lib.hid (HT.out.below hb1 h0)
      have hs1 := hb1.size
      clear hb1
      go_wp2_with fail
      refine (HRD.out _ HT1.out (by omega)).mono ?_
      rintro e w2 ⟨⟨gv, rfl, hgi⟩, hb2⟩
      have hs2 := hb2.size
      have HT2 := Lib.hid (HT1.out.below hb2 (by omega))
      have HGI := Lib.hid hgi
      obtain ⟨E1, m1, f1, E2, m2, f2, E3, m3, f3, st, E4, m4, f4, rfl⟩ := gram_form hgi
      rw [show diagV (0, P.1, P.2) = .agg #[.int .i64 0, .int .i64 (P.1 : Int), .int .i64 (P.2 : Int)] from rfl]
      obtain ⟨hg, hd, hbn⟩ := two_new w2 #[.slice E1 m1 f1, .slice E2 m2 f2, .slice E3 m3 f3, .string st, .slice E4 m4 f4] #[.int .i64 0, .int .i64 (P.1 : Int), .int .i64 (P.2 : Int)]
      have HB3 := Lib.hid (HB1.out.trans ((hb2.trans (hbn.mono hs2)).mono hs1))
      have HC3 := Lib.hid hbn
      have HG3 := Lib.hid hg
      have HD3 := Lib.hid hd
      have hs3 := hbn.size
      have HT3 := Lib.hid (HT2.out.below hbn (by omega))
      have hl3 := hg.lt
      have hm3 := hd.lt
      clear hgi hb2 hg hd hbn
      go_wp2_with fail
      refine (HCAN.out _ HT3.out (by omega)).mono ?_
      rintro e w4 ⟨rfl, hb4⟩
      have hd5 := (HD3.out.below hb4 hm3).alloc (.cells #[.int .i64 12, .int .i64 1, .int .i64 1] 45)
      have hg5 := (HG3.out.below hb4 hl3).alloc (.cells #[.int .i64 12, .int .i64 1, .int .i64 1] 45)
      have hf5 := At.new w4 45 #[.int .i64 12, .int .i64 1, .int .i64 1]
      have hb5 := (hb4.alloc hb4.size (.cells #[.int .i64 12, .int .i64 1, .int .i64 1] 45))
      have HB5 := Lib.hid (HB3.out.trans (hb5.mono HB3.out.size))
      have HC5 := Lib.hid (HC3.out.trans (hb5.mono hs3))
      have HG5 := Lib.hid hg5
      have HF5 := Lib.hid hf5
      have d0 := hd5.cell 0
      have x0 := hg5.cell 0
      have x1 := hg5.cell 1
      have x2 := hg5.cell 2
      have x3 := hg5.cell 3
      have x4 := hg5.cell 4
      simp only [List.getElem?_toArray, List.getElem?_cons_zero, List.getElem?_cons_succ] at d0 x0 x1 x2 x3 x4
      have hm5 := hf5.lt
      have hl5 := hg5.lt
      clear hb4 hb5 hd5 hg5 hf5
      go_wp2_with fail
      refine (pright_any _ GG w2.heap.size _ ((HGI.out.gramC (Right.assoc HRI.out)).below HC5.out) HC5.out.size (Right.sz HRI.out (Nat.le_trans HCNT.out (by decide))) (HT2.out.below HC5.out (by omega)) (by omega) (fun _ => Nat.le_trans HCNT.out (by decide))).mono ?_
      rw [HRB.out]
      rintro e w6 ⟨rfl, hb6⟩
      have hg6 := HG5.out.below hb6 hl5
      have hf6 := HF5.out.below hb6 hm5
      have HB6 := Lib.hid (HB5.out.trans (hb6.mono HB5.out.size))
      have HC6 := Lib.hid (HC5.out.trans (hb6.mono HC5.out.size))
      have y0 := hg6.cell 0
      have y1 := hg6.cell 1
      have y2 := hg6.cell 2
      have y3 := hg6.cell 3
      have y4 := hg6.cell 4
      simp only [List.getElem?_toArray, List.getElem?_cons_zero, List.getElem?_cons_succ] at y0 y1 y2 y3 y4
      have HF6 := Lib.hid hf6
      have hm6 := hf6.lt
      clear hb6 hg6 hf6
      go_wp2_with fail
      refine (print_read HGI.out HRI.out HCNT.out _ HC6.out HT2.out (by omega)).mono ?_
      rw [HP.out]
      rintro e w7 ⟨rfl, hb7⟩
      have hf7 := HF6.out.below hb7 hm6
      have HB7 := Lib.hid (HB6.out.trans (hb7.mono HB6.out.size))
      have z0 := hf7.cell 0
      simp only [List.getElem?_toArray, List.getElem?_cons_zero, List.getElem?_cons_succ] at z0
      clear hb7 hf7
      go_wp2_with fail
      go_ret
      exact ⟨rfl, HB7.out⟩
    · have hshort : (Pr.text GG).length ≤ 4000 := by omega
      obtain ⟨hrd2, hrg2⟩ := Pr.read_text hright hshort
      obtain ⟨TT, hTT⟩ : ∃ TT, str (Pr.text GG) = TT := ⟨_, rfl⟩
      have hbT : bl TT = Pr.text GG := by rw [← hTT, bl_str]
      have hv : CV = .tuple #[.string TT, .agg #[.int .i64 0, .int .i64 0, .int .i64 0]] := by
        rw [← hCV]; unfold canonV; rw [hDD, hGG, if_neg (by simp), if_neg hlong, hTT]; rfl
      have hp : printV GG = .tuple #[.string TT, .int .i64 0] := by rw [HPV.out, if_neg hlong, hTT]
      have hTs : TT.size ≤ 9223372036854775807 := by rw [← bl_length, hbT]; omega
      have HRT := Lib.hid (fun w' a b => read_is TT GG (0, 0, 0) w' hTs a b (by rw [hbT]; exact hrg2) (by rw [hbT]; exact hrd2))
      have t1 : (TT.toList == TT.toList) = true := by simp
      rw [hv] at hcan
      have HCAN := Lib.hid hcan
      have HP := Lib.hid hp
      clear hcan hp hv hlong hCV hright hcnt hDD hGG hshort hrd2 hrg2 hTT hbT hTs
      go_enter Tryz.func5, Tryz.ntmps5
      go_wp2_with fail
      refine (awake7_any _ HT.out h0).mono ?_
      rintro e w1 ⟨rfl, hb1⟩
      have HB1 := Lib.hid hb1
      have HT1 := Lib.hid (HT.out.below hb1 h0)
      have hs1 := hb1.size
      clear hb1
      go_wp2_with fail
      refine (HRD.out _ HT1.out (by omega)).mono ?_
      rintro e w2 ⟨⟨gv, rfl, hgi⟩, hb2⟩
      have hs2 := hb2.size
      have HT2 := Lib.hid (HT1.out.below hb2 (by omega))
      have HGI := Lib.hid hgi
      obtain ⟨E1, m1, f1, E2, m2, f2, E3, m3, f3, st, E4, m4, f4, rfl⟩ := gram_form hgi
      rw [show diagV (0, P.1, P.2) = .agg #[.int .i64 0, .int .i64 (P.1 : Int), .int .i64 (P.2 : Int)] from rfl]
      obtain ⟨hg, hd, hbn⟩ := two_new w2 #[.slice E1 m1 f1, .slice E2 m2 f2, .slice E3 m3 f3, .string st, .slice E4 m4 f4] #[.int .i64 0, .int .i64 (P.1 : Int), .int .i64 (P.2 : Int)]
      have HB3 := Lib.hid (HB1.out.trans ((hb2.trans (hbn.mono hs2)).mono hs1))
      have HC3 := Lib.hid hbn
      have HG3 := Lib.hid hg
      have HD3 := Lib.hid hd
      have hs3 := hbn.size
      have HT3 := Lib.hid (HT2.out.below hbn (by omega))
      have hl3 := hg.lt
      have hm3 := hd.lt
      clear hgi hb2 hg hd hbn
      go_wp2_with fail
      refine (HCAN.out _ HT3.out (by omega)).mono ?_
      rintro e w4 ⟨rfl, hb4⟩
      have hd5 := (HD3.out.below hb4 hm3).alloc (.cells #[.int .i64 0, .int .i64 0, .int .i64 0] 45)
      have hg5 := (HG3.out.below hb4 hl3).alloc (.cells #[.int .i64 0, .int .i64 0, .int .i64 0] 45)
      have hb5 := (hb4.alloc hb4.size (.cells #[.int .i64 0, .int .i64 0, .int .i64 0] 45))
      have HB5 := Lib.hid (HB3.out.trans (hb5.mono HB3.out.size))
      have HC5 := Lib.hid (HC3.out.trans (hb5.mono hs3))
      have HG5 := Lib.hid hg5
      have d0 := hd5.cell 0
      have x0 := hg5.cell 0
      have x1 := hg5.cell 1
      have x2 := hg5.cell 2
      have x3 := hg5.cell 3
      have x4 := hg5.cell 4
      simp only [List.getElem?_toArray, List.getElem?_cons_zero, List.getElem?_cons_succ] at d0 x0 x1 x2 x3 x4
      have hl5 := hg5.lt
      clear hb4 hb5 hd5 hg5
      go_wp2_with fail
      refine (pright_any _ GG w2.heap.size _ ((HGI.out.gramC (Right.assoc HRI.out)).below HC5.out) HC5.out.size (Right.sz HRI.out (Nat.le_trans HCNT.out (by decide))) (HT2.out.below HC5.out (by omega)) (by omega) (fun _ => Nat.le_trans HCNT.out (by decide))).mono ?_
      rw [HRB.out]
      rintro e w6 ⟨rfl, hb6⟩
      have hg6 := HG5.out.below hb6 hl5
      have HB6 := Lib.hid (HB5.out.trans (hb6.mono HB5.out.size))
      have HC6 := Lib.hid (HC5.out.trans (hb6.mono HC5.out.size))
      have y0 := hg6.cell 0
      have y1 := hg6.cell 1
      have y2 := hg6.cell 2
      have y3 := hg6.cell 3
      have y4 := hg6.cell 4
      simp only [List.getElem?_toArray, List.getElem?_cons_zero, List.getElem?_cons_succ] at y0 y1 y2 y3 y4
      have HG6 := Lib.hid hg6
      have hl6 := hg6.lt
      clear hb6 hg6 d0 x0 x1 x2 x3 x4
      go_wp2_with fail
      refine (print_read HGI.out HRI.out HCNT.out _ HC6.out HT2.out (by omega)).mono ?_
      rw [HP.out]
      rintro e w7 ⟨rfl, hb7⟩
      have HG7 := Lib.hid (HG6.out.below hb7 hl6)
      have HB7 := Lib.hid (HB6.out.trans (hb7.mono HB6.out.size))
      have HC7 := Lib.hid (HC6.out.trans (hb7.mono HC6.out.size))
      have HT7 := Lib.hid (HT2.out.below HC7.out (by omega))
      have hl7 := HG7.out.lt
      have hs7 := HC7.out.size
      clear hb7 y0 y1 y2 y3 y4
      go_wp2_with fail
      refine (HRT.out _ HT7.out (by omega)).mono ?_
      rintro e w8 ⟨⟨gv2, rfl, hgi2⟩, hb8⟩
      have HT8 := Lib.hid (HT7.out.below hb8 (by omega))
      have HGI2 := Lib.hid hgi2
      obtain ⟨E5, m5, f5, E6, m6, f6, E7, m7, f7, st2, E8, m8, f8, rfl⟩ := gram_form hgi2
      rw [show diagV (0, 0, 0) = .agg #[.int .i64 0, .int .i64 0, .int .i64 0] from rfl]
      obtain ⟨hg, hd, hbn⟩ := two_new w8 #[.slice E5 m5 f5, .slice E6 m6 f6, .slice E7 m7 f7, .string st2, .slice E8 m8 f8] #[.int .i64 0, .int .i64 0, .int .i64 0]
      have hb9 := hb8.trans (hbn.mono hb8.size)
      have HB9 := Lib.hid (HB7.out.trans (hb9.mono HB7.out.size))
      have HC9 := Lib.hid (HC7.out.trans (hb9.mono HC7.out.size))
      have HE9 := Lib.hid hbn
      have HG9 := Lib.hid (HG7.out.below hb9 hl7)
      have HH9 := Lib.hid hg
      have HD9 := Lib.hid hd
      have hs8 := hb8.size
      have hs9 := hbn.size
      have ha9 := HG9.out.lt
      have hl9 := hg.lt
      have hm9 := hd.lt
      clear hgi2 hb8 hg hd hbn hb9
      go_wp2_with fail
      refine (print_read HGI2.out HRI.out HCNT.out _ HE9.out HT8.out (by omega)).mono ?_
      rw [HP.out]
      rintro e w10 ⟨rfl, hb10⟩
      have HB10 := Lib.hid (HB9.out.trans (hb10.mono HB9.out.size))
      have HC10 := Lib.hid (HC9.out.trans (hb10.mono HC9.out.size))
      have HE10 := Lib.hid (HE9.out.trans (hb10.mono HE9.out.size))
      have hg10 := HG9.out.below hb10 ha9
      have hh10 := HH9.out.below hb10 hl9
      have hd10 := HD9.out.below hb10 hm9
      have d0 := hd10.cell 0
      have y0 := hg10.cell 0
      have y1 := hg10.cell 1
      have y2 := hg10.cell 2
      have y3 := hg10.cell 3
      have y4 := hg10.cell 4
      have x0 := hh10.cell 0
      have x1 := hh10.cell 1
      have x2 := hh10.cell 2
      have x3 := hh10.cell 3
      have x4 := hh10.cell 4
      simp only [List.getElem?_toArray, List.getElem?_cons_zero, List.getElem?_cons_succ] at d0 x0 x1 x2 x3 x4 y0 y1 y2 y3 y4
      clear hb10 hg10 hh10 hd10
      go_wp2_with fail
      refine (same_any _ _ GG _ (HGI.out.below HC10.out) (HGI2.out.below HE10.out) ⟨Nat.le_trans HRI.out.ntok (by decide), Nat.le_trans HRI.out.nskip (by decide), Nat.le_trans HRI.out.nlev (by decide), Nat.le_trans HRI.out.nrule (by decide)⟩ (Right.few HRI.out (Nat.le_trans HCNT.out (by decide))).1 (Right.few HRI.out (Nat.le_trans HCNT.out (by decide))).2).mono ?_
      rintro e w11 ⟨rfl, hb11⟩
      go_wp2_with fail
      go_ret
      exact ⟨rfl, HB10.out.trans (hb11.mono HB10.out.size)⟩
  · have hv : CV = .tuple #[.string ⟨#[]⟩, .agg #[.int .i64 (c : Int), .int .i64 (P.1 : Int), .int .i64 (P.2 : Int)]] := by
      rw [← hCV]; unfold canonV; rw [hDD, if_pos hc]; rfl
    have e1 : ((c : Int) == 0) = false := by rw [beq_eq_false_iff_ne]; omega
    have e2 : (c == 0) = false := by rw [beq_eq_false_iff_ne]; omega
    have e3 : ((c : Int) != 0) = true := by rw [bne_iff_ne]; omega
    have e4 : (c != 0) = true := by rw [bne_iff_ne]; omega
    rw [hv] at hcan
    have HCAN := Lib.hid hcan
    clear hcan hv hCV hDD hGG hc
    go_enter Tryz.func5, Tryz.ntmps5
    go_wp2_with fail
    refine (awake7_any _ HT.out h0).mono ?_
    rintro e w1 ⟨rfl, hb1⟩
    have HB1 := Lib.hid hb1
    have HT1 := Lib.hid (HT.out.below hb1 h0)
    have hs1 := hb1.size
    clear hb1
    go_wp2_with fail
    refine (HRD.out _ HT1.out (by omega)).mono ?_
    rintro e w2 ⟨⟨gv, rfl, hgi⟩, hb2⟩
    have hs2 := hb2.size
    have HT2 := Lib.hid (HT1.out.below hb2 (by omega))
    obtain ⟨E1, m1, f1, E2, m2, f2, E3, m3, f3, st, E4, m4, f4, rfl⟩ := gram_form hgi
    rw [show diagV (c, P.1, P.2) = .agg #[.int .i64 (c : Int), .int .i64 (P.1 : Int), .int .i64 (P.2 : Int)] from rfl]
    obtain ⟨hg, hd, hbn⟩ := two_new w2 #[.slice E1 m1 f1, .slice E2 m2 f2, .slice E3 m3 f3, .string st, .slice E4 m4 f4] #[.int .i64 (c : Int), .int .i64 (P.1 : Int), .int .i64 (P.2 : Int)]
    have HB3 := Lib.hid (HB1.out.trans ((hb2.trans (hbn.mono hs2)).mono hs1))
    have HD3 := Lib.hid hd
    have hs3 := hbn.size
    have HT3 := Lib.hid (HT2.out.below hbn (by omega))
    have hm3 := hd.lt
    clear hgi hb2 hg hd hbn
    go_wp2_with fail
    refine (HCAN.out _ HT3.out (by omega)).mono ?_
    rintro e w4 ⟨rfl, hb4⟩
    have hd5 := (HD3.out.below hb4 hm3).alloc (.cells #[.int .i64 (c : Int), .int .i64 (P.1 : Int), .int .i64 (P.2 : Int)] 45)
    have hf5 := At.new w4 45 #[.int .i64 (c : Int), .int .i64 (P.1 : Int), .int .i64 (P.2 : Int)]
    have HB5 := Lib.hid (HB3.out.trans ((hb4.alloc hb4.size (.cells #[.int .i64 (c : Int), .int .i64 (P.1 : Int), .int .i64 (P.2 : Int)] 45)).mono HB3.out.size))
    have d0 := hd5.cell 0
    have d1 := hd5.cell 1
    have d2 := hd5.cell 2
    have f0 := hf5.cell 0
    have f1 := hf5.cell 1
    have f2 := hf5.cell 2
    simp only [List.getElem?_toArray, List.getElem?_cons_zero, List.getElem?_cons_succ] at d0 d1 d2 f0 f1 f2
    clear hb4 hd5 hf5
    go_wp2_with fail
    go_ret
    exact ⟨rfl, HB5.out⟩

end Go.Proofs.YtgmihbfikggkjaaGreatDoor
