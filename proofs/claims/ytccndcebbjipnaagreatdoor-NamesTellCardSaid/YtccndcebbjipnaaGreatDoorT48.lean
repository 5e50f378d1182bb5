import Derived.Test.YtccndcebbjipnaaGreatDoorT43
import Derived.Test.YtccndcebbjipnaaGreatDoorT15
namespace Go.Proofs.YtccndcebbjipnaaGreatDoor
namespace Pr
open Lx (Mk M0 Step isName isLetter isSmall)
open Rd (Name Pat Tok Lev Rule G Decls Res)
set_option linter.unusedVariables false
set_option linter.unusedSimpArgs false
def MkOk (k : Nat) (t : List UInt8) : Prop := (k = 1 → nameOk t = true) ∧ (k = 3 → t ≠ [] ∧ t.length ≤ 32) ∧ (k = 4 → t ≠ [] ∧ rises t = true) ∧ (k = 9 → actOk t = true)
theorem text_ok (l told : List UInt8) (i : Nat) {k n : Nat} {t : List UInt8} (h : Lx.text l told i = .mark k t n) : k = 3 ∧ t ≠ [] ∧ t.length ≤ 32 := by
 fun_induction Lx.text l told i
 all_goals first
  | (cases h; done)
  | (rename_i ih; exact ih h)
  | (rename_i h1 h2; cases h; exact ⟨rfl, h1, by omega⟩)
theorem rises_range (n : Nat) : ∀ a, a + n ≤ 256 → ∀ F : Nat → Bool, rises (((List.range' a n).filter F).map UInt8.ofNat) = true ∧ ∀ x ∈ ((List.range' a n).filter F).map UInt8.ofNat, a ≤ x.toNat := by
 induction n with
 | zero => intro a _ F; exact ⟨rfl, by simp⟩
 | succ n ih =>
  intro a ha F
  obtain ⟨h1, h2⟩ := ih (a + 1) (by omega) F
  rw [List.range'_succ]
  by_cases hF : F a = true
  ·rw [List.filter_cons_of_pos hF, List.map_cons]
   have ht : (UInt8.ofNat a).toNat = a := by simp; omega
   refine ⟨?_, fun x hx => ?_⟩
   ·generalize hl : ((List.range' (a + 1) n).filter F).map UInt8.ofNat = l at h1 h2
    cases l with
    | nil => rfl
    | cons b r =>
     unfold rises
     have := h2 b (by simp)
     rw [Bool.and_eq_true, decide_eq_true_eq]
     exact ⟨UInt8.lt_iff_toNat_lt.2 (by omega), h1⟩
   ·rcases List.mem_cons.1 hx with rfl | hx
    ·omega
    ·have := h2 x hx; omega
  ·rw [List.filter_cons_of_neg hF]
   exact ⟨h1, fun x hx => by have := h2 x hx; omega⟩
theorem rising_rises (F : Nat → Bool) : rises (Lx.rising F) = true := by
 unfold Lx.rising
 rw [List.range_eq_range']
 exact (rises_range 256 0 (by omega) F).1
theorem cls_ok (l : List UInt8) (i : Nat) (p : Lx.Parts) {k n : Nat} {t : List UInt8} (h : Lx.cls l i p = .mark k t n) : k = 4 ∧ t ≠ [] ∧ rises t = true := by
 fun_induction Lx.cls l i p
 all_goals first
  | (cases h; done)
  | (rename_i ih; exact ih h)
  | (rename_i h1 h2; cases h; exact ⟨rfl, h2, rising_rises _⟩)
theorem act_self (l acc : List UInt8) (o : Nat) {k n : Nat} {t : List UInt8} (h : Lx.act l acc o = .mark k t n) : ∃ s, t = acc ++ s ∧ Lx.act (s ++ [125]) acc o = .mark k t n := by
 induction l generalizing acc o with
 | nil => simp [Lx.act] at h
 | cons c l ih =>
  rw [Lx.act.eq_def] at h
  simp only [] at h
  split at h
  ·rename_i hc
   split at h
   ·cases h
   ·rename_i ho
    obtain ⟨s, h1, h2⟩ := ih _ _ h
    refine ⟨c :: s, by rw [h1]; simp, ?_⟩
    rw [List.cons_append, Lx.act.eq_def]
    simp only [if_pos hc, if_neg ho]
    exact h2
  ·rename_i hc
   split at h
   ·rename_i hd
    split at h
    ·rename_i ho
     split at h
     ·cases h
     ·rename_i hl
      cases h
      refine ⟨[], by simp, ?_⟩
      rw [List.nil_append, Lx.act.eq_def]
      simp only [if_neg (show ¬ (125 : UInt8) = 123 by decide), if_true, if_pos ho, if_neg hl]
    ·rename_i ho
     obtain ⟨s, h1, h2⟩ := ih _ _ h
     refine ⟨c :: s, by rw [h1]; simp, ?_⟩
     rw [List.cons_append, Lx.act.eq_def]
     simp only [if_neg hc, if_pos hd, if_neg ho]
     exact h2
   ·rename_i hd
    obtain ⟨s, h1, h2⟩ := ih _ _ h
    refine ⟨c :: s, by rw [h1]; simp, ?_⟩
    rw [List.cons_append, Lx.act.eq_def]
    simp only [if_neg hc, if_neg hd]
    exact h2
theorem nameOf_ok {c : UInt8} {r : List UInt8} (hc : isLetter c = true) (h32 : ¬ 32 < (Lx.nameOf (c :: r)).length) : nameOk (Lx.nameOf (c :: r)) = true := by
 have e : ∀ (d : UInt8) (q : List UInt8), Lx.nameOf (d :: q) = if isLetter d then (d :: q).takeWhile isName else [] := fun _ _ => rfl
 have hn : isName c = true := by unfold isName; rw [hc]; rfl
 have e1 : Lx.nameOf (c :: r) = c :: r.takeWhile isName := by rw [e, if_pos hc, List.takeWhile_cons_of_pos hn]
 rw [e1] at h32 ⊢
 unfold nameOk
 simp only [Bool.and_eq_true, decide_eq_true_eq, bne_iff_ne, beq_iff_eq]
 refine ⟨by omega, by simp, ?_⟩
 rw [e, if_pos hc, List.takeWhile_cons_of_pos hn]
 congr 1
 have : ∀ l : List UInt8, (l.takeWhile isName).takeWhile isName = l.takeWhile isName := by
  intro l
  induction l with
  | nil => rfl
  | cons a l ih =>
   by_cases ha : isName a = true
   ·rw [List.takeWhile_cons_of_pos ha, List.takeWhile_cons_of_pos ha, ih]
   ·rw [List.takeWhile_cons_of_neg ha]; rfl
 exact this r
theorem word_kind2 (l : List UInt8) {k n : Nat} {t : List UInt8} (h : Lx.word l = .mark k t n) : k = 2 := by
 unfold Lx.word at h
 split at h
 ·cases h; rfl
 ·cases h
theorem step_ok (l : List UInt8) {k n : Nat} {t : List UInt8} (h : Lx.step l = .mark k t n) : MkOk k t := by
 cases l with
 | nil => simp [Lx.step] at h
 | cons c r =>
  rw [Lx.step.eq_def] at h
  simp only [] at h
  split at h
  ·cases h
  ·split at h
   ·cases h
   ·split at h
    ·rename_i hc
     split at h
     ·cases h
     ·rename_i h32
      cases h
      exact ⟨fun _ => nameOf_ok hc h32, fun e => by omega, fun e => by omega, fun e => by omega⟩
    ·split at h
     ·have := word_kind2 _ h
      subst this
      exact ⟨fun e => by omega, fun e => by omega, fun e => by omega, fun e => by omega⟩
     ·split at h
      ·obtain ⟨rfl, h1, h2⟩ := text_ok _ _ _ h
       exact ⟨fun e => by omega, fun _ => ⟨h1, h2⟩, fun e => by omega, fun e => by omega⟩
      ·split at h
       ·obtain ⟨rfl, h1, h2⟩ := cls_ok _ _ _ h
        exact ⟨fun e => by omega, fun e => by omega, fun _ => ⟨h1, h2⟩, fun e => by omega⟩
       ·split at h
        ·obtain ⟨rfl, hn, _⟩ := act_mark _ _ _ h
         obtain ⟨s, h1, h2⟩ := act_self _ _ _ h
         simp only [List.nil_append] at h1
         subst h1
         refine ⟨fun e => by omega, fun e => by omega, fun e => by omega, fun _ => ?_⟩
         unfold actOk
         rw [beq_iff_eq, h2, hn]
        ·split at h
         ·cases h; exact ⟨fun e => by omega, fun e => by omega, fun e => by omega, fun e => by omega⟩
         ·split at h
          ·cases h; exact ⟨fun e => by omega, fun e => by omega, fun e => by omega, fun e => by omega⟩
          ·split at h
           ·cases h; exact ⟨fun e => by omega, fun e => by omega, fun e => by omega, fun e => by omega⟩
           ·split at h
            ·cases h; exact ⟨fun e => by omega, fun e => by omega, fun e => by omega, fun e => by omega⟩
            ·cases h
theorem run_ok : ∀ (f : Nat) (l : List UInt8) (i : Nat) (acc ms : List M0), (∀ m ∈ acc, MkOk m.1 m.2.1) → Lx.run f l i acc = .ok ms → ∀ m ∈ ms, MkOk m.1 m.2.1 := by
 have h0 : MkOk 0 [] := ⟨fun e => by omega, fun e => by omega, fun e => by omega, fun e => by omega⟩
 intro f
 induction f with
 | zero => intro l i acc ms ha h; simp [Lx.run] at h; subst h; exact ha
 | succ f ih =>
  intro l i acc ms ha h
  rw [Lx.run] at h
  split at h
  ·cases h
   intro m hm
   rcases List.mem_append.1 hm with hm | hm
   ·exact ha m hm
   ·simp at hm; subst hm; exact h0
  ·split at h
   ·exact ih _ _ _ _ ha h
   ·rename_i hs
    refine ih _ _ _ _ (fun m hm => ?_) h
    rcases List.mem_append.1 hm with hm | hm
    ·exact ha m hm
    ·simp at hm; subst hm; exact step_ok _ hs
   ·cases h
def Mx (ms : List Mk) : Prop := ∀ m ∈ ms, MkOk m.kind m.text
theorem Mx.hd {ms : List Mk} (h : Mx ms) : MkOk (Rd.hd ms).kind (Rd.hd ms).text := by
 cases ms with
 | nil => exact ⟨fun e => by simp [Rd.hd_nil] at e, fun e => by simp [Rd.hd_nil] at e, fun e => by simp [Rd.hd_nil] at e, fun e => by simp [Rd.hd_nil] at e⟩
 | cons m r => exact h m (by simp)
theorem Mx.tail {ms : List Mk} (h : Mx ms) : Mx ms.tail := fun m hm => h m (List.mem_of_mem_tail hm)
theorem Mx.sf {ms r : List Mk} (h : Mx ms) (k : Rd.Sf ms r) : Mx r := fun m hm => h m (k.suf.subset hm)
theorem lex_mx {l : List UInt8} {ms : List M0} (h : Lx.lex l = .ok ms) : Mx (ms.map (Lx.mkOf l)) := by
 unfold Lx.lex at h
 split at h
 ·cases h
 ·intro m hm
  obtain ⟨x, hx, rfl⟩ := List.mem_map.1 hm
  exact run_ok _ _ _ _ _ (by simp) h x hx
theorem pattern_good {ms r : List Mk} {p : Pat} (h : Mx ms) (he : Rd.pattern ms = .ok p r) : patOk p = true := by
 unfold Rd.pattern at he
 split at he
 ·rename_i h3
  cases he
  obtain ⟨h1, h2⟩ := h.hd.2.1 h3
  unfold patOk
  rw [if_neg h1]
  simp [h2]
 ·split at he
  ·rename_i h4
   obtain ⟨h1, h2⟩ := h.hd.2.2.1 h4
   split at he <;> cases he <;> (unfold patOk; simp [h1, h2])
  ·cases he
structure DGood (d : Decls) : Prop where
 toks : ∀ t ∈ d.toks, tokOk t = true
 skips : ∀ p ∈ d.skips, patOk p = true
 lev : ∀ v ∈ d.levels, v.names.all nameOk = true
 start : d.started = true → nameOk d.start = true
theorem token_good {d d' : Decls} {ms r : List Mk} (h : DGood d) (hm : Mx ms) (he : Rd.token d ms = .ok d' r) : DGood d' := by
 unfold Rd.token at he
 split at he
 ·cases he
 ·rename_i h1
  split at he
  ·cases he
  ·split at he
   ·cases he
   ·cases hp : Rd.pattern ms.tail.tail with
    | bad e r' => rw [hp] at he; cases he
    | ok p r' =>
     rw [hp] at he
     cases he
     refine ⟨fun t ht => ?_, h.skips, h.lev, h.start⟩
     rcases List.mem_append.1 ht with ht | ht
     ·exact h.toks t ht
     ·simp at ht
      subst ht
      unfold tokOk
      rw [Bool.and_eq_true]
      exact ⟨hm.tail.hd.1 (by simpa using h1), pattern_good hm.tail.tail hp⟩
theorem skip_good {d d' : Decls} {ms r : List Mk} (h : DGood d) (hm : Mx ms) (he : Rd.skip d ms = .ok d' r) : DGood d' := by
 unfold Rd.skip at he
 split at he
 ·cases he
 ·cases hp : Rd.pattern ms.tail with
  | bad e r' => rw [hp] at he; cases he
  | ok p r' =>
   rw [hp] at he
   cases he
   refine ⟨h.toks, fun t ht => ?_, h.lev, h.start⟩
   rcases List.mem_append.1 ht with ht | ht
   ·exact h.skips t ht
   ·simp at ht; subst ht; exact pattern_good hm.tail hp
theorem names_good {lev : List Name} {ms : List Mk} {acc l : List Name} {r : List Mk} (hm : Mx ms) (ha : ∀ n ∈ acc, nameOk n = true) (he : Rd.names lev ms acc = .ok l r) : ∀ n ∈ l, nameOk n = true := by
 induction ms generalizing acc with
 | nil => simp [Rd.names] at he; rw [← he.1]; exact ha
 | cons m ms ih =>
  rw [Rd.names] at he
  split at he
  ·rename_i h1
   split at he
   ·cases he
   ·refine ih (fun x hx => hm x (by simp [hx])) (fun n hn => ?_) he
    rcases List.mem_append.1 hn with hn | hn
    ·exact ha n hn
    ·simp at hn; subst hn; exact (hm m (by simp)).1 h1
  ·cases he; exact ha
theorem level_good {a : Nat} {d d' : Decls} {ms r : List Mk} (h : DGood d) (hm : Mx ms) (he : Rd.level a d ms = .ok d' r) : DGood d' := by
 unfold Rd.level at he
 split at he
 ·cases he
 ·cases hn : Rd.names (Rd.levelled d) ms.tail [] with
  | bad e r' => rw [hn] at he; cases he
  | ok l r' =>
   rw [hn] at he
   simp only [] at he
   split at he
   ·cases he
   ·cases he
    refine ⟨h.toks, h.skips, fun v hv => ?_, h.start⟩
    rcases List.mem_append.1 hv with hv | hv
    ·exact h.lev v hv
    ·simp at hv
     subst hv
     rw [List.all_eq_true]
     exact names_good hm.tail (by simp) hn
theorem start_good {d d' : Decls} {ms r : List Mk} (h : DGood d) (hm : Mx ms) (he : Rd.start d ms = .ok d' r) : DGood d' := by
 unfold Rd.start at he
 split at he
 ·cases he
 ·split at he
  ·rename_i h1
   cases he
   exact ⟨h.toks, h.skips, h.lev, fun _ => hm.tail.hd.1 h1⟩
  ·cases he
theorem decl_good {d d' : Decls} {ms r : List Mk} (h : DGood d) (hm : Mx ms) (he : Rd.decl d ms = .ok d' r) : DGood d' := by
 unfold Rd.decl at he
 split at he
 ·revert he
  generalize Rd.wordNo _ = k
  intro he
  match k, he with
  | 0, he => exact token_good h hm he
  | 1, he => exact skip_good h hm he
  | 2, he => exact level_good h hm he
  | 3, he => exact level_good h hm he
  | 4, he => exact level_good h hm he
  | 5, he => exact start_good h hm he
  | _ + 6, he => cases he
 ·cases he
theorem decls_good {f : Nat} {d d' : Decls} {ms r : List Mk} (h : DGood d) (hm : Mx ms) (he : Rd.decls f d ms = .ok d' r) : DGood d' := by
 induction f generalizing d ms with
 | zero => unfold Rd.decls at he; cases he
 | succ f ih =>
  unfold Rd.decls at he
  split at he
  ·cases he; exact h
  ·have h1 := Rd.decl_sf d ms
   cases hd : Rd.decl d ms with
   | bad e r' => rw [hd] at he; cases he
   | ok d2 r' =>
    rw [hd] at he h1
    exact ih (decl_good h hm hd) (hm.sf h1) he
theorem rights_good {ms : List Mk} {acc l : List Name} {r : List Mk} (hm : Mx ms) (ha : ∀ n ∈ acc, nameOk n = true) (he : Rd.rights ms acc = .ok l r) : ∀ n ∈ l, nameOk n = true := by
 induction ms generalizing acc with
 | nil => simp [Rd.rights] at he; rw [← he.1]; exact ha
 | cons m ms ih =>
  rw [Rd.rights] at he
  split at he
  ·rename_i h1
   split at he
   ·cases he
   ·refine ih (fun x hx => hm x (by simp [hx])) (fun n hn => ?_) he
    rcases List.mem_append.1 hn with hn | hn
    ·exact ha n hn
    ·simp at hn; subst hn; exact (hm m (by simp)).1 h1
  ·cases he; exact ha
theorem prec_good {ms r : List Mk} {p : Name} (hm : Mx ms) (he : Rd.prec ms = .ok p r) : p = [] ∨ nameOk p = true := by
 unfold Rd.prec at he
 split at he
 ·split at he
  ·rename_i h1; cases he; exact .inr (hm.tail.hd.1 h1)
  ·cases he
 ·cases he; exact .inl rfl
theorem actOk_nil : actOk [] = true := by decide
theorem alt_good {left : Name} {n : Nat} {ms r : List Mk} {x : Rule} (hl : nameOk left = true) (hm : Mx ms) (he : Rd.alt left n ms = .ok x r) : ruleOk x = true := by
 have h8 := (Rd.alt_ok he).2.2
 unfold Rd.alt at he
 split at he
 ·cases he
 ·have s1 := Rd.rights_sf ms []
  cases hr : Rd.rights ms [] with
  | bad e r' => rw [hr] at he; cases he
  | ok l r' =>
   rw [hr] at he s1
   simp only [] at he
   have m1 : Mx r' := hm.sf s1
   have s2 := Rd.prec_sf r'
   have hln := rights_good hm (by simp) hr
   cases hp : Rd.prec r' with
   | bad e r2 => rw [hp] at he; cases he
   | ok p r2 =>
    rw [hp] at he s2
    simp only [] at he
    have m2 : Mx r2 := m1.sf s2
    have hpp := prec_good m1 hp
    unfold Rd.action at he
    unfold ruleOk
    simp only [Bool.and_eq_true, Bool.or_eq_true, decide_eq_true_eq, beq_iff_eq, List.all_eq_true]
    split at he
    ·rename_i h9
     cases he
     exact ⟨hl, h8, hln, hpp, m2.hd.2.2.2 h9⟩
    ·cases he
     exact ⟨hl, h8, hln, hpp, actOk_nil⟩
theorem alts_good {f : Nat} {left : Name} {acc rs : List Rule} {ms r : List Mk} (h : ∀ x ∈ acc, ruleOk x = true) (hl : nameOk left = true) (hm : Mx ms) (he : Rd.alts f left acc ms = .ok rs r) : ∀ x ∈ rs, ruleOk x = true := by
 induction f generalizing acc ms with
 | zero => unfold Rd.alts at he; cases he
 | succ f ih =>
  unfold Rd.alts at he
  have s1 := Rd.alt_sf left acc.length ms
  cases ha : Rd.alt left acc.length ms with
  | bad e r' => rw [ha] at he; cases he
  | ok x r' =>
   rw [ha] at he s1
   simp only [] at he
   have hx := alt_good hl hm ha
   have hn : ∀ y ∈ acc ++ [x], ruleOk y = true := fun y hy => by
    rcases List.mem_append.1 hy with hy | hy
    ·exact h y hy
    ·simp at hy; subst hy; exact hx
   split at he
   ·cases he; exact hn
   ·split at he
    ·exact ih hn (show Mx r'.tail from Mx.tail (hm.sf s1)) he
    ·cases he
theorem rule_good {acc rs : List Rule} {ms r : List Mk} (h : ∀ x ∈ acc, ruleOk x = true) (hm : Mx ms) (he : Rd.rule acc ms = .ok rs r) : ∀ x ∈ rs, ruleOk x = true := by
 unfold Rd.rule at he
 split at he
 ·cases he
 ·rename_i h1
  split at he
  ·cases he
  ·exact alts_good h (hm.hd.1 (by simpa using h1)) hm.tail.tail he
theorem rules_good {f : Nat} {acc rs : List Rule} {ms r : List Mk} (h : ∀ x ∈ acc, ruleOk x = true) (hm : Mx ms) (he : Rd.rules f acc ms = .ok rs r) : ∀ x ∈ rs, ruleOk x = true := by
 induction f generalizing acc ms with
 | zero => unfold Rd.rules at he; cases he
 | succ f ih =>
  unfold Rd.rules at he
  have s1 := Rd.rule_sf acc ms
  cases hd : Rd.rule acc ms with
  | bad e r' => rw [hd] at he; cases he
  | ok d' r' =>
   rw [hd] at he s1
   simp only [] at he
   split at he
   ·cases he; exact rule_good h hm hd
   ·exact ih (rule_good h hm hd) (hm.sf s1) he
theorem read_right {l : List UInt8} {P : Nat × Nat} (h : Rd.readD l = (0, P.1, P.2)) : Right (Rd.readG l) ∧ (lvl (Rd.readG l)).length ≤ 4001 := by
 obtain ⟨hok, hcount⟩ := Rd.read_good h
 refine ⟨?_, hcount⟩
 unfold Rd.readD at h
 unfold Rd.readG at hok ⊢
 cases hx : Lx.lex l with
 | bad c i =>
  rw [hx] at h
  simp only [] at h
  have := Lx.lex_at hx
  injection h with h _
  omega
 | ok ms =>
  rw [hx] at h hok
  simp only [] at h hok ⊢
  have hm := lex_mx hx
  generalize ms.map (Lx.mkOf l) = MS at h hm hok ⊢
  cases hp : Rd.parse MS with
  | bad e r =>
   rw [hp] at h
   have := Rd.parse_code hp
   simp only [Rd.Res.diag] at h
   injection h with h _
   exact absurd h this
  | ok g r =>
   rw [hp] at hok
   simp only [Rd.Res.grammar] at hok ⊢
   unfold Rd.parse at hp
   have s1 := Rd.decls_sf (MS.length + 1) Rd.none_ MS
   cases hd : Rd.decls (MS.length + 1) Rd.none_ MS with
   | bad e r' => rw [hd] at hp; cases hp
   | ok d r' =>
    rw [hd] at hp s1
    simp only [] at hp
    have hdg := decls_good (d := Rd.none_) ⟨by simp [Rd.none_], by simp [Rd.none_], by simp [Rd.none_], by simp [Rd.none_]⟩ hm hd
    cases hr : Rd.rules (r'.length + 1) [] r' with
    | bad e r2 => rw [hr] at hp; cases hp
    | ok rs r2 =>
     rw [hr] at hp
     cases hp
     have hrg := rules_good (by simp) (show Mx r' from hm.sf s1) hr
     refine ⟨hok.ntok, hok.nskip, hok.nlev, hok.rok.1, hok.rules, ?_, hdg.toks, hdg.skips, fun v hv => ?_, hrg, hok.toks, hok.lev⟩
     ·show nameOk (Rd.startOf d rs) = true
      unfold Rd.startOf
      split
      ·exact hdg.start ‹_›
      ·obtain ⟨x, q, hq⟩ := List.exists_cons_of_ne_nil hok.rules
       have hq : rs = x :: q := hq
       rw [hq]
       have := hrg x (by rw [hq]; simp)
       unfold ruleOk at this
       rw [Bool.and_eq_true] at this
       exact this.1
     ·obtain ⟨h1, h2, h3⟩ := hok.each v hv
      unfold levOk
      simp only [Bool.and_eq_true, decide_eq_true_eq, bne_iff_ne]
      exact ⟨⟨h2, h3⟩, h1, hdg.lev v hv⟩
end Pr
end Go.Proofs.YtccndcebbjipnaaGreatDoor
