/-
  What a reader answers hangs on kinds and texts of marks, not on their places; how a rule is read not on what stands behind it. So the rules of two texts are read one behind the other.
-/
import Derived.Test.YtgmihbfikggkjaaDoorRdQ
import Derived.Test.YtgmihbfikggkjaaDoorLwN
namespace Go.Proofs.YtgmihbfikggkjaaDoor
namespace Rd
open Lx (Mk M0 kt)
set_option linter.unusedVariables false
set_option linter.unusedSimpArgs false

/-! ## Without places -/
def er (m : Mk) : Mk := ⟨m.kind, m.text, 0, 0⟩
def Res.er {α : Type} : Res α → Res α
  | .ok a r => .ok a (r.map Rd.er)
  | .bad e r => .bad e (r.map Rd.er)
theorem hd_er (ms : List Mk) : hd (ms.map er) = er (hd ms) := by cases ms <;> rfl
theorem tail_er (ms : List Mk) : (ms.map er).tail = ms.tail.map er := by cases ms <;> rfl
theorem er_kind (m : Mk) : (er m).kind = m.kind := rfl
theorem er_text (m : Mk) : (er m).text = m.text := rfl
theorem isWord_er (t : Name) (m : Mk) : isWord t (er m) = isWord t m := rfl
theorem rights_er (ms : List Mk) (acc : List Name) : rights (ms.map er) acc = (rights ms acc).er := by
  induction ms generalizing acc with
  | nil => rfl
  | cons m r ih =>
    rw [List.map_cons]
    unfold rights
    rw [er_kind, er_text]
    by_cases h1 : m.kind = 1
    · rw [if_pos h1, if_pos h1]
      by_cases h2 : acc.length = 8
      · rw [if_pos h2, if_pos h2]; rfl
      · rw [if_neg h2, if_neg h2]; exact ih _
    · rw [if_neg h1, if_neg h1]; rfl
theorem prec_er (ms : List Mk) : prec (ms.map er) = (prec ms).er := by
  unfold prec
  rw [tail_er, tail_er, hd_er, hd_er, isWord_er, er_kind, er_text]
  split
  · split <;> rfl
  · rfl
theorem action_er (x : Rule) (ms : List Mk) : action x (ms.map er) = (action x ms).er := by
  unfold action
  rw [tail_er, hd_er, er_kind, er_text]
  split <;> rfl
theorem alt_er (left : Name) (n : Nat) (ms : List Mk) : alt left n (ms.map er) = (alt left n ms).er := by
  unfold alt
  by_cases hn : n = 40
  · rw [if_pos hn, if_pos hn]; rfl
  · rw [if_neg hn, if_neg hn, rights_er]
    cases hr : rights ms [] with
    | bad e r => rfl
    | ok l r =>
      simp only [Res.er]
      rw [prec_er]
      cases hp : prec r with
      | bad e r' => rfl
      | ok p r' =>
        simp only [Res.er]
        exact action_er _ _
theorem alts_er (f : Nat) (left : Name) (acc : List Rule) (ms : List Mk) : alts f left acc (ms.map er) = (alts f left acc ms).er := by
  induction f generalizing acc ms with
  | zero => rfl
  | succ f ih =>
    unfold alts
    rw [alt_er]
    cases ha : alt left acc.length ms with
    | bad e r => rfl
    | ok x r =>
      simp only [Res.er]
      rw [tail_er, hd_er, er_kind]
      by_cases h8 : (hd r).kind = 8
      · rw [if_pos h8, if_pos h8]
      · rw [if_neg h8, if_neg h8]
        by_cases h7 : (hd r).kind = 7
        · rw [if_pos h7, if_pos h7]; exact ih _ _
        · rw [if_neg h7, if_neg h7]
theorem rule_er (acc : List Rule) (ms : List Mk) : rule acc (ms.map er) = (rule acc ms).er := by
  unfold rule
  rw [tail_er, tail_er, hd_er, hd_er, er_kind, er_kind, er_text, List.length_map, alts_er]
  split
  · rfl
  · split <;> rfl
theorem rules_er (f : Nat) (acc : List Rule) (ms : List Mk) : rules f acc (ms.map er) = (rules f acc ms).er := by
  induction f generalizing acc ms with
  | zero => rfl
  | succ f ih =>
    unfold rules
    rw [rule_er]
    cases ha : rule acc ms with
    | bad e r => rfl
    | ok x r =>
      simp only [Res.er]
      rw [hd_er, er_kind]
      by_cases h0 : (hd r).kind = 0
      · rw [if_pos h0, if_pos h0]
      · rw [if_neg h0, if_neg h0]; exact ih _ _

/-! ## What stands behind -/
theorem mid {ms r p p' s : List Mk} (hm : ms = p ++ s) (h : r <:+ ms) (hl : (p' ++ s).length ≤ r.length) (hp : p' ≠ []) : ∃ p1, p1 ≠ [] ∧ r = p1 ++ s := by
  subst hm
  obtain ⟨p1, h1⟩ := List.suffix_of_suffix_length_le (List.suffix_append p s) h (by simp at hl; omega)
  refine ⟨p1, ?_, h1.symm⟩
  rintro rfl
  have : 0 < p'.length := List.length_pos_iff.2 hp
  rw [← h1] at hl
  simp only [List.length_append, List.length_nil] at hl
  omega
theorem rights_loc {p p' s : List Mk} {acc l : List Name} (h : rights (p ++ s) acc = .ok l (p' ++ s)) (hp : p' ≠ []) (t : List Mk) : rights (p ++ t) acc = .ok l (p' ++ t) := by
  have hpos : 0 < p'.length := List.length_pos_iff.2 hp
  induction p generalizing acc with
  | nil =>
    have := rights_most ([] ++ s) acc
    rw [h] at this
    simp only [Res.Most, List.length_append, List.length_nil] at this
    omega
  | cons m p ih =>
    rw [List.cons_append] at h ⊢
    unfold rights at h ⊢
    by_cases h1 : m.kind = 1
    · rw [if_pos h1] at h ⊢
      by_cases h2 : acc.length = 8
      · rw [if_pos h2] at h; cases h
      · rw [if_neg h2] at h ⊢; exact ih h
    · rw [if_neg h1] at h ⊢
      rw [← List.cons_append] at h
      simp only [Res.ok.injEq] at h
      rw [← h.1, ← List.append_cancel_right h.2]
      rfl
theorem prec_cons (m : Mk) (p : List Mk) : prec (m :: p) = if isWord [112, 114, 101, 99] m = true then (if (hd p).kind = 1 then .ok (hd p).text p.tail else .bad 14 p) else .ok [] (m :: p) := rfl
theorem action_cons (x : Rule) (m : Mk) (p : List Mk) : action x (m :: p) = if m.kind = 9 then .ok { x with action := m.text } p else .ok x (m :: p) := rfl
theorem rule_one (acc : List Rule) (m : Mk) (p : List Mk) : rule acc (m :: p) = if m.kind ≠ 1 then .bad 14 (m :: p) else if (hd p).kind ≠ 6 then .bad 14 p else alts ((m :: p).length + 1) m.text acc p.tail := rfl
theorem rule_two (acc : List Rule) (m n : Mk) (p : List Mk) : rule acc (m :: n :: p) = if m.kind ≠ 1 then .bad 14 (m :: n :: p) else if n.kind ≠ 6 then .bad 14 (n :: p) else alts ((m :: n :: p).length + 1) m.text acc p := rfl
theorem prec_loc {p p' s : List Mk} {x : Name} (h : prec (p ++ s) = .ok x (p' ++ s)) (hp : p' ≠ []) (t : List Mk) : prec (p ++ t) = .ok x (p' ++ t) := by
  have hpos : 0 < p'.length := List.length_pos_iff.2 hp
  cases p with
  | nil =>
    have := prec_most ([] ++ s)
    rw [h] at this
    simp only [Res.Most, List.length_append, List.length_nil] at this
    omega
  | cons m p =>
    rw [List.cons_append, prec_cons] at h ⊢
    by_cases h1 : isWord [112, 114, 101, 99] m = true
    · rw [if_pos h1] at h ⊢
      cases p with
      | nil =>
        simp only [List.nil_append] at h
        split at h
        · simp only [Res.ok.injEq] at h
          have := congrArg List.length h.2
          simp only [List.length_append, List.length_tail] at this
          omega
        · cases h
      | cons m2 p2 =>
        have e : ∀ u : List Mk, (if (hd (m2 :: p2 ++ u)).kind = 1 then Res.ok (hd (m2 :: p2 ++ u)).text (m2 :: p2 ++ u).tail else .bad 14 (m2 :: p2 ++ u)) = if m2.kind = 1 then Res.ok m2.text (p2 ++ u) else .bad 14 (m2 :: (p2 ++ u)) := fun _ => rfl
        rw [e] at h ⊢
        by_cases h2 : m2.kind = 1
        · rw [if_pos h2] at h ⊢
          simp only [Res.ok.injEq] at h
          rw [← h.1, ← List.append_cancel_right h.2]
        · rw [if_neg h2] at h; cases h
    · rw [if_neg h1] at h ⊢
      rw [← List.cons_append] at h
      simp only [Res.ok.injEq] at h
      rw [← h.1, ← List.append_cancel_right h.2]
      rfl
theorem action_loc {p p' s : List Mk} {x y : Rule} (h : action x (p ++ s) = .ok y (p' ++ s)) (hp : p' ≠ []) (t : List Mk) : action x (p ++ t) = .ok y (p' ++ t) := by
  have hpos : 0 < p'.length := List.length_pos_iff.2 hp
  cases p with
  | nil =>
    have := action_most x ([] ++ s)
    rw [h] at this
    simp only [Res.Most, List.length_append, List.length_nil] at this
    omega
  | cons m p =>
    rw [List.cons_append, action_cons] at h ⊢
    by_cases h1 : m.kind = 9
    · rw [if_pos h1] at h ⊢
      simp only [Res.ok.injEq] at h
      rw [← h.1, ← List.append_cancel_right h.2]
    · rw [if_neg h1] at h ⊢
      rw [← List.cons_append] at h
      simp only [Res.ok.injEq] at h
      rw [← h.1, ← List.append_cancel_right h.2]
      rfl
theorem alt_loc {p p' s : List Mk} {left : Name} {n : Nat} {x : Rule} (h : alt left n (p ++ s) = .ok x (p' ++ s)) (hp : p' ≠ []) (t : List Mk) : alt left n (p ++ t) = .ok x (p' ++ t) := by
  unfold alt at h ⊢
  by_cases hn : n = 40
  · rw [if_pos hn] at h; cases h
  · rw [if_neg hn] at h ⊢
    have hs1 := rights_sf (p ++ s) []
    cases hr : rights (p ++ s) [] with
    | bad e r => rw [hr] at h; cases h
    | ok l r =>
      rw [hr] at h hs1
      simp only [] at h
      have hs2 := prec_sf r
      cases hq : prec r with
      | bad e r' => rw [hq] at h; cases h
      | ok c r' =>
        rw [hq] at h hs2
        simp only [] at h
        have hm := action_most ⟨left, l, c, []⟩ r'
        rw [h] at hm
        have hs12 : r' <:+ p ++ s := (Sf.trans hs1 hs2).suf
        obtain ⟨p2, hp2, rfl⟩ := mid rfl hs12 hm hp
        have hl2 : (p2 ++ s).length ≤ r.length := (show Sf r (p2 ++ s) from hs2).suf.length_le
        obtain ⟨p1, hp1, rfl⟩ := mid rfl (show Sf (p ++ s) r from hs1).suf hl2 hp2
        rw [rights_loc hr hp1 t]
        simp only []
        rw [prec_loc hq hp2 t]
        simp only []
        exact action_loc h hp t
theorem alts_loc {f f' : Nat} {p p' s t : List Mk} {left : Name} {acc rs : List Rule} (h : alts f left acc (p ++ s) = .ok rs (p' ++ s)) (hf : (p ++ t).length < f') : alts f' left acc (p ++ t) = .ok rs (p' ++ t) := by
  induction f generalizing acc p f' with
  | zero => unfold alts at h; cases h
  | succ f ih =>
    obtain ⟨f', rfl⟩ : ∃ k, f' = k + 1 := ⟨f' - 1, by omega⟩
    unfold alts at h ⊢
    have hs := alt_sf left acc.length (p ++ s)
    cases ha : alt left acc.length (p ++ s) with
    | bad e r => rw [ha] at h; cases h
    | ok x r =>
      rw [ha] at h hs
      simp only [] at h
      have hs1 : r <:+ p ++ s := (show Sf (p ++ s) r from hs).suf
      by_cases h8 : (hd r).kind = 8
      · rw [if_pos h8] at h
        cases r with
        | nil => rw [hd_nil] at h8; simp at h8
        | cons m r =>
          rw [List.tail_cons] at h
          simp only [Res.ok.injEq] at h
          obtain ⟨h1, rfl⟩ := h
          rw [← List.cons_append] at ha
          rw [alt_loc ha (by simp) t]
          simp only []
          rw [if_pos (show (hd (m :: p' ++ t)).kind = 8 from h8), h1]
          rfl
      · rw [if_neg h8] at h
        by_cases h7 : (hd r).kind = 7
        · rw [if_pos h7] at h
          cases r with
          | nil => rw [hd_nil] at h7; simp at h7
          | cons m r =>
            rw [List.tail_cons] at h
            have hl : (p' ++ s).length ≤ r.length := by
              have h3 := alts_sf f left (acc ++ [x]) r
              rw [h] at h3
              exact (show Sf r (p' ++ s) from h3).suf.length_le
            have hr : r <:+ p ++ s := (List.suffix_cons m r).trans hs1
            obtain ⟨p2, rfl⟩ : ∃ p2, r = p2 ++ s := by
              obtain ⟨p2, h2⟩ := List.suffix_of_suffix_length_le (List.suffix_append p s) hr (by simp at hl; omega)
              exact ⟨p2, h2.symm⟩
            rw [← List.cons_append] at ha
            have ha' := alt_loc ha (by simp) t
            rw [ha']
            simp only []
            rw [if_neg (show ¬ (hd (m :: p2 ++ t)).kind = 8 from h8), if_pos (show (hd (m :: p2 ++ t)).kind = 7 from h7)]
            refine ih h ?_
            have h4 := alt_most left acc.length (p ++ t)
            rw [ha'] at h4
            simp only [Res.Most, List.length_cons, List.cons_append] at h4
            omega
        · rw [if_neg h7] at h; cases h
theorem rule_loc {p p' s : List Mk} {acc rs : List Rule} (h : rule acc (p ++ s) = .ok rs (p' ++ s)) (t : List Mk) : rule acc (p ++ t) = .ok rs (p' ++ t) := by
  have hl := rule_less acc (p ++ s)
  rw [h] at hl
  simp only [Res.Less, List.length_append] at hl
  cases p with
  | nil => simp only [List.length_nil] at hl; omega
  | cons m1 p1 =>
    by_cases h1 : m1.kind ≠ 1
    · rw [List.cons_append, rule_one, if_pos h1] at h; cases h
    · cases p1 with
      | nil =>
        rw [List.cons_append, rule_one, if_neg h1, List.nil_append] at h
        by_cases h2 : (hd s).kind ≠ 6
        · rw [if_pos h2] at h; cases h
        · rw [if_neg h2] at h
          have h3 := (alts_sf ((m1 :: s).length + 1) m1.text acc s.tail)
          rw [h] at h3
          have h4 := (show Sf s.tail (p' ++ s) from h3).suf.length_le
          have h5 := hd_lt (ms := s) (by omega)
          simp only [List.length_append] at h4
          omega
      | cons m2 p2 =>
        rw [List.cons_append, List.cons_append, rule_two, if_neg h1] at h ⊢
        by_cases h2 : m2.kind ≠ 6
        · rw [if_pos h2] at h; cases h
        · rw [if_neg h2] at h ⊢
          exact alts_loc h (by simp; omega)
theorem rules_loc {f : Nat} {p q r : List Mk} {e : Mk} {acc rs : List Rule} (h : rules f acc (p ++ [e]) = .ok rs r) (he : e.kind = 0) (hp : ∀ m ∈ p, m.kind ≠ 0) (hq : (hd q).kind ≠ 0) {f' : Nat} (hf : (p ++ q).length < f') :
    ∃ f2, q.length < f2 ∧ rules f' acc (p ++ q) = rules f2 rs q := by
  induction f generalizing acc p f' with
  | zero => unfold rules at h; cases h
  | succ f ih =>
    obtain ⟨f', rfl⟩ : ∃ k, f' = k + 1 := ⟨f' - 1, by omega⟩
    unfold rules at h
    have hs := rule_sf acc (p ++ [e])
    cases ha : rule acc (p ++ [e]) with
    | bad c r1 => rw [ha] at h; cases h
    | ok acc' r1 =>
      rw [ha] at h hs
      simp only [] at h
      have hs1 : Sf (p ++ [e]) r1 := hs
      have hne := (hs1.good ⟨p, e, rfl, he⟩).ne
      obtain ⟨p1, rfl⟩ : ∃ p1, r1 = p1 ++ [e] := by
        obtain ⟨p1, h1⟩ := List.suffix_of_suffix_length_le (List.suffix_append p [e]) hs1.suf (by have := List.length_pos_iff.2 hne; simp only [List.length_cons, List.length_nil]; omega)
        exact ⟨p1, h1.symm⟩
      have hsub : ∀ m ∈ p1, m.kind ≠ 0 := by
        obtain ⟨u, hu⟩ := hs1.suf
        rw [← List.append_assoc] at hu
        have := List.append_cancel_right hu
        intro m hm
        exact hp m (by rw [← this]; simp [hm])
      have hloc := rule_loc ha q
      have hless := rule_less acc (p ++ q)
      rw [hloc] at hless
      simp only [Res.Less] at hless
      have hgo : rules (f' + 1) acc (p ++ q) = rules f' acc' (p1 ++ q) := by
        rw [rules, hloc]
        simp only []
        rw [if_neg]
        cases p1 with
        | nil => exact hq
        | cons m p1 => exact hsub m (by simp)
      rw [hgo]
      by_cases h0 : (hd (p1 ++ [e])).kind = 0
      · rw [if_pos h0] at h
        cases p1 with
        | cons m p1 => exact absurd h0 (hsub m (by simp))
        | nil =>
          simp only [Res.ok.injEq] at h
          rw [h.1]
          exact ⟨f', by simp only [List.nil_append] at hless; omega, rfl⟩
      · rw [if_neg h0] at h
        exact ih h hsub (by omega)

/-! ## What stands ahead -/
/-- What is read behind b is read behind any other list of rules, if there is room. -/
def Adds (go : List Rule → Res (List Rule)) (b c : List Rule) (r : List Mk) : Prop :=
  ∃ x, c = b ++ x ∧ ∀ acc : List Rule, acc.length ≤ 40 → (acc.length + x.length ≤ 40 → go acc = .ok (acc ++ x) r) ∧ (40 < acc.length + x.length → ∃ r', go acc = .bad 3 r')
theorem alt_room {left : Name} {n n' : Nat} {ms r : List Mk} {x : Rule} (h : alt left n ms = .ok x r) (hn : n' ≠ 40) : alt left n' ms = .ok x r := by
  unfold alt at h ⊢
  split at h
  · cases h
  · rw [if_neg hn]; exact h
theorem alts_adds {f : Nat} {left : Name} {b c : List Rule} {ms r : List Mk} (h : alts f left b ms = .ok c r) : Adds (fun acc => alts f left acc ms) b c r := by
  induction f generalizing b ms with
  | zero => unfold alts at h; cases h
  | succ f ih =>
    unfold alts at h
    cases ha : alt left b.length ms with
    | bad e r1 => rw [ha] at h; cases h
    | ok x r1 =>
      rw [ha] at h
      simp only [] at h
      have full : ∀ acc : List Rule, acc.length = 40 → alts (f + 1) left acc ms = .bad 3 ms := by
        intro acc hl
        unfold alts alt
        rw [if_pos hl]
      by_cases h8 : (hd r1).kind = 8
      · rw [if_pos h8] at h
        simp only [Res.ok.injEq] at h
        obtain ⟨rfl, rfl⟩ := h
        refine ⟨[x], rfl, fun acc hl => ⟨fun hk => ?_, fun hk => ⟨_, full acc (by simp at hk; omega)⟩⟩⟩
        show alts (f + 1) left acc ms = _
        unfold alts
        rw [alt_room ha (by simp at hk; omega)]
        simp only []
        rw [if_pos h8]
      · rw [if_neg h8] at h
        by_cases h7 : (hd r1).kind = 7
        · rw [if_pos h7] at h
          obtain ⟨x2, hx, hgo⟩ := ih h
          refine ⟨x :: x2, by rw [hx]; simp, fun acc hl => ?_⟩
          by_cases h40 : acc.length = 40
          · exact ⟨fun hk => by simp at hk; omega, fun hk => ⟨_, full acc h40⟩⟩
          · obtain ⟨g1, g2⟩ := hgo (acc ++ [x]) (by simp; omega)
            have hst : alts (f + 1) left acc ms = alts f left (acc ++ [x]) r1.tail := by
              rw [alts, alt_room ha h40]
              simp only []
              rw [if_neg h8, if_pos h7]
            refine ⟨fun hk => ?_, fun hk => ?_⟩
            · have := g1 (by simp at hk ⊢; omega)
              show alts (f + 1) left acc ms = _
              rw [hst, show alts f left (acc ++ [x]) r1.tail = _ from this]; simp
            · obtain ⟨r', hr'⟩ := g2 (by simp at hk ⊢; omega)
              exact ⟨r', hst.trans hr'⟩
        · rw [if_neg h7] at h; cases h
theorem rule_adds {b c : List Rule} {ms r : List Mk} (h : rule b ms = .ok c r) : Adds (fun acc => rule acc ms) b c r := by
  unfold rule at h ⊢
  split at h
  · cases h
  · rename_i h1
    split at h
    · cases h
    · rename_i h2
      simp only [if_neg h1, if_neg h2]
      exact alts_adds h
theorem rules_adds {f : Nat} {b c : List Rule} {ms r : List Mk} (h : rules f b ms = .ok c r) {f' : Nat} (hf : ms.length < f') : Adds (fun acc => rules f' acc ms) b c r := by
  induction f generalizing b ms f' with
  | zero => unfold rules at h; cases h
  | succ f ih =>
    obtain ⟨f', rfl⟩ : ∃ k, f' = k + 1 := ⟨f' - 1, by omega⟩
    unfold rules at h
    have hless := rule_less b ms
    cases ha : rule b ms with
    | bad e r1 => rw [ha] at h; cases h
    | ok b1 r1 =>
      rw [ha] at h hless
      simp only [Res.Less] at h hless
      obtain ⟨x1, hx1, hgo1⟩ := rule_adds ha
      by_cases h0 : (hd r1).kind = 0
      · rw [if_pos h0] at h
        simp only [Res.ok.injEq] at h
        obtain ⟨rfl, rfl⟩ := h
        refine ⟨x1, hx1, fun acc hl => ⟨fun hk => ?_, fun hk => ?_⟩⟩
        · show rules (f' + 1) acc ms = _
          rw [rules, show rule acc ms = _ from (hgo1 acc hl).1 hk]
          simp only []
          rw [if_pos h0]
        · obtain ⟨r', hr'⟩ := (hgo1 acc hl).2 hk
          refine ⟨r', ?_⟩
          show rules (f' + 1) acc ms = _
          rw [rules, show rule acc ms = _ from hr']
      · rw [if_neg h0] at h
        obtain ⟨x2, hx2, hgo2⟩ := ih h (f' := f') (by omega)
        refine ⟨x1 ++ x2, by rw [hx2, hx1]; simp, fun acc hl => ?_⟩
        by_cases h1 : acc.length + x1.length ≤ 40
        · have hst : rules (f' + 1) acc ms = rules f' (acc ++ x1) r1 := by
            rw [rules, show rule acc ms = _ from (hgo1 acc hl).1 h1]
            simp only []
            rw [if_neg h0]
          obtain ⟨g1, g2⟩ := hgo2 (acc ++ x1) (by simpa using h1)
          refine ⟨fun hk => ?_, fun hk => ?_⟩
          · show rules (f' + 1) acc ms = _
            rw [hst, show rules f' (acc ++ x1) r1 = _ from g1 (by simp at hk ⊢; omega)]; simp
          · obtain ⟨r', hr'⟩ := g2 (by simp at hk ⊢; omega)
            exact ⟨r', hst.trans hr'⟩
        · obtain ⟨r', hr'⟩ := (hgo1 acc hl).2 (by omega)
          refine ⟨fun hk => by simp at hk; omega, fun hk => ⟨r', ?_⟩⟩
          show rules (f' + 1) acc ms = _
          rw [rules, show rule acc ms = _ from hr']

/-- Rules of two lists of marks, one behind the other. -/
theorem rules_join {fa fb f : Nat} {p q ra rb : List Mk} {e : Mk} {rs rs' : List Rule} (ha : rules fa [] (p ++ [e]) = .ok rs ra) (hb : rules fb [] q = .ok rs' rb) (he : e.kind = 0) (hp : ∀ m ∈ p, m.kind ≠ 0) (h40 : rs.length ≤ 40) (hf : (p ++ q).length < f) :
    (rs.length + rs'.length ≤ 40 → ∃ r, rules f [] (p ++ q) = .ok (rs ++ rs') r) ∧ (40 < rs.length + rs'.length → ∃ r, rules f [] (p ++ q) = .bad 3 r) := by
  have hq : (hd q).kind ≠ 0 := by
    intro h0
    cases fb with
    | zero => unfold rules at hb; cases hb
    | succ fb =>
      unfold rules rule at hb
      rw [if_pos (by omega)] at hb
      cases hb
  obtain ⟨f2, hf2, heq⟩ := rules_loc ha he hp hq hf
  obtain ⟨x, hx, hgo⟩ := rules_adds hb hf2
  rw [List.nil_append] at hx
  subst hx
  obtain ⟨g1, g2⟩ := hgo rs h40
  rw [heq]
  exact ⟨fun h => ⟨_, g1 h⟩, fun h => g2 h⟩

/-! ## Texts behind a %% -/
theorem lex_mark (l : List UInt8) (hl : l.length ≤ 3998) : Lx.lex (37 :: 37 :: l) = Lx.run (l.length + 2) l 2 [(2, [37], 0)] := by
  unfold Lx.lex
  rw [if_neg (by simp; omega), Lx.run_mark (k := 2) (t := [37]) (n := 2) (by omega) (by simp) (by rfl)]
  rfl
theorem run_places : ∀ (n : Nat) (l : List UInt8) (f i : Nat) (acc : List M0) (f' j : Nat) (acc' : List M0), l.length ≤ n → l.length < f → l.length < f' →
    (∃ ms ms' : List M0, Lx.run f l i acc = .ok (acc ++ ms) ∧ Lx.run f' l j acc' = .ok (acc' ++ ms') ∧ ms.map kt = ms'.map kt) ∨ (∃ c p, Lx.run f l i acc = .bad c p) := by
  intro n
  induction n with
  | zero =>
    intro l f i acc f' j acc' hn hf hf'
    obtain rfl : l = [] := List.eq_nil_of_length_eq_zero (by omega)
    exact .inl ⟨[(0, [], i)], [(0, [], j)], Lx.run_end (by omega), Lx.run_end (by omega), rfl⟩
  | succ n ih =>
    intro l f i acc f' j acc' hn hf hf'
    by_cases hl : l = []
    · subst hl
      exact .inl ⟨[(0, [], i)], [(0, [], j)], Lx.run_end (by omega), Lx.run_end (by omega), rfl⟩
    · obtain ⟨c0, r0, rfl⟩ := List.exists_cons_of_ne_nil hl
      have hfit := Lx.step_fits c0 r0
      cases hs : Lx.step (c0 :: r0) with
      | skip m =>
        rw [hs] at hfit
        obtain ⟨m1, m2⟩ := hfit
        have hlen : ((c0 :: r0).drop m).length = (c0 :: r0).length - m := List.length_drop ..
        rw [Lx.run_skip (by omega) hl hs, Lx.run_skip (by omega) hl hs]
        exact ih _ _ _ _ _ _ _ (by rw [hlen]; omega) (by rw [hlen]; omega) (by rw [hlen]; omega)
      | mark k t m =>
        rw [hs] at hfit
        obtain ⟨m1, m2, _⟩ := hfit
        have hlen : ((c0 :: r0).drop m).length = (c0 :: r0).length - m := List.length_drop ..
        rw [Lx.run_mark (by omega) hl hs, Lx.run_mark (by omega) hl hs]
        rcases ih ((c0 :: r0).drop m) (f - 1) (i + m) (acc ++ [(k, t, i)]) (f' - 1) (j + m) (acc' ++ [(k, t, j)]) (by rw [hlen]; omega) (by rw [hlen]; omega) (by rw [hlen]; omega) with ⟨ms, ms', e1, e2, e3⟩ | h
        · refine .inl ⟨(k, t, i) :: ms, (k, t, j) :: ms', by rw [e1]; simp, by rw [e2]; simp, ?_⟩
          simp only [List.map_cons, e3]; rfl
        · exact .inr h
      | bad c m => exact .inr ⟨c, _, Lx.run_bad (by omega) hl hs⟩

def ek (m : M0) : Mk := ⟨m.1, m.2.1, 0, 0⟩
theorem er_mkOf (l : List UInt8) (ms : List M0) : (ms.map (Lx.mkOf l)).map er = ms.map ek := by rw [List.map_map]; rfl
theorem ek_kt {ms ms' : List M0} (h : ms.map kt = ms'.map kt) : ms.map ek = ms'.map ek := by
  have e : ∀ l : List M0, l.map ek = (l.map kt).map (fun p => ⟨p.1, p.2, 0, 0⟩) := fun l => by rw [List.map_map]; rfl
  rw [e, e, h]

/-- What rules of a text behind a %% are read. -/
def ofRules : Res (List Rule) → Res G
  | .ok rs r => .ok ⟨[], [], [], (rs.headD ⟨[], [], [], []⟩).left, rs⟩ r
  | .bad e r => .bad e r
theorem parse_mark (a b : Nat) (r : List Mk) : parse (⟨2, [37], a, b⟩ :: r) = ofRules (rules (r.length + 1) [] r) := by
  have e : decls ((⟨2, [37], a, b⟩ :: r : List Mk).length + 1) none_ (⟨2, [37], a, b⟩ :: r) = .ok none_ r := rfl
  unfold parse
  rw [e]
  simp only []
  cases rules (r.length + 1) [] r <;> rfl
theorem Res.er_ok {α : Type} {x : Res α} {a : α} {r : List Mk} (h : x.er = .ok a r) : ∃ r', x = .ok a r' := by
  cases x with
  | ok b s => simp only [Res.er, Res.ok.injEq] at h; exact ⟨s, by rw [h.1]⟩
  | bad e s => cases h
theorem Res.er_bad {α : Type} {x : Res α} {e : Nat} {r : List Mk} (h : x.er = .bad e r) : ∃ r', x = .bad e r' := by
  cases x with
  | ok b s => cases h
  | bad f s => simp only [Res.er, Res.bad.injEq] at h; exact ⟨s, by rw [h.1]⟩
/-- Of a text behind a %% whose marks are ms. -/
theorem read_mark {l : List UInt8} {ms : List M0} (h : Lx.lex (37 :: 37 :: l) = .ok ((2, [37], 0) :: ms)) :
    ∃ x : Res (List Rule), x.er = rules (ms.length + 1) [] (ms.map ek) ∧ readG (37 :: 37 :: l) = (ofRules x).grammar ∧ readD (37 :: 37 :: l) = (ofRules x).diag := by
  refine ⟨rules (ms.length + 1) [] (ms.map (Lx.mkOf (37 :: 37 :: l))), ?_, ?_, ?_⟩
  · rw [← rules_er, er_mkOf]
  · unfold readG
    rw [h]
    simp only [List.map_cons]
    rw [show Lx.mkOf (37 :: 37 :: l) (2, [37], 0) = ⟨2, [37], 1, 1⟩ from rfl, parse_mark, List.length_map]
  · unfold readD
    rw [h]
    simp only [List.map_cons]
    rw [show Lx.mkOf (37 :: 37 :: l) (2, [37], 0) = ⟨2, [37], 1, 1⟩ from rfl, parse_mark, List.length_map]
theorem ofRules_ok {x : Res (List Rule)} {P : Nat × Nat} (h : (ofRules x).diag = (0, P)) (hx : ∀ e r, x = .bad e r → e ≠ 0) : ∃ rs r, x = .ok rs r := by
  cases x with
  | ok rs r => exact ⟨rs, r, rfl⟩
  | bad e r =>
    simp only [ofRules, Res.diag, Prod.mk.injEq] at h
    exact absurd h.1 (hx e r rfl)
theorem lexed_of {l : List UInt8} {P : Nat × Nat} (h : readD l = (0, P)) {c i : Nat} (hx : Lx.lex l = .bad c i) : False := by
  unfold readD at h
  rw [hx] at h
  simp only [Prod.mk.injEq] at h
  have := (Lx.lex_at hx).1
  omega
/-- The rules of two texts, one behind the other. -/
theorem read_join (a b : List UInt8) (ha : a.length ≤ 300) (hb : b.length ≤ 300) {P Q : Nat × Nat} (h1 : readD (37 :: 37 :: a) = (0, P)) (h2 : readD (37 :: 37 :: b) = (0, Q)) :
    ∃ rs rs' : List Rule, readG (37 :: 37 :: a) = ⟨[], [], [], (rs.headD ⟨[], [], [], []⟩).left, rs⟩ ∧ readG (37 :: 37 :: b) = ⟨[], [], [], (rs'.headD ⟨[], [], [], []⟩).left, rs'⟩ ∧ ROk rs ∧ ROk rs' ∧
      (rs.length + rs'.length ≤ 40 → readD (37 :: 37 :: (a ++ 10 :: b)) = (0, 0, 0) ∧ readG (37 :: 37 :: (a ++ 10 :: b)) = ⟨[], [], [], (rs.headD ⟨[], [], [], []⟩).left, rs ++ rs'⟩) ∧
      (40 < rs.length + rs'.length → ∃ R, readD (37 :: 37 :: (a ++ 10 :: b)) = (3, R) ∧ readG (37 :: 37 :: (a ++ 10 :: b)) = zero) := by
  have lA := lex_mark a (by omega)
  have lB := lex_mark b (by omega)
  have lZ := lex_mark (a ++ 10 :: b) (by simp; omega)
  rcases Lx.run_tail b a.length a (a.length + 2) 2 [(2, [37], 0)] ((a ++ 10 :: b).length + 2) 2 [(2, [37], 0)] (Nat.le_refl _) (by omega) (by omega) with ⟨ms, ms', e1, ⟨f2, e2, e3⟩, e4⟩ | ⟨c, p, e1, _⟩
  · rw [e1] at lA
    rw [e3, Lx.run_skip (by omega) (by simp) (Lx.step_space _ (by decide)), List.drop_one, List.tail_cons] at lZ
    rcases run_places b.length b (b.length + 2) 2 [(2, [37], 0)] (f2 - 1) (2 + a.length + 1) ([(2, [37], 0)] ++ ms') (Nat.le_refl _) (by omega) (by simp at e2; omega) with ⟨mb, mb', g1, g2, g3⟩ | ⟨c, p, g1⟩
    · rw [g1] at lB
      rw [g2] at lZ
      have hgood := Lx.lex_good lA
      simp only [List.append_assoc, List.cons_append, List.nil_append] at lA lB lZ
      obtain ⟨xa, a1, a2, a3⟩ := read_mark lA
      obtain ⟨xb, b1, b2, b3⟩ := read_mark lB
      obtain ⟨xz, z1, z2, z3⟩ := read_mark lZ
      have G1 := read_good (P := P) h1
      have G2 := read_good (P := Q) h2
      rw [a3] at h1
      rw [b3] at h2
      obtain ⟨rs, ra, rfl⟩ := ofRules_ok h1 (fun e r he => by subst he; exact rules_code a1.symm)
      obtain ⟨rs', rb, rfl⟩ := ofRules_ok h2 (fun e r he => by subst he; exact rules_code b1.symm)
      rw [a2] at G1
      rw [b2] at G2
      have k1 := G1.1.rok
      have k2 := G2.1.rok
      have hne := G1.1.rules
      refine ⟨rs, rs', a2, b2, k1, k2, ?_⟩
      have hms : ∀ m ∈ ms.map ek, m.kind ≠ 0 := by
        obtain ⟨ms0, h0, ho⟩ := hgood
        have h0' : ([(2, [37], 0)] ++ ms) ++ [(0, [], 2 + a.length)] = ms0 ++ [(0, [], (37 :: 37 :: a : List UInt8).length)] := h0
        have he := (List.append_inj' h0' rfl).1
        intro m hm
        obtain ⟨m0, hm0, rfl⟩ := List.mem_map.1 hm
        have := (ho.each m0 (by rw [← he]; simp [hm0])).1
        show m0.1 ≠ 0
        omega
      have n1 := congrArg List.length e4
      have n2 := congrArg List.length g3
      simp only [List.length_map] at n1 n2
      rw [List.map_append, List.map_cons, List.map_nil] at a1
      rw [List.map_append, ← ek_kt e4, ← ek_kt g3] at z1
      have J := rules_join (f := (ms' ++ mb').length + 1) a1.symm b1.symm rfl hms k1.1 (by simp; omega)
      refine ⟨fun h => ?_, fun h => ?_⟩
      · obtain ⟨r, hr⟩ := J.1 h
        obtain ⟨r', rfl⟩ := Res.er_ok (z1.trans hr)
        refine ⟨z3, ?_⟩
        rw [z2]
        obtain ⟨x, l, rfl⟩ := List.exists_cons_of_ne_nil hne
        rfl
      · obtain ⟨r, hr⟩ := J.2 h
        obtain ⟨r', rfl⟩ := Res.er_bad (z1.trans hr)
        exact ⟨_, z3, z2⟩
    · rw [g1] at lB
      exact (lexed_of h2 lB).elim
  · rw [e1] at lA
    exact (lexed_of h1 lA).elim
end Rd
end Go.Proofs.YtgmihbfikggkjaaDoor
