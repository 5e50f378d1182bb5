/-
  What a reader answers hangs on kinds and texts of marks, not on their places; how a rule is read not on what stands behind it. So the rules of two texts are read one behind the other.
  Texts that are written piece by piece, and their marks: words, declarations of tokens; what is read of a list of tokens that are declared.
  ReaderRules in plain words: its text, the marks of that, the rules that are read of them; an argument of type [][]uint8.
-/
import Derived.Test.YtpgmapjjjpcmfaaGreatDoorRdAE
import Derived.Test.YtpgmapjjjpcmfaaGreatDoorLwAA
import Derived.Deep.Matrix
namespace Go.Proofs.YtpgmapjjjpcmfaaGreatDoor
namespace Rd
open Lx (Mk M0 kt)
set_option linter.unusedVariables false
set_option linter.unusedSimpArgs false

/-! ## Without places -/
def er (m : Mk) : Mk := ⟨m.kind, m.text, 0, 0⟩
def Res.er {α : Type} : Res α → Res α
  | .ok a r => .ok a (r.map Rd.er)
  | .bad e r => .bad e (r.map Rd.er)
theorem hd_er (ms : List Mk) : hd (ms.map er) = er (hd ms) := by cases ms <;> rfl
theorem tail_er (ms : List Mk) : (ms.map er).tail = ms.tail.map er := by cases ms <;> rfl
theorem er_kind (m : Mk) : (er m).kind = m.kind := rfl
theorem er_text (m : Mk) : (er m).text = m.text := rfl
theorem isWord_er (t : Name) (m : Mk) : isWord t (er m) = isWord t m := rfl
theorem rights_er (ms : List Mk) (acc : List Name) : rights (ms.map er) acc = (rights ms acc).er := by
  induction ms generalizing acc with
  | nil => rfl
  | cons m r ih =>
    rw [List.map_cons]
    unfold rights
    rw [er_kind, er_text]
    by_cases h1 : m.kind = 1
    · rw [if_pos h1, if_pos h1]
      by_cases h2 : acc.length = 8
      · rw [if_pos h2, if_pos h2]; rfl
      · rw [if_neg h2, if_neg h2]; exact ih _
    · rw [if_neg h1, if_neg h1]; rfl
theorem prec_er (ms : List Mk) : prec (ms.map er) = (prec ms).er := by
  unfold prec
  rw [tail_er, tail_er, hd_er, hd_er, isWord_er, er_kind, er_text]
  split
  · split <;> rfl
  · rfl
theorem action_er (x : Rule) (ms : List Mk) : action x (ms.map er) = (action x ms).er := by
  unfold action
  rw [tail_er, hd_er, er_kind, er_text]
  split <;> rfl
theorem alt_er (left : Name) (n : Nat) (ms : List Mk) : alt left n (ms.map er) = (alt left n ms).er := by
  unfold alt
  by_cases hn : n = 40
  · rw [if_pos hn, if_pos hn]; rfl
  · rw [if_neg hn, if_neg hn, rights_er]
    cases hr : rights ms [] with
    | bad e r => rfl
    | ok l r =>
      simp only [Res.er]
      rw [prec_er]
      cases hp : prec r with
      | bad e r' => rfl
      | ok p r' =>
        simp only [Res.er]
        exact action_er _ _
theorem alts_er (f : Nat) (left : Name) (acc : List Rule) (ms : List Mk) : alts f left acc (ms.map er) = (alts f left acc ms).er := by
  induction f generalizing acc ms with
  | zero => rfl
  | succ f ih =>
    unfold alts
    rw [alt_er]
    cases ha : alt left acc.length ms with
    | bad e r => rfl
    | ok x r =>
      simp only [Res.er]
      rw [tail_er, hd_er, er_kind]
      by_cases h8 : (hd r).kind = 8
      · rw [if_pos h8, if_pos h8]
      · rw [if_neg h8, if_neg h8]
        by_cases h7 : (hd r).kind = 7
        · rw [if_pos h7, if_pos h7]; exact ih _ _
        · rw [if_neg h7, if_neg h7]
theorem rule_er (acc : List Rule) (ms : List Mk) : rule acc (ms.map er) = (rule acc ms).er := by
  unfold rule
  rw [tail_er, tail_er, hd_er, hd_er, er_kind, er_kind, er_text, List.length_map, alts_er]
  split
  · rfl
  · split <;> rfl
theorem rules_er (f : Nat) (acc : List Rule) (ms : List Mk) : rules f acc (ms.map er) = (rules f acc ms).er := by
  induction f generalizing acc ms with
  | zero => rfl
  | succ f ih =>
    unfold rules
    rw [rule_er]
    cases ha : rule acc ms with
    | bad e r => rfl
    | ok x r =>
      simp only [Res.er]
      rw [hd_er, er_kind]
      by_cases h0 : (hd r).kind = 0
      · rw [if_pos h0, if_pos h0]
      · rw [if_neg h0, if_neg h0]; exact ih _ _

/-! ## What stands behind -/
theorem mid {ms r p p' s : List Mk} (hm : ms = p ++ s) (h : r <:+ ms) (hl : (p' ++ s).length ≤ r.length) (hp : p' ≠ []) : ∃ p1, p1 ≠ [] ∧ r = p1 ++ s := by
  subst hm
  obtain ⟨p1, h1⟩ := List.suffix_of_suffix_length_le (List.suffix_append p s) h (by simp at hl; omega)
  refine ⟨p1, ?_, h1.symm⟩
  rintro rfl
  have : 0 < p'.length := List.length_pos_iff.2 hp
  rw [← h1] at hl
  simp only [List.length_append, List.length_nil] at hl
  omega
theorem rights_loc {p p' s : List Mk} {acc l : List Name} (h : rights (p ++ s) acc = .ok l (p' ++ s)) (hp : p' ≠ []) (t : List Mk) : rights (p ++ t) acc = .ok l (p' ++ t) := by
  have hpos : 0 < p'.length := List.length_pos_iff.2 hp
  induction p generalizing acc with
  | nil =>
    have := rights_most ([] ++ s) acc
    rw [h] at this
    simp only [Res.Most, List.length_append, List.length_nil] at this
    omega
  | cons m p ih =>
    rw [List.cons_append] at h ⊢
    unfold rights at h ⊢
    by_cases h1 : m.kind = 1
    · rw [if_pos h1] at h ⊢
      by_cases h2 : acc.length = 8
      · rw [if_pos h2] at h; cases h
      · rw [if_neg h2] at h ⊢; exact ih h
    · rw [if_neg h1] at h ⊢
      rw [← List.cons_append] at h
      simp only [Res.ok.injEq] at h
      rw [← h.1, ← List.append_cancel_right h.2]
      rfl
theorem prec_cons (m : Mk) (p : List Mk) : prec (m :: p) = if isWord [112, 114, 101, 99] m = true then (if (hd p).kind = 1 then .ok (hd p).text p.tail else .bad 14 p) else .ok [] (m :: p) := rfl
theorem action_cons (x : Rule) (m : Mk) (p : List Mk) : action x (m :: p) = if m.kind = 9 then .ok { x with action := m.text } p else .ok x (m :: p) := rfl
theorem rule_one (acc : List Rule) (m : Mk) (p : List Mk) : rule acc (m :: p) = if m.kind ≠ 1 then .bad 14 (m :: p) else if (hd p).kind ≠ 6 then .bad 14 p else alts ((m :: p).length + 1) m.text acc p.tail := rfl
theorem rule_two (acc : List Rule) (m n : Mk) (p : List Mk) : rule acc (m :: n :: p) = if m.kind ≠ 1 then .bad 14 (m :: n :: p) else if n.kind ≠ 6 then .bad 14 (n :: p) else alts ((m :: n :: p).length + 1) m.text acc p := rfl
theorem prec_loc {p p' s : List Mk} {x : Name} (h : prec (p ++ s) = .ok x (p' ++ s)) (hp : p' ≠ []) (t : List Mk) : prec (p ++ t) = .ok x (p' ++ t) := by
  have hpos : 0 < p'.length := List.length_pos_iff.2 hp
  cases p with
  | nil =>
    have := prec_most ([] ++ s)
    rw [h] at this
    simp only [Res.Most, List.length_append, List.length_nil] at this
    omega
  | cons m p =>
    rw [List.cons_append, prec_cons] at h ⊢
    by_cases h1 : isWord [112, 114, 101, 99] m = true
    · rw [if_pos h1] at h ⊢
      cases p with
      | nil =>
        simp only [List.nil_append] at h
        split at h
        · simp only [Res.ok.injEq] at h
          have := congrArg List.length h.2
          simp only [List.length_append, List.length_tail] at this
          omega
        · cases h
      | cons m2 p2 =>
        have e : ∀ u : List Mk, (if (hd (m2 :: p2 ++ u)).kind = 1 then Res.ok (hd (m2 :: p2 ++ u)).text (m2 :: p2 ++ u).tail else .bad 14 (m2 :: p2 ++ u)) = if m2.kind = 1 then Res.ok m2.text (p2 ++ u) else .bad 14 (m2 :: (p2 ++ u)) := fun _ => rfl
        rw [e] at h ⊢
        by_cases h2 : m2.kind = 1
        · rw [if_pos h2] at h ⊢
          simp only [Res.ok.injEq] at h
          rw [← h.1, ← List.append_cancel_right h.2]
        · rw [if_neg h2] at h; cases h
    · rw [if_neg h1] at h ⊢
      rw [← List.cons_append] at h
      simp only [Res.ok.injEq] at h
      rw [← h.1, ← List.append_cancel_right h.2]
      rfl
theorem action_loc {p p' s : List Mk} {x y : Rule} (h : action x (p ++ s) = .ok y (p' ++ s)) (hp : p' ≠ []) (t : List Mk) : action x (p ++ t) = .ok y (p' ++ t) := by
  have hpos : 0 < p'.length := List.length_pos_iff.2 hp
  cases p with
  | nil =>
    have := action_most x ([] ++ s)
    rw [h] at this
    simp only [Res.Most, List.length_append, List.length_nil] at this
    omega
  | cons m p =>
    rw [List.cons_append, action_cons] at h ⊢
    by_cases h1 : m.kind = 9
    · rw [if_pos h1] at h ⊢
      simp only [Res.ok.injEq] at h
      rw [← h.1, ← List.append_cancel_right h.2]
    · rw [if_neg h1] at h ⊢
      rw [← List.cons_append] at h
      simp only [Res.ok.injEq] at h
      rw [← h.1, ← List.append_cancel_right h.2]
      rfl
theorem alt_loc {p p' s : List Mk} {left : Name} {n : Nat} {x : Rule} (h : alt left n (p ++ s) = .ok x (p' ++ s)) (hp : p' ≠ []) (t : List Mk) : alt left n (p ++ t) = .ok x (p' ++ t) := by
  unfold alt at h ⊢
  by_cases hn : n = 40
  · rw [if_pos hn] at h; cases h
  · rw [if_neg hn] at h ⊢
    have hs1 := rights_sf (p ++ s) []
    cases hr : rights (p ++ s) [] with
    | bad e r => rw [hr] at h; cases h
    | ok l r =>
      rw [hr] at h hs1
      simp only [] at h
      have hs2 := prec_sf r
      cases hq : prec r with
      | bad e r' => rw [hq] at h; cases h
      | ok c r' =>
        rw [hq] at h hs2
        simp only [] at h
        have hm := action_most ⟨left, l, c, []⟩ r'
        rw [h] at hm
        have hs12 : r' <:+ p ++ s := (Sf.trans hs1 hs2).suf
        obtain ⟨p2, hp2, rfl⟩ := mid rfl hs12 hm hp
        have hl2 : (p2 ++ s).length ≤ r.length := (show Sf r (p2 ++ s) from hs2).suf.length_le
        obtain ⟨p1, hp1, rfl⟩ := mid rfl (show Sf (p ++ s) r from hs1).suf hl2 hp2
        rw [rights_loc hr hp1 t]
        simp only []
        rw [prec_loc hq hp2 t]
        simp only []
        exact action_loc h hp t
theorem alts_loc {f f' : Nat} {p p' s t : List Mk} {left : Name} {acc rs : List Rule} (h : alts f left acc (p ++ s) = .ok rs (p' ++ s)) (hf : (p ++ t).length < f') : alts f' left acc (p ++ t) = .ok rs (p' ++ t) := by
  induction f generalizing acc p f' with
  | zero => unfold alts at h; cases h
  | succ f ih =>
    obtain ⟨f', rfl⟩ : ∃ k, f' = k + 1 := ⟨f' - 1, by omega⟩
    unfold alts at h ⊢
    have hs := alt_sf left acc.length (p ++ s)
    cases ha : alt left acc.length (p ++ s) with
    | bad e r => rw [ha] at h; cases h
    | ok x r =>
      rw [ha] at h hs
      simp only [] at h
      have hs1 : r <:+ p ++ s := (show Sf (p ++ s) r from hs).suf
      by_cases h8 : (hd r).kind = 8
      · rw [if_pos h8] at h
        cases r with
        | nil => rw [hd_nil] at h8; simp at h8
        | cons m r =>
          rw [List.tail_cons] at h
          simp only [Res.ok.injEq] at h
          obtain ⟨h1, rfl⟩ := h
          rw [← List.cons_append] at ha
          rw [alt_loc ha (by simp) t]
          simp only []
          rw [if_pos (show (hd (m :: p' ++ t)).kind = 8 from h8), h1]
          rfl
      · rw [if_neg h8] at h
        by_cases h7 : (hd r).kind = 7
        · rw [if_pos h7] at h
          cases r with
          | nil => rw [hd_nil] at h7; simp at h7
          | cons m r =>
            rw [List.tail_cons] at h
            have hl : (p' ++ s).length ≤ r.length := by
              have h3 := alts_sf f left (acc ++ [x]) r
              rw [h] at h3
              exact (show Sf r (p' ++ s) from h3).suf.length_le
            have hr : r <:+ p ++ s := (List.suffix_cons m r).trans hs1
            obtain ⟨p2, rfl⟩ : ∃ p2, r = p2 ++ s := by
              obtain ⟨p2, h2⟩ := List.suffix_of_suffix_length_le (List.suffix_append p s) hr (by simp at hl; omega)
              exact ⟨p2, h2.symm⟩
            rw [← List.cons_append] at ha
            have ha' := alt_loc ha (by simp) t
            rw [ha']
            simp only []
            rw [if_neg (show ¬ (hd (m :: p2 ++ t)).kind = 8 from h8), if_pos (show (hd (m :: p2 ++ t)).kind = 7 from h7)]
            refine ih h ?_
            have h4 := alt_most left acc.length (p ++ t)
            rw [ha'] at h4
            simp only [Res.Most, List.length_cons, List.cons_append] at h4
            omega
        · rw [if_neg h7] at h; cases h
theorem rule_loc {p p' s : List Mk} {acc rs : List Rule} (h : rule acc (p ++ s) = .ok rs (p' ++ s)) (t : List Mk) : rule acc (p ++ t) = .ok rs (p' ++ t) := by
  have hl := rule_less acc (p ++ s)
  rw [h] at hl
  simp only [Res.Less, List.length_append] at hl
  cases p with
  | nil => simp only [List.length_nil] at hl; omega
  | cons m1 p1 =>
    by_cases h1 : m1.kind ≠ 1
    · rw [List.cons_append, rule_one, if_pos h1] at h; cases h
    · cases p1 with
      | nil =>
        rw [List.cons_append, rule_one, if_neg h1, List.nil_append] at h
        by_cases h2 : (hd s).kind ≠ 6
        · rw [if_pos h2] at h; cases h
        · rw [if_neg h2] at h
          have h3 := (alts_sf ((m1 :: s).length + 1) m1.text acc s.tail)
          rw [h] at h3
          have h4 := (show Sf s.tail (p' ++ s) from h3).suf.length_le
          have h5 := hd_lt (ms := s) (by omega)
          simp only [List.length_append] at h4
          omega
      | cons m2 p2 =>
        rw [List.cons_append, List.cons_append, rule_two, if_neg h1] at h ⊢
        by_cases h2 : m2.kind ≠ 6
        · rw [if_pos h2] at h; cases h
        · rw [if_neg h2] at h ⊢
          exact alts_loc h (by simp; omega)
theorem rules_loc {f : Nat} {p q r : List Mk} {e : Mk} {acc rs : List Rule} (h : rules f acc (p ++ [e]) = .ok rs r) (he : e.kind = 0) (hp : ∀ m ∈ p, m.kind ≠ 0) (hq : (hd q).kind ≠ 0) {f' : Nat} (hf : (p ++ q).length < f') :
    ∃ f2, q.length < f2 ∧ rules f' acc (p ++ q) = rules f2 rs q := by
  induction f generalizing acc p f' with
  | zero => unfold rules at h; cases h
  | succ f ih =>
    obtain ⟨f', rfl⟩ : ∃ k, f' = k + 1 := ⟨f' - 1, by omega⟩
    unfold rules at h
    have hs := rule_sf acc (p ++ [e])
    cases ha : rule acc (p ++ [e]) with
    | bad c r1 => rw [ha] at h; cases h
    | ok acc' r1 =>
      rw [ha] at h hs
      simp only [] at h
      have hs1 : Sf (p ++ [e]) r1 := hs
      have hne := (hs1.good ⟨p, e, rfl, he⟩).ne
      obtain ⟨p1, rfl⟩ : ∃ p1, r1 = p1 ++ [e] := by
        obtain ⟨p1, h1⟩ := List.suffix_of_suffix_length_le (List.suffix_append p [e]) hs1.suf (by have := List.length_pos_iff.2 hne; simp only [List.length_cons, List.length_nil]; omega)
        exact ⟨p1, h1.symm⟩
      have hsub : ∀ m ∈ p1, m.kind ≠ 0 := by
        obtain ⟨u, hu⟩ := hs1.suf
        rw [← List.append_assoc] at hu
        have := List.append_cancel_right hu
        intro m hm
        exact hp m (by rw [← this]; simp [hm])
      have hloc := rule_loc ha q
      have hless := rule_less acc (p ++ q)
      rw [hloc] at hless
      simp only [Res.Less] at hless
      have hgo : rules (f' + 1) acc (p ++ q) = rules f' acc' (p1 ++ q) := by
        rw [rules, hloc]
        simp only []
        rw [if_neg]
        cases p1 with
        | nil => exact hq
        | cons m p1 => exact hsub m (by simp)
      rw [hgo]
      by_cases h0 : (hd (p1 ++ [e])).kind = 0
      · rw [if_pos h0] at h
        cases p1 with
        | cons m p1 => exact absurd h0 (hsub m (by simp))
        | nil =>
          simp only [Res.ok.injEq] at h
          rw [h.1]
          exact ⟨f', by simp only [List.nil_append] at hless; omega, rfl⟩
      · rw [if_neg h0] at h
        exact ih h hsub (by omega)

/-! ## What stands ahead -/
/-- What is read behind b is read behind any other list of rules, if there is room. -/
def Adds (go : List Rule → Res (List Rule)) (b c : List Rule) (r : List Mk) : Prop :=
  ∃ x, c = b ++ x ∧ ∀ acc : List Rule, acc.length ≤ 40 → (acc.length + x.length ≤ 40 → go acc = .ok (acc ++ x) r) ∧ (40 < acc.length + x.length → ∃ r', go acc = .bad 3 r')
theorem alt_room {left : Name} {n n' : Nat} {ms r : List Mk} {x : Rule} (h : alt left n ms = .ok x r) (hn : n' ≠ 40) : alt left n' ms = .ok x r := by
  unfold alt at h ⊢
  split at h
  · cases h
  · rw [if_neg hn]; exact h
theorem alts_adds {f : Nat} {left : Name} {b c : List Rule} {ms r : List Mk} (h : alts f left b ms = .ok c r) : Adds (fun acc => alts f left acc ms) b c r := by
  induction f generalizing b ms with
  | zero => unfold alts at h; cases h
  | succ f ih =>
    unfold alts at h
    cases ha : alt left b.length ms with
    | bad e r1 => rw [ha] at h; cases h
    | ok x r1 =>
      rw [ha] at h
      simp only [] at h
      have full : ∀ acc : List Rule, acc.length = 40 → alts (f + 1) left acc ms = .bad 3 ms := by
        intro acc hl
        unfold alts alt
        rw [if_pos hl]
      by_cases h8 : (hd r1).kind = 8
      · rw [if_pos h8] at h
        simp only [Res.ok.injEq] at h
        obtain ⟨rfl, rfl⟩ := h
        refine ⟨[x], rfl, fun acc hl => ⟨fun hk => ?_, fun hk => ⟨_, full acc (by simp at hk; omega)⟩⟩⟩
        show alts (f + 1) left acc ms = _
        unfold alts
        rw [alt_room ha (by simp at hk; omega)]
        simp only []
        rw [if_pos h8]
      · rw [if_neg h8] at h
        by_cases h7 : (hd r1).kind = 7
        · rw [if_pos h7] at h
          obtain ⟨x2, hx, hgo⟩ := ih h
          refine ⟨x :: x2, by rw [hx]; simp, fun acc hl => ?_⟩
          by_cases h40 : acc.length = 40
          · exact ⟨fun hk => by simp at hk; omega, fun hk => ⟨_, full acc h40⟩⟩
          · obtain ⟨g1, g2⟩ := hgo (acc ++ [x]) (by simp; omega)
            have hst : alts (f + 1) left acc ms = alts f left (acc ++ [x]) r1.tail := by
              rw [alts, alt_room ha h40]
              simp only []
              rw [if_neg h8, if_pos h7]
            refine ⟨fun hk => ?_, fun hk => ?_⟩
            · have := g1 (by simp at hk ⊢; omega)
              show alts (f + 1) left acc ms = _
              rw [hst, show alts f left (acc ++ [x]) r1.tail = _ from this]; simp
            · obtain ⟨r', hr'⟩ := g2 (by simp at hk ⊢; omega)
              exact ⟨r', hst.trans hr'⟩
        · rw [if_neg h7] at h; cases h
theorem rule_adds {b c : List Rule} {ms r : List Mk} (h : rule b ms = .ok c r) : Adds (fun acc => rule acc ms) b c r := by
  unfold rule at h ⊢
  split at h
  · cases h
  · rename_i h1
    split at h
    · cases h
    · rename_i h2
      simp only [if_neg h1, if_neg h2]
      exact alts_adds h
theorem rules_adds {f : Nat} {b c : List Rule} {ms r : List Mk} (h : rules f b ms = .ok c r) {f' : Nat} (hf : ms.length < f') : Adds (fun acc => rules f' acc ms) b c r := by
  induction f generalizing b ms f' with
  | zero => unfold rules at h; cases h
  | succ f ih =>
    obtain ⟨f', rfl⟩ : ∃ k, f' = k + 1 := ⟨f' - 1, by omega⟩
    unfold rules at h
    have hless := rule_less b ms
    cases ha : rule b ms with
    | bad e r1 => rw [ha] at h; cases h
    | ok b1 r1 =>
      rw [ha] at h hless
      simp only [Res.Less] at h hless
      obtain ⟨x1, hx1, hgo1⟩ := rule_adds ha
      by_cases h0 : (hd r1).kind = 0
      · rw [if_pos h0] at h
        simp only [Res.ok.injEq] at h
        obtain ⟨rfl, rfl⟩ := h
        refine ⟨x1, hx1, fun acc hl => ⟨fun hk => ?_, fun hk => ?_⟩⟩
        · show rules (f' + 1) acc ms = _
          rw [rules, show rule acc ms = _ from (hgo1 acc hl).1 hk]
          simp only []
          rw [if_pos h0]
        · obtain ⟨r', hr'⟩ := (hgo1 acc hl).2 hk
          refine ⟨r', ?_⟩
          show rules (f' + 1) acc ms = _
          rw [rules, show rule acc ms = _ from hr']
      · rw [if_neg h0] at h
        obtain ⟨x2, hx2, hgo2⟩ := ih h (f' := f') (by omega)
        refine ⟨x1 ++ x2, by rw [hx2, hx1]; simp, fun acc hl => ?_⟩
        by_cases h1 : acc.length + x1.length ≤ 40
        · have hst : rules (f' + 1) acc ms = rules f' (acc ++ x1) r1 := by
            rw [rules, show rule acc ms = _ from (hgo1 acc hl).1 h1]
            simp only []
            rw [if_neg h0]
          obtain ⟨g1, g2⟩ := hgo2 (acc ++ x1) (by simpa using h1)
          refine ⟨fun hk => ?_, fun hk => ?_⟩
          · show rules (f' + 1) acc ms = _
            rw [hst, show rules f' (acc ++ x1) r1 = _ from g1 (by simp at hk ⊢; omega)]; simp
          · obtain ⟨r', hr'⟩ := g2 (by simp at hk ⊢; omega)
            exact ⟨r', hst.trans hr'⟩
        · obtain ⟨r', hr'⟩ := (hgo1 acc hl).2 (by omega)
          refine ⟨fun hk => by simp at hk; omega, fun hk => ⟨r', ?_⟩⟩
          show rules (f' + 1) acc ms = _
          rw [rules, show rule acc ms = _ from hr']

/-- Rules of two lists of marks, one behind the other. -/
theorem rules_join {fa fb f : Nat} {p q ra rb : List Mk} {e : Mk} {rs rs' : List Rule} (ha : rules fa [] (p ++ [e]) = .ok rs ra) (hb : rules fb [] q = .ok rs' rb) (he : e.kind = 0) (hp : ∀ m ∈ p, m.kind ≠ 0) (h40 : rs.length ≤ 40) (hf : (p ++ q).length < f) :
    (rs.length + rs'.length ≤ 40 → ∃ r, rules f [] (p ++ q) = .ok (rs ++ rs') r) ∧ (40 < rs.length + rs'.length → ∃ r, rules f [] (p ++ q) = .bad 3 r) := by
  have hq : (hd q).kind ≠ 0 := by
    intro h0
    cases fb with
    | zero => unfold rules at hb; cases hb
    | succ fb =>
      unfold rules rule at hb
      rw [if_pos (by omega)] at hb
      cases hb
  obtain ⟨f2, hf2, heq⟩ := rules_loc ha he hp hq hf
  obtain ⟨x, hx, hgo⟩ := rules_adds hb hf2
  rw [List.nil_append] at hx
  subst hx
  obtain ⟨g1, g2⟩ := hgo rs h40
  rw [heq]
  exact ⟨fun h => ⟨_, g1 h⟩, fun h => g2 h⟩

/-! ## Texts behind a %% -/
theorem lex_mark (l : List UInt8) (hl : l.length ≤ 3998) : Lx.lex (37 :: 37 :: l) = Lx.run (l.length + 2) l 2 [(2, [37], 0)] := by
  unfold Lx.lex
  rw [if_neg (by simp; omega), Lx.run_mark (k := 2) (t := [37]) (n := 2) (by omega) (by simp) (by rfl)]
  rfl
theorem run_places : ∀ (n : Nat) (l : List UInt8) (f i : Nat) (acc : List M0) (f' j : Nat) (acc' : List M0), l.length ≤ n → l.length < f → l.length < f' →
    (∃ ms ms' : List M0, Lx.run f l i acc = .ok (acc ++ ms) ∧ Lx.run f' l j acc' = .ok (acc' ++ ms') ∧ ms.map kt = ms'.map kt) ∨ (∃ c p, Lx.run f l i acc = .bad c p) := by
  intro n
  induction n with
  | zero =>
    intro l f i acc f' j acc' hn hf hf'
    obtain rfl : l = [] := List.eq_nil_of_length_eq_zero (by omega)
    exact .inl ⟨[(0, [], i)], [(0, [], j)], Lx.run_end (by omega), Lx.run_end (by omega), rfl⟩
  | succ n ih =>
    intro l f i acc f' j acc' hn hf hf'
    by_cases hl : l = []
    · subst hl
      exact .inl ⟨[(0, [], i)], [(0, [], j)], Lx.run_end (by omega), Lx.run_end (by omega), rfl⟩
    · obtain ⟨c0, r0, rfl⟩ := List.exists_cons_of_ne_nil hl
      have hfit := Lx.step_fits c0 r0
      cases hs : Lx.step (c0 :: r0) with
      | skip m =>
        rw [hs] at hfit
        obtain ⟨m1, m2⟩ := hfit
        have hlen : ((c0 :: r0).drop m).length = (c0 :: r0).length - m := List.length_drop ..
        rw [Lx.run_skip (by omega) hl hs, Lx.run_skip (by omega) hl hs]
        exact ih _ _ _ _ _ _ _ (by rw [hlen]; omega) (by rw [hlen]; omega) (by rw [hlen]; omega)
      | mark k t m =>
        rw [hs] at hfit
        obtain ⟨m1, m2, _⟩ := hfit
        have hlen : ((c0 :: r0).drop m).length = (c0 :: r0).length - m := List.length_drop ..
        rw [Lx.run_mark (by omega) hl hs, Lx.run_mark (by omega) hl hs]
        rcases ih ((c0 :: r0).drop m) (f - 1) (i + m) (acc ++ [(k, t, i)]) (f' - 1) (j + m) (acc' ++ [(k, t, j)]) (by rw [hlen]; omega) (by rw [hlen]; omega) (by rw [hlen]; omega) with ⟨ms, ms', e1, e2, e3⟩ | h
        · refine .inl ⟨(k, t, i) :: ms, (k, t, j) :: ms', by rw [e1]; simp, by rw [e2]; simp, ?_⟩
          simp only [List.map_cons, e3]; rfl
        · exact .inr h
      | bad c m => exact .inr ⟨c, _, Lx.run_bad (by omega) hl hs⟩

def ek (m : M0) : Mk := ⟨m.1, m.2.1, 0, 0⟩
theorem er_mkOf (l : List UInt8) (ms : List M0) : (ms.map (Lx.mkOf l)).map er = ms.map ek := by rw [List.map_map]; rfl
theorem ek_kt {ms ms' : List M0} (h : ms.map kt = ms'.map kt) : ms.map ek = ms'.map ek := by
  have e : ∀ l : List M0, l.map ek = (l.map kt).map (fun p => ⟨p.1, p.2, 0, 0⟩) := fun l => by rw [List.map_map]; rfl
  rw [e, e, h]

/-- What rules of a text behind a %% are read. -/
def ofRules : Res (List Rule) → Res G
  | .ok rs r => .ok ⟨[], [], [], (rs.headD ⟨[], [], [], []⟩).left, rs⟩ r
  | .bad e r => .bad e r
theorem parse_mark (a b : Nat) (r : List Mk) : parse (⟨2, [37], a, b⟩ :: r) = ofRules (rules (r.length + 1) [] r) := by
  have e : decls ((⟨2, [37], a, b⟩ :: r : List Mk).length + 1) none_ (⟨2, [37], a, b⟩ :: r) = .ok none_ r := rfl
  unfold parse
  rw [e]
  simp only []
  cases rules (r.length + 1) [] r <;> rfl
theorem Res.er_ok {α : Type} {x : Res α} {a : α} {r : List Mk} (h : x.er = .ok a r) : ∃ r', x = .ok a r' := by
  cases x with
  | ok b s => simp only [Res.er, Res.ok.injEq] at h; exact ⟨s, by rw [h.1]⟩
  | bad e s => cases h
theorem Res.er_bad {α : Type} {x : Res α} {e : Nat} {r : List Mk} (h : x.er = .bad e r) : ∃ r', x = .bad e r' := by
  cases x with
  | ok b s => cases h
  | bad f s => simp only [Res.er, Res.bad.injEq] at h; exact ⟨s, by rw [h.1]⟩
/-- Of a text behind a %% whose marks are ms. -/
theorem read_mark {l : List UInt8} {ms : List M0} (h : Lx.lex (37 :: 37 :: l) = .ok ((2, [37], 0) :: ms)) :
    ∃ x : Res (List Rule), x.er = rules (ms.length + 1) [] (ms.map ek) ∧ readG (37 :: 37 :: l) = (ofRules x).grammar ∧ readD (37 :: 37 :: l) = (ofRules x).diag := by
  refine ⟨rules (ms.length + 1) [] (ms.map (Lx.mkOf (37 :: 37 :: l))), ?_, ?_, ?_⟩
  · rw [← rules_er, er_mkOf]
  · unfold readG
    rw [h]
    simp only [List.map_cons]
    rw [show Lx.mkOf (37 :: 37 :: l) (2, [37], 0) = ⟨2, [37], 1, 1⟩ from rfl, parse_mark, List.length_map]
  · unfold readD
    rw [h]
    simp only [List.map_cons]
    rw [show Lx.mkOf (37 :: 37 :: l) (2, [37], 0) = ⟨2, [37], 1, 1⟩ from rfl, parse_mark, List.length_map]
theorem ofRules_ok {x : Res (List Rule)} {P : Nat × Nat} (h : (ofRules x).diag = (0, P)) (hx : ∀ e r, x = .bad e r → e ≠ 0) : ∃ rs r, x = .ok rs r := by
  cases x with
  | ok rs r => exact ⟨rs, r, rfl⟩
  | bad e r =>
    simp only [ofRules, Res.diag, Prod.mk.injEq] at h
    exact absurd h.1 (hx e r rfl)
theorem lexed_of {l : List UInt8} {P : Nat × Nat} (h : readD l = (0, P)) {c i : Nat} (hx : Lx.lex l = .bad c i) : False := by
  unfold readD at h
  rw [hx] at h
  simp only [Prod.mk.injEq] at h
  have := (Lx.lex_at hx).1
  omega
/-- The rules of two texts, one behind the other. -/
theorem read_join (a b : List UInt8) (ha : a.length ≤ 300) (hb : b.length ≤ 300) {P Q : Nat × Nat} (h1 : readD (37 :: 37 :: a) = (0, P)) (h2 : readD (37 :: 37 :: b) = (0, Q)) :
    ∃ rs rs' : List Rule, readG (37 :: 37 :: a) = ⟨[], [], [], (rs.headD ⟨[], [], [], []⟩).left, rs⟩ ∧ readG (37 :: 37 :: b) = ⟨[], [], [], (rs'.headD ⟨[], [], [], []⟩).left, rs'⟩ ∧ ROk rs ∧ ROk rs' ∧
      (rs.length + rs'.length ≤ 40 → readD (37 :: 37 :: (a ++ 10 :: b)) = (0, 0, 0) ∧ readG (37 :: 37 :: (a ++ 10 :: b)) = ⟨[], [], [], (rs.headD ⟨[], [], [], []⟩).left, rs ++ rs'⟩) ∧
      (40 < rs.length + rs'.length → ∃ R, readD (37 :: 37 :: (a ++ 10 :: b)) = (3, R) ∧ readG (37 :: 37 :: (a ++ 10 :: b)) = zero) := by
  have lA := lex_mark a (by omega)
  have lB := lex_mark b (by omega)
  have lZ := lex_mark (a ++ 10 :: b) (by simp; omega)
  rcases Lx.run_tail b a.length a (a.length + 2) 2 [(2, [37], 0)] ((a ++ 10 :: b).length + 2) 2 [(2, [37], 0)] (Nat.le_refl _) (by omega) (by omega) with ⟨ms, ms', e1, ⟨f2, e2, e3⟩, e4⟩ | ⟨c, p, e1, _⟩
  · rw [e1] at lA
    rw [e3, Lx.run_skip (by omega) (by simp) (Lx.step_space _ (by decide)), List.drop_one, List.tail_cons] at lZ
    rcases run_places b.length b (b.length + 2) 2 [(2, [37], 0)] (f2 - 1) (2 + a.length + 1) ([(2, [37], 0)] ++ ms') (Nat.le_refl _) (by omega) (by simp at e2; omega) with ⟨mb, mb', g1, g2, g3⟩ | ⟨c, p, g1⟩
    · rw [g1] at lB
      rw [g2] at lZ
      have hgood := Lx.lex_good lA
      simp only [List.append_assoc, List.cons_append, List.nil_append] at lA lB lZ
      obtain ⟨xa, a1, a2, a3⟩ := read_mark lA
      obtain ⟨xb, b1, b2, b3⟩ := read_mark lB
      obtain ⟨xz, z1, z2, z3⟩ := read_mark lZ
      have G1 := read_good (P := P) h1
      have G2 := read_good (P := Q) h2
      rw [a3] at h1
      rw [b3] at h2
      obtain ⟨rs, ra, rfl⟩ := ofRules_ok h1 (fun e r he => by subst he; exact rules_code a1.symm)
      obtain ⟨rs', rb, rfl⟩ := ofRules_ok h2 (fun e r he => by subst he; exact rules_code b1.symm)
      rw [a2] at G1
      rw [b2] at G2
      have k1 := G1.1.rok
      have k2 := G2.1.rok
      have hne := G1.1.rules
      refine ⟨rs, rs', a2, b2, k1, k2, ?_⟩
      have hms : ∀ m ∈ ms.map ek, m.kind ≠ 0 := by
        obtain ⟨ms0, h0, ho⟩ := hgood
        have h0' : ([(2, [37], 0)] ++ ms) ++ [(0, [], 2 + a.length)] = ms0 ++ [(0, [], (37 :: 37 :: a : List UInt8).length)] := h0
        have he := (List.append_inj' h0' rfl).1
        intro m hm
        obtain ⟨m0, hm0, rfl⟩ := List.mem_map.1 hm
        have := (ho.each m0 (by rw [← he]; simp [hm0])).1
        show m0.1 ≠ 0
        omega
      have n1 := congrArg List.length e4
      have n2 := congrArg List.length g3
      simp only [List.length_map] at n1 n2
      rw [List.map_append, List.map_cons, List.map_nil] at a1
      rw [List.map_append, ← ek_kt e4, ← ek_kt g3] at z1
      have J := rules_join (f := (ms' ++ mb').length + 1) a1.symm b1.symm rfl hms k1.1 (by simp; omega)
      refine ⟨fun h => ?_, fun h => ?_⟩
      · obtain ⟨r, hr⟩ := J.1 h
        obtain ⟨r', rfl⟩ := Res.er_ok (z1.trans hr)
        refine ⟨z3, ?_⟩
        rw [z2]
        obtain ⟨x, l, rfl⟩ := List.exists_cons_of_ne_nil hne
        rfl
      · obtain ⟨r, hr⟩ := J.2 h
        obtain ⟨r', rfl⟩ := Res.er_bad (z1.trans hr)
        exact ⟨_, z3, z2⟩
    · rw [g1] at lB
      exact (lexed_of h2 lB).elim
  · rw [e1] at lA
    exact (lexed_of h1 lA).elim
end Rd
end Go.Proofs.YtpgmapjjjpcmfaaGreatDoor

namespace Go.Proofs.YtpgmapjjjpcmfaaGreatDoor
namespace Rd
open Lx (Mk M0 run isName isLetter isSmall)
set_option linter.unusedVariables false
set_option linter.unusedSimpArgs false

/-! ## Pieces -/
/-- No name goes on into r. -/
def Cut (r : List UInt8) : Prop := ∀ c t, r = c :: t → isName c = false
theorem Cut.nil : Cut [] := fun _ _ h => by cases h
theorem Cut.cons {c : UInt8} {t : List UInt8} (h : isName c = false) : Cut (c :: t) := fun _ _ e => by cases e; exact h
theorem Cut.append {p r : List UInt8} (hp : Cut p) (hr : Cut r) : Cut (p ++ r) := by
  cases p with
  | nil => exact hr
  | cons c t => exact Cut.cons (hp c t rfl)
def shift (i : Nat) (m : M0) : M0 := (m.1, m.2.1, i + m.2.2)
/-- The piece p is lexed to the marks ks, whatever stands behind it (where that does not go on with a name). -/
def Free (p : List UInt8) (ks : List M0) : Prop := ∀ (r : List UInt8) (f i : Nat) (acc : List M0), (p ++ r).length < f → ∃ f', r.length < f' ∧ run f (p ++ r) i acc = run f' r (i + p.length) (acc ++ ks.map (shift i))
def Pl (p : List UInt8) (ks : List M0) : Prop := ∀ (r : List UInt8) (f i : Nat) (acc : List M0), Cut r → (p ++ r).length < f → ∃ f', r.length < f' ∧ run f (p ++ r) i acc = run f' r (i + p.length) (acc ++ ks.map (shift i))
theorem Free.pl {p : List UInt8} {ks : List M0} (h : Free p ks) : Pl p ks := fun r f i acc _ hf => h r f i acc hf
theorem shift_shift (i j : Nat) (ks : List M0) : (ks.map (shift j)).map (shift i) = ks.map (shift (i + j)) := by
  rw [List.map_map]
  apply List.map_congr_left
  intro m _
  simp only [Function.comp, shift, Nat.add_assoc]
theorem Free.then {p q : List UInt8} {ks ls : List M0} (h : Free p ks) (k : Pl q ls) : Pl (p ++ q) (ks ++ ls.map (shift p.length)) := by
  intro r f i acc hr hf
  rw [List.append_assoc] at hf ⊢
  obtain ⟨f1, h1, e1⟩ := h (q ++ r) f i acc hf
  obtain ⟨f2, h2, e2⟩ := k r f1 (i + p.length) (acc ++ ks.map (shift i)) hr h1
  refine ⟨f2, h2, ?_⟩
  rw [e1, e2, List.length_append, List.map_append, shift_shift, Nat.add_assoc, List.append_assoc]
theorem Pl.then {p q : List UInt8} {ks ls : List M0} (h : Pl p ks) (hq : Cut q) (k : Pl q ls) : Pl (p ++ q) (ks ++ ls.map (shift p.length)) := by
  intro r f i acc hr hf
  rw [List.append_assoc] at hf ⊢
  obtain ⟨f1, h1, e1⟩ := h (q ++ r) f i acc (hq.append hr) hf
  obtain ⟨f2, h2, e2⟩ := k r f1 (i + p.length) (acc ++ ks.map (shift i)) hr h1
  refine ⟨f2, h2, ?_⟩
  rw [e1, e2, List.length_append, List.map_append, shift_shift, Nat.add_assoc, List.append_assoc]
theorem free_nil : Free [] [] := fun r f i acc hf => ⟨f, hf, by simp⟩
theorem free_space {c : UInt8} (h : Lx.isSpace c = true) : Free [c] [] := fun r f i acc hf => by
  simp at hf
  exact ⟨f - 1, by omega, by rw [List.cons_append, Lx.run_skip (by omega) (by simp) (Lx.step_space _ h)]; simp⟩
theorem free_mark {p t : List UInt8} {k : Nat} (hp : p ≠ []) (h : ∀ r, Lx.step (p ++ r) = .mark k t p.length) : Free p [(k, t, 0)] := fun r f i acc hf => by
  have h0 := List.length_pos_iff.2 hp
  simp at hf
  refine ⟨f - 1, by omega, ?_⟩
  rw [Lx.run_mark (by omega) (by simp [hp]) (h r), List.drop_left]
  simp [shift]
theorem pl_mark {p t : List UInt8} {k : Nat} (hp : p ≠ []) (h : ∀ r, Cut r → Lx.step (p ++ r) = .mark k t p.length) : Pl p [(k, t, 0)] := fun r f i acc hr hf => by
  have h0 := List.length_pos_iff.2 hp
  simp at hf
  refine ⟨f - 1, by omega, ?_⟩
  rw [Lx.run_mark (by omega) (by simp [hp]) (h r hr), List.drop_left]
  simp [shift]

/-! ## Words -/
/-- The name of a number. -/
def wd (n : Nat) : List UInt8 := [UInt8.ofNat (97 + n % 10), UInt8.ofNat (120 + n / 10 % 3)]
theorem small_letter : ∀ k : Fin 10, isLetter (UInt8.ofNat (97 + k)) = true ∧ isName (UInt8.ofNat (97 + k)) = true ∧ UInt8.ofNat (97 + k) ≠ 34 ∧ UInt8.ofNat (97 + k) ≠ 10 ∧ UInt8.ofNat (97 + k) ≠ 92 := by decide
theorem last_letter : ∀ k : Fin 3, isName (UInt8.ofNat (120 + k)) = true ∧ UInt8.ofNat (120 + k) ≠ 34 ∧ UInt8.ofNat (120 + k) ≠ 10 ∧ UInt8.ofNat (120 + k) ≠ 92 := by decide
theorem wd_ok (n : Nat) : ∃ a b, wd n = [a, b] ∧ isLetter a = true ∧ isName a = true ∧ isName b = true ∧ (a ≠ 34 ∧ a ≠ 10 ∧ a ≠ 92) ∧ b ≠ 34 ∧ b ≠ 10 ∧ b ≠ 92 := by
  obtain ⟨h1, h2, h3, h4, h5⟩ := small_letter ⟨n % 10, by omega⟩
  obtain ⟨h6, h7, h8, h9⟩ := last_letter ⟨n / 10 % 3, by omega⟩
  exact ⟨_, _, rfl, h1, h2, h6, ⟨h3, h4, h5⟩, h7, h8, h9⟩
theorem wd_len (n : Nat) : (wd n).length = 2 := rfl
theorem takeWhile_cut {r : List UInt8} (hr : Cut r) : r.takeWhile isName = [] := by
  cases r with
  | nil => rfl
  | cons c t => rw [List.takeWhile_cons_of_neg (by rw [hr c t rfl]; decide)]
theorem pl_wd (n : Nat) : Pl (wd n) [(1, wd n, 0)] := by
  obtain ⟨a, b, e, h1, h2, h3, _⟩ := wd_ok n
  rw [e]
  refine pl_mark (by simp) fun r hr => ?_
  have hn : Lx.nameOf (a :: ([b] ++ r)) = [a, b] := by
    have e : Lx.nameOf (a :: ([b] ++ r)) = if isLetter a then (a :: ([b] ++ r)).takeWhile isName else [] := rfl
    rw [e, if_pos h1, List.takeWhile_cons_of_pos h2, List.cons_append, List.nil_append, List.takeWhile_cons_of_pos h3, takeWhile_cut hr]
  rw [List.cons_append, Lx.step_letter _ h1, hn]
  rfl
theorem text_plain {c : UInt8} (h : c ≠ 34 ∧ c ≠ 10 ∧ c ≠ 92) (r told : List UInt8) (i : Nat) : Lx.text (c :: r) told i = Lx.text r (told ++ [c]) (i + 1) := by
  rw [Lx.text.eq_def]
  simp only [if_neg h.1, if_neg h.2.1, if_neg h.2.2]
theorem free_quoted (n : Nat) : Free (34 :: (wd n ++ [34])) [(3, wd n, 0)] := by
  obtain ⟨a, b, e, _, _, _, h4, h5⟩ := wd_ok n
  rw [e]
  refine free_mark (by simp) fun r => ?_
  have e2 : (34 :: ([a, b] ++ [34]) ++ r : List UInt8) = 34 :: a :: b :: 34 :: r := rfl
  rw [e2, Lx.step_text, text_plain h4, text_plain h5, Lx.text.eq_def]
  rfl
theorem pl_token : Pl [37, 116, 111, 107, 101, 110] [(2, [116, 111, 107, 101, 110], 0)] := by
  refine pl_mark (by simp) fun r hr => ?_
  have hs : r.takeWhile isSmall = [] := by
    cases r with
    | nil => rfl
    | cons c t =>
      have := hr c t rfl
      rw [List.takeWhile_cons_of_neg]
      intro h
      unfold isName isLetter at this
      rw [h] at this
      simp at this
  have e : Lx.step ([37, 116, 111, 107, 101, 110] ++ r) = Lx.word ([116, 111, 107, 101, 110] ++ r) := rfl
  have e2 : Lx.wordOf ([116, 111, 107, 101, 110] ++ r) = [116, 111, 107, 101, 110] := by
    have : Lx.wordOf ([116, 111, 107, 101, 110] ++ r) = 116 :: 111 :: 107 :: 101 :: 110 :: r.takeWhile isSmall := rfl
    rw [this, hs]
  rw [e]
  unfold Lx.word
  rw [e2]
  rfl

/-! ## Tokens -/
def tokT (n : Nat) : List UInt8 := [37, 116, 111, 107, 101, 110] ++ ([32] ++ (wd n ++ ([32] ++ ((34 :: (wd n ++ [34])) ++ [10]))))
def tokM (n : Nat) : List M0 := [(2, [116, 111, 107, 101, 110], 0), (1, wd n, 7), (3, wd n, 10)]
theorem tokT_len (n : Nat) : (tokT n).length = 15 := rfl
theorem tokT_cut (n : Nat) (r : List UInt8) : Cut (tokT n ++ r) := Cut.cons (by decide)
theorem pl_tokT (n : Nat) : Pl (tokT n) (tokM n) := by
  have h1 := (free_quoted n).then (free_space (c := 10) (by decide)).pl
  have h2 := (free_space (c := 32) (by decide)).then h1
  have h3 := (pl_wd n).then (Cut.cons (by decide)) h2
  have h4 := (free_space (c := 32) (by decide)).then h3
  have h5 := pl_token.then (Cut.cons (by decide)) h4
  exact h5
def txt : List Nat → List UInt8
  | [] => []
  | n :: r => tokT n ++ txt r
def marksT : List Nat → List M0
  | [] => []
  | n :: r => tokM n ++ (marksT r).map (shift 15)
theorem txt_cons (n : Nat) (r : List Nat) : txt (n :: r) = tokT n ++ txt r := rfl
theorem marksT_cons (n : Nat) (r : List Nat) : marksT (n :: r) = tokM n ++ (marksT r).map (shift 15) := rfl
theorem txt_cut (l : List Nat) {r : List UInt8} (hr : Cut r) : Cut (txt l ++ r) := by
  cases l with
  | nil => exact hr
  | cons n l => unfold txt; rw [List.append_assoc]; exact tokT_cut _ _
theorem txt_len (l : List Nat) : (txt l).length = 15 * l.length := by
  induction l with
  | nil => rfl
  | cons n r ih => unfold txt; rw [List.length_append, ih, tokT_len, List.length_cons]; omega
theorem pl_txt (l : List Nat) : Pl (txt l) (marksT l) := by
  induction l with
  | nil => exact free_nil.pl
  | cons n r ih =>
    exact (pl_tokT n).then (by have := txt_cut r Cut.nil; rwa [List.append_nil] at this) ih
theorem txt_snoc (l : List Nat) (n : Nat) : txt (l ++ [n]) = txt l ++ tokT n := by
  induction l with
  | nil => simp [txt]
  | cons m r ih => simp only [List.cons_append, txt, ih, List.append_assoc]

/-- What ends the text. -/
def lastT : List UInt8 := [37, 37, 32, 101, 32, 58, 32, 59]
def lastM : List M0 := [(2, [37], 0), (1, [101], 3), (6, [], 5), (8, [], 7)]
theorem lex_txt (l : List Nat) (h : l.length ≤ 25) : Lx.lex (txt l ++ lastT) = .ok (marksT l ++ lastM.map (shift (15 * l.length)) ++ [(0, [], 15 * l.length + 8)]) := by
  have hl : (txt l ++ lastT).length = 15 * l.length + 8 := by rw [List.length_append, txt_len]; rfl
  unfold Lx.lex
  rw [if_neg (by omega)]
  obtain ⟨f1, h1, e1⟩ := pl_txt l lastT ((txt l ++ lastT).length + 1) 0 [] (Cut.cons (by decide)) (by omega)
  rw [e1]
  have h8 : 8 < f1 := h1
  unfold lastT
  rw [Lx.run_mark (k := 2) (t := [37]) (n := 2) (by omega) (by simp) rfl, show List.drop 2 [37, 37, 32, 101, 32, 58, 32, 59] = ([32, 101, 32, 58, 32, 59] : List UInt8) from rfl]
  rw [Lx.run_skip (n := 1) (by omega) (by simp) rfl, show List.drop 1 [32, 101, 32, 58, 32, 59] = ([101, 32, 58, 32, 59] : List UInt8) from rfl]
  rw [Lx.run_mark (k := 1) (t := [101]) (n := 1) (by omega) (by simp) rfl, show List.drop 1 [101, 32, 58, 32, 59] = ([32, 58, 32, 59] : List UInt8) from rfl]
  rw [Lx.run_skip (n := 1) (by omega) (by simp) rfl, show List.drop 1 [32, 58, 32, 59] = ([58, 32, 59] : List UInt8) from rfl]
  rw [Lx.run_mark (k := 6) (t := []) (n := 1) (by omega) (by simp) rfl, show List.drop 1 [58, 32, 59] = ([32, 59] : List UInt8) from rfl]
  rw [Lx.run_skip (n := 1) (by omega) (by simp) rfl, show List.drop 1 [32, 59] = ([59] : List UInt8) from rfl]
  rw [Lx.run_mark (k := 8) (t := []) (n := 1) (by omega) (by simp) rfl, show List.drop 1 [59] = ([] : List UInt8) from rfl]
  rw [Lx.run_end (by omega), txt_len]
  have hm : (marksT l).map (shift 0) = marksT l := by
    have : (shift 0) = id := by funext m; simp [shift]
    rw [this, List.map_id]
  rw [hm]
  simp [lastM, shift]

/-! ## What is declared -/
def tokOf (n : Nat) : Tok := ⟨wd n, ⟨wd n, [], false⟩⟩
def withToks (l : List Tok) : Decls := ⟨l, [], [], [], false⟩
/-- All of l can be declared behind the tokens d. -/
def Good_ (d : List Tok) : List Nat → Prop
  | [] => True
  | n :: r => (d.any fun t => t.name == wd n) = false ∧ d.length ≠ 20 ∧ Good_ (d ++ [tokOf n]) r
def mk3 (n : Nat) (P Q R : Nat × Nat) : List Mk := [⟨2, [116, 111, 107, 101, 110], P.1, P.2⟩, ⟨1, wd n, Q.1, Q.2⟩, ⟨3, wd n, R.1, R.2⟩]
theorem decls_tok (f n : Nat) (P Q R : Nat × Nat) (d : List Tok) (r : List Mk) : decls (f + 1) (withToks d) (mk3 n P Q R ++ r) =
    if (d.any fun t => t.name == wd n) = true then .bad 15 (⟨1, wd n, Q.1, Q.2⟩ :: ⟨3, wd n, R.1, R.2⟩ :: r) else if d.length = 20 then .bad 3 (⟨1, wd n, Q.1, Q.2⟩ :: ⟨3, wd n, R.1, R.2⟩ :: r) else decls f (withToks (d ++ [tokOf n])) r := by
  have e0 : decls (f + 1) (withToks d) (mk3 n P Q R ++ r) = match token (withToks d) (mk3 n P Q R ++ r) with | .bad e r => .bad e r | .ok d' r => decls f d' r := rfl
  have e1 : token (withToks d) (mk3 n P Q R ++ r) = if (d.any fun t => t.name == wd n) = true then .bad 15 (⟨1, wd n, Q.1, Q.2⟩ :: ⟨3, wd n, R.1, R.2⟩ :: r) else if d.length = 20 then .bad 3 (⟨1, wd n, Q.1, Q.2⟩ :: ⟨3, wd n, R.1, R.2⟩ :: r) else .ok (withToks (d ++ [tokOf n])) r := rfl
  rw [e0, e1]
  by_cases h1 : (d.any fun t => t.name == wd n) = true
  · rw [if_pos h1, if_pos h1]
  · rw [if_neg h1, if_neg h1]
    by_cases h2 : d.length = 20
    · rw [if_pos h2, if_pos h2]
    · rw [if_neg h2, if_neg h2]
theorem decls_good (T : List UInt8) (i : Nat) : ∀ (l : List Nat) (d : List Tok) (f : Nat) (r : List M0), Good_ d l → l.length < f → decls f (withToks d) ((((marksT l).map (shift i)) ++ r).map (Lx.mkOf T)) = decls (f - l.length) (withToks (d ++ l.map tokOf)) (r.map (Lx.mkOf T)) := by
  intro l
  induction l generalizing i with
  | nil => intro d f r _ _; simp [marksT]
  | cons n l ih =>
    intro d f r hg hf
    obtain ⟨h1, h2, h3⟩ := hg
    obtain ⟨f, rfl⟩ : ∃ k, f = k + 1 := ⟨f - 1, by omega⟩
    have e : ((((marksT (n :: l)).map (shift i)) ++ r).map (Lx.mkOf T)) = mk3 n (Lx.pos T (i + 0)) (Lx.pos T (i + 7)) (Lx.pos T (i + 10)) ++ ((((marksT l).map (shift (i + 15))) ++ r).map (Lx.mkOf T)) := by
      simp only [marksT_cons, List.map_append, shift_shift, List.append_assoc]
      rfl
    rw [e, decls_tok, if_neg (by rw [h1]; decide), if_neg h2, ih (i + 15) (d ++ [tokOf n]) f r h3 (by simp at hf; omega)]
    simp
/-- All can be declared. -/
theorem read_toks (l : List Nat) (h : l.length ≤ 25) (hg : Good_ [] l) : readD (txt l ++ lastT) = (0, 0, 0) ∧ readG (txt l ++ lastT) = ⟨l.map tokOf, [], [], [101], [⟨[101], [], [], []⟩]⟩ := by
  have hx := lex_txt l h
  have key : ∃ r, parse ((marksT l ++ lastM.map (shift (15 * l.length)) ++ [(0, [], 15 * l.length + 8)]).map (Lx.mkOf (txt l ++ lastT))) = .ok ⟨l.map tokOf, [], [], [101], [⟨[101], [], [], []⟩]⟩ r := by
    generalize 15 * l.length + 8 = e8
    generalize 15 * l.length = e0
    generalize txt l ++ lastT = T
    have hm : (marksT l).map (shift 0) = marksT l := by
      have : (shift 0) = id := by funext m; simp [shift]
      rw [this, List.map_id]
    have hd := decls_good T 0 l [] (((marksT l ++ lastM.map (shift e0) ++ [(0, [], e8)]).map (Lx.mkOf T)).length + 1) (lastM.map (shift e0) ++ [(0, [], e8)]) hg (by
      have : ∀ l : List Nat, (marksT l).length = 3 * l.length := by
        intro l
        induction l with
        | nil => rfl
        | cons n r ih => unfold marksT; rw [List.length_append, List.length_map, ih]; simp [tokM]; omega
      simp [this]; omega)
    rw [hm, ← List.append_assoc] at hd
    unfold parse
    rw [show none_ = withToks [] from rfl, hd]
    have hlen : ((marksT l ++ lastM.map (shift e0) ++ [(0, [], e8)]).map (Lx.mkOf T)).length + 1 - l.length = (((marksT l ++ lastM.map (shift e0) ++ [(0, [], e8)]).map (Lx.mkOf T)).length - l.length) + 1 := by
      have : ∀ l : List Nat, l.length ≤ (marksT l).length := by
        intro l
        induction l with
        | nil => exact Nat.le_refl _
        | cons n r ih => unfold marksT; rw [List.length_append, List.length_map]; simp [tokM]; omega
      have := this l
      simp; omega
    rw [hlen]
    exact ⟨_, rfl⟩
  obtain ⟨r, hr⟩ := key
  unfold readD readG
  rw [hx]
  simp only []
  rw [hr]
  exact ⟨rfl, rfl⟩
/-! ## Places -/
theorem adv_tok (p : Nat × Nat) (n : Nat) : Lx.adv p (tokT n) = (p.1 + 1, 1) := by
  obtain ⟨a, b, e, _, _, _, h4, h5⟩ := wd_ok n
  unfold tokT
  rw [e]
  simp [Lx.adv, h4.2.1, h5.2.1]
theorem adv_txt (p : Nat × Nat) (l : List Nat) (h : p.2 = 1) : Lx.adv p (txt l) = (p.1 + l.length, 1) := by
  induction l generalizing p with
  | nil => unfold txt; rw [← h]; rfl
  | cons n r ih =>
    unfold txt
    rw [Lx.adv_append, adv_tok, ih _ rfl, List.length_cons]
    congr 1; omega
theorem pos_name (l : List Nat) (n : Nat) (r : List UInt8) : Lx.pos (txt l ++ (tokT n ++ r)) (15 * l.length + 7) = (l.length + 1, 8) := by
  unfold Lx.pos
  have e : (txt l ++ (tokT n ++ r)).take (15 * l.length + 7) = txt l ++ [37, 116, 111, 107, 101, 110, 32] := by
    rw [List.take_append, txt_len, List.take_of_length_le (by rw [txt_len]; omega), Nat.add_sub_cancel_left]
    rfl
  rw [e, Lx.adv_append, adv_txt _ _ rfl, Nat.add_comm]
  rfl
/-- One cannot be declared: the error c. -/
def Fails (d : List Tok) (n c : Nat) : Prop := ((d.any fun t => t.name == wd n) = true ∧ c = 15) ∨ ((d.any fun t => t.name == wd n) = false ∧ d.length = 20 ∧ c = 3)
theorem read_tokfail (l : List Nat) (n : Nat) (l2 : List Nat) (c : Nat) (h : (l ++ n :: l2).length ≤ 25) (hg : Good_ [] l) (hf : Fails (l.map tokOf) n c) :
    readD (txt (l ++ n :: l2) ++ lastT) = (c, l.length + 1, 8) ∧ readG (txt (l ++ n :: l2) ++ lastT) = zero := by
  have hx := lex_txt _ h
  have marks_split : ∀ (a b : List Nat), marksT (a ++ b) = marksT a ++ (marksT b).map (shift (15 * a.length)) := by
    intro a b
    induction a with
    | nil =>
      have : (shift 0) = id := by funext m; simp [shift]
      simp [marksT, this]
    | cons m r ih =>
      simp only [List.cons_append, marksT, ih, List.map_append, shift_shift, List.append_assoc, List.length_cons]
      rw [show 15 + 15 * r.length = 15 * (r.length + 1) by omega]
  have txt_split : ∀ (a b : List Nat), txt (a ++ b) = txt a ++ txt b := by
    intro a b
    induction a with
    | nil => rfl
    | cons m r ih => simp only [List.cons_append, txt, ih, List.append_assoc]
  have mlen : ∀ l : List Nat, l.length ≤ (marksT l).length := by
    intro l
    induction l with
    | nil => exact Nat.le_refl _
    | cons n r ih => unfold marksT; rw [List.length_append, List.length_map]; simp [tokM]; omega
  have hpos : Lx.pos (txt (l ++ n :: l2) ++ lastT) (15 * l.length + 7) = (l.length + 1, 8) := by
    rw [txt_split, txt_cons, List.append_assoc, List.append_assoc]
    exact pos_name l n _
  have key : ∃ Q r, parse ((marksT (l ++ n :: l2) ++ lastM.map (shift (15 * (l ++ n :: l2).length)) ++ [(0, [], 15 * (l ++ n :: l2).length + 8)]).map (Lx.mkOf (txt (l ++ n :: l2) ++ lastT))) = .bad c (Q :: r) ∧ (Q.line, Q.col) = (l.length + 1, 8) := by
    rw [← hpos, marks_split, List.append_assoc]
    generalize lastM.map (shift (15 * (l ++ n :: l2).length)) ++ [(0, [], 15 * (l ++ n :: l2).length + 8)] = tl
    generalize txt (l ++ n :: l2) ++ lastT = T
    have hm : (marksT l).map (shift 0) = marksT l := by
      have : (shift 0) = id := by funext m; simp [shift]
      rw [this, List.map_id]
    obtain ⟨F, hF⟩ : ∃ F, ((marksT l ++ (marksT (n :: l2)).map (shift (15 * l.length)) ++ tl).map (Lx.mkOf T)).length + 1 = F := ⟨_, rfl⟩
    have hFl : l.length < F := by
      have := mlen l
      rw [← hF]; simp; omega
    have hd := decls_good T 0 l [] F ((marksT (n :: l2)).map (shift (15 * l.length)) ++ tl) hg hFl
    rw [hm, List.nil_append] at hd
    rw [List.append_assoc] at hF
    unfold parse
    rw [List.append_assoc, hF, show none_ = withToks [] from rfl, hd]
    obtain ⟨f2, hf2⟩ : ∃ f2, F - l.length = f2 + 1 := ⟨F - l.length - 1, by omega⟩
    have e : (((marksT (n :: l2)).map (shift (15 * l.length)) ++ tl).map (Lx.mkOf T)) = mk3 n (Lx.pos T (15 * l.length + 0)) (Lx.pos T (15 * l.length + 7)) (Lx.pos T (15 * l.length + 10)) ++ ((((marksT l2).map (shift (15 * l.length + 15))) ++ tl).map (Lx.mkOf T)) := by
      simp only [marksT_cons, List.map_append, shift_shift, List.append_assoc]
      rfl
    rw [hf2, e, decls_tok]
    rcases hf with ⟨h1, rfl⟩ | ⟨h1, h2, rfl⟩
    · rw [if_pos h1]
      exact ⟨_, _, rfl, rfl⟩
    · rw [if_neg (by rw [h1]; decide), if_pos h2]
      exact ⟨_, _, rfl, rfl⟩
  obtain ⟨Q, r, hr, hq⟩ := key
  unfold readD readG
  rw [hx]
  simp only []
  rw [hr]
  refine ⟨?_, rfl⟩
  show (c, Q.line, Q.col) = _
  rw [hq]
end Rd
end Go.Proofs.YtpgmapjjjpcmfaaGreatDoor

namespace Go.Proofs.YtpgmapjjjpcmfaaGreatDoor
open Go.RowKit Go.ChangeShapes Go.WideShapes Go.ChangeAt
set_option linter.unusedVariables false
set_option linter.unusedSimpArgs false

/-- The slice at A has n rows of bytes. -/
structure Rows8 (w : World) (B : Nat) (A : Option Addr) (n : Nat) (AA : Nat → Option Addr) (NN CC : Nat → Nat) (XX : Nat → Nat → Nat) : Prop where
  each : ∀ i, i < n → ∃ b o, A = some ⟨b, o, none⟩ ∧ b < B ∧ w.cell? ⟨b, o + i, none⟩ = some (.slice (AA i) (NN i) (CC i))
  row : ∀ i, i < n → Bytes8 w B (AA i) (NN i) (XX i)
  len : n ≤ 9223372036854775807
theorem Rows8.below {w w' : World} {B : Nat} {A : Option Addr} {n : Nat} {AA : Nat → Option Addr} {NN CC : Nat → Nat} {XX : Nat → Nat → Nat} (h : Rows8 w B A n AA NN CC XX) (hb : Below B w w') : Rows8 w' B A n AA NN CC XX :=
  ⟨fun i hi => by
    obtain ⟨b, o, h1, h2, h3⟩ := h.each i hi
    exact ⟨b, o, h1, h2, (hb.cell (p := ⟨b, _, none⟩) h2).trans h3⟩, fun i hi => (h.row i hi).below hb, h.len⟩
section
variable {H : Type} {enc : TypeId × Value → H} {P : Program} {W : World} {base : Nat} {v : Value} {d : DataW H} {p : List MemPlace}
theorem open_rows8 {t e q : TypeId} (ht : P.underlying t = some (.slice e)) (he : P.underlying e = some (.slice q)) (hq : P.underlying q = some (.int .u8)) (ce : P.cellsOf e = 1) (cq : P.cellsOf q = 1)
    (hv : Value.okWide P W .any base t v) (h : DataW.Trod enc P W 0 (fun _ => true) true t v d p) :
    ∃ A n c AA NN CC XX, v = .slice A n c ∧ Rows8 W W.heap.size A n AA NN CC XX := by
  obtain ⟨A, n, c, rfl⟩ := okWide_slice ht hv
  obtain ⟨fuel, hf⟩ := h
  rcases Go.Deep.open_int_rows ht he hq ce cq hf with ⟨hcs, _⟩ | ⟨a, len, cap, A', L, C, Z, hcs, hb, hl, hm, _, hx⟩
  · simp [Value.cells] at hcs
    obtain ⟨rfl, rfl, rfl⟩ := hcs
    exact ⟨_, _, _, fun _ => none, fun _ => 0, fun _ => 0, fun _ _ => 0, rfl, fun i hi => by omega, fun i hi => by omega, by omega⟩
  · simp [Value.cells] at hcs
    obtain ⟨rfl, rfl, rfl⟩ := hcs
    refine ⟨_, _, _, A', L, C, fun r i => ((Z r).getD i 0).toNat, rfl, fun i hi => ?_, fun i hi => ?_, maxLen_le (by omega)⟩
    · obtain ⟨h1, _⟩ := hx i (by omega)
      obtain ⟨g00, _⟩ := hx 0 (by omega)
      obtain ⟨ab, ao, rfl, hlt⟩ := at_zero (a := a) (by simpa [Addr.add] using g00)
      rw [Go.WideShapes.add_plain] at h1
      exact ⟨ab, ao, rfl, hlt, h1⟩
    · obtain ⟨_, h2, h3, h4, h5, h6, h7⟩ := hx i (by omega)
      have hz : ∀ j, j < C i → 0 ≤ (Z i).getD j 0 ∧ (Z i).getD j 0 ≤ 255 := fun j hj => by
        have hj' : j < (Z i).length := by omega
        have hmem : (Z i).getD j 0 ∈ Z i := by
          rw [List.getD, List.getElem?_eq_getElem hj']; exact List.getElem_mem hj'
        exact u8_wf (h5 _ hmem)
      refine ⟨fun j hj => ?_, fun j hj => ?_, maxLen_le (by omega)⟩
      · cases hA : A' i with
        | none => have := h6 hA; omega
        | some a' =>
          obtain ⟨_, h8⟩ := h7 a' hA
          have g00 := h8 0 (by omega)
          have g := h8 j (by omega)
          obtain ⟨ab, ao, rfl, hlt⟩ := at_zero (a := a') (by simpa [Addr.add] using g00)
          rw [Go.WideShapes.add_plain] at g
          refine ⟨ab, ao, rfl, hlt, ?_⟩
          rw [g]
          have := hz j (by omega)
          congr 2
          omega
      · have := hz j (by omega)
        show ((Z i).getD j 0).toNat ≤ 255
        omega
end

namespace Rd
open Lx (Mk M0)
/-! ## Pieces whose places do not matter -/
def Pe (p : List UInt8) (es : List Mk) : Prop := ∃ ks, Pl p ks ∧ ks.map ek = es
theorem ek_shift (i : Nat) (ks : List M0) : (ks.map (shift i)).map ek = ks.map ek := by
  rw [List.map_map]; rfl
theorem Pe.then {p q : List UInt8} {es fs : List Mk} (h : Pe p es) (hq : Cut q) (k : Pe q fs) : Pe (p ++ q) (es ++ fs) := by
  obtain ⟨ks, h1, h2⟩ := h
  obtain ⟨ls, k1, k2⟩ := k
  exact ⟨_, h1.then hq k1, by rw [List.map_append, ek_shift, h2, k2]⟩
theorem Pe.of {p : List UInt8} {ks : List M0} (h : Pl p ks) : Pe p (ks.map ek) := ⟨ks, h, rfl⟩
theorem Pe.free {p q : List UInt8} {ks : List M0} {fs : List Mk} (h : Free p ks) (k : Pe q fs) : Pe (p ++ q) (ks.map ek ++ fs) := by
  obtain ⟨ls, k1, k2⟩ := k
  exact ⟨_, h.then k1, by rw [List.map_append, ek_shift, k2]⟩
theorem pe_nil : Pe [] [] := ⟨[], free_nil.pl, rfl⟩
def e1 (n : Nat) : Mk := ⟨1, wd n, 0, 0⟩
def ec (k : Nat) : Mk := ⟨k, [], 0, 0⟩

/-- A row of words, each behind a space. -/
def rowT (l : List Nat) : List UInt8 := l.flatMap fun n => 32 :: wd n
def rowM (l : List Nat) : List Mk := l.map e1
theorem rowT_snoc (l : List Nat) (n : Nat) : rowT (l ++ [n]) = rowT l ++ (32 :: wd n) := by simp [rowT]
theorem rowT_cut (l : List Nat) {r : List UInt8} (hr : Cut r) : Cut (rowT l ++ r) := by
  cases l with
  | nil => exact hr
  | cons n l => exact Cut.cons (by decide)
theorem pe_row (l : List Nat) : Pe (rowT l) (rowM l) := by
  induction l with
  | nil => exact pe_nil
  | cons n r ih =>
    have h1 : Pe (32 :: wd n) [e1 n] := Pe.free (free_space (c := 32) (by decide)) (Pe.of (pl_wd n))
    have := h1.then (by have := rowT_cut r Cut.nil; rwa [List.append_nil] at this) ih
    exact this

/-! ## The text of ReaderRules -/
section
variable (X : Nat → Nat) (st : Nat → Bool) (R : Nat → List Nat)
/-- The left side of the k-th alternative. -/
def lf : Nat → Nat
  | 0 => X 0
  | k + 1 => if st (k + 1) = true then X (k + 1) else lf k
def headT (k : Nat) : List UInt8 := if k = 0 then 10 :: (wd (X k) ++ [32, 58]) else if st k = true then 32 :: 59 :: 10 :: (wd (X k) ++ [32, 58]) else [32, 124]
def headM (k : Nat) : List Mk := if k = 0 then [e1 (X k), ec 6] else if st k = true then [ec 8, e1 (X k), ec 6] else [ec 7]
def TT : Nat → List UInt8
  | 0 => [37, 37]
  | k + 1 => TT k ++ (headT X st k ++ rowT (R k))
def MM : Nat → List Mk
  | 0 => [⟨2, [37], 0, 0⟩]
  | k + 1 => MM k ++ (headM X st k ++ rowM (R k))
def ruleOf (k : Nat) : Rule := ⟨wd (lf X st k), (R k).map wd, [], []⟩
def WW : Nat → List Rule
  | 0 => []
  | k + 1 => WW k ++ [ruleOf X st R k]
theorem WW_len (k : Nat) : (WW X st R k).length = k := by
  induction k with
  | zero => rfl
  | succ k ih => simp [WW, ih]
theorem free_one {c : UInt8} {k : Nat} (h : ∀ r, Lx.step (c :: r) = .mark k [] 1) : Free [c] [(k, [], 0)] := free_mark (by simp) (fun r => h r)
theorem pe_left (n : Nat) : Pe (10 :: (wd n ++ [32, 58])) [e1 n, ec 6] := by
  have h1 : Pe [32, 58] [ec 6] := Pe.free (free_space (c := 32) (by decide)) (Pe.of (free_one (c := 58) (k := 6) (fun _ => rfl)).pl)
  have h2 := (Pe.of (pl_wd n)).then (Cut.cons (by decide)) h1
  exact Pe.free (free_space (c := 10) (by decide)) h2
theorem headT_cut (k : Nat) (r : List UInt8) : Cut (headT X st k ++ r) := by
  unfold headT
  split
  · exact Cut.cons (by decide)
  · split <;> exact Cut.cons (by decide)
theorem pe_head (k : Nat) : Pe (headT X st k) (headM X st k) := by
  unfold headT headM
  split
  · exact pe_left _
  · split
    · exact Pe.free (free_space (c := 32) (by decide)) (Pe.free (free_one (c := 59) (k := 8) (fun _ => rfl)) (pe_left _))
    · exact Pe.free (free_space (c := 32) (by decide)) (Pe.of (free_one (c := 124) (k := 7) (fun _ => rfl)).pl)
theorem pe_TT (k : Nat) : Pe (TT X st R k) (MM X st R k) := by
  induction k with
  | zero =>
    have h : Free [37, 37] [(2, [37], 0)] := free_mark (by simp) (fun r => rfl)
    exact Pe.of h.pl
  | succ k ih =>
    have h1 := (pe_head X st k).then (by have := rowT_cut (R k) Cut.nil; rwa [List.append_nil] at this) (pe_row (R k))
    exact ih.then (headT_cut X st k _) h1

/-! ## What is read of it -/
theorem rights_row (l : List Nat) (m : Mk) (t : List Mk) (hm : m.kind ≠ 1) : ∀ acc : List Name, acc.length + l.length ≤ 8 → rights (rowM l ++ m :: t) acc = .ok (acc ++ l.map wd) (m :: t) := by
  induction l with
  | nil =>
    intro acc _
    show rights (m :: t) acc = _
    rw [rights, if_neg hm]; simp
  | cons n l ih =>
    intro acc h
    simp only [List.length_cons] at h
    show rights (e1 n :: (rowM l ++ m :: t)) acc = _
    rw [rights, if_pos (show (e1 n).kind = 1 from rfl), if_neg (by omega), ih _ (by simp; omega)]
    simp [e1]
theorem alt_row (left : Name) (n : Nat) (l : List Nat) (m : Mk) (t : List Mk) (hm : m.kind = 7 ∨ m.kind = 8) (hn : n ≠ 40) (hl : l.length ≤ 8) : alt left n (rowM l ++ m :: t) = .ok ⟨left, l.map wd, [], []⟩ (m :: t) := by
  unfold alt
  rw [if_neg hn, rights_row l m t (by omega) [] (by simpa using hl)]
  simp only [List.nil_append]
  rw [prec_cons, if_neg (by unfold isWord; rcases hm with h | h <;> simp [h])]
  simp only []
  rw [action_cons, if_neg (by omega)]
/-- What stands behind the k-th alternative, with d alternatives more. -/
def AM : Nat → Nat → List Mk
  | _, 0 => [ec 8, ec 0]
  | k, d + 1 => headM X st (k + 1) ++ (rowM (R (k + 1)) ++ AM (k + 1) d)
theorem MM_AM (d : Nat) : ∀ k, MM X st R (k + 1) ++ AM X st R k d = MM X st R (k + 1 + d) ++ [ec 8, ec 0] := by
  induction d with
  | zero => intro k; rfl
  | succ d ih =>
    intro k
    have := ih (k + 1)
    rw [show k + 1 + (d + 1) = k + 1 + 1 + d by omega, ← this]
    show MM X st R (k + 1) ++ (headM X st (k + 1) ++ (rowM (R (k + 1)) ++ AM X st R (k + 1) d)) = MM X st R (k + 1) ++ (headM X st (k + 1) ++ rowM (R (k + 1))) ++ AM X st R (k + 1) d
    simp only [List.append_assoc]
/-- On from the midst of a rule. -/
def goOn (f1 f2 : Nat) (left : Name) (acc : List Rule) (ms : List Mk) : Res (List Rule) :=
  match alts f1 left acc ms with
  | .bad e r => .bad e r
  | .ok acc' r => if (hd r).kind = 0 then .ok acc' r else rules f2 acc' r
theorem goOn_reads (hR : ∀ k, (R k).length ≤ 8) (d : Nat) : ∀ (k f1 f2 : Nat), k + 1 + d ≤ 12 → (rowM (R k) ++ AM X st R k d).length < f1 → (rowM (R k) ++ AM X st R k d).length < f2 →
    goOn f1 f2 (wd (lf X st k)) (WW X st R k) (rowM (R k) ++ AM X st R k d) = .ok (WW X st R (k + 1 + d)) [ec 0] := by
  induction d with
  | zero =>
    intro k f1 f2 h12 h1 h2
    obtain ⟨f1, rfl⟩ : ∃ g, f1 = g + 1 := ⟨f1 - 1, by omega⟩
    unfold goOn
    have e : rowM (R k) ++ AM X st R k 0 = rowM (R k) ++ ec 8 :: [ec 0] := rfl
    rw [e, alts, alt_row _ _ _ _ _ (.inr rfl) (by rw [WW_len]; omega) (hR k)]
    rfl
  | succ d ih =>
    intro k f1 f2 h12 h1 h2
    obtain ⟨f1, rfl⟩ : ∃ g, f1 = g + 1 := ⟨f1 - 1, by omega⟩
    obtain ⟨f2, rfl⟩ : ∃ g, f2 = g + 1 := ⟨f2 - 1, by omega⟩
    have hWn : WW X st R k ++ [⟨wd (lf X st k), (R k).map wd, [], []⟩] = WW X st R (k + 1) := rfl
    have hlen : (rowM (R k) ++ AM X st R k (d + 1)).length = (R k).length + ((headM X st (k + 1)).length + (rowM (R (k + 1)) ++ AM X st R (k + 1) d).length) := by
      simp [AM, rowM]
    by_cases hs : st (k + 1) = true
    · have hh : headM X st (k + 1) = [ec 8, e1 (X (k + 1)), ec 6] := by unfold headM; rw [if_neg (by omega), if_pos hs]
      have hl : lf X st (k + 1) = X (k + 1) := by unfold lf; rw [if_pos hs]
      have e : rowM (R k) ++ AM X st R k (d + 1) = rowM (R k) ++ ec 8 :: (e1 (X (k + 1)) :: ec 6 :: (rowM (R (k + 1)) ++ AM X st R (k + 1) d)) := by
        show rowM (R k) ++ (headM X st (k + 1) ++ _) = _
        rw [hh]; rfl
      rw [hh] at hlen
      simp only [List.length_cons, List.length_nil] at hlen
      have ih' := ih (k + 1) ((e1 (X (k + 1)) :: ec 6 :: (rowM (R (k + 1)) ++ AM X st R (k + 1) d)).length + 1) f2 (by omega) (by simp only [List.length_cons]; omega) (by omega)
      unfold goOn at ih' ⊢
      rw [e, alts, alt_row _ _ _ _ _ (.inr rfl) (by rw [WW_len]; omega) (hR k)]
      simp only []
      rw [if_pos (show (hd (ec 8 :: (e1 (X (k + 1)) :: ec 6 :: (rowM (R (k + 1)) ++ AM X st R (k + 1) d)))).kind = 8 from rfl), List.tail_cons, hWn]
      simp only []
      rw [if_neg (show ¬ (hd (e1 (X (k + 1)) :: ec 6 :: (rowM (R (k + 1)) ++ AM X st R (k + 1) d))).kind = 0 from by rw [hd_cons]; show ¬ (1 : Nat) = 0; omega), rules, rule_two, if_neg (by show ¬ (1 : Nat) ≠ 1; omega), if_neg (by show ¬ (6 : Nat) ≠ 6; omega)]
      rw [hl, show k + 1 + 1 + d = k + 1 + (d + 1) by omega] at ih'
      exact ih'
    · have hh : headM X st (k + 1) = [ec 7] := by unfold headM; rw [if_neg (by omega), if_neg hs]
      have hl : lf X st (k + 1) = lf X st k := by rw [lf, if_neg hs]
      have e : rowM (R k) ++ AM X st R k (d + 1) = rowM (R k) ++ ec 7 :: (rowM (R (k + 1)) ++ AM X st R (k + 1) d) := by
        show rowM (R k) ++ (headM X st (k + 1) ++ _) = _
        rw [hh]; rfl
      rw [hh] at hlen
      simp only [List.length_cons, List.length_nil] at hlen
      have ih' := ih (k + 1) f1 (f2 + 1) (by omega) (by omega) (by omega)
      unfold goOn at ih' ⊢
      rw [e, alts, alt_row _ _ _ _ _ (.inl rfl) (by rw [WW_len]; omega) (hR k)]
      simp only []
      rw [if_neg (show ¬ (hd (ec 7 :: (rowM (R (k + 1)) ++ AM X st R (k + 1) d))).kind = 8 from by show ¬ (7 : Nat) = 8; omega), if_pos (show (hd (ec 7 :: (rowM (R (k + 1)) ++ AM X st R (k + 1) d))).kind = 7 from rfl), List.tail_cons, hWn]
      rw [hl, show k + 1 + 1 + d = k + 1 + (d + 1) by omega] at ih'
      exact ih'
/-- The rules of the text are read as they were written. -/
theorem read_rules (hR : ∀ k, (R k).length ≤ 8) (n : Nat) (h1 : 1 ≤ n) (h12 : n ≤ 12) (hT : (TT X st R n ++ [59]).length ≤ 3998) :
    readD (TT X st R n ++ [59]) = (0, 0, 0) ∧ readG (TT X st R n ++ [59]) = ⟨[], [], [], wd (X 0), WW X st R n⟩ := by
  obtain ⟨d, rfl⟩ : ∃ d, n = 0 + 1 + d := ⟨n - 1, by omega⟩
  have hP : Pe (TT X st R (0 + 1 + d) ++ [59]) (MM X st R (0 + 1 + d) ++ [ec 8]) := (pe_TT X st R _).then (Cut.cons (by decide)) (Pe.of (free_one (c := 59) (k := 8) (fun _ => rfl)).pl)
  obtain ⟨ks, hk1, hk2⟩ := hP
  obtain ⟨f', hf1, hf2⟩ := hk1 [] ((TT X st R (0 + 1 + d) ++ [59]).length + 1) 0 [] Cut.nil (by rw [List.append_nil]; omega)
  rw [List.append_nil, Lx.run_end (by omega), List.nil_append] at hf2
  obtain ⟨l, hl⟩ : ∃ l, TT X st R (0 + 1 + d) ++ [59] = 37 :: 37 :: l := by
    have : ∀ k, ∃ l, TT X st R k = 37 :: 37 :: l := by
      intro k
      induction k with
      | zero => exact ⟨[], rfl⟩
      | succ k ih => obtain ⟨l, hl⟩ := ih; exact ⟨l ++ (headT X st k ++ rowT (R k)), by rw [TT, hl]; rfl⟩
    obtain ⟨l, hl⟩ := this (0 + 1 + d)
    exact ⟨l ++ [59], by rw [hl]; rfl⟩
  have hlex : Lx.lex (TT X st R (0 + 1 + d) ++ [59]) = .ok (ks.map (shift 0) ++ [(0, [], 0 + (TT X st R (0 + 1 + d) ++ [59]).length)]) := by
    unfold Lx.lex
    rw [if_neg (by omega)]
    exact hf2
  have hm0 : ks.map (shift 0) = ks := by
    have : (shift 0) = id := by funext m; simp [shift]
    rw [this, List.map_id]
  rw [hm0] at hlex
  have hMM := MM_AM X st R d 0
  have hall : (ks ++ [(0, [], 0 + (TT X st R (0 + 1 + d) ++ [59]).length)]).map ek = ⟨2, [37], 0, 0⟩ :: e1 (X 0) :: ec 6 :: (rowM (R 0) ++ AM X st R 0 d) := by
    rw [List.map_append, hk2, List.append_assoc]
    show MM X st R (0 + 1 + d) ++ [ec 8, ec 0] = _
    rw [← hMM]
    show ([⟨2, [37], 0, 0⟩] ++ (headM X st 0 ++ rowM (R 0))) ++ AM X st R 0 d = _
    rw [List.append_assoc, List.append_assoc]
    rfl
  rw [hl] at hlex hall ⊢
  have key : (parse ((ks ++ [(0, [], 0 + (37 :: 37 :: l : List UInt8).length)]).map (Lx.mkOf (37 :: 37 :: l)))).grammar = ⟨[], [], [], wd (X 0), WW X st R (0 + 1 + d)⟩ ∧ (parse ((ks ++ [(0, [], 0 + (37 :: 37 :: l : List UInt8).length)]).map (Lx.mkOf (37 :: 37 :: l)))).diag = (0, 0, 0) := by
    generalize (ks ++ [(0, [], 0 + (37 :: 37 :: l : List UInt8).length)]) = all at hall ⊢
    cases all with
    | nil => cases hall
    | cons m0 ms =>
      rw [List.map_cons] at hall ⊢
      have hm0 : ek m0 = ⟨2, [37], 0, 0⟩ := (List.cons.inj hall).1
      have hms : ms.map ek = e1 (X 0) :: ec 6 :: (rowM (R 0) ++ AM X st R 0 d) := (List.cons.inj hall).2
      have hmk : Lx.mkOf (37 :: 37 :: l) m0 = ⟨2, [37], (Lx.mkOf (37 :: 37 :: l) m0).line, (Lx.mkOf (37 :: 37 :: l) m0).col⟩ := by
        have k1 : m0.1 = 2 := congrArg Mk.kind hm0
        have k2 : m0.2.1 = [37] := congrArg Mk.text hm0
        unfold Lx.mkOf
        rw [k1, k2]
      rw [hmk, parse_mark]
      have her := rules_er ((ms.map (Lx.mkOf (37 :: 37 :: l))).length + 1) [] (ms.map (Lx.mkOf (37 :: 37 :: l)))
      rw [er_mkOf, hms, List.length_map] at her
      have hlen := congrArg List.length hms
      rw [List.length_map] at hlen
      have hgo := goOn_reads X st R hR d 0 ((e1 (X 0) :: ec 6 :: (rowM (R 0) ++ AM X st R 0 d)).length + 1) ms.length (by omega) (by simp only [List.length_cons]; omega) (by rw [hlen]; simp only [List.length_cons]; omega)
      have hru : rules (ms.length + 1) [] (e1 (X 0) :: ec 6 :: (rowM (R 0) ++ AM X st R 0 d)) = .ok (WW X st R (0 + 1 + d)) [ec 0] := by
        rw [rules, rule_two, if_neg (by show ¬ (1 : Nat) ≠ 1; omega), if_neg (by show ¬ (6 : Nat) ≠ 6; omega)]
        exact hgo
      rw [hru] at her
      rw [List.length_map]
      obtain ⟨r', hr'⟩ := Res.er_ok her.symm
      rw [hr']
      have hhd : ∀ d, ((WW X st R (0 + 1 + d)).headD ⟨[], [], [], []⟩).left = wd (X 0) := by
        intro d
        induction d with
        | zero => rfl
        | succ d ih =>
          show ((WW X st R (0 + 1 + d) ++ [ruleOf X st R (0 + 1 + d)]).headD ⟨[], [], [], []⟩).left = _
          have hne : WW X st R (0 + 1 + d) ≠ [] := by
            intro e
            have := WW_len X st R (0 + 1 + d)
            rw [e] at this
            simp only [List.length_nil] at this
            omega
          obtain ⟨a, b, hab⟩ := List.exists_cons_of_ne_nil hne
          rw [hab] at ih ⊢
          exact ih
      refine ⟨?_, rfl⟩
      show (⟨[], [], [], ((WW X st R (0 + 1 + d)).headD ⟨[], [], [], []⟩).left, WW X st R (0 + 1 + d)⟩ : G) = _
      rw [hhd]
  unfold readD readG
  rw [hlex]
  exact ⟨key.2, key.1⟩
end
end Rd
end Go.Proofs.YtpgmapjjjpcmfaaGreatDoor
