import Derived.Test.YtdhhkancbgealaaGreatT00
namespace Go.Proofs.YtdhhkancbgealaaGreat
set_option linter.unusedVariables false
set_option linter.unusedSimpArgs false
namespace Tr
def allK (L : List Nd) : List Int := L.flatMap fun x => x.kids
structure Good (L : List Nd) : Prop where
 lt : ∀ (j : Nat) (x : Nd), L[j]? = some x → ∀ k ∈ x.kids, 0 ≤ k ∧ k < (j : Int)
 nodup : (allK L).Nodup
 und : ∀ k : Int, (at_ L k).under = true ↔ k ∈ allK L
 leaf : ∀ (j : Nat) (x : Nd), L[j]? = some x → x.leaf = true → x.kids = []
theorem kids_modify (L : List Nd) (i : Nat) : (L.modify i fun x => { x with under := true }).map (fun x => x.kids) = L.map (fun x => x.kids) := by
 induction L generalizing i with
 | nil => simp
 | cons x L ih => cases i <;> simp [ih]
theorem kids_mark (L : List Nd) (i : Int) : (mark L i).map (fun x => x.kids) = L.map (fun x => x.kids) := by
 unfold mark; split
 ·exact kids_modify _ _
 ·rfl
theorem kids_marks (ks : List Int) : ∀ L : List Nd, (marks L ks).map (fun x => x.kids) = L.map (fun x => x.kids) := by
 induction ks with
 | nil => intro L; rfl
 | cons k ks ih => intro L; show (marks (mark L k) ks).map _ = _; rw [ih, kids_mark]
theorem leaf_modify (L : List Nd) (i : Nat) : (L.modify i fun x => { x with under := true }).map (fun x => x.leaf) = L.map (fun x => x.leaf) := by
 induction L generalizing i with
 | nil => simp
 | cons x L ih => cases i <;> simp [ih]
theorem leaf_mark (L : List Nd) (i : Int) : (mark L i).map (fun x => x.leaf) = L.map (fun x => x.leaf) := by
 unfold mark; split
 ·exact leaf_modify _ _
 ·rfl
theorem leaf_marks (ks : List Int) : ∀ L : List Nd, (marks L ks).map (fun x => x.leaf) = L.map (fun x => x.leaf) := by
 induction ks with
 | nil => intro L; rfl
 | cons k ks ih => intro L; show (marks (mark L k) ks).map _ = _; rw [ih, leaf_mark]
theorem allK_map {L M : List Nd} (h : L.map (fun x => x.kids) = M.map (fun x => x.kids)) : allK L = allK M := by
 have e : ∀ L : List Nd, allK L = (L.map (fun x => x.kids)).flatten := fun L => rfl
 rw [e, e, h]
theorem at_mark (L : List Nd) (i k : Int) : (at_ (mark L i) k).under = ((at_ L k).under || (decide (k = i) && has L k)) := by
 unfold mark
 by_cases h0 : 0 ≤ i
 ·rw [if_pos h0]
  unfold at_
  by_cases hk : 0 ≤ k
  ·rw [if_pos hk, if_pos hk, List.getElem?_modify]
   by_cases e : k = i
   ·subst e
    cases hg : L[k.toNat]? with
    | none =>
     have : has L k = false := by
      unfold has; refine decide_eq_false fun hh => ?_
      have := List.getElem?_eq_none_iff.1 hg; omega
     simp [this]
    | some x =>
     have : has L k = true := by
      unfold has; refine decide_eq_true ?_
      have := (List.getElem?_eq_some_iff.1 hg).1; omega
     simp [this]
   ·have e2 : ¬ i.toNat = k.toNat := by omega
    cases hg : L[k.toNat]? <;> simp [e, e2]
  ·rw [if_neg hk, if_neg hk]
   have : decide (k = i) = false := decide_eq_false (by omega)
   simp [this]
 ·rw [if_neg h0]
  by_cases e : k = i
  ·have : has L k = false := by unfold has; exact decide_eq_false (by omega)
   simp [this]
  ·simp [e]
theorem has_mark_ (L : List Nd) (k i : Int) : has (mark L k) i = has L i := by unfold has; rw [mark_length]
theorem at_marks (ks : List Int) (k : Int) : ∀ L : List Nd, (at_ (marks L ks) k).under = ((at_ L k).under || (decide (k ∈ ks) && has L k)) := by
 induction ks with
 | nil => intro L; simp [marks]
 | cons j ks ih =>
  intro L
  show (at_ (marks (mark L j) ks) k).under = _
  rw [ih, at_mark, has_mark_]
  by_cases h1 : k = j <;> by_cases h2 : k ∈ ks <;> cases has L k <;> simp [h1, h2]
theorem at_append (L : List Nd) (x : Nd) (k : Int) : at_ (L ++ [x]) k = if k = (L.length : Int) then x else at_ L k := by
 unfold at_
 by_cases hk : 0 ≤ k
 ·rw [if_pos hk, if_pos hk]
  by_cases e : k = (L.length : Int)
  ·rw [if_pos e, e]; simp
  ·rw [if_neg e]
   by_cases hlt : k.toNat < L.length
   ·rw [List.getElem?_append_left hlt]
   ·rw [List.getElem?_eq_none (by simp; omega), List.getElem?_eq_none (by omega)]
 ·rw [if_neg hk, if_neg hk, if_neg (by omega)]
theorem allK_append (L : List Nd) (x : Nd) : allK (L ++ [x]) = allK L ++ x.kids := by simp [allK]
theorem Good.bound {L : List Nd} (h : Good L) {k : Int} (hk : k ∈ allK L) : 0 ≤ k ∧ k + 1 < (L.length : Int) := by
 unfold allK at hk
 obtain ⟨x, hx, hk⟩ := List.mem_flatMap.1 hk
 obtain ⟨j, hj, e⟩ := List.mem_iff_getElem.1 hx
 have := h.lt j x (by rw [← e]; exact List.getElem?_eq_getElem hj) k hk
 omega
theorem good_nil : Good [] := ⟨fun j x h => by simp at h, by simp [allK], fun k => by simp [allK, at_, none_], fun j x h => by simp at h⟩
theorem get_snoc {L : List Nd} {y x : Nd} {j : Nat} (h : (L ++ [y])[j]? = some x) : (j = L.length ∧ x = y) ∨ L[j]? = some x := by
 by_cases hj : j < L.length
 ·rw [List.getElem?_append_left hj] at h; exact .inr h
 ·have hl := (List.getElem?_eq_some_iff.1 h).1
  have : j = L.length := by simp at hl; omega
  subst this
  simp at h; exact .inl ⟨rfl, h.symm⟩
theorem good_leaf {L : List Nd} (h : Good L) (l : Int) (x : Tok) : Good (Tr.leaf l L x).L := by
 unfold Tr.leaf
 split
 ·exact h
 ·show Good (L ++ [leafOf x])
  refine ⟨fun j y hy k hk => ?_, ?_, fun k => ?_, fun j y hy hf => ?_⟩
  ·rcases get_snoc hy with ⟨_, rfl⟩ | h1
   ·simp [leafOf] at hk
   ·exact h.lt j y h1 k hk
  ·rw [allK_append]; simpa [leafOf] using h.nodup
  ·rw [at_append, allK_append]
   split
   ·rename_i e
    constructor
    ·intro hu; simp [leafOf] at hu
    ·intro hm
     have : k ∈ allK L := by simpa [leafOf] using hm
     have := h.bound this; omega
   ·rw [h.und]; simp [leafOf]
  ·rcases get_snoc hy with ⟨_, rfl⟩ | h1
   ·rfl
   ·exact h.leaf j y h1 hf
theorem wrong_zero {L : List Nd} {ks : List Int} (h : wrong L ks = 0) : (∀ k ∈ ks, has L k = true) ∧ (∀ k ∈ ks, (at_ L k).under = false) ∧ ks.Nodup := by
 unfold wrong at h
 split at h
 ·omega
 ·rename_i h1
  split at h
  ·omega
  ·rename_i h2
   simp at h1 h2
   exact ⟨fun k hk => by simpa using h1 k hk, fun k hk => by simpa using h2.1 k hk, h2.2⟩
theorem map_get {α β : Type} {L M : List α} {f : α → β} (h : L.map f = M.map f) {j : Nat} {x : α} (hx : L[j]? = some x) : ∃ y, M[j]? = some y ∧ f y = f x := by
 have := congrArg (fun l : List β => l[j]?) h
 simp only [List.getElem?_map, hx, Option.map_some] at this
 cases hm : M[j]? with
 | none => rw [hm] at this; simp at this
 | some y => rw [hm] at this; simp at this; exact ⟨y, rfl, this.symm⟩
theorem good_node {L : List Nd} (h : Good L) (l : Int) (rule sym : Int) (ks : List Int) : Good (Tr.node l L rule sym ks).L := by
 unfold Tr.node
 split
 ·rename_i hw
  split
  ·exact h
  ·show Good (marks L ks ++ [nodeOf rule sym ks])
   obtain ⟨h1, h2, h3⟩ := wrong_zero hw
   have hK : allK (marks L ks) = allK L := allK_map (kids_marks ks L)
   refine ⟨fun j y hy k hk => ?_, ?_, fun k => ?_, fun j y hy hf => ?_⟩
   ·rcases get_snoc hy with ⟨e, rfl⟩ | hy
    ·have := has_true (h1 k hk)
     rw [marks_length] at e; omega
    ·obtain ⟨z, hz, e⟩ := map_get (kids_marks ks L) hy
     exact h.lt j z hz k (by rw [e]; exact hk)
   ·rw [allK_append, hK]
    show (allK L ++ ks).Nodup
    refine List.nodup_append.2 ⟨h.nodup, h3, fun a ha b hb e => ?_⟩
    subst e
    have := h2 a hb
    rw [(h.und a).2 ha] at this; cases this
   ·rw [at_append, allK_append, hK, marks_length]
    show _ ↔ k ∈ allK L ++ ks
    split
    ·rename_i e
     constructor
     ·intro hu; simp [nodeOf] at hu
     ·intro hm
      rcases List.mem_append.1 hm with hm | hm
      ·have := h.bound hm; omega
      ·have := has_true (h1 k hm); omega
    ·rw [at_marks, Bool.or_eq_true, h.und, List.mem_append]
     constructor
     ·rintro (hm | hm)
      ·exact .inl hm
      ·simp at hm; exact .inr hm.1
     ·rintro (hm | hm)
      ·exact .inl hm
      ·exact .inr (by simp [hm, h1 k hm])
   ·rcases get_snoc hy with ⟨_, rfl⟩ | hy
    ·simp [nodeOf] at hf
    ·obtain ⟨z, hz, e⟩ := map_get (kids_marks ks L) hy
     obtain ⟨z2, hz2, e2⟩ := map_get (leaf_marks ks L) hy
     rw [hz] at hz2; cases hz2
     rw [← e]; exact h.leaf j z hz (by rw [e2]; exact hf)
 ·exact h
theorem Good.down {L : List Nd} (h : Good L) : Down L := by
 intro i k hk
 unfold kidsOf at hk
 cases hh : has L i with
 | false => rw [at_no hh] at hk; simp [none_] at hk
 | true =>
  obtain ⟨x, h1, h2⟩ := has_get hh
  rw [h2] at hk
  have := h.lt _ x h1 k hk
  have := (has_true hh).1
  omega
theorem kidsOf_has {L : List Nd} {p k : Int} (h : k ∈ kidsOf L p) : has L p = true := by
 cases hh : has L p with
 | true => rfl
 | false => unfold kidsOf at h; rw [at_no hh] at h; simp [none_] at h
theorem kidsOf_mem {L : List Nd} {p k : Int} (h : k ∈ kidsOf L p) : k ∈ allK L := by
 obtain ⟨x, h1, h2⟩ := has_get (kidsOf_has h)
 unfold kidsOf at h; rw [h2] at h
 exact List.mem_flatMap.2 ⟨x, List.mem_of_getElem? h1, h⟩
theorem mem_kidsOf {L : List Nd} {k : Int} (h : k ∈ allK L) : ∃ p, k ∈ kidsOf L p := by
 obtain ⟨x, hx, hk⟩ := List.mem_flatMap.1 h
 obtain ⟨j, hj, e⟩ := List.mem_iff_getElem.1 hx
 refine ⟨(j : Int), ?_⟩
 unfold kidsOf
 rw [at_of (L := L) (x := x) (by rw [← e]; exact List.getElem?_eq_getElem hj)]; exact hk
theorem Good.once {L : List Nd} (h : Good L) {p q k : Int} (hp : k ∈ kidsOf L p) (hq : k ∈ kidsOf L q) : p = q := by
 obtain ⟨x, x1, x2⟩ := has_get (kidsOf_has hp)
 obtain ⟨y, y1, y2⟩ := has_get (kidsOf_has hq)
 have hp0 := (has_true (kidsOf_has hp)).1
 have hq0 := (has_true (kidsOf_has hq)).1
 unfold kidsOf at hp hq
 rw [x2] at hp; rw [y2] at hq
 have hn := (List.pairwise_flatMap.1 h.nodup).2
 rw [List.pairwise_iff_getElem] at hn
 obtain ⟨u1, u2⟩ := List.getElem?_eq_some_iff.1 x1
 obtain ⟨v1, v2⟩ := List.getElem?_eq_some_iff.1 y1
 have key : ∀ i j (hi : i < L.length) (hj : j < L.length), i < j → k ∈ L[i].kids → k ∈ L[j].kids → False := fun i j hi hj hij a b => hn i j hi hj hij k a k b rfl
 rw [← u2] at hp; rw [← v2] at hq
 rcases Nat.lt_trichotomy p.toNat q.toNat with h1 | h1 | h1
 ·exact (key _ _ u1 v1 h1 hp hq).elim
 ·omega
 ·exact (key _ _ v1 u1 h1 hq hp).elim
theorem Good.kid_count {L : List Nd} (h : Good L) (p x : Int) : (kidsOf L p).count x = if x ∈ kidsOf L p then 1 else 0 := by
 split
 ·rename_i hm
  obtain ⟨y, h1, h2⟩ := has_get (kidsOf_has hm)
  have hn := (List.pairwise_flatMap.1 h.nodup).1 y (List.mem_of_getElem? h1)
  unfold kidsOf at hm ⊢
  rw [h2] at hm ⊢
  have h3 := List.nodup_iff_count.1 hn x
  have h4 := List.count_pos_iff.2 hm
  omega
 ·rename_i hm; exact List.count_eq_zero.2 hm
theorem count_flat (x : Int) (f : Int → List Int) (l : List Int) : (l.flatMap f).count x = (l.map fun k => (f k).count x).sum := by
 induction l with
 | nil => simp
 | cons k l ih => simp [List.count_append, ih]
theorem sum_add (f g : Int → Nat) (l : List Int) : (l.map fun k => f k + g k).sum = (l.map f).sum + (l.map g).sum := by
 induction l with
 | nil => simp
 | cons k l ih => simp [ih]; omega
theorem sum_eq (x : Int) (l : List Int) : (l.map fun k => if x = k then 1 else 0).sum = l.count x := by
 induction l with
 | nil => simp
 | cons k l ih =>
  rw [List.map_cons, List.sum_cons, ih, List.count_cons]
  by_cases e : x = k
  ·subst e; simp; omega
  ·have e2 : ¬ k = x := fun h => e h.symm
   simp [e, e2]
theorem map_sum_congr {f g : Int → Nat} {l : List Int} (h : ∀ k ∈ l, f k = g k) : (l.map f).sum = (l.map g).sum := by rw [List.map_congr_left h]
theorem Bel_count {L : List Nd} (h : Down L) (x i : Int) : (Bel L i).count x = ((kidsOf L i).map fun k => (Bel L k).count x).sum + if x = i then 1 else 0 := by
 rw [Bel_eq h, List.count_append, count_flat]
 congr 1
 by_cases e : x = i
 ·subst e; simp
 ·have e2 : ¬ i = x := fun h => e h.symm
  simp [e, e2, List.count_cons]
theorem Good.up {L : List Nd} (h : Good L) {p x : Int} (hx : x ∈ kidsOf L p) : ∀ (n : Nat) (i : Int), i.toNat < n → (Bel L i).count x = (Bel L i).count p + if x = i then 1 else 0
 | 0, _, hi => absurd hi (Nat.not_lt_zero _)
 | n + 1, i, hi => by
  rw [Bel_count h.down x i, Bel_count h.down p i]
  have e1 : ((kidsOf L i).map fun k => (Bel L k).count x).sum = ((kidsOf L i).map fun k => (Bel L k).count p + if x = k then 1 else 0).sum := map_sum_congr fun k hk => by
   have := h.down i k hk
   exact Good.up h hx n k (by omega)
  rw [e1, sum_add, sum_eq, h.kid_count]
  have e2 : (if x ∈ kidsOf L i then 1 else 0) = if p = i then 1 else 0 := by
   by_cases e : p = i
   ·subst e; rw [if_pos hx, if_pos rfl]
   ·rw [if_neg e, if_neg (fun hm => e (h.once hx hm))]
  rw [e2]
theorem Good.top {L : List Nd} (h : Good L) {x : Int} (hx : x ∉ allK L) : ∀ (n : Nat) (i : Int), i.toNat < n → (Bel L i).count x = if x = i then 1 else 0
 | 0, _, hi => absurd hi (Nat.not_lt_zero _)
 | n + 1, i, hi => by
  rw [Bel_count h.down x i]
  have e1 : ((kidsOf L i).map fun k => (Bel L k).count x).sum = ((kidsOf L i).map fun k => if x = k then 1 else 0).sum := map_sum_congr fun k hk => by
   have := h.down i k hk
   exact Good.top h hx n k (by omega)
  rw [e1, sum_eq, h.kid_count, if_neg (fun hm => hx (kidsOf_mem hm))]
  omega
theorem Good.bel_le {L : List Nd} (h : Good L) : ∀ (n : Nat) (i : Int), i.toNat < n → ∀ x ∈ Bel L i, x ≤ i ∧ (x = i ∨ 0 ≤ x)
 | 0, _, hi => absurd hi (Nat.not_lt_zero _)
 | n + 1, i, hi => fun x hx => by
  rw [Bel_eq h.down] at hx
  rcases List.mem_append.1 hx with hx | hx
  ·obtain ⟨k, hk, hx⟩ := List.mem_flatMap.1 hx
   have h1 := h.down i k hk
   have h2 := Good.bel_le h n k (by omega) x hx
   omega
  ·simp at hx; omega
theorem Good.count_le {L : List Nd} (h : Good L) (i : Int) : ∀ (n : Nat) (x : Int), L.length - x.toNat < n → (Bel L i).count x ≤ 1
 | 0, _, hi => absurd hi (Nat.not_lt_zero _)
 | n + 1, x, hi => by
  by_cases hx : x ∈ allK L
  ·obtain ⟨p, hp⟩ := mem_kidsOf hx
   rw [h.up hp (i.toNat + 1) i (by omega)]
   have hd := h.down p x hp
   have hpl := (has_true (kidsOf_has hp)).2
   by_cases e : x = i
   ·have : (Bel L i).count p = 0 := List.count_eq_zero.2 fun hm => by
     have := h.bel_le (i.toNat + 1) i (by omega) p hm; omega
    rw [this, if_pos e]; exact Nat.le_refl _
   ·rw [if_neg e]
    exact Good.count_le h i n p (by omega)
  ·rw [h.top hx (i.toNat + 1) i (by omega)]; split <;> omega
theorem Good.bel_nodup {L : List Nd} (h : Good L) (i : Int) : (Bel L i).Nodup := List.nodup_iff_count.2 fun x => h.count_le i (L.length - x.toNat + 1) x (by omega)
theorem nodup_len : ∀ (n : Nat) (l : List Int), l.Nodup → (∀ x ∈ l, 0 ≤ x ∧ x < (n : Int)) → l.length ≤ n
 | 0, l, _, h => by
  cases l with
  | nil => simp
  | cons x l => have := h x (by simp); omega
 | n + 1, l, hn, h => by
  have h1 := nodup_len n (l.erase (n : Int)) (hn.erase _) (fun x hx => by
   have h2 := h x (List.mem_of_mem_erase hx)
   have h3 := (List.Nodup.mem_erase_iff hn).1 hx
   omega)
  have := List.length_erase (a := (n : Int)) (l := l)
  split at this <;> omega
theorem Good.bel_len {L : List Nd} (h : Good L) (i : Int) : (Bel L i).length ≤ L.length + 1 := by
 by_cases hi : has L i = true
 ·have := has_true hi
  have := nodup_len L.length (Bel L i) (h.bel_nodup i) (fun x hx => by
   have := h.bel_le (i.toNat + 1) i (by omega) x hx
   omega)
  omega
 ·have : kidsOf L i = [] := by unfold kidsOf; rw [at_no (by simpa using hi)]; rfl
  rw [Bel_eq h.down, this]; simp
end Tr
end Go.Proofs.YtdhhkancbgealaaGreat
