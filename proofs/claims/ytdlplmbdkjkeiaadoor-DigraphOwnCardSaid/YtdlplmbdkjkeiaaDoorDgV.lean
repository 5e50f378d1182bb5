import Derived.Test.YtdlplmbdkjkeiaaDoorDgT
namespace Go.Proofs.YtdlplmbdkjkeiaaDoor
set_option linter.unusedVariables false
namespace Dg
theorem sorted_ext : ∀ (l l' : List Nat), l.Pairwise (· < ·) → l'.Pairwise (· < ·) → (∀ x, x ∈ l ↔ x ∈ l') → l = l'
 | [], [], _, _, _ => rfl
 | [], y :: ys, _, _, h => absurd ((h y).2 (by simp)) (by simp)
 | x :: xs, [], _, _, h => absurd ((h x).1 (by simp)) (by simp)
 | x :: xs, y :: ys, h1, h2, h => by
  rw [List.pairwise_cons] at h1 h2
  have hxy : x = y := by
   have e1 := (h x).1 (by simp)
   have e2 := (h y).2 (by simp)
   simp only [List.mem_cons] at e1 e2
   rcases e1 with e1 | e1
   ·exact e1
   ·rcases e2 with e2 | e2
    ·exact e2.symm
    ·have := h2.1 x e1
     have := h1.1 y e2
     omega
  subst hxy
  congr 1
  refine sorted_ext xs ys h1.2 h2.2 fun z => ?_
  constructor
  ·intro hz
   have := (h z).1 (by simp [hz])
   simp only [List.mem_cons] at this
   rcases this with rfl | this
   ·exact absurd (h1.1 z hz) (by omega)
   ·exact this
  ·intro hz
   have := (h z).2 (by simp [hz])
   simp only [List.mem_cons] at this
   rcases this with rfl | this
   ·exact absurd (h2.1 z hz) (by omega)
   ·exact this
theorem range_sorted (n : Nat) (f : Nat → Bool) : ((List.range n).filter f).Pairwise (· < ·) := List.Pairwise.filter _ List.pairwise_lt_range
def srt (n : Nat) (P : List Nat) : List Nat := (List.range n).filter fun k => decide (k ∈ P)
theorem mem_srt {n : Nat} {P : List Nat} (h : ∀ x ∈ P, x < n) (x : Nat) : x ∈ srt n P ↔ x ∈ P := by
 simp only [srt, List.mem_filter, List.mem_range, decide_eq_true_eq]
 exact ⟨fun h => h.2, fun hx => ⟨h x hx, hx⟩⟩
theorem srt_perm {n : Nat} {P : List Nat} (hn : P.Nodup) (h : ∀ x ∈ P, x < n) : (srt n P).Perm P := by
 have h1 : (srt n P).Nodup := (range_sorted n _).imp fun h => Nat.ne_of_lt h
 exact (List.perm_ext_iff_of_nodup h1 hn).2 (mem_srt h)
theorem sorted_srt {n : Nat} {P : List Nat} (hn : P.Nodup) (h : ∀ x ∈ P, x < n) : (ints P).mergeSort (fun x y => decide (x ≤ y)) = ints (srt n P) := by
 have h1 : ((ints P).mergeSort (fun x y => decide (x ≤ y))).Perm (ints P) := List.mergeSort_perm _ _
 have h2 : ((ints P).mergeSort (fun x y => decide (x ≤ y))).Pairwise (fun a b => decide (a ≤ b) = true) := List.pairwise_mergeSort (fun a b c => by simp; omega) (fun a b => by simp; omega) _
 have h3 : (ints (srt n P)).Perm (ints P) := (srt_perm hn h).map _
 have h4 : (ints (srt n P)).Pairwise (fun a b => decide (a ≤ b) = true) := by
  unfold ints
  rw [List.pairwise_map]
  exact (range_sorted n _).imp (fun h => by simp; omega)
 exact List.Perm.eq_of_pairwise (fun a b _ _ h1 h2 => by simp at h1 h2; omega) h2 h4 (h1.trans h3.symm)
section
variable {G : Nat → List Int} {n : Nat} {ps : List (List Nat)}
theorem Parted.closed (h : Parted G n ps) {A C : List (List Nat)} (hp : ps = A ++ C) {x y : Nat} (hx : x ∈ A.flatten) (hr : R G n x y) : y ∈ A.flatten := by
 induction hr with
 | refl _ => exact hx
 | @step v u t e _ ih =>
  refine ih ?_
  obtain ⟨P, hP, hv⟩ := List.mem_flatten.1 hx
  obtain ⟨A1, A2, rfl⟩ := List.append_of_mem hP
  have := h.behind A1 P (A2 ++ C) (by rw [hp]; simp) v hv u e
  rw [List.flatten_append] at this ⊢
  rcases List.mem_append.1 this with h1 | h1
  ·exact List.mem_append.2 (.inl h1)
  ·exact List.mem_append.2 (.inr (by simp at h1; simp [h1]))
theorem Parted.part (h : Parted G n ps) {P : List Nat} (hP : P ∈ ps) {x : Nat} (hx : x ∈ P) (y : Nat) : y ∈ P ↔ R G n x y ∧ R G n y x := by
 refine ⟨fun hy => ⟨(h.one P hP).2 x hx y hy, (h.one P hP).2 y hy x hx⟩, fun ⟨h1, h2⟩ => ?_⟩
 obtain ⟨A, C, rfl⟩ := List.append_of_mem hP
 have e1 := h.closed (A := A ++ [P]) (C := C) (by simp) (x := x) (by simp [hx]) h1
 rw [List.flatten_append] at e1
 rcases List.mem_append.1 e1 with e1 | e1
 ·have e2 := h.closed (A := A) (C := P :: C) rfl e1 h2
  have hn := h.nodup
  rw [List.flatten_append, List.flatten_cons] at hn
  exact absurd rfl ((List.nodup_append.1 hn).2.2 x e2 x (by simp [hx]))
 ·simpa using e1
theorem Parted.lt (h : Parted G n ps) {P : List Nat} (hP : P ∈ ps) {x : Nat} (hx : x ∈ P) : x < n := (h.all x).1 (List.mem_flatten.2 ⟨P, hP, hx⟩)
theorem Parted.each_nodup (h : Parted G n ps) {P : List Nat} (hP : P ∈ ps) : P.Nodup := by
 obtain ⟨A, C, rfl⟩ := List.append_of_mem hP
 have hn := h.nodup
 rw [List.flatten_append, List.flatten_cons] at hn
 exact (List.nodup_append.1 (List.nodup_append.1 hn).2.1).1
def cls (rb : Nat → Nat → Bool) (n i : Nat) : List Nat := (List.range n).filter fun k => rb i k && rb k i
def first (rb : Nat → Nat → Bool) (i : Nat) : Bool := (List.range i).all fun k => !(rb k i && rb i k)
def canon (rb : Nat → Nat → Bool) (n : Nat) : List (List Nat) := ((List.range n).filter (first rb)).map (cls rb n)
theorem srt_cls (h : Parted G n ps) {rb : Nat → Nat → Bool} (hrb : ∀ i k, i < n → k < n → (rb i k = true ↔ R G n i k)) {P : List Nat} (hP : P ∈ ps) {x : Nat} (hx : x ∈ P) : srt n P = cls rb n x := by
 have hxn := h.lt hP hx
 refine sorted_ext _ _ (range_sorted n _) (range_sorted n _) fun y => ?_
 rw [mem_srt (fun z hz => h.lt hP hz) y, h.part hP hx y]
 simp only [cls, List.mem_filter, List.mem_range, Bool.and_eq_true]
 constructor
 ·rintro ⟨h1, h2⟩
  have hy : y < n := by
   have := (h.part hP hx y).2 ⟨h1, h2⟩
   exact h.lt hP this
  exact ⟨hy, (hrb x y hxn hy).2 h1, (hrb y x hy hxn).2 h2⟩
 ·rintro ⟨hy, h1, h2⟩
  exact ⟨(hrb x y hxn hy).1 h1, (hrb y x hy hxn).1 h2⟩
theorem canon_of (h : Parted G n ps) {rb : Nat → Nat → Bool} (hrb : ∀ i k, i < n → k < n → (rb i k = true ↔ R G n i k)) {qs : List (List Nat)} (hp : qs.Perm (ps.map (srt n)))
  (hs : ∀ (i j : Nat) (P Q : List Nat), i < j → qs[i]? = some P → qs[j]? = some Q → ¬ cmpL (ints Q) (ints P) < 0) : qs = canon rb n := by
 have hq : ∀ Q ∈ qs, ∃ P ∈ ps, Q = srt n P ∧ ∃ x t, Q = x :: t ∧ x ∈ P ∧ ∀ y ∈ P, x ≤ y := by
  intro Q hQ
  obtain ⟨P, hP, rfl⟩ := List.mem_map.1 (hp.mem_iff.1 hQ)
  refine ⟨P, hP, rfl, ?_⟩
  have hsorted := range_sorted n (fun k => decide (k ∈ P))
  have hmem := mem_srt (n := n) (P := P) (fun z hz => h.lt hP hz)
  cases hc : srt n P with
  | nil =>
   obtain ⟨z, hz⟩ := List.exists_mem_of_ne_nil P (h.one P hP).1
   have := (hmem z).2 hz
   rw [hc] at this; cases this
  | cons x t =>
   refine ⟨x, t, rfl, (hmem x).1 (by rw [hc]; simp), fun y hy => ?_⟩
   have h1 := (hmem y).2 hy
   have h2 : (srt n P).Pairwise (· < ·) := hsorted
   rw [hc] at h1 h2
   simp only [List.mem_cons] at h1
   rcases h1 with rfl | h1
   ·exact Nat.le_refl _
   ·exact Nat.le_of_lt ((List.pairwise_cons.1 h2).1 y h1)
 have hcls : ∀ Q ∈ qs, Q = cls rb n (Q.headD 0) := by
  intro Q hQ
  obtain ⟨P, hP, rfl, x, t, e1, hx, _⟩ := hq Q hQ
  rw [e1, List.headD_cons, ← e1]
  exact srt_cls h hrb hP hx
 have hqs : qs = (qs.map (·.headD 0)).map (cls rb n) := by
  rw [List.map_map]
  conv => lhs; rw [← List.map_id qs]
  exact List.map_congr_left fun Q hQ => hcls Q hQ
 have hdis : qs.Pairwise fun a b => ∀ x, x ∈ a → x ∈ b → False := by
  rw [hp.pairwise_iff (fun {x y} h z h1 h2 => h z h2 h1), List.pairwise_map]
  have hn := h.nodup
  rw [List.Nodup, List.pairwise_flatten] at hn
  refine (List.Pairwise.and_mem.1 hn.2).imp ?_
  rintro A B ⟨hA, hB, hAB⟩ x h1 h2
  rw [mem_srt (fun z hz => h.lt hA hz) x] at h1
  rw [mem_srt (fun z hz => h.lt hB hz) x] at h2
  exact hAB x h1 x h2 rfl
 have hheads : qs.map (·.headD 0) = (List.range n).filter (first rb) := by
  refine sorted_ext _ _ ?_ (range_sorted n _) fun x => ?_
  ·rw [List.pairwise_map, List.pairwise_iff_getElem]
   intro i j hi hj hij
   have h1 := hs i j qs[i] qs[j] hij (List.getElem?_eq_getElem hi) (List.getElem?_eq_getElem hj)
   obtain ⟨P, hP, e1, x, t, e2, hx, hxl⟩ := hq qs[i] (List.getElem_mem hi)
   obtain ⟨P', hP', e1', x', t', e2', hx', hxl'⟩ := hq qs[j] (List.getElem_mem hj)
   rw [e2, e2', List.headD_cons, List.headD_cons]
   rw [e2, e2'] at h1
   have hne : x ≠ x' := by
    intro e
    subst e
    have h3 := List.pairwise_iff_getElem.1 hdis i j hi hj hij x
    rw [e2, e2'] at h3
    exact h3 (by simp) (by simp)
   show x < x'
   refine Nat.lt_of_le_of_ne (Nat.le_of_not_lt fun hlt => h1 ?_) hne
   show cmpL (((x' : Nat) : Int) :: ints t') (((x : Nat) : Int) :: ints t) < 0
   rw [cmpL, if_pos (by omega)]
   decide
  ·simp only [List.mem_map, List.mem_filter, List.mem_range]
   constructor
   ·rintro ⟨Q, hQ, rfl⟩
    obtain ⟨P, hP, e1, x, t, e2, hx, hxl⟩ := hq Q hQ
    rw [e2, List.headD_cons]
    have hxn := h.lt hP hx
    refine ⟨hxn, ?_⟩
    simp only [first, List.all_eq_true, List.mem_range, Bool.not_eq_true', Bool.and_eq_false_iff]
    intro k hk
    cases h1 : rb k x
    ·exact .inl rfl
    cases h2 : rb x k
    ·exact .inr rfl
    have := hxl k ((h.part hP hx k).2 ⟨(hrb x k hxn (by omega)).1 h2, (hrb k x (by omega) hxn).1 h1⟩)
    omega
   ·rintro ⟨hxn, hf⟩
    simp only [first, List.all_eq_true, List.mem_range, Bool.not_eq_true', Bool.and_eq_false_iff] at hf
    obtain ⟨P, hP, hx⟩ := List.mem_flatten.1 ((h.all x).2 hxn)
    have hQ : srt n P ∈ qs := hp.mem_iff.2 (List.mem_map.2 ⟨P, hP, rfl⟩)
    refine ⟨srt n P, hQ, ?_⟩
    obtain ⟨P', hP', e1, y, t, e2, hy, hyl⟩ := hq _ hQ
    rw [e2, List.headD_cons]
    have hxP' : x ∈ P' := by
     have h1 := (mem_srt (fun z hz => h.lt hP hz) x).2 hx
     rw [e1] at h1
     exact (mem_srt (fun z hz => h.lt hP' hz) x).1 h1
    have h1 := hyl x hxP'
    rcases Nat.lt_or_eq_of_le h1 with hlt | heq
    ·have hyn := h.lt hP' hy
     have h2 := (h.part hP' hy x).1 hxP'
     have := hf y hlt
     rw [(hrb y x hyn hxn).2 h2.1, (hrb x y hxn hyn).2 h2.2] at this
     simp at this
    ·exact heq
 rw [hqs, hheads]; rfl
end
end Dg
end Go.Proofs.YtdlplmbdkjkeiaaDoor
