import Derived.Test.YtcjpmcmjnmcngaaPtH
namespace Go.Proofs.Ytcjpmcmjnmcngaa
set_option maxRecDepth 100000
open Go.RowKit
set_option linter.unusedVariables false
set_option linter.unusedSimpArgs false
namespace Pt
theorem run_cons (F : Nat → Bool) (c : UInt8) (r : List UInt8) : run F (c :: r) = if F c.toNat = true then run F r + 1 else 0 := rfl
theorem run_take (F : Nat → Bool) : ∀ (k : Nat) (s : List UInt8), run F (s.take k) = min k (run F s)
 | 0, s => by simp [run]
 | k + 1, [] => by simp [run]
 | k + 1, c :: r => by
  rw [List.take_succ_cons]
  unfold run
  split
  ·rw [run_take F k r]; omega
  ·omega
theorem run_mono {F G : Nat → Bool} (h : ∀ j, F j = true → G j = true) : ∀ s : List UInt8, run F s ≤ run G s
 | [] => Nat.le_refl _
 | c :: r => by
  unfold run
  by_cases hc : F c.toNat = true
  ·rw [if_pos hc, if_pos (h _ hc)]
   have := run_mono h r
   omega
  ·rw [if_neg hc]; omega
theorem run_append (F : Nat → Bool) (t : List UInt8) : ∀ s : List UInt8, run F s ≤ run F (s ++ t) ∧ (run F s = s.length → run F (s ++ t) = s.length + run F t)
 | [] => ⟨Nat.zero_le _, fun _ => by simp⟩
 | c :: r => by
  have ih := run_append F t r
  rw [List.cons_append, run_cons, run_cons]
  by_cases hc : F c.toNat = true
  ·rw [if_pos hc, if_pos hc]
   refine ⟨by omega, fun h => ?_⟩
   rw [List.length_cons] at h ⊢
   have := ih.2 (by omega)
   omega
  ·rw [if_neg hc, if_neg hc]
   refine ⟨by omega, fun h => ?_⟩
   rw [List.length_cons] at h
   omega
theorem len_is {T S r : List UInt8} {m : Bool} (h : 0 < len T S m r) : is T S m (r.take (len T S m r)) = true := by
 have hle := @len_le T S r m
 have hne : r.take (len T S m r) ≠ [] := fun e => by
  have := congrArg List.length e
  rw [List.length_take, Nat.min_eq_left hle, List.length_nil] at this
  omega
 unfold is
 rw [decide_eq_true hne, Bool.true_and, decide_eq_true_iff, List.length_take, Nat.min_eq_left hle]
 unfold len at h ⊢
 by_cases hT : T = []
 ·rw [if_pos hT] at h ⊢
  rw [if_pos hT]
  cases m with
  | true =>
   simp only [if_true] at h ⊢
   rw [run_take]; omega
  | false =>
   simp only [Bool.false_eq_true, if_false] at h ⊢
   rw [run_take, run_take, run_take]; omega
 ·rw [if_neg hT] at h ⊢
  rw [if_neg hT]
  by_cases hp : T.isPrefixOf r = true
  ·rw [if_pos hp]
   have h2 := List.isPrefixOf_iff_prefix.1 hp
   rw [List.prefix_iff_eq_take] at h2
   rw [← h2, if_pos (List.isPrefixOf_iff_prefix.2 (List.prefix_refl T))]
  ·rw [if_neg hp] at h; omega
theorem is_len {T S r : List UInt8} {m : Bool} {k : Nat} (hk : k ≤ r.length) (h : is T S m (r.take k) = true) : k ≤ len T S m r := by
 by_cases hT : T = []
 ·unfold is at h
  rw [Bool.and_eq_true, decide_eq_true_iff, decide_eq_true_iff, List.length_take, Nat.min_eq_left hk] at h
  obtain ⟨_, h⟩ := h
  unfold len at h ⊢
  rw [if_pos hT] at h ⊢
  cases m with
  | true =>
   simp only [if_true] at h ⊢
   rw [run_take] at h; omega
  | false =>
   simp only [Bool.false_eq_true, if_false] at h ⊢
   rw [run_take, run_take] at h
   rw [run_take]; omega
 ·rw [is_text hT] at h
  unfold len
  rw [if_neg hT, if_pos (List.isPrefixOf_iff_prefix.2 (by rw [← h]; exact List.take_prefix k r)), ← h, List.length_take]
  omega
theorem not_longer {T S r : List UInt8} {m : Bool} {k : Nat} (hk : k ≤ r.length) (h : len T S m r < k) : is T S m (r.take k) = false := by
 rw [← Bool.not_eq_true]
 intro hh
 have := is_len hk hh
 omega
theorem is_any_first {S r : List UInt8} {m : Bool} {c : UInt8} (h : is [] S m (c :: r) = true) : fS S c.toNat = true := by
 unfold is at h
 rw [Bool.and_eq_true, decide_eq_true_iff, decide_eq_true_iff] at h
 obtain ⟨_, h⟩ := h
 unfold len at h
 rw [if_pos rfl] at h
 have hc : (if m = true then c :: r else (c :: r).take 1) = c :: (if m = true then r else []) := by split <;> rfl
 rw [hc] at h
 unfold run at h
 by_cases hh : fS S c.toNat = true
 ·exact hh
 ·rw [if_neg hh] at h; simp at h
theorem meets_of {T S T' S' X : List UInt8} {m m' : Bool} (h : is T S m X = true) (h' : is T' S' m' X = true) : meets T S m T' S' m' = true := by
 rw [meets_by]
 by_cases hT : T = []
 ·by_cases hT' : T' = []
  ·subst hT hT'
   cases X with
   | nil => rw [is_nil] at h; cases h
   | cons c r => exact .inl ⟨c, by rw [is_byte]; exact is_any_first h, by rw [is_byte]; exact is_any_first h'⟩
  ·have := (is_text hT').1 h'
   subst this
   exact .inr (.inr ⟨h, h'⟩)
 ·have := (is_text hT).1 h
  subst this
  exact .inr (.inl ⟨h, h'⟩)
theorem meets_comm (T S T' S' : List UInt8) (m m' : Bool) : meets T' S' m' T S m = meets T S m T' S' m' := by
 rw [Bool.eq_iff_iff, meets_by, meets_by]
 constructor
 ·rintro (⟨c, h1, h2⟩ | ⟨h1, h2⟩ | ⟨h1, h2⟩)
  ·exact .inl ⟨c, h2, h1⟩
  ·exact .inr (.inr ⟨h2, h1⟩)
  ·exact .inr (.inl ⟨h2, h1⟩)
 ·rintro (⟨c, h1, h2⟩ | ⟨h1, h2⟩ | ⟨h1, h2⟩)
  ·exact .inl ⟨c, h2, h1⟩
  ·exact .inr (.inr ⟨h2, h1⟩)
  ·exact .inr (.inl ⟨h2, h1⟩)
theorem first_cases (F : Nat → Bool) : (firstS F = [] ∧ ∀ j, j < 256 → F j = false) ∨ ∃ c : UInt8, firstS F = [c] ∧ F c.toNat = true := by
 cases h : (List.range 256).find? F with
 | none =>
  refine .inl ⟨by unfold firstS; rw [h], fun j hj => ?_⟩
  rw [List.find?_eq_none] at h
  have := h j (List.mem_range.2 hj)
  simpa using this
 | some j =>
  have h1 := List.find?_some h
  have h2 := List.mem_range.1 (List.mem_of_find?_eq_some h)
  refine .inr ⟨UInt8.ofNat j, by unfold firstS; rw [h], ?_⟩
  simpa [Nat.mod_eq_of_lt h2] using h1
theorem ex_none {T S : List UInt8} {m : Bool} (h : ex T S = []) : (∀ s, is T S m s = false) ∧ meets T S m T S m = false := by
 have hT : T = [] := by
  unfold ex at h
  by_cases hT : T = []
  ·exact hT
  ·rw [if_neg hT] at h; exact absurd h hT
 subst hT
 have hF : ∀ j, j < 256 → fS S j = false := by
  unfold ex at h
  rw [if_pos rfl] at h
  rcases first_cases (fS S) with ⟨_, h2⟩ | ⟨c, h2, _⟩
  ·exact h2
  ·rw [h] at h2; cases h2
 have his : ∀ s, is [] S m s = false := fun s => by
  cases s with
  | nil => exact is_nil
  | cons c r =>
   rw [← Bool.not_eq_true]
   intro hh
   have := is_any_first hh
   rw [hF _ c.toNat_lt] at this; cases this
 refine ⟨his, ?_⟩
 rw [← Bool.not_eq_true, meets_by]
 rintro (⟨c, h1, _⟩ | ⟨h1, _⟩ | ⟨h1, _⟩)
 ·rw [his] at h1; cases h1
 ·rw [his] at h1; cases h1
 ·rw [his] at h1; cases h1
theorem ex_some {T S : List UInt8} {m : Bool} (h : ex T S ≠ []) : is T S m (ex T S) = true ∧ meets T S m T S m = true ∧ ∀ s, (ex T S).length ≤ lenAt T S m (ex T S ++ s) 0 := by
 have h1 : is T S m (ex T S) = true := by
  unfold ex at h ⊢
  by_cases hT : T = []
  ·subst hT
   rw [if_pos rfl] at h ⊢
   rcases first_cases (fS S) with ⟨h2, _⟩ | ⟨c, h2, h3⟩
   ·exact absurd h2 h
   ·rw [h2, is_byte]; exact h3
  ·rw [if_neg hT, is_text hT]
 refine ⟨h1, meets_of h1 h1, fun s => ?_⟩
 rw [lenAt_zero (by simp [h])]
 have h2 := is_len (T := T) (S := S) (m := m) (r := ex T S ++ s) (k := (ex T S).length) (by simp) (by rw [List.take_left]; exact h1)
 exact h2
theorem ex_len (T S : List UInt8) : (ex T S).length ≤ T.length + 1 := by
 unfold ex
 split
 ·rcases first_cases (fS S) with ⟨h2, _⟩ | ⟨c, h2, _⟩ <;> rw [h2] <;> simp
 ·omega
theorem joins {S x y : List UInt8} (hx : is [] S true x = true) (hy : is [] S true y = true) : is [] S true (x ++ y) = true ∧ is [] S false (x ++ y) = false ∧ lenAt [] S false (x ++ y) 0 = 1 := by
 unfold is at hx hy
 rw [Bool.and_eq_true, decide_eq_true_iff, decide_eq_true_iff] at hx hy
 obtain ⟨x1, x2⟩ := hx
 obtain ⟨y1, y2⟩ := hy
 unfold len at x2 y2
 rw [if_pos rfl, if_pos rfl] at x2 y2
 have h1 := (run_append (fS S) y x).2 x2
 have hxp : 0 < x.length := List.length_pos_iff.2 x1
 have hyp : 0 < y.length := List.length_pos_iff.2 y1
 have hlen : len [] S false (x ++ y) = 1 := by
  unfold len
  rw [if_pos rfl, if_neg (by decide), run_take, h1]; omega
 refine ⟨?_, ?_, ?_⟩
 ·unfold is len
  rw [if_pos rfl, if_pos rfl, h1, List.length_append, y2]
  simp [x1]
 ·unfold is
  rw [hlen, List.length_append, decide_eq_false (by omega : ¬ 1 = x.length + y.length), Bool.and_false]
 ·rw [lenAt_zero (by simp [x1]), hlen]
theorem lenAt_longer {S x y : List UInt8} : lenAt [] S true x 0 ≤ lenAt [] S true (x ++ y) 0 := by
 by_cases hx : x = []
 ·subst hx
  have : lenAt [] S true [] 0 = 0 := rfl
  omega
 ·rw [lenAt_zero hx, lenAt_zero (by simp [hx])]
  unfold len
  rw [if_pos rfl, if_pos rfl, if_pos rfl]
  exact (run_append (fS S) y x).1
theorem lenAt_mono {S S' s : List UInt8} {m : Bool} {a : Int} (h : ∀ j, fS S j = true → fS S' j = true) : lenAt [] S m s a ≤ lenAt [] S' m s a := by
 unfold lenAt
 split
 ·exact Nat.le_refl _
 ·unfold len
  rw [if_pos rfl, if_pos rfl]
  exact run_mono h _
theorem fS_both (A B : List UInt8) : fS (B ++ A ++ B) = fS (A ++ B) := by
 funext j
 rw [fS_append, fS_append, fS_append]
 cases fS A j <;> cases fS B j <;> rfl
theorem lenAt_both (A B s : List UInt8) (m : Bool) (a : Int) : lenAt [] (B ++ A ++ B) m s a = lenAt [] (A ++ B) m s a := by
 unfold lenAt len
 rw [fS_both]
theorem ex_both (A B : List UInt8) : ex [] (B ++ A ++ B) = ex [] (A ++ B) := by
 unfold ex
 rw [fS_both]
theorem lenAt_left (A B s : List UInt8) (m : Bool) (a : Int) : lenAt [] A m s a ≤ lenAt [] (A ++ B) m s a := lenAt_mono fun j h => by rw [fS_append, h]; rfl
theorem lenAt_right (A B s : List UInt8) (m : Bool) (a : Int) : lenAt [] B m s a ≤ lenAt [] (A ++ B) m s a := lenAt_mono fun j h => by rw [fS_append, h, Bool.or_true]
end Pt
end Go.Proofs.Ytcjpmcmjnmcngaa
