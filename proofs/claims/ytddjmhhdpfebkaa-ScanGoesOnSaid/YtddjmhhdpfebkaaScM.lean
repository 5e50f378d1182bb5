import Derived.Test.YtddjmhhdpfebkaaPtB
namespace Go.Proofs.Ytddjmhhdpfebkaa
set_option maxRecDepth 100000
open Go.RowKit
set_option linter.unusedVariables false
set_option linter.unusedSimpArgs false
structure P where
 T : List UInt8
 S : List UInt8
 m : Bool
deriving DecidableEq
structure Tk where
 t : Nat
 a : Nat
 b : Nat
deriving DecidableEq
namespace Sc
def cells (p : P) : List Value := [.string (str p.T), .string (str p.S), .bool p.m]
def len (p : P) (s : List UInt8) (a : Nat) : Nat := Pt.lenAt p.T p.S p.m s (a : Int)
theorem len_le (p : P) (s : List UInt8) (a : Nat) : a + len p s a ≤ max a s.length := by
 unfold len
 by_cases h : a < s.length
 ·rw [Pt.lenAt_in h]
  have := Pt.len_le (T := p.T) (S := p.S) (m := p.m) (s := s.drop a)
  rw [List.length_drop] at this
  omega
 ·rw [Pt.lenAt_high (by omega)]; omega
def step (x : Nat × Nat) (t n : Nat) : Nat × Nat := if x.2 < n then (t, n) else x
def goT (s : List UInt8) (a : Nat) : Nat → List P → Nat × Nat → Nat × Nat
 | _, [], x => x
 | i, p :: r, x => goT s a (i + 1) r (step x (i + 1) (len p s a))
def goK (s : List UInt8) (a : Nat) : List P → Nat × Nat → Nat × Nat
 | [], x => x
 | p :: r, x => goK s a r (step x 0 (len p s a))
def next (ts ks : List P) (s : List UInt8) (a : Nat) : Nat × Nat := goK s a ks (goT s a 0 ts (0, 0))
def most (s : List UInt8) (a : Nat) : List P → Nat → Nat
 | [], n => n
 | p :: r, n => most s a r (max n (len p s a))
def who (s : List UInt8) (a M : Nat) : Nat → List P → Nat
 | _, [] => 0
 | i, p :: r => if 0 < M ∧ len p s a = M then i + 1 else who s a M (i + 1) r
section
variable {s : List UInt8} {a : Nat}
theorem goT_cons (i : Nat) (p : P) (r : List P) (x : Nat × Nat) : goT s a i (p :: r) x = goT s a (i + 1) r (step x (i + 1) (len p s a)) := rfl
theorem goK_cons (p : P) (r : List P) (x : Nat × Nat) : goK s a (p :: r) x = goK s a r (step x 0 (len p s a)) := rfl
theorem most_cons (p : P) (r : List P) (n : Nat) : most s a (p :: r) n = most s a r (max n (len p s a)) := rfl
theorem who_cons (M i : Nat) (p : P) (r : List P) : who s a M i (p :: r) = if 0 < M ∧ len p s a = M then i + 1 else who s a M (i + 1) r := rfl
theorem most_ge : ∀ (l : List P) (n : Nat), n ≤ most s a l n
 | [], n => Nat.le_refl _
 | p :: r, n => Nat.le_trans (Nat.le_max_left _ _) (most_ge r _)
theorem most_of : ∀ (l : List P) (n : Nat) (p : P), p ∈ l → len p s a ≤ most s a l n
 | [], n, p, h => by cases h
 | q :: r, n, p, h => by
  rcases List.mem_cons.1 h with rfl | h
  ·exact Nat.le_trans (Nat.le_max_right _ _) (most_ge r _)
  ·exact most_of r _ p h
theorem most_is : ∀ (l : List P) (n : Nat), most s a l n = n ∨ ∃ p ∈ l, len p s a = most s a l n
 | [], n => .inl rfl
 | q :: r, n => by
  rcases most_is r (max n (len q s a)) with h | ⟨p, hp, h⟩
  ·rw [most_cons, h]
   by_cases h2 : n ≤ len q s a
   ·exact .inr ⟨q, by simp, by omega⟩
   ·exact .inl (by omega)
  ·exact .inr ⟨p, by simp [hp], h⟩
theorem most_le (l : List P) (n : Nat) : a + most s a l n ≤ max (a + n) (max a s.length) := by
 rcases most_is (s := s) (a := a) l n with h | ⟨p, _, h⟩
 ·rw [h]; omega
 ·rw [← h]; have := len_le p s a; omega
theorem goT_is : ∀ (l : List P) (i : Nat) (x : Nat × Nat), goT s a i l x = (if x.2 < most s a l x.2 then who s a (most s a l x.2) i l else x.1, most s a l x.2)
 | [], i, x => by simp [goT, most]
 | p :: r, i, x => by
  rw [goT_cons, goT_is r (i + 1), most_cons, who_cons]
  unfold step
  by_cases h : x.2 < len p s a
  ·rw [if_pos h, Nat.max_eq_right (by omega)]
   simp only
   have h1 := most_ge (s := s) (a := a) r (len p s a)
   congr 1
   rw [if_pos (show x.2 < most s a r (len p s a) by omega)]
   by_cases h2 : len p s a < most s a r (len p s a)
   ·rw [if_pos h2, if_neg (by omega)]
   ·rw [if_neg h2, if_pos (by omega)]
  ·rw [if_neg h, Nat.max_eq_left (by omega)]
   congr 1
   by_cases h2 : x.2 < most s a r x.2
   ·rw [if_pos h2, if_pos h2, if_neg (by omega)]
   ·rw [if_neg h2, if_neg h2]
theorem goK_is : ∀ (l : List P) (x : Nat × Nat), goK s a l x = (if x.2 < most s a l x.2 then 0 else x.1, most s a l x.2)
 | [], x => by simp [goK, most]
 | p :: r, x => by
  rw [goK_cons, goK_is r, most_cons]
  unfold step
  by_cases h : x.2 < len p s a
  ·rw [if_pos h, Nat.max_eq_right (by omega)]
   simp only
   have h1 := most_ge (s := s) (a := a) r (len p s a)
   rw [if_pos (show x.2 < most s a r (len p s a) by omega)]
   congr 1
   split <;> rfl
  ·rw [if_neg h, Nat.max_eq_left (by omega)]
theorem who_none : ∀ (l : List P) (i M : Nat), (∀ p ∈ l, len p s a < M) → who s a M i l = 0
 | [], _, _, _ => rfl
 | p :: r, i, M, h => by
  have h1 := h p (by simp)
  rw [who_cons, if_neg (by omega)]
  exact who_none r _ M fun q hq => h q (by simp [hq])
theorem next_by (ts ks : List P) : next ts ks s a = (who s a (most s a ks (most s a ts 0)) 0 ts, most s a ks (most s a ts 0)) := by
 unfold next
 rw [goT_is, goK_is]
 simp only
 have h0 := most_ge (s := s) (a := a) ks (most s a ts 0)
 congr 1
 by_cases h : most s a ts 0 < most s a ks (most s a ts 0)
 ·rw [if_pos h]
  exact (who_none ts 0 _ fun p hp => Nat.lt_of_le_of_lt (most_of ts 0 p hp) h).symm
 ·rw [if_neg h, show most s a ks (most s a ts 0) = most s a ts 0 by omega]
  by_cases h2 : 0 < most s a ts 0
  ·rw [if_pos h2]
  ·rw [if_neg h2]
   have h3 : most s a ts 0 = 0 := by omega
   rw [h3]
   clear h h0 h2 h3
   suffices ∀ (l : List P) (i : Nat), who s a 0 i l = 0 from (this ts 0).symm
   intro l
   induction l with
   | nil => intro i; rfl
   | cons p r ih => intro i; rw [who_cons, if_neg (by omega)]; exact ih _
theorem who_some : ∀ (l : List P) (i M : Nat), 0 < who s a M i l → ∃ k p, who s a M i l = i + k + 1 ∧ l[k]? = some p ∧ len p s a = M ∧ 0 < M ∧ ∀ (j : Nat) (q : P), j < k → l[j]? = some q → len q s a ≠ M
 | [], i, M, h => by simp [who] at h
 | p :: r, i, M, h => by
  rw [who_cons] at h ⊢
  by_cases h1 : 0 < M ∧ len p s a = M
  ·rw [if_pos h1]
   exact ⟨0, p, rfl, rfl, h1.2, h1.1, fun j q hj => by omega⟩
  ·rw [if_neg h1] at h ⊢
   obtain ⟨k, q, h2, h3, h4, h5, h6⟩ := who_some r (i + 1) M h
   refine ⟨k + 1, q, by omega, by simpa using h3, h4, h5, fun j q' hj hq => ?_⟩
   cases j with
   | zero => simp at hq; subst hq; intro h7; exact h1 ⟨h5, h7⟩
   | succ j => exact h6 j q' (by omega) (by simpa using hq)
theorem who_zero : ∀ (l : List P) (i M : Nat), who s a M i l = 0 → 0 < M → ∀ p ∈ l, len p s a ≠ M
 | [], i, M, h, _, p, hp => by cases hp
 | q :: r, i, M, h, hM, p, hp => by
  rw [who_cons] at h
  by_cases h1 : 0 < M ∧ len q s a = M
  ·rw [if_pos h1] at h; omega
  ·rw [if_neg h1] at h
   rcases List.mem_cons.1 hp with rfl | hp
   ·intro h7; exact h1 ⟨hM, h7⟩
   ·exact who_zero r _ M h hM p hp
variable {ts ks : List P}
theorem next_le : a + (next ts ks s a).2 ≤ max a s.length := by
 rw [next_by]
 have h1 := most_le (s := s) (a := a) ks (most s a ts 0)
 have h2 := most_le (s := s) (a := a) ts 0
 simp only
 omega
theorem next_all {p : P} (h : p ∈ ts ∨ p ∈ ks) : len p s a ≤ (next ts ks s a).2 := by
 rw [next_by]
 rcases h with h | h
 ·exact Nat.le_trans (most_of ts 0 p h) (most_ge ks _)
 ·exact most_of ks _ p h
theorem next_tok (h : 0 < (next ts ks s a).1) : ∃ k p, (next ts ks s a).1 = k + 1 ∧ ts[k]? = some p ∧ len p s a = (next ts ks s a).2 ∧ 0 < (next ts ks s a).2 ∧ ∀ (j : Nat) (q : P), j < k → ts[j]? = some q → len q s a ≠ (next ts ks s a).2 := by
 rw [next_by] at h ⊢
 obtain ⟨k, p, h1, h2, h3, h4, h5⟩ := who_some ts 0 _ h
 exact ⟨k, p, by simpa using h1, h2, h3, h4, h5⟩
theorem next_skip (h : (next ts ks s a).1 = 0) (h0 : 0 < (next ts ks s a).2) : most s a ks 0 = (next ts ks s a).2 := by
 rw [next_by] at h h0 ⊢
 simp only at h h0 ⊢
 have h1 := who_zero ts 0 _ h h0
 have h2 : most s a ts 0 < most s a ks (most s a ts 0) := by
  have h3 := most_ge (s := s) (a := a) ks (most s a ts 0)
  rcases most_is (s := s) (a := a) ts 0 with h4 | ⟨p, hp, h4⟩
  ·omega
  ·have := h1 p hp; omega
 rcases most_is (s := s) (a := a) ks (most s a ts 0) with h4 | ⟨p, hp, h4⟩
 ·omega
 ·have h5 := most_of (s := s) (a := a) ks 0 p hp
  rcases most_is (s := s) (a := a) ks 0 with h6 | ⟨q, hq, h6⟩
  ·omega
  ·have h7 := most_of (s := s) (a := a) ks (most s a ts 0) q hq
   omega
def nxt (ts ks : List P) (s : List UInt8) : Nat → Nat → Nat → Tk × Bool × Nat × Nat
 | 0, a, k => (⟨0, a, a⟩, true, a, k)
 | f + 1, a, k =>
  if a < s.length then
   if (next ts ks s a).2 = 0 then (⟨0, a, a⟩, false, a, k)
   else if 0 < (next ts ks s a).1 then (⟨(next ts ks s a).1, a, a + (next ts ks s a).2⟩, true, a + (next ts ks s a).2, k)
   else nxt ts ks s f (a + (next ts ks s a).2) (k + 1)
  else (⟨0, a, a⟩, true, a, k)
def cut (ts ks : List P) (s : List UInt8) : Nat → Nat → Nat → List Tk × Bool × Nat
 | 0, a, k => ([⟨0, a, a⟩], true, k)
 | f + 1, a, k =>
  if a < s.length then
   if (next ts ks s a).2 = 0 then ([⟨0, a, a⟩], false, k)
   else if 0 < (next ts ks s a).1 then (⟨(next ts ks s a).1, a, a + (next ts ks s a).2⟩ :: (cut ts ks s f (a + (next ts ks s a).2) k).1, (cut ts ks s f (a + (next ts ks s a).2) k).2)
   else cut ts ks s f (a + (next ts ks s a).2) (k + 1)
  else ([⟨0, a, a⟩], true, k)
theorem nxt_succ (f a k : Nat) : nxt ts ks s (f + 1) a k = if a < s.length then (if (next ts ks s a).2 = 0 then (⟨0, a, a⟩, false, a, k) else if 0 < (next ts ks s a).1 then (⟨(next ts ks s a).1, a, a + (next ts ks s a).2⟩, true, a + (next ts ks s a).2, k) else nxt ts ks s f (a + (next ts ks s a).2) (k + 1)) else (⟨0, a, a⟩, true, a, k) := rfl
theorem cut_succ (f a k : Nat) : cut ts ks s (f + 1) a k = if a < s.length then (if (next ts ks s a).2 = 0 then ([⟨0, a, a⟩], false, k) else if 0 < (next ts ks s a).1 then (⟨(next ts ks s a).1, a, a + (next ts ks s a).2⟩ :: (cut ts ks s f (a + (next ts ks s a).2) k).1, (cut ts ks s f (a + (next ts ks s a).2) k).2) else cut ts ks s f (a + (next ts ks s a).2) (k + 1)) else ([⟨0, a, a⟩], true, k) := rfl
theorem nxt_zero (a k : Nat) : nxt ts ks s 0 a k = (⟨0, a, a⟩, true, a, k) := rfl
theorem cut_zero (a k : Nat) : cut ts ks s 0 a k = ([⟨0, a, a⟩], true, k) := rfl
theorem nxt_fuel : ∀ (f g a k : Nat), s.length ≤ a + f → s.length ≤ a + g → nxt ts ks s f a k = nxt ts ks s g a k
 | 0, 0, a, k, _, _ => rfl
 | 0, g + 1, a, k, h, _ => by rw [nxt_zero, nxt_succ, if_neg (by omega)]
 | f + 1, 0, a, k, _, h => by rw [nxt_zero, nxt_succ, if_neg (by omega)]
 | f + 1, g + 1, a, k, h1, h2 => by
  rw [nxt_succ, nxt_succ]
  by_cases h : (next ts ks s a).2 = 0
  ·rw [if_pos h, if_pos h]
  ·rw [nxt_fuel f g _ _ (by omega) (by omega)]
theorem cut_fuel : ∀ (f g a k : Nat), s.length ≤ a + f → s.length ≤ a + g → cut ts ks s f a k = cut ts ks s g a k
 | 0, 0, a, k, _, _ => rfl
 | 0, g + 1, a, k, h, _ => by rw [cut_zero, cut_succ, if_neg (by omega)]
 | f + 1, 0, a, k, _, h => by rw [cut_zero, cut_succ, if_neg (by omega)]
 | f + 1, g + 1, a, k, h1, h2 => by
  rw [cut_succ, cut_succ]
  by_cases h : (next ts ks s a).2 = 0
  ·rw [if_pos h, if_pos h]
  ·rw [cut_fuel f g _ _ (by omega) (by omega), cut_fuel f g _ (k + 1) (by omega) (by omega)]
end
def nx (ts ks : List P) (s : List UInt8) (a k : Nat) : Tk × Bool × Nat × Nat := nxt ts ks s (s.length - a) a k
def ct (ts ks : List P) (s : List UInt8) (a k : Nat) : List Tk × Bool × Nat := cut ts ks s (s.length - a) a k
section
variable {ts ks : List P} {s : List UInt8} {a k : Nat}
theorem nx_end (h : ¬ a < s.length) : nx ts ks s a k = (⟨0, a, a⟩, true, a, k) := by
 unfold nx
 rw [show s.length - a = 0 by omega]; rfl
theorem nx_bad (h : a < s.length) (h0 : (next ts ks s a).2 = 0) : nx ts ks s a k = (⟨0, a, a⟩, false, a, k) := by
 unfold nx
 rw [show s.length - a = (s.length - a - 1) + 1 by omega]
 rw [nxt_succ, if_pos h, if_pos h0]
theorem nx_tok (h : a < s.length) (h0 : (next ts ks s a).2 ≠ 0) (h1 : 0 < (next ts ks s a).1) : nx ts ks s a k = (⟨(next ts ks s a).1, a, a + (next ts ks s a).2⟩, true, a + (next ts ks s a).2, k) := by
 unfold nx
 rw [show s.length - a = (s.length - a - 1) + 1 by omega]
 rw [nxt_succ, if_pos h, if_neg h0, if_pos h1]
theorem nx_skip (h : a < s.length) (h0 : (next ts ks s a).2 ≠ 0) (h1 : (next ts ks s a).1 = 0) : nx ts ks s a k = nx ts ks s (a + (next ts ks s a).2) (k + 1) := by
 unfold nx
 rw [show s.length - a = (s.length - a - 1) + 1 by omega]
 rw [nxt_succ, if_pos h, if_neg h0, if_neg (by omega)]
 exact nxt_fuel _ _ _ _ (by omega) (by omega)
theorem ct_end (h : ¬ a < s.length) : ct ts ks s a k = ([⟨0, a, a⟩], true, k) := by
 unfold ct
 rw [show s.length - a = 0 by omega]; rfl
theorem ct_bad (h : a < s.length) (h0 : (next ts ks s a).2 = 0) : ct ts ks s a k = ([⟨0, a, a⟩], false, k) := by
 unfold ct
 rw [show s.length - a = (s.length - a - 1) + 1 by omega]
 rw [cut_succ, if_pos h, if_pos h0]
theorem ct_tok (h : a < s.length) (h0 : (next ts ks s a).2 ≠ 0) (h1 : 0 < (next ts ks s a).1) : ct ts ks s a k = (⟨(next ts ks s a).1, a, a + (next ts ks s a).2⟩ :: (ct ts ks s (a + (next ts ks s a).2) k).1, (ct ts ks s (a + (next ts ks s a).2) k).2) := by
 unfold ct
 rw [show s.length - a = (s.length - a - 1) + 1 by omega]
 rw [cut_succ, if_pos h, if_neg h0, if_pos h1]
 rw [cut_fuel (s.length - a - 1) (s.length - (a + (next ts ks s a).2)) _ _ (by omega) (by omega)]
theorem ct_skip (h : a < s.length) (h0 : (next ts ks s a).2 ≠ 0) (h1 : (next ts ks s a).1 = 0) : ct ts ks s a k = ct ts ks s (a + (next ts ks s a).2) (k + 1) := by
 unfold ct
 rw [show s.length - a = (s.length - a - 1) + 1 by omega]
 rw [cut_succ, if_pos h, if_neg h0, if_neg (by omega)]
 exact cut_fuel _ _ _ _ (by omega) (by omega)
inductive Skips (ts ks : List P) (s : List UInt8) : Nat → Nat → Prop
 | done (a : Nat) : Skips ts ks s a a
 | skip {a b : Nat} (h : a < s.length) (h1 : (next ts ks s a).1 = 0) (h0 : (next ts ks s a).2 ≠ 0) (r : Skips ts ks s (a + (next ts ks s a).2) b) : Skips ts ks s a b
theorem Skips.le {a b : Nat} (h : Skips ts ks s a b) : a ≤ b := by
 induction h with
 | done => omega
 | skip _ _ _ _ ih => omega
theorem Skips.cons {a b : Nat} (h : Skips ts ks s a b) (hlt : a < b) : (next ts ks s a).1 = 0 ∧ (next ts ks s a).2 ≠ 0 ∧ Skips ts ks s (a + (next ts ks s a).2) b := by
 cases h with
 | done => omega
 | skip _ h1 h0 r => exact ⟨h1, h0, r⟩
structure Nx (ts ks : List P) (s : List UInt8) (a k : Nat) (x : Tk) (ok : Bool) (a' k' : Nat) : Prop where
 is : nx ts ks s a k = (x, ok, a', k')
 skips : Skips ts ks s a x.a
 cuts : ct ts ks s a k = (if x.t = 0 then ([x], ok, k') else (x :: (ct ts ks s a' k').1, (ct ts ks s a' k').2))
 last : x.t = 0 → x.b = x.a ∧ a' = x.a ∧ x.a ≤ max a s.length ∧ nx ts ks s a' k' = (x, ok, a', k') ∧ ((ok = true ∧ s.length ≤ x.a) ∨ (ok = false ∧ x.a < s.length ∧ (next ts ks s x.a).2 = 0))
 tok : 0 < x.t → ok = true ∧ x.a < s.length ∧ next ts ks s x.a = (x.t, x.b - x.a) ∧ x.a < x.b ∧ x.b ≤ s.length ∧ a' = x.b
theorem nx_is (ts ks : List P) (s : List UInt8) : ∀ (f a k : Nat), s.length ≤ a + f → ∃ x ok a' k', Nx ts ks s a k x ok a' k'
 | f, a, k, hf => by
  by_cases h : a < s.length
  ·by_cases h0 : (next ts ks s a).2 = 0
   ·exact ⟨_, _, _, _, nx_bad h h0, .done a, ct_bad h h0, fun _ => ⟨rfl, rfl, Nat.le_max_left _ _, nx_bad h h0, .inr ⟨rfl, h, h0⟩⟩, fun h => by simp at h⟩
   ·by_cases h1 : 0 < (next ts ks s a).1
    ·refine ⟨_, _, _, _, nx_tok h h0 h1, .done a, ?_, fun h2 => ?_, fun _ => ⟨rfl, h, ?_, ?_, ?_, rfl⟩⟩
     ·rw [if_neg (by simp only; omega)]; exact ct_tok h h0 h1
     ·simp only at h2; omega
     ·simp only; rw [Nat.add_sub_cancel_left]
     ·simp only; omega
     ·have := next_le (ts := ts) (ks := ks) (s := s) (a := a); simp only; omega
    ·have h1 : (next ts ks s a).1 = 0 := by omega
     cases f with
     | zero => omega
     | succ f =>
      obtain ⟨x, ok, a', k', hx⟩ := nx_is ts ks s f (a + (next ts ks s a).2) (k + 1) (by omega)
      have hle := next_le (ts := ts) (ks := ks) (s := s) (a := a)
      refine ⟨x, ok, a', k', (nx_skip h h0 h1).trans hx.is, .skip h h1 h0 hx.skips, (ct_skip h h0 h1).trans hx.cuts, fun h2 => ?_, hx.tok⟩
      obtain ⟨e1, e2, e3, e4, e5⟩ := hx.last h2
      exact ⟨e1, e2, by omega, e4, e5⟩
  ·exact ⟨_, _, _, _, nx_end h, .done a, ct_end h, fun _ => ⟨rfl, rfl, Nat.le_max_left _ _, nx_end h, .inl ⟨rfl, by simp only; omega⟩⟩, fun h => by simp at h⟩
end
end Sc
end Go.Proofs.Ytddjmhhdpfebkaa
