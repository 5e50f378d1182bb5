import Derived.Lib.TrailingZeros
namespace Go.Proofs.YtjcijffhcmbhnaaDoor.BitKit
def wd (f : Nat → Bool) : Nat → Nat
 | 0 => 0
 | n + 1 => (f 0).toNat + 2 * wd (fun i => f (i + 1)) n
theorem wd_lt : ∀ (n : Nat) (f : Nat → Bool), wd f n < 2 ^ n
 | 0, f => by simp [wd]
 | n + 1, f => by
  have := wd_lt n (fun i => f (i + 1))
  simp only [wd, Nat.pow_succ]
  cases f 0 <;> simp <;> omega
theorem wd_bit : ∀ (n : Nat) (f : Nat → Bool) (i : Nat), (wd f n).testBit i = (decide (i < n) && f i)
 | 0, f, i => by simp [wd]
 | n + 1, f, 0 => by
  simp only [wd, Nat.testBit_zero]
  cases f 0 <;> simp <;> omega
 | n + 1, f, i + 1 => by
  have h : ((f 0).toNat + 2 * wd (fun i => f (i + 1)) n) / 2 = wd (fun i => f (i + 1)) n := by cases f 0 <;> simp <;> omega
  simp only [wd, Nat.testBit_succ, h]
  rw [wd_bit n]
  simp
theorem wd_of {n x : Nat} {f : Nat → Bool} (hx : x < 2 ^ n) (h : ∀ i, i < n → x.testBit i = f i) : x = wd f n := by
 apply Nat.eq_of_testBit_eq
 intro i
 rw [wd_bit]
 by_cases hi : i < n
 ·simp [hi, h i hi]
 ·have : x < 2 ^ i := Nat.lt_of_lt_of_le hx (Nat.pow_le_pow_right (by decide) (by omega))
  simp [hi, Nat.testBit_lt_two_pow this]
theorem wd_congr {n : Nat} {f g : Nat → Bool} (h : ∀ i, i < n → f i = g i) : wd f n = wd g n :=
 wd_of (wd_lt n f) (fun i hi => by rw [wd_bit]; simp [hi, h i hi])
theorem wd_inj {n : Nat} {f g : Nat → Bool} (h : wd f n = wd g n) (i : Nat) (hi : i < n) : f i = g i := by
 have h1 := wd_bit n f i
 rw [h, wd_bit] at h1
 simpa [hi] using h1.symm
theorem wd_false (n : Nat) : wd (fun _ => false) n = 0 := (wd_of (by exact Nat.two_pow_pos n) (fun i _ => by simp)).symm
theorem and_bit (x k : Nat) : (x &&& 2 ^ k = 0) ↔ x.testBit k = false := by
 constructor
 ·intro h
  have := congrArg (fun y => Nat.testBit y k) h
  simpa [Nat.testBit_and, Nat.testBit_two_pow] using this
 ·intro h
  apply Nat.eq_of_testBit_eq
  intro i
  rw [Nat.testBit_and, Nat.testBit_two_pow]
  by_cases hi : k = i
  ·subst hi; simp [h]
  ·simp [hi]
def cnt (f : Nat → Bool) : Nat → Nat
 | 0 => 0
 | n + 1 => cnt f n + (f n).toNat
theorem cnt_le (f : Nat → Bool) : ∀ n, cnt f n ≤ n
 | 0 => Nat.le_refl _
 | n + 1 => by have := cnt_le f n; simp only [cnt]; cases f n <;> simp <;> omega
theorem cnt_congr {f g : Nat → Bool} : ∀ n, (∀ i, i < n → f i = g i) → cnt f n = cnt g n
 | 0, _ => rfl
 | n + 1, h => by rw [cnt, cnt, cnt_congr n (fun i hi => h i (by omega)), h n (by omega)]
theorem cnt_add (f : Nat → Bool) (a : Nat) : ∀ b, cnt f (a + b) = cnt f a + cnt (fun i => f (a + i)) b
 | 0 => rfl
 | b + 1 => by rw [← Nat.add_assoc, cnt, cnt_add f a b, cnt]; omega
theorem cnt_mono {f g : Nat → Bool} : ∀ n, (∀ i, i < n → f i = true → g i = true) → cnt f n ≤ cnt g n
 | 0, _ => Nat.le_refl _
 | n + 1, h => by
  have := cnt_mono (f := f) (g := g) n (fun i hi => h i (by omega))
  have h1 := h n (by omega)
  simp only [cnt]
  revert h1
  cases f n <;> cases g n <;> simp <;> omega
theorem cnt_lt {f g : Nat → Bool} {k : Nat} : ∀ n, (∀ i, i < n → f i = true → g i = true) → k < n → f k = false → g k = true → cnt f n < cnt g n
 | 0, _, hk, _, _ => by omega
 | n + 1, h, hk, hf, hg => by
  simp only [cnt]
  by_cases he : k = n
  ·subst he
   have := cnt_mono (f := f) (g := g) k (fun i hi => h i (by omega))
   rw [hf, hg]; simp; omega
  ·have := cnt_lt (f := f) (g := g) (k := k) n (fun i hi => h i (by omega)) (by omega) hf hg
   have h1 := h n (by omega)
   revert h1
   cases f n <;> cases g n <;> simp <;> omega
def mem (f : Nat → Bool) : Nat → List Nat
 | 0 => []
 | n + 1 => mem f n ++ (if f n then [n] else [])
theorem mem_length (f : Nat → Bool) : ∀ n, (mem f n).length = cnt f n
 | 0 => rfl
 | n + 1 => by rw [mem, cnt, List.length_append, mem_length f n]; cases f n <;> simp
theorem mem_congr {f g : Nat → Bool} : ∀ n, (∀ i, i < n → f i = g i) → mem f n = mem g n
 | 0, _ => rfl
 | n + 1, h => by rw [mem, mem, mem_congr n (fun i hi => h i (by omega)), h n (by omega)]
theorem mem_mem (f : Nat → Bool) : ∀ n x, x ∈ mem f n ↔ x < n ∧ f x = true
 | 0, x => by simp [mem]
 | n + 1, x => by
  rw [mem, List.mem_append, mem_mem f n x]
  constructor
  ·rintro (⟨h1, h2⟩ | h)
   ·exact ⟨by omega, h2⟩
   ·cases hn : f n <;> simp [hn] at h
    subst h
    exact ⟨by omega, hn⟩
  ·rintro ⟨h1, h2⟩
   by_cases he : x = n
   ·subst he; simp [h2]
   ·exact .inl ⟨by omega, h2⟩
theorem mem_add (f : Nat → Bool) (a : Nat) : ∀ b, mem f (a + b) = mem f a ++ (mem (fun i => f (a + i)) b).map (a + ·)
 | 0 => by simp [mem]
 | b + 1 => by
  rw [← Nat.add_assoc, mem, mem_add f a b, mem]
  cases hf : f (a + b) <;> simp
theorem mem_sorted (f : Nat → Bool) : ∀ n, (mem f n).Pairwise (· < ·)
  | 0 => List.Pairwise.nil
  | n + 1 => by
    rw [mem, List.pairwise_append]
    refine ⟨mem_sorted f n, by cases f n <;> simp, fun x hx y hy => ?_⟩
    have := ((mem_mem f n x).1 hx).1
    cases hn : f n <;> simp [hn] at hy
    omega
theorem mem_stay (f : Nat → Bool) {n m : Nat} (h : n ≤ m) (hf : ∀ i, n ≤ i → i < m → f i = false) : mem f m = mem f n := by
  induction m with
  | zero => have : n = 0 := by omega
            subst this; rfl
  | succ m ih =>
    by_cases he : n = m + 1
    · subst he; rfl
    · rw [mem, hf m (by omega) (by omega), ih (by omega) (fun i h1 h2 => hf i h1 (by omega))]
      simp
theorem cnt_stay (f : Nat → Bool) {n m : Nat} (h : n ≤ m) (hf : ∀ i, n ≤ i → i < m → f i = false) : cnt f m = cnt f n := by
 rw [← mem_length, ← mem_length, mem_stay f h hf]
theorem ctz_spec {x : Nat} (h0 : x ≠ 0) (hx : x < 2 ^ 64) : Lib.ctz 64 x < 64 ∧ x.testBit (Lib.ctz 64 x) = true ∧ (∀ i, i < Lib.ctz 64 x → x.testBit i = false) ∧
  (x &&& (x - 1)) < x ∧ ∀ i, (x &&& (x - 1)).testBit i = (decide (i ≠ Lib.ctz 64 x) && x.testBit i) := by
 obtain ⟨m, hm, hk⟩ := Lib.ctzFrom_spec 64 x (by omega) hx
 have e : Lib.ctz 64 x = Lib.ctzFrom 64 x := by simp [Lib.ctz, h0]
 rw [e]
 generalize Lib.ctzFrom 64 x = k at *
 have hb : ∀ i, x.testBit i = (decide (k ≤ i) && (2 * m + 1).testBit (i - k)) := by
  intro i; rw [hm, Nat.mul_comm, Nat.testBit_mul_two_pow]
 have hx1 : x - 1 = (2 * m) * 2 ^ k + (2 ^ k - 1) := by
  have := Nat.two_pow_pos k
  rw [hm, Nat.mul_comm (2 ^ k), Nat.add_mul, Nat.one_mul]; omega
 have hb1 : ∀ i, (x - 1).testBit i = if i < k then true else (2 * m).testBit (i - k) := by
  intro i
  rw [hx1, Nat.mul_comm, Nat.testBit_two_pow_mul_add _ (by have := Nat.two_pow_pos k; omega)]
  by_cases hi : i < k
  ·simp [hi, Nat.testBit_two_pow_sub_one]
  ·simp [hi]
 have hall : ∀ i, (x &&& (x - 1)).testBit i = (decide (i ≠ k) && x.testBit i) := by
  intro i
  rw [Nat.testBit_and, hb1, hb]
  by_cases hi : i < k
  ·have : ¬ k ≤ i := by omega
   simp [hi, this]
  ·by_cases he : i = k
   ·subst he; simp
   ·obtain ⟨j, rfl⟩ : ∃ j, i = k + (j + 1) := ⟨i - k - 1, by omega⟩
    have e3 : k + (j + 1) - k = j + 1 := by omega
    rw [e3, Nat.testBit_succ, Nat.testBit_succ]
    have d1 : (2 * m + 1) / 2 = m := by omega
    have d2 : (2 * m) / 2 = m := by omega
    rw [d1, d2]
    have h1 : ¬ k + (j + 1) < k := by omega
    simp [h1]
 refine ⟨hk, by rw [hb]; simp [Nat.testBit_zero], fun i hi => by rw [hb]; simp; intro h; omega, ?_, hall⟩
 have hle : (x &&& (x - 1)) ≤ x := Nat.and_le_left
 rcases Nat.lt_or_eq_of_le hle with h | h
 ·exact h
 ·exfalso
  have h1 := hall k
  rw [h, hb] at h1
  simp [Nat.testBit_zero] at h1
theorem mem_low {x : Nat} (h0 : x ≠ 0) (hx : x < 2 ^ 64) : mem x.testBit 64 = Lib.ctz 64 x :: mem (x &&& (x - 1)).testBit 64 := by
 obtain ⟨hk, hb, hlow, _, hall⟩ := ctz_spec h0 hx
 generalize Lib.ctz 64 x = k at *
 have split : ∀ f : Nat → Bool, mem f 64 = mem f k ++ (if f k then [k] else []) ++ (mem (fun i => f (k + 1 + i)) (64 - k - 1)).map (k + 1 + ·) := by
  intro f
  have h64 : 64 = k + 1 + (64 - k - 1) := by omega
  rw [h64, mem_add, mem, ← h64]
 have e1 : mem x.testBit k = [] := List.eq_nil_iff_forall_not_mem.2 fun y hy => by
  obtain ⟨h1, h2⟩ := (mem_mem _ _ _).1 hy
  rw [hlow y h1] at h2; cases h2
 have e2 : mem (x &&& (x - 1)).testBit k = [] := List.eq_nil_iff_forall_not_mem.2 fun y hy => by
  obtain ⟨h1, h2⟩ := (mem_mem _ _ _).1 hy
  rw [hall, hlow y h1] at h2; simp at h2
 have e3 : (x &&& (x - 1)).testBit k = false := by rw [hall]; simp
 have e4 : mem (fun i => x.testBit (k + 1 + i)) (64 - k - 1) = mem (fun i => (x &&& (x - 1)).testBit (k + 1 + i)) (64 - k - 1) :=
  mem_congr _ fun i _ => by
   rw [hall]; have : k + 1 + i ≠ k := by omega
   simp [this]
 rw [split, split, e1, e2, e3, hb, e4]
 simp
theorem mem_zero : mem (Nat.testBit 0) 64 = [] := List.eq_nil_iff_forall_not_mem.2 fun y hy => by
 have := ((mem_mem _ _ _).1 hy).2; simp at this
def fold (s : Nat) : Nat → Nat → Nat
 | 0, _ => 0
 | n + 1, x => x % 2 ^ (2 * s) / 2 ^ s + x % 2 ^ s + 2 ^ (2 * s) * fold s n (x / 2 ^ (2 * s))
def mask (s : Nat) : Nat → Nat
 | 0 => 0
 | n + 1 => (2 ^ s - 1) + 2 ^ (2 * s) * mask s n
def dsum (s : Nat) : Nat → Nat → Nat
 | 0, _ => 0
 | n + 1, x => x % 2 ^ s + dsum s n (x / 2 ^ s)
theorem and_split {k a c : Nat} (b d : Nat) (ha : a < 2 ^ k) (hc : c < 2 ^ k) : (a + 2 ^ k * b) &&& (c + 2 ^ k * d) = (a &&& c) + 2 ^ k * (b &&& d) := by
 have hac : (a &&& c) < 2 ^ k := Nat.lt_of_le_of_lt Nat.and_le_left ha
 apply Nat.eq_of_testBit_eq
 intro i
 rw [Nat.testBit_and, Nat.add_comm a, Nat.add_comm c, Nat.add_comm (a &&& c), Nat.testBit_two_pow_mul_add _ ha, Nat.testBit_two_pow_mul_add _ hc, Nat.testBit_two_pow_mul_add _ hac]
 split <;> simp [Nat.testBit_and]
theorem mod_pow (x s t : Nat) (h : s ≤ t) : x % 2 ^ t % 2 ^ s = x % 2 ^ s := Nat.mod_mod_of_dvd _ (Nat.pow_dvd_pow 2 h)
theorem and_mask (s n x : Nat) (hs : 0 < s) : x &&& mask s (n + 1) = x % 2 ^ s + 2 ^ (2 * s) * (x / 2 ^ (2 * s) &&& mask s n) := by
 have hp := Nat.two_pow_pos (2 * s)
 have h1 : x = x % 2 ^ (2 * s) + 2 ^ (2 * s) * (x / 2 ^ (2 * s)) := (Nat.mod_add_div _ _).symm
 have h2 : 2 ^ s - 1 < 2 ^ (2 * s) := by
  have : 2 ^ s ≤ 2 ^ (2 * s) := Nat.pow_le_pow_right (by decide) (by omega)
  have := Nat.two_pow_pos s
  omega
 rw [mask]
 conv => lhs; rw [h1]
 rw [and_split _ _ (Nat.mod_lt _ hp) h2, Nat.and_two_pow_sub_one_eq_mod, mod_pow _ _ _ (by omega)]
theorem fold_eq (s : Nat) (hs : 0 < s) : ∀ (n x : Nat), (x / 2 ^ s &&& mask s n) + (x &&& mask s n) = fold s n x
 | 0, x => by simp [mask, fold]
 | n + 1, x => by
  rw [and_mask s n _ hs, and_mask s n _ hs, fold, ← fold_eq s hs n (x / 2 ^ (2 * s)), Nat.mul_add]
  have e1 : x / 2 ^ s / 2 ^ (2 * s) = x / 2 ^ (2 * s) / 2 ^ s := by rw [Nat.div_div_eq_div_mul, Nat.div_div_eq_div_mul, Nat.mul_comm]
  have e2 : x / 2 ^ s % 2 ^ s = x % 2 ^ (2 * s) / 2 ^ s := by
   rw [Nat.two_mul, Nat.pow_add, Nat.mod_mul_right_div_self]
  rw [e1, e2]
  omega
theorem fold_digit (s : Nat) (hs : 0 < s) (n x : Nat) : fold s (n + 1) x % 2 ^ (2 * s) = x % 2 ^ (2 * s) / 2 ^ s + x % 2 ^ s ∧ fold s (n + 1) x / 2 ^ (2 * s) = fold s n (x / 2 ^ (2 * s)) := by
 have hp := Nat.two_pow_pos s
 have h1 : x % 2 ^ s < 2 ^ s := Nat.mod_lt _ hp
 have hsq : 2 ^ (2 * s) = 2 ^ s * 2 ^ s := by rw [Nat.two_mul, Nat.pow_add]
 have h2 : x % 2 ^ (2 * s) / 2 ^ s < 2 ^ s := by
  rw [hsq]; exact Nat.div_lt_of_lt_mul (Nat.mod_lt _ (Nat.mul_pos hp hp))
 have h3 : 2 ≤ 2 ^ s := by
  have : 2 ^ 1 ≤ 2 ^ s := Nat.pow_le_pow_right (by decide) hs
  omega
 have h4 : 2 * 2 ^ s ≤ 2 ^ (2 * s) := by rw [hsq]; exact Nat.mul_le_mul_right _ h3
 have h5 : x % 2 ^ (2 * s) / 2 ^ s + x % 2 ^ s < 2 ^ (2 * s) := by omega
 rw [fold]
 exact ⟨by rw [Nat.add_mul_mod_self_left]; exact Nat.mod_eq_of_lt h5, by rw [Nat.add_mul_div_left _ _ (Nat.two_pow_pos _), Nat.div_eq_of_lt h5, Nat.zero_add]⟩
theorem dsum_fold (s : Nat) (hs : 0 < s) : ∀ (n x : Nat), dsum (2 * s) n (fold s n x) = dsum s (2 * n) x
 | 0, x => rfl
 | n + 1, x => by
  obtain ⟨h1, h2⟩ := fold_digit s hs n x
  have e : 2 * (n + 1) = 2 * n + 1 + 1 := by omega
  have e3 : x / 2 ^ s / 2 ^ s = x / 2 ^ (2 * s) := by rw [Nat.div_div_eq_div_mul, ← Nat.pow_add, Nat.two_mul]
  have e2 : x / 2 ^ s % 2 ^ s = x % 2 ^ (2 * s) / 2 ^ s := by rw [Nat.two_mul, Nat.pow_add, Nat.mod_mul_right_div_self]
  rw [dsum, h1, h2, dsum_fold s hs n, e, dsum, dsum, e3, e2]
  omega
theorem dsum_cnt : ∀ (n x : Nat), dsum 1 n x = cnt x.testBit n
 | 0, x => rfl
 | n + 1, x => by
  have h1 := cnt_add x.testBit 1 n
  rw [Nat.add_comm 1 n] at h1
  rw [h1, dsum, dsum_cnt n, Nat.pow_one]
  congr 1
  ·simp only [cnt, Nat.testBit_zero, Nat.zero_add]
   by_cases h : x % 2 = 1
   ·simp [h]
   ·simp [h]; omega
  ·exact cnt_congr n fun i _ => by rw [Nat.add_comm 1 i, Nat.testBit_succ]
def low6 : Nat → Nat → Prop
 | 0, x => x = 0
 | n + 1, x => x % 16 ≤ 6 ∧ x / 16 % 16 ≤ 6 ∧ low6 n (x / 256)
theorem low6_mod {n x : Nat} (h : low6 n x) : x % 16 ≤ 6 := by
 cases n with
 | zero => simp only [low6] at h; subst h; decide
 | succ n => exact h.1
theorem fold4_eq : ∀ (n x : Nat), low6 n x → (x / 16 + x) &&& mask 4 n = fold 4 n x
 | 0, x, _ => by simp [mask, fold]
 | n + 1, x, h => by
  obtain ⟨h1, h2, h3⟩ := h
  have h4 := low6_mod h3
  rw [and_mask 4 n _ (by decide), fold, ← fold4_eq n (x / 256) h3]
  simp only [Nat.reduceMul, Nat.reducePow]
  obtain ⟨l, hl⟩ : ∃ l, l = x % 16 := ⟨_, rfl⟩
  obtain ⟨h, hh⟩ : ∃ h, h = x / 16 % 16 := ⟨_, rfl⟩
  obtain ⟨y, hy⟩ : ∃ y, y = x / 256 := ⟨_, rfl⟩
  obtain ⟨m, hm⟩ : ∃ m, m = y % 16 := ⟨_, rfl⟩
  obtain ⟨k, hk⟩ : ∃ k, k = y / 16 := ⟨_, rfl⟩
  rw [← hl] at h1
  rw [← hh] at h2
  rw [← hy, ← hm] at h4
  have ex : x = l + 16 * h + 256 * y := by omega
  have ey : y = m + 16 * k := by omega
  have ed : x / 16 = h + 16 * y := by omega
  have e1 : (x / 16 + x) / 256 = x / 256 / 16 + x / 256 := by rw [← hy, ← hk, ed]; omega
  have e2 : (x / 16 + x) % 16 = x % 256 / 16 + x % 16 := by
   have : x % 256 / 16 = h := by omega
   rw [this, ← hl, ed]; omega
  rw [e1, e2]
theorem low6_fold2 : ∀ (n x : Nat), low6 n (fold 2 (2 * n) x)
 | 0, x => rfl
 | n + 1, x => by
  have e : 2 * (n + 1) = 2 * n + 1 + 1 := by omega
  rw [e]
  obtain ⟨h1, h2⟩ := fold_digit 2 (by decide) (2 * n + 1) x
  obtain ⟨h3, h4⟩ := fold_digit 2 (by decide) (2 * n) (x / 16)
  simp only [Nat.reduceMul, Nat.reducePow] at h1 h2 h3 h4
  refine ⟨by omega, by rw [h2, h3]; omega, ?_⟩
  have e2 : fold 2 (2 * n + 1 + 1) x / 256 = fold 2 (2 * n + 1 + 1) x / 16 / 16 := by omega
  rw [e2, h2, h4]
  exact low6_fold2 n _
def low12 : Nat → Nat → Prop
 | 0, x => x = 0
 | n + 1, x => x % 256 ≤ 12 ∧ low12 n (x / 256)
theorem low12_fold4 : ∀ (n x : Nat), low6 n x → low12 n (fold 4 n x)
 | 0, x, _ => rfl
 | n + 1, x, h => by
  obtain ⟨h1, h2⟩ := fold_digit 4 (by decide) n x
  simp only [Nat.reduceMul, Nat.reducePow] at h1 h2
  obtain ⟨h3, h4, h5⟩ := h
  refine ⟨by rw [h1]; omega, ?_⟩
  rw [h2]
  exact low12_fold4 n _ h5
theorem low12_cut {n x : Nat} (h : low12 (n + 1) x) : ∃ b y, b ≤ 12 ∧ x = b + 256 * y ∧ low12 n y ∧ dsum 8 (n + 1) x = b + dsum 8 n y :=
 ⟨x % 256, x / 256, h.1, by omega, h.2, by rw [dsum]⟩
theorem last8_aux (b0 b1 b2 b3 b4 b5 b6 b7 y1 y2 y3 y4 y5 y6 x : Nat) (h0 : b0 ≤ 12) (h1 : b1 ≤ 12) (h2 : b2 ≤ 12) (h3 : b3 ≤ 12) (h4 : b4 ≤ 12) (h5 : b5 ≤ 12) (h6 : b6 ≤ 12) (h7 : b7 ≤ 12)
  (e0 : x = b0 + 256 * y1) (e1 : y1 = b1 + 256 * y2) (e2 : y2 = b2 + 256 * y3) (e3 : y3 = b3 + 256 * y4) (e4 : y4 = b4 + 256 * y5) (e5 : y5 = b5 + 256 * y6) (e6 : y6 = b6 + 256 * b7) :
  (x + x / 256 + (x + x / 256) / 65536 + (x + x / 256 + (x + x / 256) / 65536) / 4294967296) % 128 = b0 + (b1 + (b2 + (b3 + (b4 + (b5 + (b6 + b7)))))) ∧ x < 1152921504606846976 := by
 have f0 : x / 256 = y1 := by omega
 have f1 : (x + y1) / 65536 = y2 + y3 := by omega
 have f2 : (x + y1 + (y2 + y3)) / 4294967296 = y4 + y5 + (y6 + b7) := by omega
 have g6 : y6 < 4096 := by omega
 have g5 : y5 < 1048576 := by omega
 have g4 : y4 < 268435456 := by omega
 have g3 : y3 < 68719476736 := by omega
 have g2 : y2 < 17592186044416 := by omega
 have g1 : y1 < 4503599627370496 := by omega
 rw [f0, f1, f2]
 constructor
 ·have e : x + y1 + (y2 + y3) + (y4 + y5 + (y6 + b7)) = (b0 + (b1 + (b2 + (b3 + (b4 + (b5 + (b6 + b7))))))) + 128 * (2 * (y1 + y2 + y3 + y4 + y5 + y6 + b7)) := by omega
  rw [e, Nat.add_mul_mod_self_left]
  exact Nat.mod_eq_of_lt (by omega)
 ·omega
theorem last8 (x : Nat) (h : low12 8 x) :
  (x + x / 256 + (x + x / 256) / 65536 + (x + x / 256 + (x + x / 256) / 65536) / 4294967296) % 128 = dsum 8 8 x ∧ x < 1152921504606846976 := by
 obtain ⟨b0, y1, h0, e0, k1, s0⟩ := low12_cut h
 obtain ⟨b1, y2, h1, e1, k2, s1⟩ := low12_cut k1
 obtain ⟨b2, y3, h2, e2, k3, s2⟩ := low12_cut k2
 obtain ⟨b3, y4, h3, e3, k4, s3⟩ := low12_cut k3
 obtain ⟨b4, y5, h4, e4, k5, s4⟩ := low12_cut k4
 obtain ⟨b5, y6, h5, e5, k6, s5⟩ := low12_cut k5
 obtain ⟨b6, y7, h6, e6, k7, s6⟩ := low12_cut k6
 obtain ⟨b7, y8, h7, e7, k8, s7⟩ := low12_cut k7
 have hy8 : y8 = 0 := k8
 rw [hy8] at e7 s7
 rw [s0, s1, s2, s3, s4, s5, s6, s7]
 have e8 : y7 = b7 := by rw [e7]; simp
 rw [e8] at e6
 exact last8_aux b0 b1 b2 b3 b4 b5 b6 b7 y1 y2 y3 y4 y5 y6 x h0 h1 h2 h3 h4 h5 h6 h7 e0 e1 e2 e3 e4 e5 e6
theorem ones (x : Nat) :
  ∃ a b c, (x / 2 &&& 6148914691236517205) + (x &&& 6148914691236517205) = a ∧ (a / 4 &&& 3689348814741910323) + (a &&& 3689348814741910323) = b ∧ (b / 16 + b) &&& 1085102592571150095 = c ∧
   a < 18446744073709551616 ∧ b < 9223372036854775808 ∧ c < 1152921504606846976 ∧ (c + c / 256 + (c + c / 256) / 65536 + (c + c / 256 + (c + c / 256) / 65536) / 4294967296) % 128 = cnt x.testBit 64 := by
 have m1 : mask 1 32 = 6148914691236517205 := by decide +kernel
 have m2 : mask 2 16 = 3689348814741910323 := by decide +kernel
 have m3 : mask 4 8 = 1085102592571150095 := by decide +kernel
 have e1 := fold_eq 1 (by decide) 32 x
 have e2 := fold_eq 2 (by decide) 16 (fold 1 32 x)
 have hl := low6_fold2 8 (fold 1 32 x)
 have e3 := fold4_eq 8 _ hl
 have hl2 := low12_fold4 8 _ hl
 simp only [Nat.reduceMul] at hl hl2 e3
 obtain ⟨e4, hlt⟩ := last8 _ hl2
 rw [m1, Nat.pow_one] at e1
 rw [m2] at e2
 rw [m3] at e3
 have d1 := dsum_fold 4 (by decide) 8 (fold 2 16 (fold 1 32 x))
 have d2 := dsum_fold 2 (by decide) 16 (fold 1 32 x)
 have d3 := dsum_fold 1 (by decide) 32 x
 simp only [Nat.reduceMul] at d1 d2 d3
 rw [d1, d2, d3, dsum_cnt] at e4
 refine ⟨fold 1 32 x, fold 2 16 (fold 1 32 x), fold 4 8 (fold 2 16 (fold 1 32 x)), e1, e2, e3, ?_, ?_, hlt, e4⟩
 ·have h1 : (x / 2 &&& 6148914691236517205) ≤ 6148914691236517205 := Nat.and_le_right
  have h2 : (x &&& 6148914691236517205) ≤ 6148914691236517205 := Nat.and_le_right
  omega
 ·have h1 : (fold 1 32 x / 2 ^ 2 &&& 3689348814741910323) ≤ 3689348814741910323 := Nat.and_le_right
  have h2 : (fold 1 32 x &&& 3689348814741910323) ≤ 3689348814741910323 := Nat.and_le_right
  omega
end Go.Proofs.YtjcijffhcmbhnaaDoor.BitKit
