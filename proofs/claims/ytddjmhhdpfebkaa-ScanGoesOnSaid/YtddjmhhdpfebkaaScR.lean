import Derived.Test.YtddjmhhdpfebkaaScN
namespace Go.Proofs.Ytddjmhhdpfebkaa
set_option maxRecDepth 100000
open Go.RowKit
set_option linter.unusedVariables false
set_option linter.unusedSimpArgs false
namespace Sc
theorem fS_no {S : List UInt8} {c : UInt8} (h : c ∉ S) : Pt.fS S c.toNat = false := by
 unfold Pt.fS
 rw [List.any_eq_false]
 intro x hx he
 rw [beq_iff_eq, UInt8.toNat_inj] at he
 subst he
 exact h hx
theorem run_stop {F : Nat → Bool} {c : UInt8} (h : F c.toNat = false) (q : List UInt8) : ∀ r : List UInt8, Pt.run F (r ++ c :: q) = Pt.run F r
 | [] => by
  show (if F c.toNat = true then Pt.run F q + 1 else 0) = 0
  rw [h]; rfl
 | x :: r => by
  show (if F x.toNat = true then Pt.run F (r ++ c :: q) + 1 else 0) = (if F x.toNat = true then Pt.run F r + 1 else 0)
  rw [run_stop h q r]
theorem prefix_stop {c : UInt8} (q : List UInt8) : ∀ (T r : List UInt8), c ∉ T → T.isPrefixOf (r ++ c :: q) = T.isPrefixOf r
 | [], r, _ => by simp
 | t :: T, [], h => by
  have hne : t ≠ c := fun e => h (by simp [e])
  simp [List.isPrefixOf, hne]
 | t :: T, x :: r, h => by
  have ih := prefix_stop q T r (fun hm => h (List.mem_cons_of_mem _ hm))
  simp only [List.cons_append, List.isPrefixOf]
  rw [ih]
theorem plen_stop {T S : List UInt8} {m : Bool} {c : UInt8} (hT : c ∉ T) (hS : c ∉ S) (q r : List UInt8) : Pt.len T S m (r ++ c :: q) = Pt.len T S m r := by
 unfold Pt.len
 rw [prefix_stop q T r hT]
 by_cases h0 : T = []
 ·rw [if_pos h0, if_pos h0]
  cases m with
  | true => rw [if_pos rfl, if_pos rfl]; exact run_stop (fS_no hS) q r
  | false =>
   rw [if_neg (by decide), if_neg (by decide)]
   cases r with
   | nil =>
    show Pt.run (Pt.fS S) [c] = Pt.run (Pt.fS S) []
    show (if Pt.fS S c.toNat = true then 0 + 1 else 0) = 0
    rw [fS_no hS]; rfl
   | cons x r => rfl
 ·rw [if_neg h0, if_neg h0]
theorem plen_nil (T S : List UInt8) (m : Bool) : Pt.len T S m [] = 0 := by
 have := Pt.len_le (T := T) (S := S) (m := m) (s := [])
 simpa using this
theorem len_stop {p : P} {c : UInt8} (hT : c ∉ p.T) (hS : c ∉ p.S) (s q : List UInt8) {a : Nat} (ha : a ≤ s.length) : len p (s ++ c :: q) a = len p s a := by
 unfold len
 rw [Pt.lenAt_in (by simp; omega), List.drop_append_of_le_length ha, plen_stop hT hS]
 by_cases h : a < s.length
 ·rw [Pt.lenAt_in h]
 ·rw [Pt.lenAt_high (by omega), List.drop_of_length_le (by omega), plen_nil]
theorem goT_same {s s' : List UInt8} {a : Nat} : ∀ (l : List P) (i : Nat) (x : Nat × Nat), (∀ p ∈ l, len p s a = len p s' a) → goT s a i l x = goT s' a i l x
 | [], i, x, _ => rfl
 | p :: r, i, x, h => by
  rw [goT_cons, goT_cons, h p (by simp), goT_same r _ _ (fun q hq => h q (by simp [hq]))]
theorem goK_same {s s' : List UInt8} {a : Nat} : ∀ (l : List P) (x : Nat × Nat), (∀ p ∈ l, len p s a = len p s' a) → goK s a l x = goK s' a l x
 | [], x, _ => rfl
 | p :: r, x, h => by
  rw [goK_cons, goK_cons, h p (by simp), goK_same r _ (fun q hq => h q (by simp [hq]))]
theorem next_same {ts ks : List P} {s s' : List UInt8} {a : Nat} (h : ∀ p, p ∈ ts ∨ p ∈ ks → len p s a = len p s' a) : next ts ks s a = next ts ks s' a := by
 unfold next
 rw [goT_same ts 0 _ (fun p hp => h p (.inl hp)), goK_same ks _ (fun p hp => h p (.inr hp))]
theorem next_end {ts ks : List P} {s : List UInt8} : (next ts ks s s.length).2 = 0 := by
 have := next_le (ts := ts) (ks := ks) (s := s) (a := s.length)
 omega
theorem ct_stop {ts ks : List P} {c : UInt8} (hno : ∀ p, p ∈ ts ∨ p ∈ ks → c ∉ p.T ∧ c ∉ p.S) (s q : List UInt8) : ∀ (f a k : Nat), s.length ≤ a + f → a ≤ s.length → ct ts ks (s ++ c :: q) a k = ((ct ts ks s a k).1, false, (ct ts ks s a k).2.2) := by
 have hsame : ∀ a, a ≤ s.length → next ts ks (s ++ c :: q) a = next ts ks s a := fun a ha => next_same fun p hp => len_stop (hno p hp).1 (hno p hp).2 s q ha
 have hlen : (s ++ c :: q).length = s.length + (q.length + 1) := by simp
 have hend : ∀ k, ct ts ks (s ++ c :: q) s.length k = ((ct ts ks s s.length k).1, false, (ct ts ks s s.length k).2.2) := fun k => by
  rw [ct_bad (by omega) (by rw [hsame _ (Nat.le_refl _)]; exact next_end), ct_end (by omega)]
 intro f
 induction f with
 | zero =>
  intro a k h1 h2
  obtain rfl : a = s.length := by omega
  exact hend k
 | succ f ih =>
  intro a k h1 h2
  by_cases h : a < s.length
  ·have hn := hsame a h2
   have hle := next_le (ts := ts) (ks := ks) (s := s) (a := a)
   by_cases h0 : (next ts ks s a).2 = 0
   ·rw [ct_bad (by omega) (by rw [hn]; exact h0), ct_bad h h0]
   ·by_cases h3 : 0 < (next ts ks s a).1
    ·rw [ct_tok (by omega) (by rw [hn]; exact h0) (by rw [hn]; exact h3), ct_tok h h0 h3, hn, ih (a + (next ts ks s a).2) k (by omega) (by omega)]
    ·rw [ct_skip (by omega) (by rw [hn]; exact h0) (by rw [hn]; omega), ct_skip h h0 (by omega), hn, ih (a + (next ts ks s a).2) (k + 1) (by omega) (by omega)]
  ·obtain rfl : a = s.length := by omega
   exact hend k
end Sc
theorem u8_wf {n : Int} (h : (Lit.int .u8 n).wf = true) : 0 ≤ n ∧ n ≤ 255 := by
 simpa [Lit.wf, IntKind.min, IntKind.max, IntKind.signed, IntKind.bits] using h
end Go.Proofs.Ytddjmhhdpfebkaa
