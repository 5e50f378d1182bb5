import Derived.Test.YtdlplmbdkjkeiaaDoorSetC
namespace Go.Proofs.YtdlplmbdkjkeiaaDoor
set_option maxRecDepth 100000
open Go.RowKit
open BitKit
set_option linter.unusedVariables false
set_option linter.unusedSimpArgs false
def mix (n : Nat) (S T : Nat → Bool) (m : Nat) : Nat → Bool := fun j => S j || (decide (j < m) && (decide (j < n) && T j))
def uni (n : Nat) (S T : Nat → Bool) : Nat → Bool := fun j => S j || (decide (j < n) && T j)
theorem mix_zero (n : Nat) (S T : Nat → Bool) : mix n S T 0 = S := by funext j; simp [mix]
theorem mix_all {n : Nat} {S T : Nat → Bool} (hn : n ≤ 1000) : mix n S T 1024 = uni n S T := by
 funext j
 unfold mix uni
 by_cases h : j < n
 ·have : j < 1024 := by omega
  simp [h, this]
 ·simp [h]
theorem mix_fit {n : Nat} {S T : Nat → Bool} (hS : ∀ i, S i = true → i < n) (m : Nat) : ∀ i, mix n S T m i = true → i < n := by
 intro i hi
 unfold mix at hi
 cases h : S i
 ·simp [h] at hi; omega
 ·exact hS i h
theorem word_mix_other (n : Nat) (S T : Nat → Bool) (k j : Nat) (hj : j ≠ k) : word (mix n S T (64 * (k + 1))) j = word (mix n S T (64 * k)) j := by
 unfold word
 refine wd_congr fun i hi => ?_
 unfold mix
 have : decide (64 * j + i < 64 * (k + 1)) = decide (64 * j + i < 64 * k) := by
  rw [decide_eq_decide]; omega
 rw [this]
theorem or_mix (n : Nat) (S T : Nat → Bool) (k : Nat) (hk : k < 16) (hn : n ≤ 1000) :
  bits .or .u64 (word (mix n S T (64 * k)) k : Int) (bits .and .u64 (word T k : Int) ((2 ^ (min (n - 64 * k) 64) - 1 : Nat) : Int)) = ((word (mix n S T (64 * (k + 1))) k : Nat) : Int) := by
 have hp : 2 ^ (min (n - 64 * k) 64) ≤ 2 ^ 64 := Nat.pow_le_pow_right (by decide) (by omega)
 have hq := Nat.two_pow_pos (min (n - 64 * k) 64)
 have h1 : 2 ^ (min (n - 64 * k) 64) - 1 < 18446744073709551616 := by omega
 have h2 : (word T k &&& (2 ^ (min (n - 64 * k) 64) - 1)) < 18446744073709551616 := Nat.lt_of_le_of_lt Nat.and_le_left (word_lt T k)
 rw [u64_and_nat _ _ (word_lt T k) h1, u64_or_nat _ _ (word_lt _ k) h2]
 have h64 : word (mix n S T (64 * k)) k ||| (word T k &&& (2 ^ (min (n - 64 * k) 64) - 1)) < 2 ^ 64 := Nat.or_lt_two_pow (wd_lt 64 _) (Nat.lt_of_le_of_lt Nat.and_le_left (wd_lt 64 _))
 refine congrArg (fun x : Nat => (x : Int)) (wd_of h64 fun i hi => ?_)
 rw [Nat.testBit_or, Nat.testBit_and, word_bit _ k i hi, word_bit T k i hi, Nat.testBit_two_pow_sub_one]
 unfold mix
 have e1 : decide (64 * k + i < 64 * k) = false := decide_eq_false (by omega)
 have e2 : decide (64 * k + i < 64 * (k + 1)) = true := decide_eq_true (by omega)
 have e3 : decide (i < min (n - 64 * k) 64) = decide (64 * k + i < n) := by rw [decide_eq_decide]; omega
 rw [e1, e2, e3]
 cases S (64 * k + i) <;> cases T (64 * k + i) <;> simp
theorem IsSet.mixin {w : World} {b n : Nat} {S T : Nat → Bool} {k : Nat} {x : Int} (h : IsSet w b n (mix n S T (64 * k))) (hf : ∀ i, S i = true → i < n) (hk : k < 16)
  (hx : x = ((Go.Proofs.YtdlplmbdkjkeiaaDoor.word (mix n S T (64 * (k + 1))) k : Nat) : Int)) : IsSet (w.setCell ⟨b, 1 + k, none⟩ (.int .u64 x)) b n (mix n S T (64 * (k + 1))) := by
 subst hx
 refine ⟨?_, h.le, mix_fit hf _⟩
 have := h.at_.set (1 + k) (.int .u64 ((Go.Proofs.YtdlplmbdkjkeiaaDoor.word (mix n S T (64 * (k + 1))) k : Nat) : Int))
 rw [cells_set hk (fun j hj hne => word_mix_other n S T k j hne)] at this
 exact this
set_option maxHeartbeats 8000000 in
theorem union_run (b n : Nat) (S : Nat → Bool) (b' n' : Nat) (T : Nat → Bool) (w : World) (hs : IsSet w b n S) (ht : IsSet w b' n' T) :
  Calls Tryd.prog 40 #[.pointer (some ⟨b, 0, none⟩), .pointer (some ⟨b', 0, none⟩)] w fun e w' => e = .returned (.bool (!(sameB (uni n S T) S))) ∧ IsSet w' b n (uni n S T) ∧ w.grownBy w' (some b) := by
 have HS := Lib.hid hs
 have HT := Lib.hid ht
 have hn := hs.le
 have hblt := hs.at_.lt
 have hr := hs.range
 have hr1 : ∀ o, (w.alloc o).rangeAt b 1 (wordsL S) := fun o => (hs.alloc o).range
 clear hs ht
 go_enter Tryd.func40, Tryd.ntmps40
 go_wp2_with (first
  | (refine wpList_load_mid rfl 62 _ rfl b 1 rfl (wordsL S) _ hr Tryd.underlying62 rfl (size_words' S) ?_)
  | (refine wpList_load_mid rfl 62 _ rfl b 1 rfl (wordsL S) _ (hr1 _) Tryd.underlying62 rfl (size_words' S) ?_)
  | (refine wpList_store_new rfl 62 _ _ rfl _ (wordsL S).toArray rfl rfl (size_words'' S) (words_size S).symm (words_ones S) ?_))
 clear hr hr1
 have W0 := Lib.hid (At.new w 62 (wordsL S).toArray)
 have HS1 := Lib.hid (HS.out.alloc (.cells (wordsL S).toArray 62))
 have HT1 := Lib.hid (HT.out.alloc (.cells (wordsL S).toArray 62))
 have G0 := Lib.hid (grown_alloc (grown_refl w (some b)) (.cells (wordsL S).toArray 62))
 refine (all_any b' n' T _ HT1.out).mono ?_
 rintro e w1 ⟨rfl, hw1⟩
 have H1 := Lib.hid (hw1 ▸ HS1.out.alloc _ : IsSet w1 b n S)
 have W1 := Lib.hid (hw1 ▸ W0.out.alloc _ : At w1 w.heap.size 62 (wordsL S).toArray)
 have G1 := Lib.hid (hw1 ▸ grown_alloc G0.out _ : w.grownBy w1 (some b))
 clear hw1 W0 HS1 HT1 G0
 go_wp2_with fail
 go_loopw [14] (fun i wr => ∃ k : Nat, k ≤ 16 ∧ i = .int .i64 (k : Int) ∧ IsSet wr b n (mix n S T (64 * k)) ∧ At wr w.heap.size 62 (wordsL S).toArray ∧ w.grownBy wr (some b)) (fun i _ => 16 - (intOf i).toNat)
 case atStart => exact ⟨0, by omega, rfl, by rw [Nat.mul_zero, mix_zero]; exact H1.out, W1.out, G1.out⟩
 case round =>
  obtain ⟨k, hk, rfl, hS, hW, hG⟩ := hrel
  have P := Lib.hid hS
  have PW := Lib.hid hW
  have PG := Lib.hid hG
  clear hS hW hG
  by_cases hlt : k < 16
  ·have hi := index_words T k hlt
   have c0 := P.out.word k hlt
   have cf := P.out.at_.frozen (1 + k)
   have hi1 : (0 : Int) ≤ (k : Int) := by omega
   have hi2 : (k : Int) < 16 := by omega
   have hi3 : ((k : Int)).toNat = k := by omega
   go_wp2_with fail
   go_region_with (go_at_call 60; (with_reducible refine (own_any b n _ k hlt _ P.out.drew).mono ?_); rintro e w2 ⟨rfl, rfl⟩)
   all_goals
    go_wp2_with fail
    go_roundw
    case rel => exact ⟨k + 1, by omega, by go_num, (P.out.mixin HS.out.fit hlt (or_mix n S T k hlt hn)).drew, (PW.out.far (p := ⟨b, 1 + k, none⟩) (Nat.ne_of_gt hblt) _).drew, grown_drew (grown_set PG.out _ _)⟩
    case measure => simp [intOf]; omega
  ·obtain rfl : k = 16 := by omega
   obtain ⟨f0, f1, f2, f3, f4, f5, f6, f7, f8, f9, f10, f11, f12, f13, f14, f15⟩ := P.out.sixteen
   have h16 : Sixteen wr w.heap.size 0 S := sixteen_of fun k hk => by rw [PW.out.cell, Nat.zero_add]; simpa using wordsL_get S k hk
   obtain ⟨g0, g1, g2, g3, g4, g5, g6, g7, g8, g9, g10, g11, g12, g13, g14, g15⟩ := h16
   have HQ := fun w => eq_words (mix n S T (64 * 16)) S w
   unfold W16 at HQ
   have hm : Tryd.prog.eqGuardType Tryd.prog.depth 62 = false := by kernel_rfl
   go_wp2_with fail
   go_quiet (fail)
   go_wp2_with fail
   go_ret
   have hP := P.out
   rw [show 64 * 16 = 1024 from rfl, mix_all hn] at hP
   refine ⟨?_, hP.drewN _, grown_drewN PG.out _⟩
   rw [← mix_all hn]
   rfl
theorem union_any (b n : Nat) (S : Nat → Bool) (b' n' : Nat) (T : Nat → Bool) (w : World) (hs : IsSet w b n S) (ht : IsSet w b' n' T) :
  Calls Tryd.prog 40 #[.pointer (some ⟨b, 0, none⟩), .pointer (some ⟨b', 0, none⟩)] w fun e w' => Tells e (uni n S T ≠ S) ∧ IsSet w' b n (uni n S T) ∧ w.grownBy w' (some b) :=
 (union_run b n S b' n' T w hs ht).mono fun e w' h => by
  refine ⟨⟨_, h.1, ?_⟩, h.2⟩
  have h1 := sameB_iff (uni n S T) S
  rw [same_words h.2.1.lt hs.lt] at h1
  cases hb : sameB (uni n S T) S
  ·rw [hb] at h1
   exact ⟨fun _ h2 => (by have := h1.2 h2; cases this), fun _ => rfl⟩
  ·rw [hb] at h1
   exact ⟨fun h2 => (by cases h2), fun h2 => absurd (h1.1 rfl) h2⟩
end Go.Proofs.YtdlplmbdkjkeiaaDoor
