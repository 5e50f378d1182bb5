import Derived.Test.YtcjpmcmjnmcngaaPtL
namespace Go.Proofs.Ytcjpmcmjnmcngaa
set_option maxRecDepth 100000
open Go.RowKit
set_option linter.unusedVariables false
set_option linter.unusedSimpArgs false
set_option maxHeartbeats 8000000 in
theorem sets16_law (a : ByteArray) (ha : a.size ≤ 9223372036854775807) (b : ByteArray) (hb : b.size ≤ 9223372036854775807) (m : Bool) (s : ByteArray) (hs : s.size ≤ 9223372036854775807) (w : World) :
  Calls Try.prog 8 #[.string a, .string b, .bool m, .string s] w fun e w' => e = .returned (.bool true) ∧ Below w.heap.size w w' := by
 have KA := Lib.hid (awake16_any w)
 by_cases h1 : (100 : Int) < (a.size : Int)
 ·go_enter Try.func8, Try.ntmps8
  go_wp2_with fail
  refine KA.out.mono ?_
  rintro e w1 ⟨rfl, hb1⟩
  go_wp2_with fail
  go_ret
  exact ⟨rfl, hb1⟩
 by_cases h2 : (100 : Int) < (b.size : Int)
 ·go_enter Try.func8, Try.ntmps8
  go_wp2_with fail
  refine KA.out.mono ?_
  rintro e w1 ⟨rfl, hb1⟩
  go_wp2_with fail
  go_ret
  exact ⟨rfl, hb1⟩
 by_cases h3 : (50 : Int) < (s.size : Int)
 ·go_enter Try.func8, Try.ntmps8
  go_wp2_with fail
  refine KA.out.mono ?_
  rintro e w1 ⟨rfl, hb1⟩
  go_wp2_with fail
  go_ret
  exact ⟨rfl, hb1⟩
 have q1 : ¬ (9223372036854775807 < a.size + b.size) := by omega
 have q2 : ¬ (9223372036854775807 < b.size + a.size) := by omega
 have q3 : ¬ (9223372036854775807 < b.size + a.size + b.size) := by omega
 have hP : (a ++ b).size ≤ 9223372036854775807 := by rw [ByteArray.size_append]; omega
 have hQ : (b ++ a ++ b).size ≤ 9223372036854775807 := by rw [ByteArray.size_append, ByteArray.size_append]; omega
 have he : bl (⟨#[]⟩ : ByteArray) = [] := rfl
 have hbP : bl (a ++ b) = bl a ++ bl b := bl_append _ _
 have hbQ : bl (b ++ a ++ b) = bl b ++ bl a ++ bl b := by rw [bl_append, bl_append]
 have L1 := Lib.hid (fun i w => len_any ⟨#[]⟩ (a ++ b) m s i w (by decide) hP hs)
 have L2 := Lib.hid (fun i w => len_any ⟨#[]⟩ (b ++ a ++ b) m s i w (by decide) hQ hs)
 have L3 := Lib.hid (fun i w => len_any ⟨#[]⟩ a m s i w (by decide) ha hs)
 have L4 := Lib.hid (fun i w => len_any ⟨#[]⟩ b m s i w (by decide) hb hs)
 have E1 := Lib.hid (fun w => example_any ⟨#[]⟩ (a ++ b) m w (by decide) hP)
 have E2 := Lib.hid (fun w => example_any ⟨#[]⟩ (b ++ a ++ b) m w (by decide) hQ)
 have hl1 := fun i => Pt.lenAt_left (bl a) (bl b) (bl s) m i
 have hl2 := fun i => Pt.lenAt_right (bl a) (bl b) (bl s) m i
 rw [hbP, he] at L1 E1
 rw [hbQ, he] at L2 E2
 rw [he] at L3 L4
 rw [Pt.ex_both] at E2
 simp only [Pt.lenAt_both] at L2
 obtain ⟨E, hE⟩ : ∃ E, str (Pt.ex [] (bl a ++ bl b)) = E := ⟨_, rfl⟩
 rw [hE] at E1 E2
 obtain ⟨N, hN⟩ : ∃ N : Int → Nat, ∀ i, Pt.lenAt [] (bl a ++ bl b) m (bl s) i = N i := ⟨_, fun _ => rfl⟩
 obtain ⟨NA, hNA⟩ : ∃ N : Int → Nat, ∀ i, Pt.lenAt [] (bl a) m (bl s) i = N i := ⟨_, fun _ => rfl⟩
 obtain ⟨NB, hNB⟩ : ∃ N : Int → Nat, ∀ i, Pt.lenAt [] (bl b) m (bl s) i = N i := ⟨_, fun _ => rfl⟩
 simp only [hN] at L1 L2 hl1 hl2
 simp only [hNA] at L3 hl1
 simp only [hNB] at L4 hl2
 have HL1 := Lib.hid hl1
 have HL2 := Lib.hid hl2
 unfold patV at L1 L2 L3 L4 E1 E2
 clear hP hQ he hbP hbQ hl1 hl2 hE hN hNA hNB
 go_enter Try.func8, Try.ntmps8
 go_wp2_with fail
 refine KA.out.mono ?_
 rintro e w0 ⟨rfl, hb0⟩
 have HB0 := Lib.hid hb0
 have hs0 := hb0.size
 clear hb0
 go_wp2_with (first
  | (refine wpList_store_at rfl _ _ _ rfl rfl w0.heap.size _ _ [_, _, _] rfl rfl (At.new w0 _ _) 3 Try.sizePat rfl rfl rfl ?_; intro w1 hA1 hg1)
  | (refine wpList_store_at rfl _ _ _ rfl rfl w1.heap.size _ _ [_, _, _] rfl rfl (At.new w1 _ _) 3 Try.sizePat rfl rfl rfl ?_; intro w2 hA2 hg2; obtain ⟨G, x0, hG, rfl, hB, ⟨k0, k1, k2⟩, ⟨j0, j1, j2⟩⟩ := two_laid hA1 hg1 hA2 hg2))
 have HG := Lib.hid hG
 have HB := Lib.hid (fun x => HB0.out.trans ((hB x).mono hs0))
 have L1 := Lib.hid (fun i => Qt.calls hG (L1.out i))
 have L2 := Lib.hid (fun i => Qt.calls hG (L2.out i))
 have L3 := Lib.hid (fun i => Qt.calls hG (L3.out i))
 have L4 := Lib.hid (fun i => Qt.calls hG (L4.out i))
 have E1 := Lib.hid (Qt.calls hG E1.out)
 have E2 := Lib.hid (Qt.calls hG E2.out)
 clear hG hB hA1 hg1 hA2 hg2
 go_loopw [12] (fun t wr => ∃ (k : Nat) (x : World), k ≤ s.size + 1 ∧ t = .int .i64 (k : Int) ∧ wr = G x) (fun t _ => s.size + 1 - (intOf t).toNat)
 case atStart => exact ⟨0, x0, by omega, rfl, rfl⟩
 case round =>
  obtain ⟨k, x, hk, rfl, rfl⟩ := hrel
  by_cases hlt : k ≤ s.size
  ·have hi : (k : Int) ≤ (s.size : Int) := by omega
   have q4 : ¬ (N (k : Int) : Int) < (NA (k : Int) : Int) := by have := HL1.out (k : Int); omega
   have q5 : ¬ (N (k : Int) : Int) < (NB (k : Int) : Int) := by have := HL2.out (k : Int); omega
   obtain ⟨n, hn⟩ : ∃ n, N (k : Int) = n := ⟨_, rfl⟩
   obtain ⟨na, hna⟩ : ∃ n, NA (k : Int) = n := ⟨_, rfl⟩
   obtain ⟨nb, hnb⟩ : ∃ n, NB (k : Int) = n := ⟨_, rfl⟩
   have M1 := Lib.hid (L1.out (k : Int))
   have M2 := Lib.hid (L2.out (k : Int))
   have M3 := Lib.hid (L3.out (k : Int))
   have M4 := Lib.hid (L4.out (k : Int))
   rw [hn] at M1 M2 q4 q5
   rw [hna] at M3 q4
   rw [hnb] at M4 q5
   clear hn hna hnb
   go_wp2_with fail
   refine (M1.out _).mono ?_
   rintro e _ ⟨rfl, x1, rfl⟩
   go_wp2_with fail
   refine (M2.out _).mono ?_
   rintro e _ ⟨rfl, x2, rfl⟩
   go_wp2_with fail
   refine (M3.out _).mono ?_
   rintro e _ ⟨rfl, x3, rfl⟩
   go_wp2_with fail
   refine (M4.out _).mono ?_
   rintro e _ ⟨rfl, x4, rfl⟩
   go_wp2_with fail
   go_roundw
   case rel => exact ⟨k + 1, x4, by omega, by go_num, rfl⟩
   case measure => simp [intOf]; omega
  ·have hi : ¬ (k : Int) ≤ (s.size : Int) := by omega
   go_wp2_with fail
   refine Qt.start HG.out (by kernel_rfl) (by kernel_rfl) ?_
   repeat (go_big_quiet_step (first | with_reducible exact E1.out _ | with_reducible exact E2.out _))
   refine wpQuiet_nil ?_
   intro _ hw'
   obtain ⟨z, hw''⟩ := hw'
   subst hw''
   go_wp2_with fail
   go_ret
   exact ⟨rfl, HB.out _⟩
end Go.Proofs.Ytcjpmcmjnmcngaa
