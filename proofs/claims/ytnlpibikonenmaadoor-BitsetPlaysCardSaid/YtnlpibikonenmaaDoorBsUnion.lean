/-
  The walk over tronagelaw03.BitsetUnion.
-/
import Derived.Test.YtnlpibikonenmaaDoorSetG
namespace Go.Proofs.YtnlpibikonenmaaDoor
open Go.RowKit
open BitKit
set_option linter.unusedVariables false
set_option linter.unusedSimpArgs false

theorem of_new (n : Int) (A : Option Addr) (l c : Nat) (X : Nat → Int) (w : World) (O : Nums w w.heap.size A l X) :
    Calls Tryd.prog 10 #[.int .i64 n, .slice A l c] w fun e w' => ∃ b, e = .returned (.pointer (some ⟨b, 0, none⟩)) ∧ w.heap.size ≤ b ∧ IsSet w' b (held n) (ofs (held n) X l) ∧ w.grownBy w' none :=
  (of_any n A l c X w O).mono fun e w' hh => ⟨_, hh.1, Nat.le_refl _, hh.2⟩

theorem uni_or {n : Nat} {S T : Nat → Bool} (hT : ∀ i, T i = true → i < n) (i : Nat) : uni n S T i = (S i || T i) := by
  unfold uni
  cases h : T i
  · simp
  · simp [hT i h]
theorem uni_again (n : Nat) (S T : Nat → Bool) : uni n (uni n S T) T = uni n S T := by
  funext i; unfold uni; cases S i <;> simp
theorem uni_grew {n : Nat} {S T : Nat → Bool} (hS : ∀ i, S i = true → i < n) (hn : n ≤ 1000) : uni n S T ≠ S ↔ cnt S 1024 < cnt (uni n S T) 1024 := by
  have hsub : ∀ i, i < 1024 → S i = true → uni n S T i = true := fun i _ h => by unfold uni; rw [h]; rfl
  constructor
  · intro h
    have hex : ∃ i, uni n S T i ≠ S i := Classical.byContradiction fun hno => h (funext fun i => Classical.byContradiction fun hi => hno ⟨i, hi⟩)
    obtain ⟨i, hi⟩ := hex
    have hSi : S i = false := by
      cases h : S i
      · rfl
      · rw [hsub i (by have := hS i h; omega) h, h] at hi; exact absurd rfl hi
    have hUi : uni n S T i = true := by
      cases h : uni n S T i
      · rw [h, hSi] at hi; exact absurd rfl hi
      · rfl
    have hlt : i < 1024 := by
      unfold uni at hUi; rw [hSi] at hUi; simp at hUi; omega
    exact cnt_lt 1024 hsub hlt hSi hUi
  · intro h he
    rw [he] at h; omega

set_option maxRecDepth 100000 in
set_option maxHeartbeats 8000000 in
theorem union_law (n : Int) (bn : -9223372036854775808 ≤ n ∧ n ≤ 9223372036854775807) (A1 : Option Addr) (l1 c1 : Nat) (X1 : Nat → Int) (A2 : Option Addr) (l2 c2 : Nat) (X2 : Nat → Int) (x : Int) (bx : -9223372036854775808 ≤ x ∧ x ≤ 9223372036854775807) (w : World) (O1 : Nums w w.heap.size A1 l1 X1) (O2 : Nums w w.heap.size A2 l2 X2) (hT : Tab w) (hg0 : 0 < w.heap.size) :
    Calls Tryd.prog 5 #[.int .i64 n, .slice A1 l1 c1, .slice A2 l2 c2, .int .i64 x] w fun e w' => e = .returned (.bool true) ∧ Below w.heap.size w w' := by
  have HO1 := Lib.hid O1
  have HO2 := Lib.hid O2
  have HT := Lib.hid hT
  clear O1 O2 hT
  go_enter Tryd.func5, Tryd.ntmps5
  go_wp2_with fail
  refine (awake_any w HT.out hg0).mono ?_
  rintro e w1 ⟨rfl, hg1⟩
  have G1 := Lib.hid hg1
  clear hg1
  by_cases h1 : (100 : Int) < (l1 : Int)
  · go_wp2_with fail
    go_ret
    exact ⟨rfl, grown_below G1.out⟩
  · by_cases h2 : (100 : Int) < (l2 : Int)
    · go_wp2_with fail
      go_ret
      exact ⟨rfl, grown_below G1.out⟩
    · go_wp2_with fail
      refine (of_new n A1 l1 c1 X1 w1 ((HO1.out.below (grown_below G1.out)).wide G1.out.size)).mono ?_
      rintro e w2 ⟨b1, rfl, hb1, hs2, hg2⟩
      have G2 := Lib.hid (grown_none G1.out hg2)
      have S2 := Lib.hid hs2
      have hz1 := G1.out.size
      clear hs2 hg2
      go_wp2_with fail
      refine (of_new n A2 l2 c2 X2 w2 ((HO2.out.below (grown_below G2.out)).wide G2.out.size)).mono ?_
      rintro e w3 ⟨b2, rfl, hb2, hs3, hg3⟩
      have hne : b1 < b2 := by have := S2.out.at_.lt; omega
      have G3 := Lib.hid (grown_none G2.out hg3)
      have S3 := Lib.hid (S2.out.grown hg3 (by simp))
      have T3 := Lib.hid hs3
      clear hs3 hg3 S2 G2
      obtain ⟨S, hS⟩ : ∃ S, S = ofs (held n) X1 l1 := ⟨_, rfl⟩
      obtain ⟨T, hTT⟩ : ∃ T, T = ofs (held n) X2 l2 := ⟨_, rfl⟩
      rw [← hS] at S3
      rw [← hTT] at T3
      clear hS hTT
      go_wp2_with fail
      refine (has_any b1 _ _ x w3 S3.out).mono ?_
      obtain ⟨one, h1e⟩ : ∃ o, o = (decide (0 ≤ x) && S x.toNat) := ⟨_, rfl⟩
      rw [← h1e]
      rintro e w4 ⟨rfl, k4, rfl⟩
      have H1e := Lib.hid h1e
      clear h1e
      go_wp2_with fail
      refine (has_any b2 _ _ x _ (T3.out.drewN k4)).mono ?_
      obtain ⟨two, h2e⟩ : ∃ o, o = (decide (0 ≤ x) && T x.toNat) := ⟨_, rfl⟩
      rw [← h2e]
      rintro e w5 ⟨rfl, k5, rfl⟩
      have H2e := Lib.hid h2e
      clear h2e
      go_wp2_with fail
      refine (len_any b1 _ _ _ (S3.out.drewN _)).mono ?_
      rintro e w6 ⟨rfl, rfl⟩
      go_wp2_with fail
      refine (union_any b1 _ _ b2 _ _ _ (S3.out.drewN _) (T3.out.drewN _)).mono ?_
      rintro e w7 ⟨⟨r1, rfl, hr1⟩, hs7, hg7⟩
      have G7 := Lib.hid (grown_new_trans (grown_drewN G3.out _) hg7 (by omega))
      have S7 := Lib.hid hs7
      have T7 := Lib.hid ((T3.out.drewN _).grown hg7 (fun e => by injection e with e; omega))
      have hq : r1 = decide (((cnt S 1024 : Nat) : Int) < ((cnt (uni (held n) S T) 1024 : Nat) : Int)) := by
        rw [Bool.eq_iff_iff, hr1, uni_grew S3.out.fit S3.out.le, decide_eq_true_iff, Int.ofNat_lt]
      subst hq
      clear hs7 hg7 hr1
      go_wp2_with fail
      refine (union_any b1 _ _ b2 _ _ _ S7.out T7.out).mono ?_
      rw [uni_again]
      rintro e w8 ⟨⟨r2, rfl, hr2⟩, hs8, hg8⟩
      have hq2 : r2 = false := by
        cases r2
        · rfl
        · exact absurd rfl (hr2.1 rfl)
      subst hq2
      have G8 := Lib.hid (grown_new_trans G7.out hg8 (by omega))
      have S8 := Lib.hid hs8
      have T8 := Lib.hid (T7.out.grown hg8 (fun e => by injection e with e; omega))
      have hu : (decide (0 ≤ x) && uni (held n) S T x.toNat) = (one || two) := by
        rw [uni_or T3.out.fit, H1e.out, H2e.out]
        cases decide (0 ≤ x) <;> simp
      have ht : (decide (0 ≤ x) && T x.toNat) = two := H2e.out.symm
      clear hs8 hg8 hr2 S3 T3 G3 S7 T7 G7 H1e H2e
      cases one <;> cases two
      all_goals
        go_wp2_with fail
        refine (has_any b1 _ _ x _ S8.out).mono ?_
        rw [hu]
        rintro e w9 ⟨rfl, k9, rfl⟩
        go_wp2_with fail
        refine (len_any b1 _ _ _ (S8.out.drewN _)).mono ?_
        rintro e w10 ⟨rfl, rfl⟩
        go_wp2_with fail
        refine (has_any b2 _ _ x _ (T8.out.drewN _)).mono ?_
        rw [ht]
        rintro e w11 ⟨rfl, k11, rfl⟩
        go_wp2_with fail
        go_ret
        exact ⟨rfl, grown_below (grown_drewN G8.out _)⟩

end Go.Proofs.YtnlpibikonenmaaDoor
