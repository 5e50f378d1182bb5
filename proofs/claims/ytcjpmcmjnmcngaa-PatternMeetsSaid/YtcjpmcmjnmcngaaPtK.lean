import Derived.Test.YtcjpmcmjnmcngaaPtI
namespace Go.Proofs.Ytcjpmcmjnmcngaa
set_option maxRecDepth 100000
open Go.RowKit
set_option linter.unusedVariables false
set_option linter.unusedSimpArgs false
set_option maxHeartbeats 4000000 in
theorem example16_law (T S : ByteArray) (m : Bool) (hT : T.size ≤ 9223372036854775807) (hS : S.size ≤ 9223372036854775807) (s : ByteArray) (hs : s.size ≤ 9223372036854775807) (w : World) :
  Calls Try.prog 5 #[patV T S m, .string s] w fun e w' => e = .returned (.bool true) ∧ Below w.heap.size w w' := by
 obtain ⟨G, x0, hG, hW, hB, k0, k1, k2⟩ := one_boxed T S m w
 have HW := Lib.hid hW
 have HB := Lib.hid hB
 have KA := Lib.hid (Qt.calls hG awake16_any)
 have KF := Lib.hid (Qt.calls hG fun w => few_any T S m w hT hS)
 have KE := Lib.hid (Qt.calls hG fun w => example_any T S m w hT hS)
 have KM := Lib.hid (Qt.calls hG fun w => meets_any T S m T S m w hT hS hT hS)
 have KI := Lib.hid (fun X (hX : X.size ≤ 9223372036854775807) => Qt.calls hG fun w => is_any T S m X w hT hS hX)
 have KL := Lib.hid (fun X (hX : X.size ≤ 9223372036854775807) => Qt.calls hG fun w => len_any T S m X 0 w hT hS hX)
 obtain ⟨E, hE⟩ : ∃ E, str (Pt.ex (bl T) (bl S)) = E := ⟨_, rfl⟩
 have hEb : bl E = Pt.ex (bl T) (bl S) := by rw [← hE, bl_str]
 rw [hE] at KE
 have hno := @Pt.ex_none (bl T) (bl S) m
 have hyes := @Pt.ex_some (bl T) (bl S) m
 have hlen := Pt.ex_len (bl T) (bl S)
 rw [← hEb] at hno hyes hlen
 rw [bl_length, bl_length] at hlen
 unfold patV at KF KE KM KI KL ⊢
 have KT := Lib.hid hT
 by_cases hf : fewB T S = true
 rotate_left
 ·rw [Bool.not_eq_true] at hf
  rw [hf] at KF
  clear hG hW hB hT hS hE hEb hno hyes hlen hf
  go_enter Try.func5, Try.ntmps5
  go_wp2_with fail
  rw [HW.out]
  refine (KA.out _).mono ?_
  rintro e _ ⟨rfl, x1, rfl⟩
  go_wp2_with fail
  refine (KF.out _).mono ?_
  rintro e _ ⟨rfl, x2, rfl⟩
  go_wp2_with fail
  go_ret
  exact ⟨rfl, HB.out _⟩
 rw [hf] at KF
 have hT40 : T.size ≤ 40 := by
  unfold fewB at hf
  rw [Bool.and_eq_true, decide_eq_true_iff] at hf
  exact hf.1
 by_cases h100 : (100 : Int) < (s.size : Int)
 ·clear hG hW hB hT hS hE hEb hno hyes hlen hf
  go_enter Try.func5, Try.ntmps5
  go_wp2_with fail
  rw [HW.out]
  refine (KA.out _).mono ?_
  rintro e _ ⟨rfl, x1, rfl⟩
  go_wp2_with fail
  refine (KF.out _).mono ?_
  rintro e _ ⟨rfl, x2, rfl⟩
  go_wp2_with fail
  go_ret
  exact ⟨rfl, HB.out _⟩
 have h100' : (s.size : Int) ≤ 100 := by omega
 by_cases hE0 : bl E = []
 ·obtain ⟨z1, z2⟩ := empty_yes hE0
  have KI1 := Lib.hid (KI.out s hs)
  rw [(hno hE0).1] at KI1
  rw [(hno hE0).2] at KM
  clear hG hW hB hT hS hE hEb hno hyes hlen hf hE0
  go_enter Try.func5, Try.ntmps5
  go_wp2_with fail
  rw [HW.out]
  refine (KA.out _).mono ?_
  rintro e _ ⟨rfl, x1, rfl⟩
  go_wp2_with fail
  refine (KF.out _).mono ?_
  rintro e _ ⟨rfl, x2, rfl⟩
  go_wp2_with fail
  refine (KE.out _).mono ?_
  rintro e _ ⟨rfl, x3, rfl⟩
  go_wp2_with fail
  refine (KI1.out _).mono ?_
  rintro e _ ⟨rfl, x4, rfl⟩
  go_wp2_with fail
  refine (KM.out _).mono ?_
  rintro e _ ⟨rfl, x5, rfl⟩
  go_wp2_with fail
  go_ret
  exact ⟨rfl, HB.out _⟩
 ·obtain ⟨z1, z2⟩ := empty_no hE0
  obtain ⟨y1, y2, y3⟩ := hyes hE0
  have KI1 := Lib.hid (KI.out E (by omega))
  have KL1 := Lib.hid (KL.out (E ++ s) (by rw [ByteArray.size_append]; omega))
  rw [y1] at KI1
  rw [y2] at KM
  have y4 := y3 (bl s)
  rw [← bl_append, bl_length] at y4
  obtain ⟨L, hL⟩ : ∃ L, Pt.lenAt (bl T) (bl S) m (bl (E ++ s)) 0 = L := ⟨_, rfl⟩
  rw [hL] at KL1 y4
  have q1 : (E.size : Int) ≤ (L : Int) := by omega
  have q2 : ¬ (9223372036854775807 < E.size + s.size) := by omega
  clear hG hW hB hT hS hE hEb hno hyes hlen hf hE0 y1 y2 y3 y4 hL
  go_enter Try.func5, Try.ntmps5
  go_wp2_with fail
  rw [HW.out]
  refine (KA.out _).mono ?_
  rintro e _ ⟨rfl, x1, rfl⟩
  go_wp2_with fail
  refine (KF.out _).mono ?_
  rintro e _ ⟨rfl, x2, rfl⟩
  go_wp2_with fail
  refine (KE.out _).mono ?_
  rintro e _ ⟨rfl, x3, rfl⟩
  go_wp2_with fail
  refine (KI1.out _).mono ?_
  rintro e _ ⟨rfl, x4, rfl⟩
  go_wp2_with fail
  refine (KM.out _).mono ?_
  rintro e _ ⟨rfl, x5, rfl⟩
  go_wp2_with fail
  refine (KL1.out _).mono ?_
  rintro e _ ⟨rfl, x6, rfl⟩
  go_wp2_with fail
  go_ret
  exact ⟨rfl, HB.out _⟩
set_option maxHeartbeats 16000000 in
theorem meets16_law (T S : ByteArray) (m : Bool) (hT : T.size ≤ 9223372036854775807) (hS : S.size ≤ 9223372036854775807) (T' S' : ByteArray) (m' : Bool) (hT' : T'.size ≤ 9223372036854775807) (hS' : S'.size ≤ 9223372036854775807) (s : ByteArray) (hs : s.size ≤ 9223372036854775807) (w : World) :
  Calls Try.prog 6 #[patV T S m, patV T' S' m', .string s] w fun e w' => e = .returned (.bool true) ∧ Below w.heap.size w w' := by
 obtain ⟨G, x0, hG, hW, hB, ⟨k0, k1, k2⟩, ⟨j0, j1, j2⟩⟩ := two_boxed T S m T' S' m' w
 have HW := Lib.hid hW
 have HB := Lib.hid hB
 have KA := Lib.hid (Qt.calls hG awake16_any)
 have KF := Lib.hid (Qt.calls hG fun w => few_any T S m w hT hS)
 have KF' := Lib.hid (Qt.calls hG fun w => few_any T' S' m' w hT' hS')
 have KM := Lib.hid (Qt.calls hG fun w => meets_any T S m T' S' m' w hT hS hT' hS')
 have KN := Lib.hid (Qt.calls hG fun w => meets_any T' S' m' T S m w hT' hS' hT hS)
 rw [Pt.meets_comm] at KN
 have KI := Lib.hid (Qt.calls hG fun w => is_any T S m s w hT hS hs)
 have KI' := Lib.hid (Qt.calls hG fun w => is_any T' S' m' s w hT' hS' hs)
 have KE := Lib.hid (Qt.calls hG fun w => example_any T S m w hT hS)
 have KE' := Lib.hid (Qt.calls hG fun w => example_any T' S' m' w hT' hS')
 by_cases hbig : ∃ r1 r2 : Bool, fewB T S = r1 ∧ fewB T' S' = r2 ∧ (r1 = false ∨ r2 = false ∨ 100 < s.size)
 ·obtain ⟨r1, r2, h1, h2, h3⟩ := hbig
  rw [h1] at KF
  rw [h2] at KF'
  have h3' := Lib.hid h3
  unfold patV at KF KF' ⊢
  clear hG hW hB h1 h2 h3 hT hS hT' hS' KM KN KI KI' KE KE'
  go_enter Try.func6, Try.ntmps6
  go_wp2_with fail
  rw [HW.out]
  refine (KA.out _).mono ?_
  rintro e _ ⟨rfl, x1, rfl⟩
  go_wp2_with fail
  refine (KF.out _).mono ?_
  rintro e _ ⟨rfl, x2, rfl⟩
  go_wp2_with fail
  refine (KF'.out _).mono ?_
  rintro e _ ⟨rfl, x3, rfl⟩
  cases r1 with
  | false =>
   go_wp2_with fail
   go_ret
   exact ⟨rfl, HB.out _⟩
  | true =>
   cases r2 with
   | false =>
    go_wp2_with fail
    go_ret
    exact ⟨rfl, HB.out _⟩
   | true =>
    have h100 : (100 : Int) < (s.size : Int) := by
     rcases h3'.out with h | h | h
     ·cases h
     ·cases h
     ·omega
    go_wp2_with fail
    go_ret
    exact ⟨rfl, HB.out _⟩
 have hf1 : fewB T S = true := by
  rw [← Bool.not_eq_false]; exact fun h => hbig ⟨_, _, rfl, rfl, .inl h⟩
 have hf2 : fewB T' S' = true := by
  rw [← Bool.not_eq_false]; exact fun h => hbig ⟨_, _, rfl, rfl, .inr (.inl h)⟩
 have h100 : (s.size : Int) ≤ 100 := by
  have : ¬ 100 < s.size := fun h => hbig ⟨_, _, rfl, rfl, .inr (.inr h)⟩
  omega
 rw [hf1] at KF
 rw [hf2] at KF'
 have hx : ∀ (T S : ByteArray), fewB T S = true → (str (Pt.ex (bl T) (bl S))).size ≤ 9223372036854775807 := fun T S h => by
  have h1 := Pt.ex_len (bl T) (bl S)
  have h2 : T.size ≤ 40 := by
   unfold fewB at h
   rw [Bool.and_eq_true, decide_eq_true_iff] at h
   exact h.1
  rw [str_size]
  rw [bl_length] at h1
  omega
 have hE1 := hx T S hf1
 have hE2 := hx T' S' hf2
 obtain ⟨E, hE⟩ : ∃ E, str (Pt.ex (bl T) (bl S)) = E := ⟨_, rfl⟩
 obtain ⟨E', hE'⟩ : ∃ E, str (Pt.ex (bl T') (bl S')) = E := ⟨_, rfl⟩
 rw [hE] at KE hE1
 rw [hE'] at KE' hE2
 have J1 := Lib.hid (Qt.calls hG fun w => is_any T S m E w hT hS hE1)
 have J2 := Lib.hid (Qt.calls hG fun w => is_any T' S' m' E w hT' hS' hE1)
 have J3 := Lib.hid (Qt.calls hG fun w => is_any T S m E' w hT hS hE2)
 have J4 := Lib.hid (Qt.calls hG fun w => is_any T' S' m' E' w hT' hS' hE2)
 have hmx := @Pt.meets_of (bl T) (bl S) (bl T') (bl S') (bl s) m m'
 have hm1 := @Pt.meets_of (bl T) (bl S) (bl T') (bl S') (bl E) m m'
 have hm2 := @Pt.meets_of (bl T) (bl S) (bl T') (bl S') (bl E') m m'
 obtain ⟨M, hM⟩ : ∃ M, Pt.meets (bl T) (bl S) m (bl T') (bl S') m' = M := ⟨_, rfl⟩
 obtain ⟨X, hX⟩ : ∃ M, Pt.is (bl T) (bl S) m (bl s) = M := ⟨_, rfl⟩
 obtain ⟨Y, hY⟩ : ∃ M, Pt.is (bl T') (bl S') m' (bl s) = M := ⟨_, rfl⟩
 obtain ⟨b1, hb1⟩ : ∃ M, Pt.is (bl T) (bl S) m (bl E) = M := ⟨_, rfl⟩
 obtain ⟨b2, hb2⟩ : ∃ M, Pt.is (bl T') (bl S') m' (bl E) = M := ⟨_, rfl⟩
 obtain ⟨b3, hb3⟩ : ∃ M, Pt.is (bl T) (bl S) m (bl E') = M := ⟨_, rfl⟩
 obtain ⟨b4, hb4⟩ : ∃ M, Pt.is (bl T') (bl S') m' (bl E') = M := ⟨_, rfl⟩
 rw [hM] at KM KN
 rw [hX] at KI
 rw [hY] at KI'
 rw [hb1] at J1
 rw [hb2] at J2
 rw [hb3] at J3
 rw [hb4] at J4
 rw [hM, hX, hY] at hmx
 rw [hM, hb1, hb2] at hm1
 rw [hM, hb3, hb4] at hm2
 have HMX := Lib.hid hmx
 have HM1 := Lib.hid hm1
 have HM2 := Lib.hid hm2
 unfold patV at KF KF' KM KN KI KI' KE KE' J1 J2 J3 J4 ⊢
 clear hG hW hB hT hS hT' hS' hE1 hE2 hE hE' hmx hm1 hm2 hM hX hY hb1 hb2 hb3 hb4 hx hf1 hf2 hbig
 go_enter Try.func6, Try.ntmps6
 go_wp2_with fail
 rw [HW.out]
 refine (KA.out _).mono ?_
 rintro e _ ⟨rfl, x1, rfl⟩
 go_wp2_with fail
 refine (KF.out _).mono ?_
 rintro e _ ⟨rfl, x2, rfl⟩
 go_wp2_with fail
 refine (KF'.out _).mono ?_
 rintro e _ ⟨rfl, x3, rfl⟩
 go_wp2_with fail
 refine (KM.out _).mono ?_
 rintro e _ ⟨rfl, x4, rfl⟩
 go_wp2_with fail
 refine (KI.out _).mono ?_
 rintro e _ ⟨rfl, x5, rfl⟩
 go_wp2_with fail
 refine (KI'.out _).mono ?_
 rintro e _ ⟨rfl, x6, rfl⟩
 have split1 : X = false ∨ (X = true ∧ Y = false) ∨ (X = true ∧ Y = true ∧ M = true) := by
  have h := HMX.out
  cases X <;> cases Y <;> cases M <;> simp_all
 have split2 : b1 = false ∨ (b1 = true ∧ b2 = false) ∨ (b1 = true ∧ b2 = true ∧ M = true) := by
  have h := HM1.out
  cases b1 <;> cases b2 <;> cases M <;> simp_all
 have split3 : b3 = false ∨ (b3 = true ∧ b4 = false) ∨ (b3 = true ∧ b4 = true ∧ M = true) := by
  have h := HM2.out
  cases b3 <;> cases b4 <;> cases M <;> simp_all
 have KS2 := Lib.hid split2
 have KS3 := Lib.hid split3
 clear split2 split3
 rcases split1 with hh | ⟨hh, hh2⟩ | ⟨hh, hh2, hh3⟩
 all_goals (subst hh; try subst hh2; try subst hh3)
 all_goals (go_wp2_with fail; refine (KE.out _).mono ?_; rintro e _ ⟨rfl, x7, rfl⟩)
 all_goals (go_wp2_with fail; refine (KE'.out _).mono ?_; rintro e _ ⟨rfl, x8, rfl⟩)
 all_goals (go_wp2_with fail; refine (J1.out _).mono ?_; rintro e _ ⟨rfl, x9, rfl⟩)
 all_goals (rcases KS2.out with hh | ⟨hh, hh2⟩ | ⟨hh, hh2, hh3⟩)
 all_goals (subst hh; try subst hh2; try subst hh3)
 all_goals (go_wp2_with fail)
 all_goals (first | (with_reducible refine (J2.out _).mono ?_; rintro e _ ⟨rfl, x10, rfl⟩; go_wp2_with fail; with_reducible refine (J3.out _).mono ?_; rintro e _ ⟨rfl, x11, rfl⟩) | (with_reducible refine (J3.out _).mono ?_; rintro e _ ⟨rfl, x11, rfl⟩))
 all_goals (rcases KS3.out with hh | ⟨hh, hh2⟩ | ⟨hh, hh2, hh3⟩)
 all_goals (subst hh; try subst hh2; try subst hh3)
 all_goals (go_wp2_with fail)
 all_goals (first | (with_reducible refine (J4.out _).mono ?_; rintro e _ ⟨rfl, x12, rfl⟩; go_wp2_with fail; with_reducible refine (KN.out _).mono ?_; rintro e _ ⟨rfl, x13, rfl⟩) | (with_reducible refine (KN.out _).mono ?_; rintro e _ ⟨rfl, x13, rfl⟩))
 all_goals (go_wp2_with fail)
 all_goals (go_ret; exact ⟨rfl, HB.out _⟩)
end Go.Proofs.Ytcjpmcmjnmcngaa
