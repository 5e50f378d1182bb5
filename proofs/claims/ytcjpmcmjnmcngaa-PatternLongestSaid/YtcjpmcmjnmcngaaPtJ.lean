import Derived.Test.YtcjpmcmjnmcngaaPtI
namespace Go.Proofs.Ytcjpmcmjnmcngaa
set_option maxRecDepth 100000
open Go.RowKit
set_option linter.unusedVariables false
set_option linter.unusedSimpArgs false
set_option maxHeartbeats 4000000 in
theorem longest16_law (T S : ByteArray) (m : Bool) (hT : T.size ≤ 9223372036854775807) (hS : S.size ≤ 9223372036854775807) (s : ByteArray) (hs : s.size ≤ 9223372036854775807) (a : Int) (ha : -9223372036854775808 ≤ a ∧ a ≤ 9223372036854775807) (w : World) :
  Calls Try.prog 4 #[patV T S m, .string s, .int .i64 a] w fun e w' => e = .returned (.bool true) ∧ Below w.heap.size w w' := by
 obtain ⟨G, x0, hG, hW, hB, k0, k1, k2⟩ := one_boxed T S m w
 have HG := Lib.hid hG
 have HW := Lib.hid hW
 have HB := Lib.hid hB
 have KA := Lib.hid (Qt.calls hG awake16_any)
 have KF := Lib.hid (Qt.calls hG fun w => few_any T S m w hT hS)
 have KL := Lib.hid (Qt.calls hG fun w => len_any T S m s a w hT hS hs)
 have KI := Lib.hid (fun X (hX : X.size ≤ 9223372036854775807) => Qt.calls hG fun w => is_any T S m X w hT hS hX)
 obtain ⟨r1, h1⟩ : ∃ r, fewB T S = r := ⟨_, rfl⟩
 rw [h1] at KF
 unfold patV at KF KL KI ⊢
 clear hG hW hB h1 hT hS
 go_enter Try.func4, Try.ntmps4
 go_wp2_with fail
 rw [HW.out]
 refine (KA.out _).mono ?_
 rintro e _ ⟨rfl, x1, rfl⟩
 go_wp2_with fail
 refine (KF.out _).mono ?_
 rintro e _ ⟨rfl, x2, rfl⟩
 cases r1 with
 | false =>
  go_wp2_with fail
  go_ret
  exact ⟨rfl, HB.out _⟩
 | true =>
  by_cases h100 : (100 : Int) < (s.size : Int)
  ·go_wp2_with fail
   go_ret
   exact ⟨rfl, HB.out _⟩
  have h100' : (s.size : Int) ≤ 100 := by omega
  by_cases ha0 : a < 0
  ·go_wp2_with fail
   go_ret
   exact ⟨rfl, HB.out _⟩
  obtain ⟨n, rfl⟩ : ∃ n : Nat, a = n := ⟨a.toNat, by omega⟩
  by_cases ha1 : (s.size : Int) < (n : Int)
  ·go_wp2_with fail
   go_ret
   exact ⟨rfl, HB.out _⟩
  have ha2 : (n : Int) ≤ (s.size : Int) := by omega
  have hr : ∃ r, (bl s).drop n = r := ⟨_, rfl⟩
  obtain ⟨r, hr⟩ := hr
  have hrl : r.length = s.size - n := by rw [← hr, List.length_drop, bl_length]
  have hLv : Pt.lenAt (bl T) (bl S) m (bl s) (n : Int) = Pt.len (bl T) (bl S) m r := by
   by_cases hn : n < s.size
   ·rw [Pt.lenAt_in (by rw [bl_length]; exact hn), hr]
   ·rw [Pt.lenAt_high (by rw [bl_length]; omega)]
    have hr0 : r = [] := List.length_eq_zero_iff.1 (by omega)
    have := @Pt.len_le (bl T) (bl S) r m
    rw [hr0] at this
    rw [hr0]
    simp at this
    exact this.symm
  have hLle : Pt.len (bl T) (bl S) m r ≤ r.length := Pt.len_le
  have hx : ∀ k, bl (s.extract n (n + k)) = r.take k := fun k => by rw [bl_ext, hr, Nat.add_sub_cancel_left]
  have hyes := fun h => Pt.len_is (T := bl T) (S := bl S) (m := m) (r := r) h
  have hno := fun k hk h => Pt.not_longer (T := bl T) (S := bl S) (m := m) (r := r) (k := k) hk h
  rw [hLv] at KL
  obtain ⟨L, hL⟩ : ∃ L, Pt.len (bl T) (bl S) m r = L := ⟨_, rfl⟩
  rw [hL] at KL hLle
  rw [hL] at hyes
  simp only [hL] at hno
  obtain ⟨D, hD⟩ : ∃ D, s.size - n = D := ⟨_, rfl⟩
  have q1 : (s.size : Int) - (n : Int) = (D : Int) := by omega
  have q2 : (L : Int) ≤ (D : Int) := by omega
  have q2' : ¬ (D : Int) < (L : Int) := by omega
  have q3 : IntKind.i64.wrap ((s.size : Int) - (n : Int)) = (D : Int) := by rw [q1]; exact IntWalk.i64_in _ (by omega)
  have KX := Lib.hid hx
  have KY := Lib.hid hyes
  have KN := Lib.hid hno
  have hrD : r.length = D := by omega
  have KD := Lib.hid hrD
  have hsD : n + D = s.size := by omega
  have KSD := Lib.hid hsD
  clear hr hrl hLv hL hx hyes hno hD hrD hsD
  go_wp2_with fail
  refine (KL.out _).mono ?_
  rintro e _ ⟨rfl, x3, rfl⟩
  have d0 : decide ((L : Int) < 0) = false := decide_eq_false (by omega)
  have d1 : decide ((D : Int) < (L : Int)) = false := decide_eq_false (by omega)
  have d2 : decide (D < L) = false := decide_eq_false (by omega)
  have d3 : decide ((D : Int) < 0) = false := decide_eq_false (by omega)
  by_cases hL0 : 0 < L
  ·have q4 : (0 : Int) < (L : Int) := by omega
   obtain ⟨J, hJ⟩ : ∃ J, n + L = J := ⟨_, rfl⟩
   have q5 : (n : Int) + (L : Int) = (J : Int) := by omega
   have q6 : IntKind.i64.wrap ((n : Int) + (L : Int)) = (J : Int) := by rw [q5]; exact IntWalk.i64_in _ (by have := KSD.out; omega)
   have q7 : (n : Int) ≤ (J : Int) := by omega
   have q8 : (J : Int) ≤ (s.size : Int) := by have := KSD.out; omega
   have KI1 := Lib.hid (KI.out (s.extract n J) (by rw [ByteArray.size_extract]; omega))
   rw [← hJ, KX.out, KY.out hL0, hJ] at KI1
   clear hJ
   go_wp2_with fail
   refine Qt.start HG.out (by kernel_rfl) (by kernel_rfl) ?_
   repeat (go_big_quiet_step (first | with_reducible exact KI1.out _))
   refine wpQuiet_nil ?_
   intro _ hw'
   obtain ⟨y, hw''⟩ := hw'
   subst hw''
   clear q5 q6 q7 q8
   go_wp2_with fail
   go_loopw [10] (fun t wr => ∃ (k : Nat) (x : World), L < k ∧ k ≤ D + 1 ∧ t = .int .i64 (k : Int) ∧ wr = G x) (fun t _ => D + 1 - (intOf t).toNat)
   case atStart => exact ⟨L + 1, y, by omega, by omega, by go_num, rfl⟩
   case round =>
    obtain ⟨k, x, hk, hk2, rfl, rfl⟩ := hrel
    by_cases hlt : k ≤ D
    ·have hki : (k : Int) ≤ (D : Int) := by omega
     obtain ⟨J, hJ⟩ : ∃ J, n + k = J := ⟨_, rfl⟩
     have q5 : (n : Int) + (k : Int) = (J : Int) := by omega
     have q6 : IntKind.i64.wrap ((n : Int) + (k : Int)) = (J : Int) := by rw [q5]; exact IntWalk.i64_in _ (by have := KSD.out; omega)
     have q7 : (n : Int) ≤ (J : Int) := by omega
     have q8 : (J : Int) ≤ (s.size : Int) := by have := KSD.out; omega
     have KI1 := Lib.hid (KI.out (s.extract n J) (by rw [ByteArray.size_extract]; omega))
     rw [← hJ, KX.out, KN.out k (by rw [KD.out]; exact hlt) hk, hJ] at KI1
     clear hJ
     go_wp2_with fail
     refine Qt.start HG.out (by kernel_rfl) (by kernel_rfl) ?_
     repeat (go_big_quiet_step (first | with_reducible exact KI1.out _))
     refine wpQuiet_nil ?_
     intro _ hw'
     obtain ⟨y, hw''⟩ := hw'
     subst hw''
     go_wp2_with fail
     go_roundw
     case rel => exact ⟨k + 1, y, by omega, by omega, by go_num, rfl⟩
     case measure => simp [intOf]; omega
    ·have hki : ¬ (k : Int) ≤ (D : Int) := by omega
     go_wp2_with fail
     go_ret
     exact ⟨rfl, HB.out _⟩
  ·obtain rfl : L = 0 := by omega
   go_wp2_with fail
   refine Qt.start HG.out (by kernel_rfl) (by kernel_rfl) ?_
   repeat (go_big_quiet_step (fail))
   refine wpQuiet_nil ?_
   intro _ hw'
   obtain ⟨y, hw''⟩ := hw'
   subst hw''
   go_wp2_with fail
   go_loopw [10] (fun t wr => ∃ (k : Nat) (x : World), 0 < k ∧ k ≤ D + 1 ∧ t = .int .i64 (k : Int) ∧ wr = G x) (fun t _ => D + 1 - (intOf t).toNat)
   case atStart => exact ⟨1, y, by omega, by omega, by go_num, rfl⟩
   case round =>
    obtain ⟨k, x, hk, hk2, rfl, rfl⟩ := hrel
    by_cases hlt : k ≤ D
    ·have hki : (k : Int) ≤ (D : Int) := by omega
     obtain ⟨J, hJ⟩ : ∃ J, n + k = J := ⟨_, rfl⟩
     have q5 : (n : Int) + (k : Int) = (J : Int) := by omega
     have q6 : IntKind.i64.wrap ((n : Int) + (k : Int)) = (J : Int) := by rw [q5]; exact IntWalk.i64_in _ (by have := KSD.out; omega)
     have q7 : (n : Int) ≤ (J : Int) := by omega
     have q8 : (J : Int) ≤ (s.size : Int) := by have := KSD.out; omega
     have KI1 := Lib.hid (KI.out (s.extract n J) (by rw [ByteArray.size_extract]; omega))
     rw [← hJ, KX.out, KN.out k (by rw [KD.out]; exact hlt) hk, hJ] at KI1
     clear hJ
     go_wp2_with fail
     refine Qt.start HG.out (by kernel_rfl) (by kernel_rfl) ?_
     repeat (go_big_quiet_step (first | with_reducible exact KI1.out _))
     refine wpQuiet_nil ?_
     intro _ hw'
     obtain ⟨y, hw''⟩ := hw'
     subst hw''
     go_wp2_with fail
     go_roundw
     case rel => exact ⟨k + 1, y, by omega, by omega, by go_num, rfl⟩
     case measure => simp [intOf]; omega
    ·have hki : ¬ (k : Int) ≤ (D : Int) := by omega
     go_wp2_with fail
     go_ret
     exact ⟨rfl, HB.out _⟩
end Go.Proofs.Ytcjpmcmjnmcngaa
