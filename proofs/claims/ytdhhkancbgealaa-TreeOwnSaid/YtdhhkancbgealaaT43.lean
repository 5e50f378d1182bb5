import Derived.Test.YtdhhkancbgealaaT42
namespace Go.Proofs.Ytdhhkancbgealaa
open Go.RowKit Go.Shelf
open Lx
set_option linter.unusedVariables false
set_option linter.unusedSimpArgs false
set_option maxRecDepth 100000
set_option maxHeartbeats 4000000 in
theorem intsL_any (A1 A2 : Option Addr) (n1 n2 c1 c2 : Nat) (l1 l2 : List Int) (w : World) (hn1 : l1.length = n1) (hn2 : l2.length = n2) (h1 : Lie w 3 A1 (vals l1)) (h2 : Lie w 3 A2 (vals l2)) (hN : n1 ≤ 1000000000) :
  Calls Try.prog 24 #[.slice A1 n1 c1, .slice A2 n2 c2] w fun e w' => e = .returned (.bool (decide (l1 = l2))) ∧ Below w.heap.size w w' := by
 have H1 := Lib.hid h1
 have H2 := Lib.hid h2
 have HN1 := Lib.hid hn1
 have HN2 := Lib.hid hn2
 obtain ⟨Q, hQ⟩ : ∃ Q : Bool, decide (l1 = l2) = Q := ⟨_, rfl⟩
 rw [hQ]
 have HQ := Lib.hid hQ
 clear h1 h2 hn1 hn2 hQ
 by_cases hne : n1 = n2
 ·subst hne
  go_enter Try.func24, Try.ntmps24
  go_wp2_with fail
  go_loopw [5] (fun i wr => ∃ j : Nat, j ≤ n1 ∧ i = .int .i64 (j : Int) ∧ l1.take j = l2.take j ∧ ∃ m, wr = w.drewN m) (fun i _ => n1 - (intOf i).toNat)
  case atStart => exact ⟨0, by omega, rfl, by simp, 0, rfl⟩
  case round =>
   obtain ⟨j, hj, rfl, he, m, rfl⟩ := hrel
   have HE := Lib.hid he
   clear he
   by_cases hlt : j < n1
   ·obtain ⟨x, hx⟩ : ∃ x, l1[j]? = some x := ⟨_, List.getElem?_eq_getElem (by rw [HN1.out]; exact hlt)⟩
    obtain ⟨y, hy⟩ : ∃ y, l2[j]? = some y := ⟨_, List.getElem?_eq_getElem (by rw [HN2.out]; exact hlt)⟩
    obtain ⟨b1, o1, rfl, hbl1, e1⟩ := lieW_at H1.out hx
    obtain ⟨b2, o2, rfl, hbl2, e2⟩ := lieW_at H2.out hy
    have HX := Lib.hid hx
    have HY := Lib.hid hy
    have hji : (j : Int) < (n1 : Int) := by omega
    have hj0 : (0 : Int) ≤ (j : Int) := by omega
    clear hx hy
    cases hb : (x != y)
    ·go_wp2_with fail
     go_quiet (fail)
     go_wp2_with fail
     go_roundw
     case rel =>
      refine ⟨j + 1, by omega, by go_num, ?_, _, rfl⟩
      rw [take_snocT HX.out, take_snocT HY.out, HE.out, show x = y by simpa using hb]
     case measure => simp [intOf]; omega
    ·have hq : Q = false := by
      rw [← HQ.out]
      refine decide_eq_false fun e => ?_
      have h5 : l1[j]? = l2[j]? := by rw [e]
      rw [HX.out, HY.out] at h5
      simp at h5 hb; exact hb h5
     subst hq
     go_wp2_with fail
     go_quiet (fail)
     go_wp2_with fail
     go_ret
     exact ⟨rfl, below_drewN (below_drewN (Below.refl _ _) _) _⟩
   ·obtain rfl : j = n1 := by omega
    have hq : Q = true := by
     rw [← HQ.out]
     have h5 := HE.out
     rw [List.take_of_length_le (by rw [HN1.out]; exact Nat.le_refl _), List.take_of_length_le (by rw [HN2.out]; exact Nat.le_refl _)] at h5
     exact decide_eq_true h5
    subst hq
    clear hlt
    go_wp2_with fail
    go_ret
    exact ⟨rfl, below_drewN (Below.refl _ _) _⟩
 ·have hq : Q = false := by
   rw [← HQ.out]
   refine decide_eq_false fun e => hne ?_
   rw [← HN1.out, ← HN2.out, ← e]
  subst hq
  have hnI : ((n1 : Int) != (n2 : Int)) = true := by simp; omega
  clear hne
  go_enter Try.func24, Try.ntmps24
  go_wp2_with fail
  go_ret
  exact ⟨rfl, Below.refl _ _⟩
end Go.Proofs.Ytdhhkancbgealaa
