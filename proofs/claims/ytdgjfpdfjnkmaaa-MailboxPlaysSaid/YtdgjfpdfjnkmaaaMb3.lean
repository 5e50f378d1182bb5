/-
  The walk over mailbox.Move[int].
-/
import Derived.Test.YtdgjfpdfjnkmaaaMbRoom
namespace Go.Proofs.Ytdgjfpdfjnkmaaa
open Go.RowKit
set_option linter.unusedVariables false

/-- How many are moved. -/
def movesN (L M : List Int) (m : Nat) : Nat := min L.length (m - M.length)

set_option maxRecDepth 100000 in
set_option maxHeartbeats 8000000 in
theorem move_any (w : World) (g q n : Nat) (L : List Int) (g' q' m : Nat) (M : List Int) (hA : BxI w g q n L) (hB : BxI w g' q' m M) (hq : q ≠ q') :
    Calls Try.prog 17 #[.pointer (some ⟨g, 0, none⟩), .pointer (some ⟨g', 0, none⟩)] w fun e w' => e = .returned (.int .i64 (movesN L M m : Int)) ∧
      BxI w' g q n (L.drop (movesN L M m)) ∧ BxI w' g' q' m (M ++ L.take (movesN L M m)) ∧ Keeps [q, q'] w w' := by
  have hMm := hB.le
  have hm64 := hB.hi
  have hl64 := hA.len
  obtain ⟨kn, hkn⟩ : ∃ kn, kn = movesN L M m := ⟨_, rfl⟩
  rw [← hkn]
  have hcase : (((L.length : Int) ≤ (m : Int) - (M.length : Int)) ∧ kn = L.length) ∨ (¬ ((L.length : Int) ≤ (m : Int) - (M.length : Int)) ∧ (kn = m - M.length ∧ kn < L.length)) := by
    unfold movesN at hkn; omega
  have hkL : kn ≤ L.length := by omega
  have hkM : M.length + kn ≤ m := by omega
  have HA := Lib.hid hA
  have HB := Lib.hid hB
  have HK := Lib.hid hkn
  clear hA hB hkn
  go_enter Try.func17, Try.ntmps17
  rcases hcase with ⟨hle, hk⟩ | ⟨hle, hk⟩
  all_goals
    have HE := Lib.hid hk
    clear hk
    go_wp2_with fail
    refine (lenI_any _ _ _ _ _ HA.out).mono ?_
    rintro e w1 ⟨rfl, rfl⟩
    go_wp2_with fail
    refine (roomI_any _ _ _ _ _ HB.out).mono ?_
    rintro e w1 ⟨rfl, rfl⟩
    go_wp2_with fail
    refine (lenI_any _ _ _ _ _ HB.out).mono ?_
    rintro e w1 ⟨rfl, rfl⟩
    go_wp2_with fail
    go_loopw [23] (fun i wr => ∃ j : Nat, j ≤ kn ∧ i = .int .i64 (j : Int) ∧ BxI wr g q n (L.drop j) ∧ BxI wr g' q' m (M ++ L.take j) ∧ Keeps [q, q'] w wr) (fun i _ => kn - (intOf i).toNat)
    case atStart => exact ⟨0, by omega, rfl, by simpa using HA.out, by simpa using HB.out, Keeps.refl _ _⟩
    case round =>
      obtain ⟨j, hj, rfl, hP, hQ, hK⟩ := hrel
      have P := Lib.hid hP
      have Q := Lib.hid hQ
      have K := Lib.hid hK
      clear hP hQ hK
      by_cases hlt : j < kn
      · have f1 : (j : Int) < (L.length : Int) := by omega
        have f2 : (j : Int) < (m : Int) - (M.length : Int) := by omega
        obtain ⟨x, hx, hx'⟩ := turnedI (L := L) (k := j) (by omega)
        have P' : BxI wr g q n (x :: L.drop (j + 1)) := hx ▸ P.out
        have PP := Lib.hid P'
        have HX := Lib.hid hx'
        clear P' hx hx'
        go_wp2_with fail
        refine (pollI_ok x _ _ _ _ _ PP.out).mono ?_
        rintro e w3 ⟨rfl, h3, k3⟩
        have hgq : g' ≠ q := PP.out.ch.ne Q.out.at_
        have B3 := Lib.hid (Q.out.keeps k3 (by simpa using hgq) (by simpa using fun e => hq e.symm))
        have A3 := Lib.hid h3
        have K3 := Lib.hid (K.out.trans' k3 (fun y hy => .inl (by simp at hy ⊢; exact .inl hy)))
        clear h3 k3 hgq
        go_wp2_with fail
        refine (offerI_ok x _ _ _ _ _ B3.out (by simp; omega)).mono ?_
        rintro e w4 ⟨rfl, h4, k4⟩
        have hgq : g ≠ q' := B3.out.ch.ne A3.out.at_
        have A4 := Lib.hid (A3.out.keeps k4 (by simpa using hgq) (by simpa using hq))
        have B4 : BxI w4 g' q' m (M ++ L.take (j + 1)) := by rw [HX.out, ← List.append_assoc]; exact h4
        have BB4 := Lib.hid B4
        have K4 := Lib.hid (K3.out.trans' k4 (fun y hy => .inl (by simp at hy ⊢; exact .inr hy)))
        clear h4 k4 hgq B4
        go_wp2_with fail
        go_roundw
        case rel => exact ⟨j + 1, by omega, by go_num, A4.out, BB4.out, K4.out⟩
        case measure => simp [intOf]; omega
      · obtain rfl : kn = j := by omega
        have R : Hid (BxI wr g q n (L.drop kn) ∧ BxI wr g' q' m (M ++ L.take kn) ∧ Keeps [q, q'] w wr) := Lib.hid ⟨P.out, Q.out, K.out⟩
        first
          | (have f1 : ¬ (kn : Int) < (L.length : Int) := by have := HE.out; omega
             go_wp2_with fail
             go_ret
             exact ⟨ret_int (by have := HE.out; omega), R.out⟩)
          | (have f2 : ¬ (kn : Int) < (m : Int) - (M.length : Int) := by have := HE.out; omega
             go_wp2_with fail
             go_ret
             exact ⟨ret_int (by have := HE.out; omega), R.out⟩)

end Go.Proofs.Ytdgjfpdfjnkmaaa
