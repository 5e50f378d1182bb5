/-
  The document's Move.
-/
import Derived.Test.YtdgjfpdfjnkmaaaMbRef
namespace Go.Proofs.Ytdgjfpdfjnkmaaa
open Go.RowKit
set_option linter.unusedVariables false

set_option maxRecDepth 100000 in
set_option maxHeartbeats 4000000 in
theorem rmove_any (w : World) (rg n : Nat) (L : List Int) (ro m : Nat) (M : List Int) (hA : RB w rg n L) (hB : RB w ro m M) (hne : rg ≠ ro) (hm : m ≤ 64) (hl : L.length ≤ 64) (hMm : M.length ≤ m) :
    Calls Try.prog 18 #[.pointer (some ⟨rg, 0, none⟩), .pointer (some ⟨ro, 0, none⟩)] w fun e w' => e = .returned (.int .i64 (movesN L M m : Int)) ∧
      RB w' rg n (L.drop (movesN L M m)) ∧ RB w' ro m (M ++ L.take (movesN L M m)) ∧ Keeps [rg, ro] w w' := by
  obtain ⟨kn, hkn⟩ : ∃ kn, kn = movesN L M m := ⟨_, rfl⟩
  rw [← hkn]
  have hsm := hA.small
  have hkL : kn ≤ L.length := by unfold movesN at hkn; omega
  have hkM : M.length + kn ≤ m := by unfold movesN at hkn; omega
  have hend : L.length = kn ∨ m = M.length + kn := by unfold movesN at hkn; omega
  have HA := Lib.hid hA
  have HB := Lib.hid hB
  have HK := Lib.hid hkn
  have HE := Lib.hid hend
  have HS := Lib.hid hsm
  clear hA hB hkn hend hsm
  go_enter Try.func18, Try.ntmps18
  go_wp2_with fail
  go_loopw [5] (fun i wr => ∃ j : Nat, j ≤ kn ∧ i = .int .i64 (j : Int) ∧ RB wr rg n (L.drop j) ∧ RB wr ro m (M ++ L.take j) ∧ Keeps [rg, ro] w wr) (fun i _ => kn - (intOf i).toNat)
  case atStart => exact ⟨0, by omega, rfl, by simpa using HA.out, by simpa using HB.out, Keeps.refl _ _⟩
  case round =>
    obtain ⟨j, hj, rfl, hP, hQ, hK⟩ := hrel
    have P := Lib.hid hP
    have Q := Lib.hid hQ
    have K := Lib.hid hK
    obtain ⟨A, c, a1, _, _⟩ := hP.ex
    obtain ⟨A', c', a2, _, _⟩ := hQ.ex
    have f1 := a1.cell 1
    have g0 := a2.cell 0
    have g1 := a2.cell 1
    simp only [List.getElem?_toArray, List.getElem?_cons_succ, List.getElem?_cons_zero] at f1 g0 g1
    obtain ⟨p, hp⟩ : ∃ p, p = (L.drop j).length := ⟨_, rfl⟩
    obtain ⟨q, hq⟩ : ∃ q, q = (M ++ L.take j).length := ⟨_, rfl⟩
    rw [← hp] at f1
    rw [← hq] at g1
    have hp' : p = L.length - j := by rw [hp]; simp
    have hq' : q = M.length + j := by rw [hq]; simp; omega
    have HP := Lib.hid hp'
    have HQ := Lib.hid hq'
    clear hP hQ hK a1 a2 hp hq hp' hq'
    by_cases hlt : j < kn
    · have h1 : (0 : Int) < (p : Int) := by have := HP.out; omega
      have h1' : 0 < p := by omega
      have h2 : (q : Int) < (m : Int) := by have := HQ.out; omega
      have h2' : q < m := by omega
      obtain ⟨x, hx, hx'⟩ := turnedI (L := L) (k := j) (by omega)
      have P' : RB wr rg n (x :: L.drop (j + 1)) := hx ▸ P.out
      have hmem : x ∈ L := by
        have : x ∈ L.drop j := by rw [hx]; simp
        exact List.mem_of_mem_drop this
      have hxs := HS.out x hmem
      have PP := Lib.hid P'
      have HX := Lib.hid hx'
      clear P' hx hx' hmem
      go_wp2_with fail
      go_quiet (fail)
      clear f1 g0 g1
      go_wp2_with fail
      refine (rpoll_ok x _ _ _ _ (PP.out.drewN _)).mono ?_
      rintro e w3 ⟨rfl, h3, k3⟩
      have B3 := Lib.hid ((Q.out.drewN _).keeps k3 (by simpa using fun e => hne e.symm) (PP.out.drewN _).notInt)
      have A3 := Lib.hid h3
      have K3 := Lib.hid ((K.out.drewN _).trans' k3 (fun y hy => .inl (by simp at hy ⊢; exact .inl hy)))
      clear h3 k3
      go_wp2_with fail
      refine (roffer_ok x _ _ _ _ B3.out hxs (by simp; have := HQ.out; omega) hm).mono ?_
      rintro e w4 ⟨rfl, h4, k4⟩
      have A4 := Lib.hid (A3.out.keeps k4 (by simpa using hne) B3.out.notInt)
      have B4 : RB w4 ro m (M ++ L.take (j + 1)) := by rw [HX.out, ← List.append_assoc]; exact h4
      have BB4 := Lib.hid B4
      have K4 := Lib.hid (K3.out.trans' k4 (fun y hy => .inl (by simp at hy ⊢; exact .inr hy)))
      clear h4 k4 B4
      go_wp2_with fail
      go_roundw
      case rel => exact ⟨j + 1, by omega, by go_num, A4.out, BB4.out, K4.out⟩
      case measure => simp [intOf]; omega
    · obtain rfl : kn = j := by omega
      by_cases hp0 : 0 < p
      · have h1 : (0 : Int) < (p : Int) := by omega
        have h2 : decide ((q : Int) < (m : Int)) = false := by
          rcases HE.out with h | h
          · have := HP.out; omega
          · have := HQ.out; simp; omega
        have h2' : ¬ q < m := by simpa using h2
        go_wp2_with fail
        go_quiet (fail)
        clear f1 g0 g1
        go_wp2_with fail
        go_ret
        exact ⟨rfl, P.out.drewN _, Q.out.drewN _, K.out.drewN _⟩
      · have h1 : decide ((0 : Int) < (p : Int)) = false := by simp; omega
        have h1' : decide (0 < p) = false := by simp; omega
        go_wp2_with fail
        go_quiet (fail)
        clear f1 g0 g1
        go_wp2_with fail
        go_ret
        exact ⟨rfl, P.out.drewN _, Q.out.drewN _, K.out.drewN _⟩

end Go.Proofs.Ytdgjfpdfjnkmaaa
