/-
  The walks of tronageref05's Texts and tronageref06's Same, at two values of one grammar that are told by their cells.
-/
import Derived.Test.YtpgmapjjjpcmfaaGreatDoorPrX
import Derived.BigQuiet
import Derived.Deep.QuietTactic
namespace Go.Proofs.YtpgmapjjjpcmfaaGreatDoor
open Go.RowKit
open Lx
set_option linter.unusedVariables false
set_option linter.unusedSimpArgs false
set_option maxRecDepth 100000

theorem Cl.drewN {w : World} {B : Nat} {A : Option Addr} {xs : List Value} (h : Cl w B A xs) (n : Nat) : Cl (w.drewN n) B A xs := ⟨h.ex⟩
theorem textsC_same (A1 A2 : Option Addr) (c1 c2 : Nat) (l : List Rd.Name) (B : Nat) (w : World) (h1 : Cl w B A1 (namesV l)) (h2 : Cl w B A2 (namesV l)) (hl : l.length ≤ 1000000) :
    Calls Tryz.prog 56 #[.slice A1 l.length c1, .slice A2 l.length c2] w fun e w' => e = .returned (.bool true) ∧ ∃ n, w' = w.drewN n := by
  have H1 := Lib.hid h1
  have H2 := Lib.hid h2
  obtain ⟨n, hn⟩ : ∃ n, l.length = n := ⟨_, rfl⟩
  rw [hn] at hl ⊢
  have HN := Lib.hid hn
  clear h1 h2 hn
  go_enter Tryz.func56, Tryz.ntmps56
  go_wp2_with fail
  go_loopw [5] (fun i wr => ∃ (k m : Nat), k ≤ n ∧ i = .int .i64 (k : Int) ∧ wr = w.drewN m) (fun i _ => n - (intOf i).toNat)
  case atStart => exact ⟨0, 0, by omega, rfl, rfl⟩
  case round =>
    obtain ⟨k, m, hk, rfl, rfl⟩ := hrel
    by_cases hlt : k < n
    · obtain ⟨x, hx⟩ := some_get (l := l) (i := k) (by rw [HN.out]; exact hlt)
      have hv : (namesV l)[k]? = some (.string (str x)) := by simp [namesV, hx]
      have hne : namesV l ≠ [] := fun e => by rw [e] at hv; simp at hv
      obtain ⟨b1, o1, rfl, _, f1⟩ := H1.out.ex hne
      obtain ⟨b2, o2, rfl, _, f2⟩ := H2.out.ex hne
      have cc : w.cell? ⟨b1, o1 + k, none⟩ = some (.string (str x)) := f1 _ _ hv
      have dd : w.cell? ⟨b2, o2 + k, none⟩ = some (.string (str x)) := f2 _ _ hv
      have t1 : ((str x).toList == (str x).toList) = true := by simp
      have t2 : ((str x).toList != (str x).toList) = false := by simp
      have hki : (k : Int) < (n : Int) := by omega
      have hk0 : (0 : Int) ≤ (k : Int) := by omega
      clear hx hv hne f1 f2
      go_wp2_with fail
      go_quiet (fail)
      go_wp2_with fail
      go_roundw
      case rel => exact ⟨k + 1, _, by omega, by go_num, rfl⟩
      case measure => simp [intOf]; omega
    · obtain rfl : n = k := by omega
      go_wp2_with fail
      go_ret
      exact ⟨rfl, m, rfl⟩


end Go.Proofs.YtpgmapjjjpcmfaaGreatDoor
