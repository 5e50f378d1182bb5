/-
  The walks of tronagelaw06's word, and of ReaderTokens.
-/
import Derived.Test.YtgmihbfikggkjaaDoorRdT
import Derived.Test.YtgmihbfikggkjaaDoorRdU
import Derived.Test.YtgmihbfikggkjaaDoorLwI
import Derived.Deep.RegionHeld3
import Derived.BigQuiet
import Derived.Deep.QuietTactic
namespace Go.Proofs.YtgmihbfikggkjaaDoor
open Go.RowKit
open Lx
set_option linter.unusedVariables false
set_option linter.unusedSimpArgs false
set_option maxRecDepth 100000

theorem first_ext : ∀ k : Fin 10, (⟨#[97, 98, 99, 100, 101, 102, 103, 104, 105, 106]⟩ : ByteArray).extract k (k + 1) = str [UInt8.ofNat (97 + k)] := by decide
theorem last_ext : ∀ k : Fin 3, (⟨#[120, 121, 122]⟩ : ByteArray).extract k (k + 1) = str [UInt8.ofNat (120 + k)] := by decide
theorem word6_any (x : Nat) (hx : x ≤ 255) (w : World) :
    Calls Tryd.prog 7 #[.int .u8 (x : Int)] w fun e w' => e = .returned (.string (str (Rd.wd x))) ∧ ∃ n, w' = w.drewN n := by
  have E1 := Lib.hid (first_ext ⟨x % 10, by omega⟩)
  have E2 := Lib.hid (last_ext ⟨x / 10 % 3, by omega⟩)
  obtain ⟨k, hk⟩ : ∃ k : Nat, x % 10 = k := ⟨_, rfl⟩
  obtain ⟨m, hm⟩ : ∃ m : Nat, x / 10 % 3 = m := ⟨_, rfl⟩
  have hk1 : (x : Int) % 10 = (k : Int) := by omega
  have hm1 : (x : Int) / 10 % 3 = (m : Int) := by omega
  have hk2 : (k : Int) < 10 := by omega
  have hm2 : (m : Int) < 3 := by omega
  have hx0 : (0 : Int) ≤ (x : Int) := by omega
  have hx1 : (x : Int) ≤ 255 := by omega
  have HK := Lib.hid hk
  have HM := Lib.hid hm
  clear hk hm
  go_enter Tryd.func7, Tryd.ntmps7
  go_wp2_with fail
  go_quiet (fail)
  go_wp2_with fail
  go_ret
  refine ⟨?_, nq, rfl⟩
  have h1 := E1.out
  have h2 := E2.out
  have e1 : (⟨#[97, 98, 99, 100, 101, 102, 103, 104, 105, 106]⟩ : ByteArray).extract k (k + 1) = str [UInt8.ofNat (97 + x % 10)] := by rw [← HK.out]; exact h1
  have e2 : (⟨#[120, 121, 122]⟩ : ByteArray).extract m (m + 1) = str [UInt8.ofNat (120 + x / 10 % 3)] := by rw [← HM.out]; exact h2
  show Ending.returned (Value.string (_ ++ _)) = _
  rw [e1, e2, ← str_bl (str [UInt8.ofNat (97 + x % 10)] ++ str [UInt8.ofNat (120 + x / 10 % 3)]), bl_append, bl_str, bl_str]
  rfl

def px (X : Nat → Nat) (k : Nat) : List Nat := (List.range k).map X
theorem px_succ (X : Nat → Nat) (k : Nat) : px X (k + 1) = px X k ++ [X k] := by simp [px, List.range_succ]
theorem px_len (X : Nat → Nat) (k : Nat) : (px X k).length = k := by simp [px]
theorem px_get {X : Nat → Nat} {k i : Nat} (h : i < k) : (px X k)[i]? = some (X i) := by simp [px, h]
theorem px_split (X : Nat → Nat) {j n : Nat} (h : j < n) : ∃ l, px X n = px X j ++ X j :: l := by
  obtain ⟨d, rfl⟩ : ∃ d, n = j + 1 + d := ⟨n - (j + 1), by omega⟩
  refine ⟨(List.range d).map (fun i => X (j + 1 + i)), ?_⟩
  induction d with
  | zero => rw [Nat.add_zero, px_succ]; rfl
  | succ d ih =>
    rw [show j + 1 + (d + 1) = (j + 1 + d) + 1 by omega, px_succ, ih (by omega), List.range_succ, List.map_append]
    simp

end Go.Proofs.YtgmihbfikggkjaaDoor
