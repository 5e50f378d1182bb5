/-
  bitset's Same.
-/
import Derived.Test.YtnlpibikonenmaaDoorSetC
namespace Go.Proofs.YtnlpibikonenmaaDoor
open Go.RowKit
open BitKit
set_option linter.unusedVariables false
set_option linter.unusedSimpArgs false

set_option maxHeartbeats 8000000 in
theorem same_run (b n : Nat) (S : Nat → Bool) (b' n' : Nat) (T : Nat → Bool) (w : World) (hs : IsSet w b n S) (ht : IsSet w b' n' T) :
    Calls Tryd.prog 21 #[.pointer (some ⟨b, 0, none⟩), .pointer (some ⟨b', 0, none⟩)] w fun e w' => e = .returned (.bool (sameB S T)) ∧ w.grownBy w' none := by
  have HS := Lib.hid hs
  have HT := Lib.hid ht
  have HQ := fun w => eq_words S T w
  unfold W16 at HQ
  have hm : Tryd.prog.eqGuardType Tryd.prog.depth 54 = false := by kernel_rfl
  have G := Lib.hid (grown_refl w none)
  obtain ⟨f0, f1, f2, f3, f4, f5, f6, f7, f8, f9, f10, f11, f12, f13, f14, f15⟩ := hs.sixteen
  clear hs ht
  go_enter Tryd.func21, Tryd.ntmps21
  go_wp2_with fail
  go_region_with (go_at_call 34; (with_reducible refine (all_16 b' n' T _ (HT.out.drew)).mono ?_); unfold W16; rintro e w1 ⟨rfl, hw1⟩; have G1 := Lib.hid (grown_after (grown_drew G.out) hw1); have h16 := sixteen_after HS.out.drew hw1; clear hw1; obtain ⟨g0, g1, g2, g3, g4, g5, g6, g7, g8, g9, g10, g11, g12, g13, g14, g15⟩ := h16)
  all_goals clear f0 f1 f2 f3 f4 f5 f6 f7 f8 f9 f10 f11 f12 f13 f14 f15 HQ
  all_goals go_wp2_with fail
  all_goals go_ret
  all_goals exact ⟨rfl, G1.out⟩

theorem same_any (b n : Nat) (S : Nat → Bool) (b' n' : Nat) (T : Nat → Bool) (w : World) (hs : IsSet w b n S) (ht : IsSet w b' n' T) :
    Calls Tryd.prog 21 #[.pointer (some ⟨b, 0, none⟩), .pointer (some ⟨b', 0, none⟩)] w fun e w' => Tells e (S = T) ∧ w.grownBy w' none :=
  (same_run b n S b' n' T w hs ht).mono fun e w' h => ⟨⟨_, h.1, by rw [sameB_iff, same_words hs.lt ht.lt]⟩, h.2⟩

end Go.Proofs.YtnlpibikonenmaaDoor
