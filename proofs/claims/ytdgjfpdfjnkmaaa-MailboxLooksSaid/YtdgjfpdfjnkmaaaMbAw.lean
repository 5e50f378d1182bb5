/-
  The chapter's examples.
-/
import Derived.Test.YtdgjfpdfjnkmaaaMb2S
namespace Go.Proofs.Ytdgjfpdfjnkmaaa
open Go.RowKit
set_option linter.unusedVariables false

theorem bxS_new (w w' : World) (a : Int) (k : Nat) (hk : rm a = k)
    (h : (w.alloc (.chan (rm a) #[] false 0 0 false)).alloc (.cells #[.int .i64 (rm a : Int), .chan (some w.heap.size)] 58) = w') :
    BxS w' (w.heap.size + 1) w.heap.size k [] ∧ Keeps [] w w' ∧ w'.heap.size = w.heap.size + 2 := by
  subst hk h
  exact ⟨Bx.new w a, ((Keeps.refl [] w).alloc _).alloc _, by simp⟩

theorem keeps_low {w w' : World} {S : List Nat} (h : Keeps S w w') (hS : ∀ x ∈ S, w.heap.size ≤ x) : Below w.heap.size w w' := h.below hS (Nat.le_refl _)

set_option maxHeartbeats 1600000 in
theorem awake_any (w : World) :
    Calls Try.prog 8 #[] w fun e w' => e = .returned (.bool true) ∧ Below w.heap.size w w' := by
  go_enter Try.func8, Try.ntmps8
  go_wp2_with fail
  refine (newS_any 2 _).mono ?_
  rintro e w1 ⟨rfl, hw1⟩
  obtain ⟨h, hk1, hs1⟩ := bxS_new _ _ 2 2 rfl hw1
  have K1 := Lib.hid (hk1.mono (S' := [w.heap.size]) (by simp))
  have H1 := Lib.hid h
  clear h hw1 hk1 hs1
  go_wp2_with fail
  refine (offerS_ok ⟨#[97]⟩ _ _ _ _ _ H1.out (by decide)).mono ?_
  rintro e w2 ⟨rfl, h, hk⟩
  have H2 := Lib.hid h
  have K2 := Lib.hid (K1.out.trans hk)
  clear h hk
  go_wp2_with fail
  refine (offerS_ok ⟨#[98]⟩ _ _ _ _ _ H2.out (by decide)).mono ?_
  rintro e w3 ⟨rfl, h, hk⟩
  have H3 := Lib.hid h
  have K3 := Lib.hid (K2.out.trans hk)
  clear h hk
  go_wp2_with fail
  refine (offerS_no ⟨#[99]⟩ _ _ _ _ _ H3.out (by decide)).mono ?_
  rintro e w3 ⟨rfl, rfl⟩
  go_wp2_with fail
  refine (pollS_ok ⟨#[97]⟩ _ _ _ _ [⟨#[98]⟩] H3.out).mono ?_
  rintro e w4 ⟨rfl, h, hk⟩
  have H4 := Lib.hid h
  have K4 := Lib.hid (K3.out.trans hk)
  clear h hk
  go_wp2_with fail
  refine (offerS_ok ⟨#[99]⟩ _ _ _ _ _ H4.out (by decide)).mono ?_
  rintro e w5 ⟨rfl, h, hk⟩
  have H5 := Lib.hid h
  have K5 := Lib.hid (K4.out.trans hk)
  clear h hk
  go_wp2_with fail
  refine (allS_any _ _ _ _ _ H5.out).mono ?_
  rintro e w6 ⟨v, rfl, ho, h, hk⟩
  have K6 := Lib.hid (keeps_low (K5.out.trans hk) (by simp))
  obtain ⟨g', cap, rfl, _⟩ : ∃ g cap, v = .slice (some ⟨g, 0, none⟩) 2 cap ∧ True := by
    rcases own_shape ho with ⟨_, h0, _⟩ | ⟨g, cap, e, _⟩
    · simp at h0
    · exact ⟨g, cap, e, trivial⟩
  have c0 := ho.cells (g := g') rfl 0 (.string ⟨#[98]⟩) rfl
  have c1 := ho.cells (g := g') rfl 1 (.string ⟨#[99]⟩) rfl
  simp [Addr.add] at c0 c1
  clear ho h hk
  go_wp2_with fail
  go_ret
  exact ⟨rfl, K6.out⟩

end Go.Proofs.Ytdgjfpdfjnkmaaa
