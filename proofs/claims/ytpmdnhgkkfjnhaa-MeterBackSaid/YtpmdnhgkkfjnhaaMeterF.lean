/-
  The walk over 'done': what is done to the meter and to the document's meter, one beside the other.
-/
import Derived.Test.YtpmdnhgkkfjnhaaMeterE
import Derived.Deep.RegionWith
namespace Go.Proofs.Ytpmdnhgkkfjnhaa
open Go.RowKit
set_option linter.unusedVariables false

/-- Both meters hold the same. -/
structure Two (w : World) (b r : Nat) (l u m : Int) : Prop where
  mt : At w b 44 #[.int .i64 l, .int .i64 u, .int .i64 m]
  rf : At w r 29 #[.int .i64 l, .int .i64 u, .int .i64 m]
  bd : 0 ≤ u ∧ u ≤ l ∧ l ≤ 1099511627776 ∧ u ≤ m

theorem Two.ne {w : World} {b r : Nat} {l u m : Int} (h : Two w b r l u m) : b ≠ r := by
  rintro rfl
  have h1 := h.mt
  have h2 := h.rf
  unfold At at h1 h2
  rw [h1] at h2
  injection h2 with h2
  injection h2 with _ ht
  exact absurd ht (by decide)

/-- The meter first, the document's behind it; and the other way about. -/
theorem two_first {wa w1 w2 : World} {b r : Nat} {t t' : TypeId} {c0 c1 c2 : Array Value} (h1 : Turns wa w1 b t c1) (h2 : Turns w1 w2 r t' c2) (hM : At wa b t c0) (hne : b ≠ r) :
    At w2 b t c1 ∧ At w2 r t' c2 ∧ ∀ w B, B ≤ b → B ≤ r → B ≤ w.heap.size → Below B w wa ∧ B ≤ wa.heap.size → Below B w w2 :=
  ⟨h2.other h1.at_ hne, h2.at_, fun w B hb hr _ h => h2.below (h1.below h.1 h.2 hb) (Nat.le_trans h.2 h1.size) hr⟩
theorem two_last {wa w1 w2 : World} {b r : Nat} {t t' : TypeId} {c0 c1 c2 : Array Value} (h1 : Turns wa w1 r t' c2) (h2 : Turns w1 w2 b t c1) (hM : At wa b t c0) (hne : b ≠ r) :
    At w2 b t c1 ∧ At w2 r t' c2 ∧ ∀ w B, B ≤ b → B ≤ r → B ≤ w.heap.size → Below B w wa ∧ B ≤ wa.heap.size → Below B w w2 :=
  ⟨h2.at_, h2.other h1.at_ (Ne.symm hne), fun w B hb hr _ h => h2.below (h1.below h.1 h.2 hr) (Nat.le_trans h.2 h1.size) hb⟩

set_option maxHeartbeats 2000000 in
theorem done_any (b r : Nat) (l u m x n : Int) (w : World) (h : Two w b r l u m) (hn : -9223372036854775808 ≤ n ∧ n ≤ 9223372036854775807) :
    Calls Try.prog 12 #[.pointer (some ⟨b, 0, none⟩), .pointer (some ⟨r, 0, none⟩), .agg #[.int .i64 x, .int .i64 n]] w fun e w' => e = .returned (.bool true) ∧
      ∃ u' m', Two w' b r l u' m' ∧ ∀ B, B ≤ b → B ≤ r → B ≤ w.heap.size → Below B w w' := by
  have hne := h.ne
  have hbd0 := h.bd
  have hbd : 0 ≤ u ∧ u ≤ l ∧ l ≤ 1099511627776 := by omega
  have tb := take_bd (n := n) h.bd
  have gb := give_bd (n := n) h.bd
  have hob : w.heap.size ≠ b := Nat.ne_of_gt h.mt.lt
  have hor : w.heap.size ≠ r := Nat.ne_of_gt h.rf.lt
  have hM : At (w.alloc (.cells #[.int .i64 x, .int .i64 n] 32)).drew b 44 #[.int .i64 l, .int .i64 u, .int .i64 m] := h.mt.alloc _
  have hR : At (w.alloc (.cells #[.int .i64 x, .int .i64 n] 32)).drew r 29 #[.int .i64 l, .int .i64 u, .int .i64 m] := h.rf.alloc _
  have hO : At (w.alloc (.cells #[.int .i64 x, .int .i64 n] 32)).drew w.heap.size 32 #[.int .i64 x, .int .i64 n] := At.new w _ _
  have hB : ∀ B, B ≤ w.heap.size → Below B w (w.alloc (.cells #[.int .i64 x, .int .i64 n] 32)).drew ∧ B ≤ (w.alloc (.cells #[.int .i64 x, .int .i64 n] 32)).drew.heap.size :=
    fun B h => ⟨((Below.refl B w).alloc h _).drew, by simp; omega⟩
  have HB := Lib.hid hB
  clear hB h
  by_cases h1 : x = 1
  · have t1 : (x == 1) = true := by simp [h1]
    clear h1
    go_enter Try.func12, Try.ntmps12
    go_wp2_with fail
    go_region_with (first
      | (go_at_call 20; first
          | ((with_reducible refine (take_any b l u m n _ (hS.other hM hne) hbd hn).mono ?_); rintro e w2 ⟨rfl, hT⟩; have hE := two_last hS hT hM hne)
          | ((with_reducible refine (take_any b l u m n _ hM hbd hn).mono ?_); rintro e w1 ⟨rfl, hT⟩; have hc := (hT.other hO hob).cell 1; simp at hc))
      | (go_at_call 24; first
          | ((with_reducible refine (rtake_any r l u m n _ (hT.other hR (Ne.symm hne)) hbd hn).mono ?_); rintro e w2 ⟨rfl, hS⟩; have hE := two_first hT hS hM hne)
          | ((with_reducible refine (rtake_any r l u m n _ hR hbd hn).mono ?_); rintro e w1 ⟨rfl, hS⟩; have hc := (hS.other hO hor).cell 1; simp at hc)))
    all_goals go_wp2
    all_goals go_ret
    all_goals exact ⟨rfl, _, _, ⟨hE.1, hE.2.1, by omega⟩, fun B h1 h2 h3 => hE.2.2 w B h1 h2 h3 (HB.out B h3)⟩
  · have t1 : (x == 1) = false := by simp [h1]
    clear h1
    by_cases h2 : x = 2
    · have t2 : (x == 2) = true := by simp [h2]
      clear h2
      go_enter Try.func12, Try.ntmps12
      go_wp2_with fail
      go_region_with (first
        | (go_at_call 21; first
            | ((with_reducible refine (give_any b l u m n _ (hS.other hM hne) hbd hn).mono ?_); rintro e w2 ⟨rfl, hT⟩; have hE := two_last hS hT hM hne)
            | ((with_reducible refine (give_any b l u m n _ hM hbd hn).mono ?_); rintro e w1 ⟨rfl, hT⟩; have hc := (hT.other hO hob).cell 1; simp at hc))
        | (go_at_call 25; first
            | ((with_reducible refine (rgive_any r l u m n _ (hT.other hR (Ne.symm hne)) hbd hn).mono ?_); rintro e w2 ⟨rfl, hS⟩; have hE := two_first hT hS hM hne)
            | ((with_reducible refine (rgive_any r l u m n _ hR hbd hn).mono ?_); rintro e w1 ⟨rfl, hS⟩; have hc := (hS.other hO hor).cell 1; simp at hc)))
      all_goals go_wp2
      all_goals go_ret
      all_goals exact ⟨rfl, _, _, ⟨hE.1, hE.2.1, by omega⟩, fun B h1 h2 h3 => hE.2.2 w B h1 h2 h3 (HB.out B h3)⟩
    · have t2 : (x == 2) = false := by simp [h2]
      clear h2
      by_cases h3 : x = 3
      · have t3 : (x == 3) = true := by simp [h3]
        clear h3
        have c1 := hR.cell 1
        have z1 := hR.frozen 1
        simp at c1 z1
        go_enter Try.func12, Try.ntmps12
        go_wp2_with fail
        refine (reset_any b l u m ((w.alloc (.cells #[.int .i64 x, .int .i64 n] 32)).setCell ⟨r, 1, none⟩ (.int .i64 0)) (At.far (w := w.alloc (.cells #[.int .i64 x, .int .i64 n] 32)) hM (p := ⟨r, 1, none⟩) hne _)).mono ?_; rintro e w2 ⟨rfl, hT⟩
        go_wp2_with fail
        go_ret
        refine ⟨rfl, 0, m, ⟨hT.at_, (hT.other (At.set (w := w.alloc (.cells #[.int .i64 x, .int .i64 n] 32)) hR 1 (.int .i64 0)) (Ne.symm hne)).eqs (by simp), by omega⟩, fun B h1 h2 h3 => ?_⟩
        have h4 := (Below.refl B w).alloc h3 (.cells #[.int .i64 x, .int .i64 n] 32)
        exact hT.below (h4.setCell (p := ⟨r, 1, none⟩) h2 _) (by simp [World.setCell]; omega) h1
      · have t3 : (x == 3) = false := by simp [h3]
        clear h3
        go_enter Try.func12, Try.ntmps12
        go_wp2_with fail
        go_ret
        exact ⟨rfl, u, m, ⟨hM, hR, hbd0⟩, fun B _ _ h3 => (Below.refl B w).alloc h3 _⟩

end Go.Proofs.Ytpmdnhgkkfjnhaa
