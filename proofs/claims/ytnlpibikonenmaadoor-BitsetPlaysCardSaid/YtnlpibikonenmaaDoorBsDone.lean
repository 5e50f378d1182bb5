/-
  tronagelaw03.done: one thing done by both sets.
-/
import Derived.Test.YtnlpibikonenmaaDoorSetR
namespace Go.Proofs.YtnlpibikonenmaaDoor
open Go.RowKit
open BitKit
set_option linter.unusedVariables false
set_option linter.unusedSimpArgs false

/-- Two sets, and the document's two, beside them. -/
structure Four (w : World) (b1 r1 g1 n1 : Nat) (S : Nat → Bool) (b2 r2 g2 n2 : Nat) (T : Nat → Bool) : Prop where
  s : IsSet w b1 n1 S
  r : RefIs w r1 g1 n1 S
  t : IsSet w b2 n2 T
  o : RefIs w r2 g2 n2 T
  nb : b1 ≠ b2
  ng : g1 ≠ g2

section
variable {w w' : World} {b1 r1 g1 n1 b2 r2 g2 n2 : Nat} {S S' T : Nat → Bool}
theorem Four.grown (h : Four w b1 r1 g1 n1 S b2 r2 g2 n2 T) (hg : w.grownBy w' none) : Four w' b1 r1 g1 n1 S b2 r2 g2 n2 T :=
  ⟨h.s.grown hg (by simp), h.r.grown hg (by simp) (by simp), h.t.grown hg (by simp), h.o.grown hg (by simp) (by simp), h.nb, h.ng⟩
theorem Four.swap (h : Four w b1 r1 g1 n1 S b2 r2 g2 n2 T) : Four w b2 r2 g2 n2 T b1 r1 g1 n1 S := ⟨h.t, h.o, h.s, h.r, h.nb.symm, h.ng.symm⟩
theorem RefIs.off {b n m : Nat} {rb g : Nat} {S T : Nat → Bool} (h : RefIs w rb g n S) (hs : IsSet w b m T) : some b ≠ some g := fun e => (h.apart hs).2 e.symm
theorem RefIs.other {rb g n rb' g' m : Nat} {S T : Nat → Bool} (h : RefIs w rb g n S) (h' : RefIs w rb' g' m T) (hne : g ≠ g') (hg : w.grownBy w' (some g')) : RefIs w' rb g n S :=
  h.grown hg (fun e => by injection e with e; subst e; have := h.top.type h'.row; revert this; decide) (fun e => hne (by injection e))
/-- First the set, then the document's. -/
theorem Four.both {w1 : World} (h : Four w b1 r1 g1 n1 S b2 r2 g2 n2 T) (k1 : IsSet w1 b1 n1 S') (q1 : w.grownBy w1 (some b1)) (k2 : RefIs w' r1 g1 n1 S') (q2 : w1.grownBy w' (some g1)) : Four w' b1 r1 g1 n1 S' b2 r2 g2 n2 T := by
  have ho := h.o.grown q1 (h.o.apart h.s).1 (h.o.apart h.s).2
  have hr := h.r.grown q1 (h.r.apart h.s).1 (h.r.apart h.s).2
  have ht := h.t.grown q1 (fun e => h.nb (by injection e with e; exact e.symm))
  exact ⟨k1.grown q2 (hr.off k1), k2, ht.grown q2 (hr.off ht), ho.other hr h.ng.symm q2, h.nb, h.ng⟩
theorem Four.both' {w1 : World} (h : Four w b1 r1 g1 n1 S b2 r2 g2 n2 T) (k2 : RefIs w1 r1 g1 n1 S') (q2 : w.grownBy w1 (some g1)) (k1 : IsSet w' b1 n1 S') (q1 : w1.grownBy w' (some b1)) : Four w' b1 r1 g1 n1 S' b2 r2 g2 n2 T := by
  have hs := h.s.grown q2 (h.r.off h.s)
  have ht := h.t.grown q2 (h.r.off h.t)
  have ho := h.o.other h.r h.ng.symm q2
  exact ⟨k1, k2.grown q1 (k2.apart hs).1 (k2.apart hs).2, ht.grown q1 (fun e => h.nb (by injection e with e; exact e.symm)), ho.grown q1 (ho.apart hs).1 (ho.apart hs).2, h.nb, h.ng⟩
theorem Four.drew (h : Four w b1 r1 g1 n1 S b2 r2 g2 n2 T) : Four w.drew b1 r1 g1 n1 S b2 r2 g2 n2 T := ⟨h.s.drew, h.r.drew, h.t.drew, h.o.drew, h.nb, h.ng⟩
theorem Four.drewN (h : Four w b1 r1 g1 n1 S b2 r2 g2 n2 T) (k : Nat) : Four (w.drewN k) b1 r1 g1 n1 S b2 r2 g2 n2 T := ⟨h.s.drewN k, h.r.drewN k, h.t.drewN k, h.o.drewN k, h.nb, h.ng⟩
end

/-- What changes lies at or beyond B. -/
theorem below_turn {B : Nat} {a w w' : World} {b : Nat} (h : Below B a w) (hg : w.grownBy w' (some b)) (hB : B ≤ w.heap.size) (hb : B ≤ b) : Below B a w' := h.grown hg hB (fun k e => by injection e with e; omega)
theorem below_none {B : Nat} {a w w' : World} (h : Below B a w) (hg : w.grownBy w' none) (hB : B ≤ w.heap.size) : Below B a w' := h.grown hg hB (fun k e => by cases e)

set_option maxHeartbeats 8000000 in
/-- A step in which both are written. -/
theorem done_one (Bs : Nat) (b1 r1 g1 n1 : Nat) (S S' : Nat → Bool) (b2 r2 g2 n2 : Nat) (T : Nat → Bool) (n : Int) (q : Bool) (w : World) (h : Four w b1 r1 g1 n1 S b2 r2 g2 n2 T) (hw : Bs ≤ w.heap.size) (h1 : Bs ≤ b1) (h2 : Bs ≤ g1)
    (hadd : ∀ w, IsSet w b1 n1 S → Calls Tryd.prog 24 #[.pointer (some ⟨b1, 0, none⟩), .int .i64 n] w fun e w' => e = .returned (.bool q) ∧ IsSet w' b1 n1 S' ∧ w.grownBy w' (some b1))
    (hput : ∀ w, RefIs w r1 g1 n1 S → Calls Tryd.prog 29 #[.pointer (some ⟨r1, 0, none⟩), .int .i64 n, .bool true] w fun e w' => e = .returned (.bool q) ∧ RefIs w' r1 g1 n1 S' ∧ w.grownBy w' (some g1)) :
    Calls Tryd.prog 14 #[.pointer (some ⟨b1, 0, none⟩), .pointer (some ⟨r1, 0, none⟩), .pointer (some ⟨b2, 0, none⟩), .pointer (some ⟨r2, 0, none⟩), .agg #[.int .i64 1, .int .i64 n]] w fun e w' =>
      e = .returned (.bool true) ∧ Four w' b1 r1 g1 n1 S' b2 r2 g2 n2 T ∧ Below Bs w w' := by
  have hF : Four (w.alloc (.cells #[.int .i64 1, .int .i64 n] 33)).drew b1 r1 g1 n1 S b2 r2 g2 n2 T := (h.grown (grown_alloc (grown_refl w none) _)).drew
  have hB : Below Bs w (w.alloc (.cells #[.int .i64 1, .int .i64 n] 33)).drew := ((Below.refl Bs w).alloc hw _).drew
  have hO : At (w.alloc (.cells #[.int .i64 1, .int .i64 n] 33)).drew w.heap.size 33 #[.int .i64 1, .int .i64 n] := At.new w _ _
  have hsz : Bs ≤ (w.alloc (.cells #[.int .i64 1, .int .i64 n] 33)).drew.heap.size := by simp; omega
  have hob : some w.heap.size ≠ some b1 := fun e => by injection e with e; have := h.s.at_.lt; omega
  have hog : some w.heap.size ≠ some g1 := fun e => by injection e with e; have := h.r.row.lt; omega
  have HF := Lib.hid hF
  have HB := Lib.hid hB
  have HO := Lib.hid hO
  have HZ := Lib.hid hsz
  clear hF hB hO hsz h
  go_enter Tryd.func14, Tryd.ntmps14
  go_wp2_with fail
  go_region_with (first
    | (go_at_call 24; first
        | ((with_reducible refine (hadd _ (HF.out.s.grown gP.out (HF.out.r.off HF.out.s))).mono ?_); rintro e w2 ⟨rfl, kA, gA⟩; have hE := And.intro (HF.out.both' kP.out gP.out kA gA) (below_turn (below_turn HB.out gP.out HZ.out h2) gA (Nat.le_trans HZ.out gP.out.size) h1); clear kA gA)
        | ((with_reducible refine (hadd _ HF.out.s).mono ?_); rintro e w1 ⟨rfl, kA', gA'⟩; have kA := Lib.hid kA'; have gA := Lib.hid gA'; have hc := (HO.out.grown gA' hob).cell 1; simp at hc; clear kA' gA'))
    | (go_at_call 29; first
        | ((with_reducible refine (hput _ (HF.out.r.grown gA.out (HF.out.r.apart HF.out.s).1 (HF.out.r.apart HF.out.s).2)).mono ?_); rintro e w2 ⟨rfl, kP, gP⟩; have hE := And.intro (HF.out.both kA.out gA.out kP gP) (below_turn (below_turn HB.out gA.out HZ.out h1) gP (Nat.le_trans HZ.out gA.out.size) h2); clear kP gP)
        | ((with_reducible refine (hput _ HF.out.r).mono ?_); rintro e w1 ⟨rfl, kP', gP'⟩; have kP := Lib.hid kP'; have gP := Lib.hid gP'; have hc := (HO.out.grown gP' hog).cell 1; simp at hc; clear kP' gP')))
  all_goals go_wp2_with fail
  all_goals go_ret
  all_goals exact ⟨rfl, hE.1, hE.2⟩

set_option maxHeartbeats 8000000 in
/-- A step in which both are written. -/
theorem done_two (Bs : Nat) (b1 r1 g1 n1 : Nat) (S S' : Nat → Bool) (b2 r2 g2 n2 : Nat) (T : Nat → Bool) (n : Int) (q : Bool) (w : World) (h : Four w b1 r1 g1 n1 S b2 r2 g2 n2 T) (hw : Bs ≤ w.heap.size) (h1 : Bs ≤ b1) (h2 : Bs ≤ g1)
    (hadd : ∀ w, IsSet w b1 n1 S → Calls Tryd.prog 23 #[.pointer (some ⟨b1, 0, none⟩), .int .i64 n] w fun e w' => e = .returned (.bool q) ∧ IsSet w' b1 n1 S' ∧ w.grownBy w' (some b1))
    (hput : ∀ w, RefIs w r1 g1 n1 S → Calls Tryd.prog 29 #[.pointer (some ⟨r1, 0, none⟩), .int .i64 n, .bool false] w fun e w' => e = .returned (.bool q) ∧ RefIs w' r1 g1 n1 S' ∧ w.grownBy w' (some g1)) :
    Calls Tryd.prog 14 #[.pointer (some ⟨b1, 0, none⟩), .pointer (some ⟨r1, 0, none⟩), .pointer (some ⟨b2, 0, none⟩), .pointer (some ⟨r2, 0, none⟩), .agg #[.int .i64 2, .int .i64 n]] w fun e w' =>
      e = .returned (.bool true) ∧ Four w' b1 r1 g1 n1 S' b2 r2 g2 n2 T ∧ Below Bs w w' := by
  have hF : Four (w.alloc (.cells #[.int .i64 2, .int .i64 n] 33)).drew b1 r1 g1 n1 S b2 r2 g2 n2 T := (h.grown (grown_alloc (grown_refl w none) _)).drew
  have hB : Below Bs w (w.alloc (.cells #[.int .i64 2, .int .i64 n] 33)).drew := ((Below.refl Bs w).alloc hw _).drew
  have hO : At (w.alloc (.cells #[.int .i64 2, .int .i64 n] 33)).drew w.heap.size 33 #[.int .i64 2, .int .i64 n] := At.new w _ _
  have hsz : Bs ≤ (w.alloc (.cells #[.int .i64 2, .int .i64 n] 33)).drew.heap.size := by simp; omega
  have hob : some w.heap.size ≠ some b1 := fun e => by injection e with e; have := h.s.at_.lt; omega
  have hog : some w.heap.size ≠ some g1 := fun e => by injection e with e; have := h.r.row.lt; omega
  have HF := Lib.hid hF
  have HB := Lib.hid hB
  have HO := Lib.hid hO
  have HZ := Lib.hid hsz
  clear hF hB hO hsz h
  go_enter Tryd.func14, Tryd.ntmps14
  go_wp2_with fail
  go_region_with (first
    | (go_at_call 23; first
        | ((with_reducible refine (hadd _ (HF.out.s.grown gP.out (HF.out.r.off HF.out.s))).mono ?_); rintro e w2 ⟨rfl, kA, gA⟩; have hE := And.intro (HF.out.both' kP.out gP.out kA gA) (below_turn (below_turn HB.out gP.out HZ.out h2) gA (Nat.le_trans HZ.out gP.out.size) h1); clear kA gA)
        | ((with_reducible refine (hadd _ HF.out.s).mono ?_); rintro e w1 ⟨rfl, kA', gA'⟩; have kA := Lib.hid kA'; have gA := Lib.hid gA'; have hc := (HO.out.grown gA' hob).cell 1; simp at hc; clear kA' gA'))
    | (go_at_call 29; first
        | ((with_reducible refine (hput _ (HF.out.r.grown gA.out (HF.out.r.apart HF.out.s).1 (HF.out.r.apart HF.out.s).2)).mono ?_); rintro e w2 ⟨rfl, kP, gP⟩; have hE := And.intro (HF.out.both kA.out gA.out kP gP) (below_turn (below_turn HB.out gA.out HZ.out h1) gP (Nat.le_trans HZ.out gA.out.size) h2); clear kP gP)
        | ((with_reducible refine (hput _ HF.out.r).mono ?_); rintro e w1 ⟨rfl, kP', gP'⟩; have kP := Lib.hid kP'; have gP := Lib.hid gP'; have hc := (HO.out.grown gP' hog).cell 1; simp at hc; clear kP' gP')))
  all_goals go_wp2_with fail
  all_goals go_ret
  all_goals exact ⟨rfl, hE.1, hE.2⟩


def Op2 (b1 r1 b2 r2 : Nat) (x n : Int) : Array Value := #[.pointer (some ⟨b1, 0, none⟩), .pointer (some ⟨r1, 0, none⟩), .pointer (some ⟨b2, 0, none⟩), .pointer (some ⟨r2, 0, none⟩), .agg #[.int .i64 x, .int .i64 n]]

set_option maxHeartbeats 8000000 in
theorem done_three (Bs : Nat) (b1 r1 g1 n1 : Nat) (S : Nat → Bool) (b2 r2 g2 n2 : Nat) (T : Nat → Bool) (n : Int) (w : World) (h : Four w b1 r1 g1 n1 S b2 r2 g2 n2 T) (hw : Bs ≤ w.heap.size) :
    Calls Tryd.prog 14 (Op2 b1 r1 b2 r2 3 n) w fun e w' => e = .returned (.bool true) ∧ Four w' b1 r1 g1 n1 S b2 r2 g2 n2 T ∧ Below Bs w w' := by
  unfold Op2
  have hF : Four (w.alloc (.cells #[.int .i64 3, .int .i64 n] 33)) b1 r1 g1 n1 S b2 r2 g2 n2 T := h.grown (grown_alloc (grown_refl w none) _)
  have hB : Below Bs w (w.alloc (.cells #[.int .i64 3, .int .i64 n] 33)) := (Below.refl Bs w).alloc hw _
  obtain ⟨q, hq⟩ : ∃ q, q = (decide (0 ≤ n) && S n.toNat) := ⟨_, rfl⟩
  have hA := Lib.hid (fun w (k : IsSet w b1 n1 S) => hq ▸ has_any b1 n1 S n w k)
  have hR := Lib.hid (fun w (k : RefIs w r1 g1 n1 S) => hq ▸ rhas_any r1 g1 n1 S n w k)
  have HF := Lib.hid hF
  have HB := Lib.hid hB
  clear hF hB h hq
  go_enter Tryd.func14, Tryd.ntmps14
  go_wp2_with fail
  go_quiet (first
    | (go_at_call 25; refine Calls.quiet_of (hA.out _ (HF.out.s.drewN _)))
    | (go_at_call 30; refine Calls.quiet_of_same (hR.out _ (HF.out.r.drewN _))))
  go_wp2_with fail
  go_ret
  exact ⟨rfl, HF.out.drewN _, below_drewN HB.out _⟩

set_option maxHeartbeats 8000000 in
theorem done_four (Bs : Nat) (b1 r1 g1 n1 : Nat) (S : Nat → Bool) (b2 r2 g2 n2 : Nat) (T : Nat → Bool) (n : Int) (w : World) (h : Four w b1 r1 g1 n1 S b2 r2 g2 n2 T) (hw : Bs ≤ w.heap.size) (h1 : Bs ≤ b1) (h2 : Bs ≤ g1) :
    Calls Tryd.prog 14 (Op2 b1 r1 b2 r2 4 n) w fun e w' => e = .returned (.bool true) ∧ Four w' b1 r1 g1 n1 (uni n1 S T) b2 r2 g2 n2 T ∧ Below Bs w w' := by
  unfold Op2
  have hF : Four (w.alloc (.cells #[.int .i64 4, .int .i64 n] 33)) b1 r1 g1 n1 S b2 r2 g2 n2 T := h.grown (grown_alloc (grown_refl w none) _)
  have hB : Below Bs w (w.alloc (.cells #[.int .i64 4, .int .i64 n] 33)) := (Below.refl Bs w).alloc hw _
  have hsz : Bs ≤ (w.alloc (.cells #[.int .i64 4, .int .i64 n] 33)).heap.size := by simp; omega
  have HF := Lib.hid hF
  have HB := Lib.hid hB
  have HZ := Lib.hid hsz
  clear hF hB h hsz
  go_enter Tryd.func14, Tryd.ntmps14
  go_wp2_with fail
  refine (union_any b1 n1 S b2 n2 T _ HF.out.s HF.out.t).mono ?_
  rintro e w1 ⟨⟨q1, rfl, hq1⟩, k1, g1'⟩
  have K1 := Lib.hid k1
  have G1 := Lib.hid g1'
  have Q1 := Lib.hid hq1
  have R1 := Lib.hid (HF.out.r.grown g1' (HF.out.r.apart HF.out.s).1 (HF.out.r.apart HF.out.s).2)
  have O1 := Lib.hid (HF.out.o.grown g1' (HF.out.o.apart HF.out.s).1 (HF.out.o.apart HF.out.s).2)
  clear k1 g1' hq1
  go_wp2_with fail
  refine (runion_any r1 g1 n1 S r2 g2 n2 T _ R1.out O1.out HF.out.ng).mono ?_
  rintro e w2 ⟨⟨q2, rfl, hq2⟩, k2, g2'⟩
  have hqq : q2 = q1 := by rw [Bool.eq_iff_iff, hq2]; exact Q1.out.symm
  subst hqq
  have hE := Lib.hid (And.intro (HF.out.both K1.out G1.out k2 g2') (below_turn (below_turn HB.out G1.out HZ.out h1) g2' (Nat.le_trans HZ.out G1.out.size) h2))
  clear k2 g2' hq2
  go_wp2_with fail
  go_ret
  exact ⟨rfl, hE.out.1, hE.out.2⟩

set_option maxHeartbeats 8000000 in
theorem done_five (Bs : Nat) (b1 r1 g1 n1 : Nat) (S : Nat → Bool) (b2 r2 g2 n2 : Nat) (T : Nat → Bool) (n : Int) (w : World) (h : Four w b1 r1 g1 n1 S b2 r2 g2 n2 T) (hw : Bs ≤ w.heap.size) :
    Calls Tryd.prog 14 (Op2 b1 r1 b2 r2 5 n) w fun e w' => e = .returned (.bool true) ∧ Four w' b1 r1 g1 n1 S b2 r2 g2 n2 T ∧ Below Bs w w' := by
  unfold Op2
  have hF : Four (w.alloc (.cells #[.int .i64 5, .int .i64 n] 33)) b1 r1 g1 n1 S b2 r2 g2 n2 T := h.grown (grown_alloc (grown_refl w none) _)
  have hB : Below Bs w (w.alloc (.cells #[.int .i64 5, .int .i64 n] 33)) := (Below.refl Bs w).alloc hw _
  have hsz : Bs ≤ (w.alloc (.cells #[.int .i64 5, .int .i64 n] 33)).heap.size := by simp; omega
  have HF := Lib.hid hF
  have HB := Lib.hid hB
  have HZ := Lib.hid hsz
  clear hF hB h hsz
  go_enter Tryd.func14, Tryd.ntmps14
  go_wp2_with fail
  refine (meets_any b1 n1 S b2 n2 T _ HF.out.s HF.out.t).mono ?_
  rintro e w1 ⟨⟨q1, rfl, hq1⟩, g1'⟩
  have Q1 := Lib.hid hq1
  have F1 := Lib.hid (HF.out.grown g1')
  have B1 := Lib.hid (below_none HB.out g1' HZ.out)
  clear g1' hq1
  go_wp2_with fail
  refine (rmeets_any r1 g1 n1 S r2 g2 n2 T _ F1.out.r F1.out.o).mono ?_
  rintro e w2 ⟨⟨q2, rfl, hq2⟩, rfl⟩
  have hqq : q2 = q1 := by rw [Bool.eq_iff_iff, hq2]; exact Q1.out.symm
  subst hqq
  clear hq2
  go_wp2_with fail
  go_ret
  exact ⟨rfl, F1.out, B1.out⟩

set_option maxHeartbeats 4000000 in
theorem done_none (Bs : Nat) (b1 r1 g1 n1 : Nat) (S : Nat → Bool) (b2 r2 g2 n2 : Nat) (T : Nat → Bool) (x n : Int) (w : World) (h : Four w b1 r1 g1 n1 S b2 r2 g2 n2 T) (hw : Bs ≤ w.heap.size)
    (t1 : (x == 1) = false) (t2 : (x == 2) = false) (t3 : (x == 3) = false) (t4 : (x == 4) = false) (t5 : (x == 5) = false) :
    Calls Tryd.prog 14 (Op2 b1 r1 b2 r2 x n) w fun e w' => e = .returned (.bool true) ∧ Four w' b1 r1 g1 n1 S b2 r2 g2 n2 T ∧ Below Bs w w' := by
  unfold Op2
  have hF : Four (w.alloc (.cells #[.int .i64 x, .int .i64 n] 33)) b1 r1 g1 n1 S b2 r2 g2 n2 T := h.grown (grown_alloc (grown_refl w none) _)
  have hB : Below Bs w (w.alloc (.cells #[.int .i64 x, .int .i64 n] 33)) := (Below.refl Bs w).alloc hw _
  have HF := Lib.hid hF
  have HB := Lib.hid hB
  clear hF hB h
  go_enter Tryd.func14, Tryd.ntmps14
  go_wp2_with fail
  go_ret
  exact ⟨rfl, HF.out, HB.out⟩

theorem done_any (Bs : Nat) (b1 r1 g1 n1 : Nat) (S : Nat → Bool) (b2 r2 g2 n2 : Nat) (T : Nat → Bool) (x n : Int) (w : World) (h : Four w b1 r1 g1 n1 S b2 r2 g2 n2 T) (hw : Bs ≤ w.heap.size) (h1 : Bs ≤ b1) (h2 : Bs ≤ g1) :
    Calls Tryd.prog 14 (Op2 b1 r1 b2 r2 x n) w fun e w' => e = .returned (.bool true) ∧ (∃ S', Four w' b1 r1 g1 n1 S' b2 r2 g2 n2 T) ∧ Below Bs w w' := by
  by_cases e1 : x = 1
  · subst e1
    obtain ⟨q, hq⟩ : ∃ q, q = (decide (0 ≤ n ∧ n < (n1 : Int)) && !(S n.toNat)) := ⟨_, rfl⟩
    have hp : (decide (0 ≤ n ∧ n < (n1 : Int)) && (S n.toNat != true)) = q := by rw [hq]; cases S n.toNat <;> simp
    exact (done_one Bs b1 r1 g1 n1 S (put n1 S n) b2 r2 g2 n2 T n q w h hw h1 h2 (fun w k => hq ▸ add_any b1 n1 S n w k) (fun w k => hp ▸ rput_any r1 g1 n1 S n true w k)).mono fun e w' hh => ⟨hh.1, ⟨_, hh.2.1⟩, hh.2.2⟩
  by_cases e2 : x = 2
  · subst e2
    obtain ⟨q, hq⟩ : ∃ q, q = (decide (0 ≤ n ∧ n < (n1 : Int)) && S n.toNat) := ⟨_, rfl⟩
    have hp : (decide (0 ≤ n ∧ n < (n1 : Int)) && (S n.toNat != false)) = q := by rw [hq]; cases S n.toNat <;> simp
    exact (done_two Bs b1 r1 g1 n1 S (cut n1 S n) b2 r2 g2 n2 T n q w h hw h1 h2 (fun w k => hq ▸ drop_any b1 n1 S n w k) (fun w k => hp ▸ rput_any r1 g1 n1 S n false w k)).mono fun e w' hh => ⟨hh.1, ⟨_, hh.2.1⟩, hh.2.2⟩
  by_cases e3 : x = 3
  · subst e3
    exact (done_three Bs b1 r1 g1 n1 S b2 r2 g2 n2 T n w h hw).mono fun e w' hh => ⟨hh.1, ⟨_, hh.2.1⟩, hh.2.2⟩
  by_cases e4 : x = 4
  · subst e4
    exact (done_four Bs b1 r1 g1 n1 S b2 r2 g2 n2 T n w h hw h1 h2).mono fun e w' hh => ⟨hh.1, ⟨_, hh.2.1⟩, hh.2.2⟩
  by_cases e5 : x = 5
  · subst e5
    exact (done_five Bs b1 r1 g1 n1 S b2 r2 g2 n2 T n w h hw).mono fun e w' hh => ⟨hh.1, ⟨_, hh.2.1⟩, hh.2.2⟩
  exact (done_none Bs b1 r1 g1 n1 S b2 r2 g2 n2 T x n w h hw (by simpa using e1) (by simpa using e2) (by simpa using e3) (by simpa using e4) (by simpa using e5)).mono fun e w' hh => ⟨hh.1, ⟨_, hh.2.1⟩, hh.2.2⟩

end Go.Proofs.YtnlpibikonenmaaDoor
