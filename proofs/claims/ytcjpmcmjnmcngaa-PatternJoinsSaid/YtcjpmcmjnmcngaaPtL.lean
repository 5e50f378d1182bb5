import Derived.Test.YtcjpmcmjnmcngaaPtI
namespace Go.Proofs.Ytcjpmcmjnmcngaa
set_option maxRecDepth 100000
open Go.RowKit
set_option linter.unusedVariables false
set_option linter.unusedSimpArgs false
theorem two_laid {w w1 w2 : World} {t : TypeId} {a0 a1 a2 b0 b1 b2 : Value} {o o' : Obj} (hA1 : At w1 w.heap.size t [a0, a1, a2].toArray) (hg1 : (w.alloc o).grownBy w1 (some w.heap.size)) (hA2 : At w2 w1.heap.size t [b0, b1, b2].toArray) (hg2 : (w1.alloc o').grownBy w2 (some w1.heap.size)) :
  ∃ (G : World → World) (x : World), Qt.Class w2.heap.size (G x) G ∧ w2 = G x ∧ (∀ x, Below w.heap.size w (G x)) ∧
  ((∀ x, (G x).cell? ⟨w.heap.size, 0, none⟩ = some a0) ∧ (∀ x, (G x).cell? ⟨w.heap.size, 1, none⟩ = some a1) ∧ (∀ x, (G x).cell? ⟨w.heap.size, 2, none⟩ = some a2)) ∧
  ((∀ x, (G x).cell? ⟨w1.heap.size, 0, none⟩ = some b0) ∧ (∀ x, (G x).cell? ⟨w1.heap.size, 1, none⟩ = some b1) ∧ (∀ x, (G x).cell? ⟨w1.heap.size, 2, none⟩ = some b2)) := by
 obtain ⟨⟨Kb, Kl, Kc⟩, _⟩ := aw_cells hA1 hg1 hA2 hg2
 obtain ⟨G, hG⟩ := Qt.class_of w2.heap.size w2 (Nat.le_refl _)
 obtain ⟨x, hx⟩ := hG.onto w2 (Below.refl _ _)
 have hc := fun y => Kc.out (G y) (hG.below y)
 have hb := fun y => Kb.out.trans ((hG.below y).mono Kl.out)
 refine ⟨G, x, ?_, hx, hb, ⟨fun y => (hc y).1.1, fun y => (hc y).1.2.1, fun y => (hc y).1.2.2⟩, fun y => (hc y).2.1, fun y => (hc y).2.2.1, fun y => (hc y).2.2.2⟩
 rw [← hx]; exact hG
set_option maxHeartbeats 8000000 in
theorem joins16_law (S : ByteArray) (hS : S.size ≤ 9223372036854775807) (x : ByteArray) (hx : x.size ≤ 9223372036854775807) (y : ByteArray) (hy : y.size ≤ 9223372036854775807) (w : World) :
  Calls Try.prog 7 #[.string S, .string x, .string y] w fun e w' => e = .returned (.bool true) ∧ Below w.heap.size w w' := by
 have KA := Lib.hid (awake16_any w)
 by_cases h1 : (300 : Int) < (S.size : Int)
 ·go_enter Try.func7, Try.ntmps7
  go_wp2_with fail
  refine KA.out.mono ?_
  rintro e w1 ⟨rfl, hb1⟩
  go_wp2_with fail
  go_ret
  exact ⟨rfl, hb1⟩
 by_cases h2 : (50 : Int) < (x.size : Int)
 ·go_enter Try.func7, Try.ntmps7
  go_wp2_with fail
  refine KA.out.mono ?_
  rintro e w1 ⟨rfl, hb1⟩
  go_wp2_with fail
  go_ret
  exact ⟨rfl, hb1⟩
 by_cases h3 : (50 : Int) < (y.size : Int)
 ·go_enter Try.func7, Try.ntmps7
  go_wp2_with fail
  refine KA.out.mono ?_
  rintro e w1 ⟨rfl, hb1⟩
  go_wp2_with fail
  go_ret
  exact ⟨rfl, hb1⟩
 have q1 : ¬ (9223372036854775807 < x.size + y.size) := by omega
 have hj := fun h h' => Pt.joins (S := bl S) (x := bl x) (y := bl y) h h'
 have hl := Pt.lenAt_longer (S := bl S) (x := bl x) (y := bl y)
 rw [← bl_append] at hj hl
 have hxy : (x ++ y).size ≤ 9223372036854775807 := by rw [ByteArray.size_append]; omega
 have he : bl (⟨#[]⟩ : ByteArray) = [] := rfl
 have I1 := Lib.hid (fun w => is_any ⟨#[]⟩ S true x w (by decide) hS hx)
 have I2 := Lib.hid (fun w => is_any ⟨#[]⟩ S true y w (by decide) hS hy)
 have I3 := Lib.hid (fun w => is_any ⟨#[]⟩ S true (x ++ y) w (by decide) hS hxy)
 have I4 := Lib.hid (fun w => is_any ⟨#[]⟩ S false (x ++ y) w (by decide) hS hxy)
 have L1 := Lib.hid (fun w => len_any ⟨#[]⟩ S false (x ++ y) 0 w (by decide) hS hxy)
 have L2 := Lib.hid (fun w => len_any ⟨#[]⟩ S true (x ++ y) 0 w (by decide) hS hxy)
 have L3 := Lib.hid (fun w => len_any ⟨#[]⟩ S true x 0 w (by decide) hS hx)
 rw [he] at I1 I2 I3 I4 L1 L2 L3
 obtain ⟨b1, hb1⟩ : ∃ b, Pt.is [] (bl S) true (bl x) = b := ⟨_, rfl⟩
 obtain ⟨b2, hb2⟩ : ∃ b, Pt.is [] (bl S) true (bl y) = b := ⟨_, rfl⟩
 obtain ⟨b3, hb3⟩ : ∃ b, Pt.is [] (bl S) true (bl (x ++ y)) = b := ⟨_, rfl⟩
 obtain ⟨b4, hb4⟩ : ∃ b, Pt.is [] (bl S) false (bl (x ++ y)) = b := ⟨_, rfl⟩
 obtain ⟨n1, hn1⟩ : ∃ b, Pt.lenAt [] (bl S) false (bl (x ++ y)) 0 = b := ⟨_, rfl⟩
 obtain ⟨n2, hn2⟩ : ∃ b, Pt.lenAt [] (bl S) true (bl (x ++ y)) 0 = b := ⟨_, rfl⟩
 obtain ⟨n3, hn3⟩ : ∃ b, Pt.lenAt [] (bl S) true (bl x) 0 = b := ⟨_, rfl⟩
 rw [hb1] at I1
 rw [hb2] at I2
 rw [hb3] at I3
 rw [hb4] at I4
 rw [hn1] at L1
 rw [hn2] at L2
 rw [hn3] at L3
 rw [hb1, hb2, hb3, hb4, hn1] at hj
 rw [hn2, hn3] at hl
 have q2 : (n3 : Int) ≤ (n2 : Int) := by omega
 have HJ := Lib.hid hj
 unfold patV at I1 I2 I3 I4 L1 L2 L3
 clear hj hl hxy he hb1 hb2 hb3 hb4 hn1 hn2 hn3
 go_enter Try.func7, Try.ntmps7
 go_wp2_with fail
 refine KA.out.mono ?_
 rintro e w0 ⟨rfl, hb0⟩
 have HB0 := Lib.hid hb0
 have hs0 := hb0.size
 clear hb0
 go_wp2_with (first
  | (refine wpList_store_at rfl _ _ _ rfl rfl w0.heap.size _ _ [_, _, _] rfl rfl (At.new w0 _ _) 3 Try.sizePat rfl rfl rfl ?_; intro w1 hA1 hg1)
  | (refine wpList_store_at rfl _ _ _ rfl rfl w1.heap.size _ _ [_, _, _] rfl rfl (At.new w1 _ _) 3 Try.sizePat rfl rfl rfl ?_; intro w2 hA2 hg2; obtain ⟨G, x0, hG, rfl, hB, ⟨k0, k1, k2⟩, ⟨j0, j1, j2⟩⟩ := two_laid hA1 hg1 hA2 hg2))
 have HG := Lib.hid hG
 have HB := Lib.hid (fun x => HB0.out.trans ((hB x).mono hs0))
 have I1 := Lib.hid (Qt.calls hG I1.out)
 have I2 := Lib.hid (Qt.calls hG I2.out)
 have I3 := Lib.hid (Qt.calls hG I3.out)
 have I4 := Lib.hid (Qt.calls hG I4.out)
 have L1 := Lib.hid (Qt.calls hG L1.out)
 have L2 := Lib.hid (Qt.calls hG L2.out)
 have L3 := Lib.hid (Qt.calls hG L3.out)
 clear hG hB hA1 hg1 hA2 hg2
 refine (I1.out _).mono ?_
 rintro e _ ⟨rfl, x1, rfl⟩
 have fin : b1 = false ∨ (b1 = true ∧ b2 = false) ∨ (b1 = true ∧ b2 = true ∧ b3 = true ∧ b4 = false ∧ n1 = 1) := by
  have h := HJ.out
  cases b1 with
  | false => exact .inl rfl
  | true =>
   cases b2 with
   | false => exact .inr (.inl ⟨rfl, rfl⟩)
   | true => exact .inr (.inr ⟨rfl, rfl, h rfl rfl⟩)
 rcases fin with hh | ⟨hh, hh2⟩ | ⟨hh, hh2, hh3, hh4, hh5⟩
 ·subst hh
  go_wp2_with fail
  refine Qt.start HG.out (by kernel_rfl) (by kernel_rfl) ?_
  repeat (go_big_quiet_step (first | with_reducible exact L2.out _ | with_reducible exact L3.out _))
  refine wpQuiet_nil ?_
  intro _ hw'
  obtain ⟨z, hw''⟩ := hw'
  subst hw''
  go_wp2_with fail
  go_ret
  exact ⟨rfl, HB.out _⟩
 ·subst hh hh2
  go_wp2_with fail
  refine (I2.out _).mono ?_
  rintro e _ ⟨rfl, x2, rfl⟩
  go_wp2_with fail
  refine Qt.start HG.out (by kernel_rfl) (by kernel_rfl) ?_
  repeat (go_big_quiet_step (first | with_reducible exact L2.out _ | with_reducible exact L3.out _))
  refine wpQuiet_nil ?_
  intro _ hw'
  obtain ⟨z, hw''⟩ := hw'
  subst hw''
  go_wp2_with fail
  go_ret
  exact ⟨rfl, HB.out _⟩
 ·subst hh hh2 hh3 hh4 hh5
  go_wp2_with fail
  refine (I2.out _).mono ?_
  rintro e _ ⟨rfl, x2, rfl⟩
  go_wp2_with fail
  refine (I3.out _).mono ?_
  rintro e _ ⟨rfl, x3, rfl⟩
  go_wp2_with fail
  refine (I4.out _).mono ?_
  rintro e _ ⟨rfl, x4, rfl⟩
  go_wp2_with fail
  refine (L1.out _).mono ?_
  rintro e _ ⟨rfl, x5, rfl⟩
  go_wp2_with fail
  refine Qt.start HG.out (by kernel_rfl) (by kernel_rfl) ?_
  repeat (go_big_quiet_step (first | with_reducible exact L2.out _ | with_reducible exact L3.out _))
  refine wpQuiet_nil ?_
  intro _ hw'
  obtain ⟨z, hw''⟩ := hw'
  subst hw''
  go_wp2_with fail
  go_ret
  exact ⟨rfl, HB.out _⟩
end Go.Proofs.Ytcjpmcmjnmcngaa
