import Derived.Test.YtcjpmcmjnmcngaaPtF
namespace Go.Proofs.Ytcjpmcmjnmcngaa
set_option maxRecDepth 100000
open Go.RowKit Go.ChangeShapes Go.WideShapes Go.ChangeAt
set_option linter.unusedVariables false
set_option linter.unusedSimpArgs false
theorem Try.sizePat : (Try.prog.info? 23).map (·.size) = some 3 := by kernel_rfl
def dgB : ByteArray := ⟨#[48, 49, 50, 51, 52, 53, 54, 55, 56, 57]⟩
def ltB : ByteArray := ⟨#[97, 98, 99, 100, 101, 102, 103, 104, 105, 106, 107, 108, 109, 110, 111, 112, 113, 114, 115, 116, 117, 118, 119, 120, 121, 122]⟩
theorem aw_l0 : Pt.lenAt (bl ⟨#[]⟩) (bl dgB) true (bl ⟨#[49, 50, 97]⟩) 0 = 2 := by decide +kernel
theorem aw_l1 : Pt.lenAt (bl ⟨#[]⟩) (bl dgB) true (bl ⟨#[49, 50, 97]⟩) 1 = 1 := by decide +kernel
theorem aw_l2 : Pt.lenAt (bl ⟨#[]⟩) (bl dgB) true (bl ⟨#[49, 50, 97]⟩) 2 = 0 := by decide +kernel
theorem aw_m1 : Pt.meets (bl ⟨#[105, 102]⟩) (bl ⟨#[]⟩) false (bl ⟨#[]⟩) (bl ltB) true = true := by decide +kernel
theorem aw_m2 : Pt.meets (bl ⟨#[105, 32, 102]⟩) (bl ⟨#[]⟩) false (bl ⟨#[]⟩) (bl ltB) true = false := by decide +kernel
theorem aw_e : Pt.ex (bl ⟨#[]⟩) (bl dgB) = [48] := by decide +kernel
theorem aw_cells {w w1 w2 : World} {t : TypeId} {a0 a1 a2 b0 b1 b2 : Value} {o o' : Obj} (hA1 : At w1 w.heap.size t [a0, a1, a2].toArray) (hg1 : (w.alloc o).grownBy w1 (some w.heap.size)) (hA2 : At w2 w1.heap.size t [b0, b1, b2].toArray) (hg2 : (w1.alloc o').grownBy w2 (some w1.heap.size)) :
  (Hid (Below w.heap.size w w2) ∧ Hid (w.heap.size ≤ w2.heap.size) ∧ Hid (∀ w', Below w2.heap.size w2 w' → (w'.cell? ⟨w.heap.size, 0, none⟩ = some a0 ∧ w'.cell? ⟨w.heap.size, 1, none⟩ = some a1 ∧ w'.cell? ⟨w.heap.size, 2, none⟩ = some a2) ∧ (w'.cell? ⟨w1.heap.size, 0, none⟩ = some b0 ∧ w'.cell? ⟨w1.heap.size, 1, none⟩ = some b1 ∧ w'.cell? ⟨w1.heap.size, 2, none⟩ = some b2))) ∧
  (w2.cell? ⟨w.heap.size, 0, none⟩ = some a0 ∧ w2.cell? ⟨w.heap.size, 1, none⟩ = some a1 ∧ w2.cell? ⟨w.heap.size, 2, none⟩ = some a2) ∧ (w2.cell? ⟨w1.heap.size, 0, none⟩ = some b0 ∧ w2.cell? ⟨w1.heap.size, 1, none⟩ = some b1 ∧ w2.cell? ⟨w1.heap.size, 2, none⟩ = some b2) := by
 have hl1 := hA1.lt
 have hs1 := hg1.size
 have hs2 := hg2.size
 rw [World.size_alloc] at hs1 hs2
 have hB1 : Below w.heap.size w w1 := below_grown ((Below.refl _ _).alloc (Nat.le_refl _) o) hg1 (by simp) (Nat.le_refl _)
 have hB2 : Below w.heap.size w w2 := below_grown (hB1.alloc (by omega) o') hg2 (by simp; omega) (by omega)
 have hA1' : At w2 w.heap.size t [a0, a1, a2].toArray := (hA1.alloc o').grown hg2 (fun e => by injection e with e; omega)
 have hl1' := hA1'.lt
 have hl2' := hA2.lt
 have k0 := hA1'.cell 0
 have k1 := hA1'.cell 1
 have k2 := hA1'.cell 2
 have j0 := hA2.cell 0
 have j1 := hA2.cell 1
 have j2 := hA2.cell 2
 simp only [List.getElem?_toArray, List.getElem?_cons_zero, List.getElem?_cons_succ] at k0 k1 k2 j0 j1 j2
 exact ⟨⟨Lib.hid hB2, Lib.hid hB2.size, Lib.hid (fun w' hb =>
  ⟨⟨(hb.cell (p := ⟨w.heap.size, 0, none⟩) hl1').trans k0, (hb.cell (p := ⟨w.heap.size, 1, none⟩) hl1').trans k1, (hb.cell (p := ⟨w.heap.size, 2, none⟩) hl1').trans k2⟩,
   ⟨(hb.cell (p := ⟨w1.heap.size, 0, none⟩) hl2').trans j0, (hb.cell (p := ⟨w1.heap.size, 1, none⟩) hl2').trans j1, (hb.cell (p := ⟨w1.heap.size, 2, none⟩) hl2').trans j2⟩⟩)⟩, ⟨k0, k1, k2⟩, j0, j1, j2⟩
set_option maxHeartbeats 4000000 in
theorem awake16_any (w : World) : Calls Try.prog 9 #[] w fun e w' => e = .returned (.bool true) ∧ Below w.heap.size w w' := by
 have K1 := Lib.hid (fun w => len_any ⟨#[]⟩ dgB true ⟨#[49, 50, 97]⟩ 0 w (by decide) (by decide) (by decide))
 have K2 := Lib.hid (fun w => len_any ⟨#[]⟩ dgB true ⟨#[49, 50, 97]⟩ 1 w (by decide) (by decide) (by decide))
 have K3 := Lib.hid (fun w => len_any ⟨#[]⟩ dgB true ⟨#[49, 50, 97]⟩ 2 w (by decide) (by decide) (by decide))
 have K4 := Lib.hid (fun w => meets_any ⟨#[105, 102]⟩ ⟨#[]⟩ false ⟨#[]⟩ ltB true w (by decide) (by decide) (by decide) (by decide))
 have K5 := Lib.hid (fun w => meets_any ⟨#[105, 32, 102]⟩ ⟨#[]⟩ false ⟨#[]⟩ ltB true w (by decide) (by decide) (by decide) (by decide))
 have K6 := Lib.hid (fun w => example_any ⟨#[]⟩ dgB true w (by decide) (by decide))
 rw [aw_l0] at K1
 rw [aw_l1] at K2
 rw [aw_l2] at K3
 rw [aw_m1] at K4
 rw [aw_m2] at K5
 rw [aw_e] at K6
 unfold patV at K1 K2 K3 K4 K5 K6
 unfold dgB at K1 K2 K3 K6
 unfold ltB at K4 K5
 have f2 : ((str [48]).toList == (⟨#[48]⟩ : ByteArray).toList) = true := by rw [toList_eq, toList_eq, bl_str]; rfl
 have e1 : (⟨#[48]⟩ : ByteArray).toList = [48] := by rw [toList_eq]; rfl
 rw [e1] at f2
 clear e1
 go_enter Try.func9, Try.ntmps9
 go_wp2_with (first
  | (refine wpList_store_at rfl _ _ _ rfl rfl w.heap.size _ _ [_, _, _] rfl rfl (At.new w _ _) 3 Try.sizePat rfl rfl rfl ?_; intro w1 hA1 hg1)
  | (refine wpList_store_at rfl _ _ _ rfl rfl w1.heap.size _ _ [_, _, _] rfl rfl (At.new w1 _ _) 3 Try.sizePat rfl rfl rfl ?_; intro w2 hA2 hg2; obtain ⟨⟨Kb, Kl, Kc⟩, ⟨⟨k0, k1, k2⟩, ⟨j0, j1, j2⟩⟩⟩ := aw_cells hA1 hg1 hA2 hg2))
 have B2 : Hid (Below w2.heap.size w2 w2) := Lib.hid (Below.refl _ _)
 refine (K1.out _).mono ?_
 rintro e w3 ⟨rfl, hb⟩
 have B3 := Lib.hid (B2.out.trans (hb.mono B2.out.size))
 clear hb k0 k1 k2 j0 j1 j2
 obtain ⟨⟨k0, k1, k2⟩, ⟨j0, j1, j2⟩⟩ := Kc.out w3 B3.out
 go_wp2_with fail
 refine (K2.out _).mono ?_
 rintro e w4 ⟨rfl, hb⟩
 have B4 := Lib.hid (B3.out.trans (hb.mono B3.out.size))
 clear hb k0 k1 k2 j0 j1 j2
 obtain ⟨⟨k0, k1, k2⟩, ⟨j0, j1, j2⟩⟩ := Kc.out w4 B4.out
 go_wp2_with fail
 refine (K3.out _).mono ?_
 rintro e w5 ⟨rfl, hb⟩
 have B5 := Lib.hid (B4.out.trans (hb.mono B4.out.size))
 clear hb k0 k1 k2 j0 j1 j2
 obtain ⟨⟨k0, k1, k2⟩, ⟨j0, j1, j2⟩⟩ := Kc.out w5 B5.out
 go_wp2_with fail
 refine (K4.out _).mono ?_
 rintro e w6 ⟨rfl, hb⟩
 have B6 := Lib.hid (B5.out.trans (hb.mono B5.out.size))
 clear hb k0 k1 k2 j0 j1 j2
 obtain ⟨⟨k0, k1, k2⟩, ⟨j0, j1, j2⟩⟩ := Kc.out w6 B6.out
 go_wp2_with fail
 refine (K5.out _).mono ?_
 rintro e w7 ⟨rfl, hb⟩
 have B7 := Lib.hid (B6.out.trans (hb.mono B6.out.size))
 clear hb k0 k1 k2 j0 j1 j2
 obtain ⟨⟨k0, k1, k2⟩, ⟨j0, j1, j2⟩⟩ := Kc.out w7 B7.out
 go_wp2_with fail
 refine (K6.out _).mono ?_
 rintro e w8 ⟨rfl, hb⟩
 have B8 := Lib.hid (B7.out.trans (hb.mono B7.out.size))
 clear hb k0 k1 k2 j0 j1 j2
 go_wp2_with fail
 go_ret
 exact ⟨rfl, Kb.out.trans (B8.out.mono Kl.out)⟩
end Go.Proofs.Ytcjpmcmjnmcngaa
