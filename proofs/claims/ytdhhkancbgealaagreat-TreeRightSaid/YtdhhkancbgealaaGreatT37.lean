import Derived.Test.YtdhhkancbgealaaGreatT36
import Derived.Test.YtdhhkancbgealaaGreatT14
import Derived.Test.YtdhhkancbgealaaGreatT24
import Derived.Test.YtdhhkancbgealaaGreatT30
import Derived.Test.YtdhhkancbgealaaGreatT20
section
/-
  The walk over tronagelaw18.made.
-/
namespace Go.Proofs.YtdhhkancbgealaaGreat
open Go.RowKit Go.Shelf
open Lx
set_option linter.unusedVariables false
set_option linter.unusedSimpArgs false
set_option maxRecDepth 100000

theorem Tr.told_small {P : Nm.Plan} (h : PlanS P) (L : List Tr.Nd) (o : Tr.Op) (ho : o.ks.length ≤ 10) : (Tr.told P L o).ks.length ≤ 1000000 := by
  unfold Tr.told
  split
  · have h1 := Tr.pick_len L (Tr.toldP P o).right.length L.length [] (Nat.zero_le _)
    have h2 : (Tr.toldP P o).right.length ≤ 1000 := by
      have h3 := Tr.toldR_in h.two.1 o
      unfold Tr.toldP
      rw [List.getD_eq_getElem?_getD, List.getElem?_eq_getElem (by omega)]
      exact h.right _ (List.getElem_mem _)
    show (Tr.lastKids L (Tr.toldP P o).right.length).length ≤ _
    unfold Tr.lastKids
    omega
  · omega
theorem Tr.few_of {l : List Tr.Op} (h : Tr.few l = true) : l.length ≤ 40 ∧ ∀ o ∈ l, o.ks.length ≤ 10 := by
  unfold Tr.few at h
  rw [Bool.and_eq_true] at h
  exact ⟨of_decide_eq_true h.2, fun o ho => of_decide_eq_true (List.all_eq_true.1 h.1 o ho)⟩

set_option maxHeartbeats 8000000 in
theorem made_any (pv : Value) (P : Nm.Plan) (vo : Value) (os : List Tr.Op) (w : World) (B0 : Nat) (hp : PlanR w pv P) (hP : PlanS P) (hO : OpsC w B0 vo os) (hB0 : B0 ≤ w.heap.size) (hin : ∀ o ∈ os, opIn o) (hf : Tr.few os = true) :
    Calls Tryz.prog 35 #[pv, vo] w fun e w' => ∃ B tg g mb rt rm, e = .returned (.tuple #[.pointer (some ⟨tg, 0, none⟩), .pointer (some ⟨rt, 0, none⟩)]) ∧ Duo w' B tg g mb rt rm 1000 (Tr.run P 1000 [] os) (Tr.run P 1000 [] os) ∧ w.heap.size ≤ B ∧ Below w.heap.size w w' := by
  obtain ⟨P1, c1, P2, c2, P3, c3, P4, c4, P5, c5, P6, c6, rfl, _⟩ := id hp.ex
  obtain ⟨n1, hn1⟩ : ∃ n, P.terms.length = n := ⟨_, rfl⟩
  obtain ⟨n2, hn2⟩ : ∃ n, P.vars.length = n := ⟨_, rfl⟩
  obtain ⟨n3, hn3⟩ : ∃ n, P.rules.length = n := ⟨_, rfl⟩
  obtain ⟨n4, hn4⟩ : ∃ n, P.levels.length = n := ⟨_, rfl⟩
  obtain ⟨n5, hn5⟩ : ∃ n, P.assocs.length = n := ⟨_, rfl⟩
  obtain ⟨n6, hn6⟩ : ∃ n, P.acts.length = n := ⟨_, rfl⟩
  rw [hn1, hn2, hn3, hn4, hn5, hn6] at hp ⊢
  obtain ⟨AO, cO, ql, rfl, _⟩ := id hO
  obtain ⟨hl40, hfw⟩ := Tr.few_of hf
  obtain ⟨n, hN⟩ : ∃ n, os.length = n := ⟨_, rfl⟩
  rw [hN] at hO hl40 ⊢
  obtain ⟨W1, hW1⟩ : ∃ W, w.alloc (.cells #[.slice P1 n1 c1, .slice P2 n2 c2, .slice P3 n3 c3, .slice P4 n4 c4, .slice P5 n5 c5, .slice P6 n6 c6] 34) = W := ⟨_, rfl⟩
  have a1 : At W1 w.heap.size 34 #[.slice P1 n1 c1, .slice P2 n2 c2, .slice P3 n3 c3, .slice P4 n4 c4, .slice P5 n5 c5, .slice P6 n6 c6] := by rw [← hW1]; exact At.new _ _ _
  have hb1 : Below w.heap.size w W1 := by rw [← hW1]; exact (Below.refl w.heap.size w).alloc (Nat.le_refl _) _
  have hs1 : W1.heap.size = w.heap.size + 1 := by rw [← hW1]; simp
  have HN := Lib.hid hN
  have HW1 := Lib.hid hW1
  have HS1 := Lib.hid hs1
  have HP1 := Lib.hid (hp.below hb1)
  have HA1 := Lib.hid a1
  have HO1 := Lib.hid (hO.below (hb1.mono hB0))
  have HB1 := Lib.hid hb1
  have HPS := Lib.hid hP
  have HIN := Lib.hid hin
  have HFW := Lib.hid hfw
  have HB0 := Lib.hid hB0
  clear hp hP hO hin hf hn1 hn2 hn3 hn4 hn5 hn6 hN hfw hW1 a1 hb1 hs1 hB0
  go_enter Tryz.func35, Tryz.ntmps35
  go_wp2_with fail
  rw [HW1.out]
  refine (new_any 1000 _).mono ?_
  rintro e w2 ⟨rfl, hw2⟩
  have hM : At w2 W1.heap.size 87 #[.int .i64 1000, .int .i64 0, .int .i64 0] := by
    rw [← hw2, show hld 1000 = 1000 from rfl]; exact At.new _ _ _
  have hb2 : Below W1.heap.size W1 w2 := by rw [← hw2]; exact (Below.refl _ _).alloc (Nat.le_refl _) _
  have HNW := Lib.hid (tnew_any W1.heap.size W1.heap.size 1000 0 w2 hM (by omega) hb2.size (Nat.le_refl _))
  have HB2 := Lib.hid hb2
  clear hw2 hM hb2
  go_wp2_with fail
  refine HNW.out.mono ?_
  rintro e w3 ⟨tg, g, rfl, hT, htg, hb3⟩
  obtain ⟨W0, hW0⟩ : ∃ W, (w3.alloc (.cells #[.int .i64 1000, .int .i64 0, .int .i64 0] 44)).alloc (.cells #[.pointer (some ⟨w3.heap.size, 0, none⟩), .slice none 0 0] 47) = W := ⟨_, rfl⟩
  have hb4 : Below w3.heap.size w3 W0 := by rw [← hW0]; exact ((Below.refl _ _).alloc (Nat.le_refl _) _).alloc (by simp) _
  have hb13 : Below W1.heap.size W1 w3 := HB2.out.trans (hb3.mono HB2.out.size)
  have hb10 : Below W1.heap.size W1 W0 := hb13.trans (hb4.mono hb13.size)
  obtain ⟨mb, hmb⟩ : ∃ mb, mb = W1.heap.size := ⟨_, rfl⟩
  have hDU : Duo W0 W1.heap.size tg g mb (w3.heap.size + 1) w3.heap.size 1000 [] [] := by
    rw [hmb]
    refine ⟨⟨0, [], hT.below hb4, rfl⟩, ⟨0, .slice none 0 0, [], ⟨?_, World.ownsRow_nil _ _ _ _, ⟨Nat.le_succ_of_le hb13.size, hb13.size⟩, ?_, fun s hs => absurd hs (by simp), ⟨by decide, by decide⟩, fun s hs => absurd hs (by simp)⟩, rfl⟩, hb10.size⟩
    · have := At.new (w3.alloc (.cells #[.int .i64 1000, .int .i64 0, .int .i64 0] 44)) 47 #[.pointer (some ⟨w3.heap.size, 0, none⟩), .slice none 0 0]
      rw [hW0, World.size_alloc] at this
      exact this
    · have := (At.new w3 44 #[.int .i64 1000, .int .i64 0, .int .i64 0]).alloc (.cells #[.pointer (some ⟨w3.heap.size, 0, none⟩), .slice none 0 0] 47)
      rw [hW0] at this
      exact this
  have HDU0 := Lib.hid hDU
  have HPR := Lib.hid (HP1.out.below hb10)
  have HO := Lib.hid (HO1.out.below (hb10.mono (by have := HB0.out; have := HS1.out; omega)))
  have HA0 := Lib.hid (HA1.out.below hb10 (by have := HS1.out; omega))
  have HB10 := Lib.hid hb10
  have HW0 := Lib.hid hW0
  have hB0W : B0 ≤ W0.heap.size := by have := hb10.size; have := HB0.out; have := HS1.out; omega
  have hB0B : B0 ≤ W1.heap.size := by have := HB0.out; have := HS1.out; omega
  have hpB : w.heap.size < W1.heap.size := by have := HS1.out; omega
  have p0 := HA0.out.cell 0
  have p1 := HA0.out.cell 1
  have p2 := HA0.out.cell 2
  have p3 := HA0.out.cell 3
  have p4 := HA0.out.cell 4
  have p5 := HA0.out.cell 5
  simp only [List.getElem?_toArray, List.getElem?_cons_zero, List.getElem?_cons_succ] at p0 p1 p2 p3 p4 p5
  obtain ⟨rt, hrt⟩ : ∃ rt, w3.heap.size + 1 = rt := ⟨_, rfl⟩
  obtain ⟨rm, hrm⟩ : ∃ rm, w3.heap.size = rm := ⟨_, rfl⟩
  rw [hrt, hrm] at HDU0
  have HRT := Lib.hid hrt
  have HRM := Lib.hid hrm
  obtain ⟨B, hB⟩ : ∃ B, W1.heap.size = B := ⟨_, rfl⟩
  rw [hB] at HDU0 HB10 hB0B hpB
  obtain ⟨pb, hpb⟩ : ∃ pb, w.heap.size = pb := ⟨_, rfl⟩
  rw [hpb] at p0 p1 p2 p3 p4 p5 hpB
  have HPB := Lib.hid hpb
  have HBB := Lib.hid hB
  clear hT htg hb3 HNW HB2 hW0 hb4 hb13 hb10 hDU hrt hrm hmb hB hpb HO1 HP1 HA1
  go_wp2_with fail
  rw [HW0.out, HRT.out, HPB.out]
  go_loopw [8] (fun i wr => ∃ j : Nat, j ≤ n ∧ i = .int .i64 (j : Int) ∧ Duo wr B tg g mb rt rm 1000 (Tr.run P 1000 [] (os.take j)) (Tr.run P 1000 [] (os.take j)) ∧ Spares both18 W0 wr ∧ Below B W0 wr) (fun i _ => n - (intOf i).toNat)
  case atStart => exact ⟨0, by omega, rfl, HDU0.out, Spares.refl _ _, Below.refl _ _⟩
  case round =>
    obtain ⟨j, hj, rfl, hdu, hsp, hblw⟩ := hrel
    obtain ⟨LL, hLL⟩ : ∃ x, Tr.run P 1000 [] (os.take j) = x := ⟨_, rfl⟩
    rw [hLL] at hdu
    have HLL := Lib.hid hLL
    have HDU := Lib.hid hdu
    have HSP := Lib.hid hsp
    have HBL := Lib.hid hblw
    clear hdu hsp hblw hLL
    by_cases hlt : j < n
    · have hji : (j : Int) < (n : Int) := by omega
      have hj0 : (0 : Int) ≤ (j : Int) := by omega
      obtain ⟨o, ho⟩ : ∃ o, os[j]? = some o := ⟨_, List.getElem?_eq_getElem (by rw [HN.out]; exact hlt)⟩
      obtain ⟨b, q, rfl, hbl, A', c', ⟨A2, c2', hv, hcap, hcl⟩, hcells⟩ := HO.out.at_ ho
      injection hv with hv1 _ hv2
      subst hv1 hv2
      have HSTEP := Lib.hid (show Tr.run P 1000 [] (os.take (j + 1)) = Tr.step 1000 LL (Tr.told P LL o) by rw [take_snocT ho, Tr.run_snoc, HLL.out])
      have hom := List.mem_of_getElem? ho
      have hten := (HFW.out o hom)
      have hKO : KOk W0 B0 A' o.ks := .inl ⟨hcl, hB0W⟩
      have y0 := hcells 0 _ rfl
      have y1 := hcells 1 _ rfl
      have y2 := hcells 2 _ rfl
      have y3 := hcells 3 _ rfl
      have y4 := hcells 4 _ rfl
      have y5 := hcells 5 _ rfl
      have y6 := hcells 6 _ rfl
      simp only [Nat.add_zero] at y0
      rw [← Nat.add_assoc] at y1 y2 y3 y4 y5 y6
      have hbB : b < B := Nat.lt_of_lt_of_le hbl hB0B
      have hTL : (Tr.told P LL o).ks.length ≤ 1000000 := Tr.told_small HPS.out _ o hten
      have HTL := Lib.hid hTL
      have HTO := Lib.hid (show Calls Tryz.prog 14 #[.agg #[.slice P1 n1 c1, .slice P2 n2 c2, .slice P3 n3 c3, .slice P4 n4 c4, .slice P5 n5 c5, .slice P6 n6 c6], .pointer (some ⟨rt, 0, none⟩), .agg #[.int .i64 o.d, .int .i64 o.r, .int .i64 o.s, .int .i64 o.x.t, .int .i64 o.x.a, .int .i64 o.x.b, .slice A' o.ks.length c']] wr.drew fun e w' => ∃ A5 c5', e = .returned (.agg (opC (Tr.told P LL o, .slice A5 (Tr.told P LL o).ks.length c5')).toArray) ∧ KOk w' B0 A5 (Tr.told P LL o).ks ∧ (Tr.told P LL o).ks.length ≤ c5' ∧ Below wr.drew.heap.size wr.drew w' from by
        obtain ⟨m5, v5, S5, k5, k6⟩ := HDU.out.ref
        have hw : Below wr.heap.size wr wr.drew := below_drew (Below.refl _ _)
        have := told_any (.agg #[.slice P1 n1 c1, .slice P2 n2 c2, .slice P3 n3 c3, .slice P4 n4 c4, .slice P5 n5 c5, .slice P6 n6 c6]) P o A' c' wr.drew B0 B rt rm 1000 m5 v5 S5 ((HPR.out.spares HSP.out (by decide) (by decide) (by decide)).below hw) HPS.out (k5.below hw) (HIN.out o hom).2.1 ((hKO.step HSP.out (by decide) (HBL.out.mono hB0B)).below hw) hcap
        rw [k6] at this
        exact this)
      obtain ⟨kn, hkn⟩ : ∃ kn, o.ks.length = kn := ⟨_, rfl⟩
      rw [hkn] at y6 HTO
      clear ho hcells hcl hcap hom hten hKO hTL hkn hbl
      go_wp2_with fail
      have hz0 : Below B W0 wr.drew := below_drew HBL.out
      refine Zed.begin_ (fun w' => Below B W0 w') [] (by kernel_rfl) ?_
      refine Zd.pureD (i := 0) (d := some 24) (v := ?vm0) rfl rfl (by kernel_rfl) (by kernel_rfl) (by kernel_rfl) (by kernel_rfl) (by kernel_rfl) (fun _ _ _ h => h) (Or.inl ⟨by kernel_rfl, ?hym0⟩) (.inr hz0) ?restm0
      case hym0 => (intro w _; go_simp; try with_reducible rfl)
      try simp only [Act.put, List.setIfInBounds_toArray, List.set_cons_zero, List.set_cons_succ]
      refine Zd.pureD (i := 1) (d := some 25) (v := ?vm1) rfl rfl (by kernel_rfl) (by kernel_rfl) (by kernel_rfl) (by kernel_rfl) (by kernel_rfl) (fun _ _ _ h => h) (Or.inl ⟨by kernel_rfl, ?hym1⟩) (.inr hz0) ?restm1
      case hym1 => (intro w _; go_simp; try with_reducible rfl)
      try simp only [Act.put, List.setIfInBounds_toArray, List.set_cons_zero, List.set_cons_succ]
      refine Zd.takeD (i := 2) (d := some 26) (v := ?vm2) rfl rfl (by kernel_rfl) (by kernel_rfl) (by kernel_rfl) (by kernel_rfl) (by kernel_rfl) (fun _ _ _ h => h) (Or.inl ⟨by kernel_rfl, ?hym2⟩) hz0 ?restm2
      case hym2 => (intro w hSw; (try dsimp only at hSw); have k0 := (hSw.cell (p := ⟨pb, 0, none⟩) hpB).trans p0; have k1 := (hSw.cell (p := ⟨pb, 1, none⟩) hpB).trans p1; have k2 := (hSw.cell (p := ⟨pb, 2, none⟩) hpB).trans p2; have k3 := (hSw.cell (p := ⟨pb, 3, none⟩) hpB).trans p3; have k4 := (hSw.cell (p := ⟨pb, 4, none⟩) hpB).trans p4; have k5 := (hSw.cell (p := ⟨pb, 5, none⟩) hpB).trans p5; go_simp; try with_reducible rfl)
      try simp only [Act.put, List.setIfInBounds_toArray, List.set_cons_zero, List.set_cons_succ]
      refine Zd.pureD (i := 3) (d := some 27) (v := ?vm3) rfl rfl (by kernel_rfl) (by kernel_rfl) (by kernel_rfl) (by kernel_rfl) (by kernel_rfl) (fun _ _ _ h => h) (Or.inl ⟨by kernel_rfl, ?hym3⟩) (.inr hz0) ?restm3
      case hym3 => (intro w _; go_simp; try with_reducible rfl)
      try simp only [Act.put, List.setIfInBounds_toArray, List.set_cons_zero, List.set_cons_succ]
      refine Zd.pureD (i := 4) (d := some 28) (v := ?vm4) rfl rfl (by kernel_rfl) (by kernel_rfl) (by kernel_rfl) (by kernel_rfl) (by kernel_rfl) (fun _ _ _ h => h) (Or.inl ⟨by kernel_rfl, ?hym4⟩) (.inr hz0) ?restm4
      case hym4 => (intro w _; go_simp; try with_reducible rfl)
      try simp only [Act.put, List.setIfInBounds_toArray, List.set_cons_zero, List.set_cons_succ]
      refine Zd.pureD (i := 5) (d := some 29) (v := ?vm5) rfl rfl (by kernel_rfl) (by kernel_rfl) (by kernel_rfl) (by kernel_rfl) (by kernel_rfl) (fun _ _ _ h => h) (Or.inl ⟨by kernel_rfl, ?hym5⟩) (.inr hz0) ?restm5
      case hym5 => (intro w _; go_simp; try with_reducible rfl)
      try simp only [Act.put, List.setIfInBounds_toArray, List.set_cons_zero, List.set_cons_succ]
      refine Zd.pureD (i := 6) (d := some 30) (v := ?vm6) rfl rfl (by kernel_rfl) (by kernel_rfl) (by kernel_rfl) (by kernel_rfl) (by kernel_rfl) (fun _ _ _ h => h) (Or.inl ⟨by kernel_rfl, ?hym6⟩) (.inr hz0) ?restm6
      case hym6 => (intro w _; go_simp; try with_reducible rfl)
      try simp only [Act.put, List.setIfInBounds_toArray, List.set_cons_zero, List.set_cons_succ]
      refine Zd.takeD (i := 7) (d := some 31) (v := ?vm7) rfl rfl (by kernel_rfl) (by kernel_rfl) (by kernel_rfl) (by kernel_rfl) (by kernel_rfl) (fun _ _ _ h => h) (Or.inl ⟨by kernel_rfl, ?hym7⟩) hz0 ?restm7
      case hym7 => (intro w hSw; (try dsimp only at hSw); have k0 := (hSw.cell (p := ⟨b, q + j * 7, none⟩) hbB).trans y0; have k1 := (hSw.cell (p := ⟨b, q + j * 7 + 1, none⟩) hbB).trans y1; have k2 := (hSw.cell (p := ⟨b, q + j * 7 + 2, none⟩) hbB).trans y2; have k3 := (hSw.cell (p := ⟨b, q + j * 7 + 3, none⟩) hbB).trans y3; have k4 := (hSw.cell (p := ⟨b, q + j * 7 + 4, none⟩) hbB).trans y4; have k5 := (hSw.cell (p := ⟨b, q + j * 7 + 5, none⟩) hbB).trans y5; have k6 := (hSw.cell (p := ⟨b, q + j * 7 + 6, none⟩) hbB).trans y6; go_simp; try with_reducible rfl)
      try simp only [Act.put, List.setIfInBounds_toArray, List.set_cons_zero, List.set_cons_succ]
      refine Zd.call (i := 8) (d := some 32) (by kernel_rfl) rfl rfl (by kernel_rfl) (by kernel_rfl) HTO.out ?_
      rintro e w2 ⟨A5, c5', rfl, hk5, hc5, hb5⟩
      have HB5 := Lib.hid ((below_drew (Below.refl wr.heap.size wr)).trans (hb5.mono (by simp)))
      have HK5 := Lib.hid hk5
      have hz1 := hz0.trans (hb5.mono (Nat.le_trans HDU.out.size (by simp)))
      have HDO := Lib.hid (done_any (Tr.told P LL o) A5 c5' w2 B0 B tg g mb rt rm 1000 LL (HDU.out.below HB5.out) hk5 hB0B hc5 (HTL.out))
      clear hk5 hc5 hb5 HTO
      refine ⟨_, rfl, hz1, ?_⟩
      try simp only [Act.put, List.setIfInBounds_toArray, List.set_cons_zero, List.set_cons_succ]
      refine Zd.call (i := 9) (d := some 33) (by kernel_rfl) rfl rfl (by kernel_rfl) (by kernel_rfl) HDO.out ?_
      rintro e w3 ⟨rfl, hdu, hsp, hbl3⟩
      have hz2 := hz1.trans hbl3
      have HDN := Lib.hid hdu
      have HSPN := Lib.hid (HSP.out.trans ((spares_belowT HB5.out both18).trans hsp))
      have HBLN := Lib.hid hz2
      clear hdu hsp hbl3 HDO
      refine ⟨_, rfl, hz2, ?_⟩
      try simp only [Act.put, List.setIfInBounds_toArray, List.set_cons_zero, List.set_cons_succ]
      refine Zed.all (by kernel_rfl) ?_ _
      clear hz0 hz1 hz2
      go_wp2_with fail
      go_roundw
      case rel => exact ⟨j + 1, by omega, by go_num, by rw [HSTEP.out]; exact HDN.out, HSPN.out, HBLN.out⟩
      case measure => simp [intOf]; omega
    · obtain rfl : n = j := by omega
      rw [List.take_of_length_le (by rw [HN.out]; exact Nat.le_refl _)] at HLL
      go_wp2_with fail
      go_ret2
      exact ⟨B, tg, g, mb, rt, rm, rfl, by rw [HLL.out]; exact HDU.out, by have := HBB.out; have := HS1.out; omega, HB1.out.trans ((HB10.out.mono (Nat.le_of_eq HBB.out)).trans (HBL.out.mono (Nat.le_of_eq HBB.out)) |>.mono HB1.out.size)⟩

end Go.Proofs.YtdhhkancbgealaaGreat
end
section
namespace Go.Proofs.YtdhhkancbgealaaGreat
open Go.RowKit Go.Shelf
open Lx
set_option linter.unusedVariables false
set_option linter.unusedSimpArgs false
set_option maxRecDepth 100000
theorem few_partsT {s : Sm.S} {r k : Nat} (h : Sm.few s r k = true) : s.lefts.length ≤ r ∧ Sm.nl s ≤ 5 ∧ ∀ l ∈ s.rights, l.length ≤ k := by
 unfold Sm.few at h
 rw [Bool.and_eq_true] at h
 obtain ⟨h1, h2⟩ := h
 have h1 := of_decide_eq_true h1
 refine ⟨h1.1, h1.2, fun l hl => ?_⟩
 have := List.all_eq_true.1 h2 l hl
 simpa using this
theorem Tr.Good.kid_in {L : List Tr.Nd} (h : Tr.Good L) {i k : Int} (hk : k ∈ Tr.kidsOf L i) : Tr.has L k = true := by
 have h1 := h.down i k hk
 have h2 := Tr.has_true (Tr.kidsOf_has hk)
 unfold Tr.has; exact decide_eq_true (by omega)
theorem Tr.Good.kids_len {L : List Tr.Nd} (h : Tr.Good L) (i : Int) : (Tr.kidsOf L i).length ≤ L.length :=
 Tr.nodup_len _ _ (List.nodup_iff_count.2 fun x => by rw [h.kid_count]; split <;> omega) (fun k hk => Tr.has_true (h.kid_in hk))
structure Tell (w : World) (tg : Nat) (L : List Tr.Nd) : Prop where
 len : ∀ w', Below w.heap.size w w' → Calls Tryz.prog 15 #[.pointer (some ⟨tg, 0, none⟩)] w' fun e w'' => e = .returned (.int .i64 (L.length : Int)) ∧ w' = w''
 kids : ∀ (i : Int) w', Below w.heap.size w w' → Calls Tryz.prog 25 #[.pointer (some ⟨tg, 0, none⟩), .int .i64 i] w' fun e w'' => ∃ A c, e = .returned (.slice A (Tr.at_ L i).kids.length c) ∧ w''.ownsRow w'.heap.size 3 1 (.slice A (Tr.at_ L i).kids.length c) (Tr.at_ L i).kids.length (vals (Tr.at_ L i).kids) ∧ Below w'.heap.size w' w''
 below : ∀ (i : Int) w', Below w.heap.size w w' → Calls Tryz.prog 26 #[.pointer (some ⟨tg, 0, none⟩), .int .i64 i] w' fun e w'' => ∃ A c, e = .returned (.slice A (Tr.below L i).length c) ∧ w''.ownsRow w'.heap.size 3 1 (.slice A (Tr.below L i).length c) (Tr.below L i).length (vals (Tr.below L i)) ∧ Below w'.heap.size w' w''
theorem Duo.tell {w : World} {B tg g mb rt rm : Nat} {l : Int} {L M : List Tr.Nd} (h : Duo w B tg g mb rt rm l L M) (hg : Tr.Good L) (hl : L.length ≤ 40) : Tell w tg L := by
 obtain ⟨m, S, h1, rfl⟩ := h.tree
 have hbl := fun i => hg.bel_len i
 exact ⟨fun w' hb => tlen_any w' B tg g mb l m S (h1.below hb), fun i w' hb => tkids_any i w' B tg g mb l m S (h1.below hb), fun i w' hb => tbelow_any i w' B tg g mb l m S (h1.below hb) hg.down (by have := hbl i; omega)⟩
end Go.Proofs.YtdhhkancbgealaaGreat
end
section
namespace Go.Proofs.YtdhhkancbgealaaGreat
set_option linter.unusedVariables false
set_option linter.unusedSimpArgs false
namespace Tr
def tokOf (L : List Nd) (k : Int) : List Tok := if (at_ L k).leaf = true then [(at_ L k).tok] else []
def yield (L : List Nd) (i : Int) : List Tok := (below L i).flatMap (tokOf L)
theorem Good.kid_has {L : List Nd} (h : Good L) {i k : Int} (hk : k ∈ kidsOf L i) : has L k = true := by
 have h1 := h.down i k hk
 have h2 := has_true (kidsOf_has hk)
 unfold has; exact decide_eq_true (by omega)
end Tr
end Go.Proofs.YtdhhkancbgealaaGreat
end
section
namespace Go.Proofs.YtdhhkancbgealaaGreat
set_option linter.unusedVariables false
set_option linter.unusedSimpArgs false
namespace Tr
theorem all_flat {α : Type} (f : Int → List α) (g : α → Bool) (l : List Int) : (l.flatMap f).all g = l.all fun k => (f k).all g := by
 induction l with
 | nil => rfl
 | cons k l ih => simp only [List.flatMap_cons, List.all_append, List.all_cons, ih]
theorem Good.right_eq {L : List Nd} (h : Good L) (P : Nm.Plan) {i : Int} (hi : has L i = true) : right P L i = ((kidsOf L i).all (right P L) && fits P L (at_ L i)) := by
 have e : ∀ j, has L j = true → right P L j = (Bel L j).all fun k => fits P L (at_ L k) := fun j hj => by unfold right; rw [hj]; simp
 rw [e i hi, Bel_eq h.down, List.all_append, all_flat]
 congr 1
 ·rw [Bool.eq_iff_iff, List.all_eq_true, List.all_eq_true]
  exact ⟨fun hh k hk => by rw [e k (h.kid_has hk)]; exact hh k hk, fun hh k hk => by rw [← e k (h.kid_has hk)]; exact hh k hk⟩
 ·simp
end Tr
end Go.Proofs.YtdhhkancbgealaaGreat
end
