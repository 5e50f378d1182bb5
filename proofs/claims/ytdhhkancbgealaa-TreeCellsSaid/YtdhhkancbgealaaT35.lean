import Derived.Test.YtdhhkancbgealaaT34
namespace Go.Proofs.Ytdhhkancbgealaa
open Go.RowKit Go.Shelf
open Lx
set_option linter.unusedVariables false
set_option linter.unusedSimpArgs false
set_option maxRecDepth 100000
theorem PlanR.shape {w : World} {v : Value} {P : Nm.Plan} (h : PlanR w v P) : ∃ P1 n1 c1 P2 n2 c2 P3 n3 c3 P4 n4 c4 P5 n5 c5 P6 n6 c6, v = .agg #[.slice P1 n1 c1, .slice P2 n2 c2, .slice P3 n3 c3, .slice P4 n4 c4, .slice P5 n5 c5, .slice P6 n6 c6] := by
 obtain ⟨A1, c1, A2, c2, A3, c3, A4, c4, A5, c5, A6, c6, e, _⟩ := h.ex
 exact ⟨A1, _, c1, A2, _, c2, A3, _, c3, A4, _, c4, A5, _, c5, A6, _, c6, e⟩
theorem Tr.cost_takeN {L : List Tr.Nd} {j : Nat} {x : Tr.Nd} (h : L[j]? = some x) : Tr.cost (L.take (j + 1)) = Tr.cost (L.take j) + (1 + (x.kids.length : Int)) := by
 rw [List.take_add_one, h, Tr.cost_append]; simp [Tr.cost]
theorem Tr.cost_le (L : List Tr.Nd) (j : Nat) : 0 ≤ Tr.cost (L.take j) ∧ Tr.cost (L.take j) ≤ Tr.cost L := by
 have h0 := Tr.cost_len (L.take j)
 have h1 := Tr.cost_len (L.drop j)
 have h2 : Tr.cost L = Tr.cost (L.take j) + Tr.cost (L.drop j) := by rw [← Tr.cost_append, List.take_append_drop]
 omega
set_option maxHeartbeats 8000000 in
theorem cells18_law (v : Value) (s : Sm.S) (lim : Int) (hlim : -9223372036854775808 ≤ lim ∧ lim ≤ 9223372036854775807) (vo : Value) (os : List Tr.Op) (W : World) (hgs : SmallC W W.heap.size v s ∧ SmSz s) (hos : OpsC W W.heap.size vo os ∧ (∀ o ∈ os, opIn o) ∧ os.length ≤ reachBytes) :
  Calls Try.prog 4 #[v, .int .i64 lim, vo] W fun e w' => e = .returned (.bool true) ∧ Below W.heap.size W w' := by
 obtain ⟨hg, hs⟩ := hgs
 obtain ⟨ho, hin, hlen⟩ := hos
 have hrb : reachBytes = 140737488351232 := rfl
 have HFEW := Lib.hid (show ∀ w', Below W.heap.size W w' → Calls Try.prog 7 #[v, .int .i64 20, .int .i64 8] w' fun e w'' => e = .returned (.bool (Sm.few s 20 8)) ∧ Below w'.heap.size w' w'' from fun w' hw' => sfew_any v s 20 8 W.heap.size w' (hg.below hw') hw'.size hs (by decide) (by decide))
 have HPLN := Lib.hid (fun (hl5 : Sm.nl s ≤ 5) (h20 : s.lefts.length ≤ 20) (h8 : ∀ l ∈ s.rights, l.length ≤ 8) (w' : World) (hw' : Below W.heap.size W w') => splan_any v s W.heap.size w' (hg.below hw') hw'.size hs hl5 h20 h8)
 have HF18 := Lib.hid (fun (w' : World) (hw' : Below W.heap.size W w') => few18_any vo os W.heap.size w' (ho.below hw') hw'.size (by omega) (fun o h => by have := (hin o h).2.2.2.2.2.2.2; omega))
 obtain ⟨AO, cO, ql, rfl, _⟩ := id ho
 have HO := Lib.hid ho
 have HIN := Lib.hid hin
 obtain ⟨x1, x2, E1, m1, f1, E2, m2, f2, E3, m3, f3, E4, m4, f4, E5, m5, f5, rfl⟩ := small_form hg
 have HAT0 := Lib.hid (At.new W 25 #[.int .u8 x1, .int .u8 x2, .slice E1 m1 f1, .slice E2 m2 f2, .slice E3 m3 f3, .slice E4 m4 f4, .slice E5 m5 f5])
 have HB0 := Lib.hid ((Below.refl W.heap.size W).alloc (Nat.le_refl _) (.cells #[.int .u8 x1, .int .u8 x2, .slice E1 m1 f1, .slice E2 m2 f2, .slice E3 m3 f3, .slice E4 m4 f4, .slice E5 m5 f5] 25))
 obtain ⟨on, hon⟩ : ∃ n, os.length = n := ⟨_, rfl⟩
 rw [hon] at HF18 HO ⊢
 have HON := Lib.hid hon
 clear hg hs ho hin hlen hon hrb
 go_enter Try.func4, Try.ntmps4
 go_wp2_with fail
 refine (awake18_any _).mono ?_
 rintro e w1 ⟨rfl, hb1⟩
 have HAT1 := Lib.hid (HAT0.out.below hb1 HAT0.out.lt)
 have HB1 := Lib.hid (HB0.out.trans (hb1.mono HB0.out.size))
 have ht1 := HAT1.out.lt
 clear hb1
 have x0 := HAT1.out.cell 0
 have x1' := HAT1.out.cell 1
 have x2' := HAT1.out.cell 2
 have x3 := HAT1.out.cell 3
 have x4 := HAT1.out.cell 4
 have x5 := HAT1.out.cell 5
 have x6 := HAT1.out.cell 6
 simp only [List.getElem?_toArray, List.getElem?_cons_zero, List.getElem?_cons_succ] at x0 x1' x2' x3 x4 x5 x6
 go_wp2_with fail
 refine (HFEW.out w1 HB1.out).mono ?_
 rintro e w2 ⟨rfl, hb2⟩
 have HAT2 := Lib.hid (HAT1.out.below hb2 ht1)
 have HB2 := Lib.hid (HB1.out.trans (hb2.mono HB1.out.size))
 clear hb2 x0 x1' x2' x3 x4 x5 x6 ht1 HAT1
 go_wp2_with fail
 refine (HF18.out w2 HB2.out).mono ?_
 rintro e w3 ⟨rfl, hb3⟩
 have HAT3 := Lib.hid (HAT2.out.below hb3 HAT2.out.lt)
 have HB3 := Lib.hid (HB2.out.trans (hb3.mono HB2.out.size))
 clear hb3 HAT2 HB2 HB1
 cases hfew : Sm.few s 20 8 with
 | false =>
  go_wp2_with fail
  go_ret
  exact ⟨rfl, HB3.out⟩
 | true =>
 cases hf18 : Tr.few os with
 | false =>
  go_wp2_with fail
  go_ret
  exact ⟨rfl, HB3.out⟩
 | true =>
 obtain ⟨h20, hl5, h8⟩ := few_partsT hfew
 have HPL := Lib.hid (HPLN.out hl5 h20 h8 w3 HB3.out)
 have HPS := Lib.hid (small_plan h20 h8)
 obtain ⟨PP, hPP⟩ : ∃ P, Nm.plan (Sm.gram s) = P := ⟨_, rfl⟩
 rw [hPP] at HPL HPS
 have HF := Lib.hid hf18
 have ht3 := HAT3.out.lt
 have x0 := HAT3.out.cell 0
 have x1' := HAT3.out.cell 1
 have x2' := HAT3.out.cell 2
 have x3 := HAT3.out.cell 3
 have x4 := HAT3.out.cell 4
 have x5 := HAT3.out.cell 5
 have x6 := HAT3.out.cell 6
 simp only [List.getElem?_toArray, List.getElem?_cons_zero, List.getElem?_cons_succ] at x0 x1' x2' x3 x4 x5 x6
 clear hfew hf18 h20 hl5 h8 HPLN HFEW HF18 HB0 HAT0 hPP
 go_wp2_with fail
 refine HPL.out.mono ?_
 rintro e w4 ⟨⟨pv, rfl, hpl⟩, hb4⟩
 have HB4 := Lib.hid (HB3.out.trans (hb4.mono HB3.out.size))
 have HPR := Lib.hid hpl.planR
 clear hpl hb4 HPL x0 x1' x2' x3 x4 x5 x6 ht3
 obtain ⟨P1, n1, c1, P2, n2, c2, P3, n3, c3, P4, n4, c4, P5, n5, c5, P6, n6, c6, rfl⟩ := HPR.out.shape
 obtain ⟨W1, hW1⟩ : ∃ W, w4.alloc (.cells #[.slice P1 n1 c1, .slice P2 n2 c2, .slice P3 n3 c3, .slice P4 n4 c4, .slice P5 n5 c5, .slice P6 n6 c6] 38) = W := ⟨_, rfl⟩
 have a1 : At W1 w4.heap.size 38 #[.slice P1 n1 c1, .slice P2 n2 c2, .slice P3 n3 c3, .slice P4 n4 c4, .slice P5 n5 c5, .slice P6 n6 c6] := by rw [← hW1]; exact At.new _ _ _
 have hb1 : Below w4.heap.size w4 W1 := by rw [← hW1]; exact (Below.refl w4.heap.size w4).alloc (Nat.le_refl _) _
 have hs1 : W1.heap.size = w4.heap.size + 1 := by rw [← hW1]; simp
 have HW1 := Lib.hid hW1
 have HS1 := Lib.hid hs1
 have HP1 := Lib.hid (HPR.out.below hb1)
 have HA1 := Lib.hid a1
 have HB1 := Lib.hid hb1
 have HFW := Lib.hid (Tr.few_of HF.out).2
 have h40 := (Tr.few_of HF.out).1
 rw [HON.out] at h40
 obtain ⟨lm, hlm⟩ : ∃ x, hld lim = x := ⟨_, rfl⟩
 have hlr := hld_range lim
 rw [hlm] at hlr
 have HLM := Lib.hid hlm
 have HB0 := Lib.hid HB4.out.size
 clear hW1 a1 hb1 hs1 hlm
 go_wp2_with fail
 rw [HW1.out]
 refine (new_any lim _).mono ?_
 rintro e w5 ⟨rfl, hw5⟩
 rw [HLM.out] at hw5
 have hM : At w5 W1.heap.size 89 #[.int .i64 lm, .int .i64 0, .int .i64 0] := by
  rw [← hw5]; exact At.new _ _ _
 have hb5 : Below W1.heap.size W1 w5 := by rw [← hw5]; exact (Below.refl _ _).alloc (Nat.le_refl _) _
 have HNW := Lib.hid (tnew_any W1.heap.size W1.heap.size lm 0 w5 hM hlr hb5.size (Nat.le_refl _))
 have HB5 := Lib.hid hb5
 clear hw5 hM hb5
 go_wp2_with fail
 refine HNW.out.mono ?_
 rintro e w6 ⟨tg, g, rfl, hT, htg, hb6⟩
 have HT6 := Lib.hid hT
 have HB6 := Lib.hid (HB5.out.trans (hb6.mono HB5.out.size))
 clear hT htg hb6 HNW HB5
 go_wp2_with fail
 refine (Held_any lim _).mono ?_
 rw [HLM.out]
 rintro e _ ⟨rfl, rfl⟩
 obtain ⟨W0, hW0⟩ : ∃ W, (w6.alloc (.cells #[.int .i64 lm, .int .i64 0, .int .i64 0] 50)).alloc (.cells #[.pointer (some ⟨w6.heap.size, 0, none⟩), .slice none 0 0] 53) = W := ⟨_, rfl⟩
 have hb4 : Below w6.heap.size w6 W0 := by rw [← hW0]; exact ((Below.refl _ _).alloc (Nat.le_refl _) _).alloc (by simp) _
 have hb10 : Below W1.heap.size W1 W0 := HB6.out.trans (hb4.mono HB6.out.size)
 obtain ⟨mb, hmb⟩ : ∃ mb, mb = W1.heap.size := ⟨_, rfl⟩
 have hDU : Duo W0 W1.heap.size tg g mb (w6.heap.size + 1) w6.heap.size lm [] [] := by
  rw [hmb]
  refine ⟨⟨0, [], HT6.out.below hb4, rfl⟩, ⟨0, .slice none 0 0, [], ⟨?_, World.ownsRow_nil _ _ _ _, ⟨Nat.le_succ_of_le HB6.out.size, HB6.out.size⟩, ?_, fun s hs => absurd hs (by simp), ⟨by rw [costS_nil]; omega, hlr.2⟩, fun s hs => absurd hs (by simp)⟩, rfl⟩, hb10.size⟩
  ·have := At.new (w6.alloc (.cells #[.int .i64 lm, .int .i64 0, .int .i64 0] 50)) 53 #[.pointer (some ⟨w6.heap.size, 0, none⟩), .slice none 0 0]
   rw [hW0, World.size_alloc] at this
   exact this
  ·have := (At.new w6 50 #[.int .i64 lm, .int .i64 0, .int .i64 0]).alloc (.cells #[.pointer (some ⟨w6.heap.size, 0, none⟩), .slice none 0 0] 53)
   rw [hW0] at this
   exact this
 have HDU0 := Lib.hid hDU
 have hb14 : Below w4.heap.size W1 W0 := hb10.mono (by have := HS1.out; omega)
 have HPR0 := Lib.hid (HP1.out.below hb10)
 have HO0 := Lib.hid ((HO.out.below HB4.out).below (((HB1.out.trans hb14)).mono HB0.out))
 have HA0 := Lib.hid (HA1.out.below hb10 (by have := HS1.out; omega))
 have HBW := Lib.hid (HB4.out.trans ((HB1.out.trans hb14).mono HB0.out))
 have HW0 := Lib.hid hW0
 obtain ⟨B0, hB0⟩ : ∃ B0, W.heap.size = B0 := ⟨_, rfl⟩
 rw [hB0] at HO0 HB0
 have HBZ := Lib.hid hB0
 have hB0W : B0 ≤ W0.heap.size := by have := hb10.size; have := HB0.out; have := HS1.out; omega
 have hB0B : B0 ≤ W1.heap.size := by have := HB0.out; have := HS1.out; omega
 have hpB : w4.heap.size < W1.heap.size := by have := HS1.out; omega
 have p0 := HA0.out.cell 0
 have p1 := HA0.out.cell 1
 have p2 := HA0.out.cell 2
 have p3 := HA0.out.cell 3
 have p4 := HA0.out.cell 4
 have p5 := HA0.out.cell 5
 simp only [List.getElem?_toArray, List.getElem?_cons_zero, List.getElem?_cons_succ] at p0 p1 p2 p3 p4 p5
 obtain ⟨rt, hrt⟩ : ∃ rt, w6.heap.size + 1 = rt := ⟨_, rfl⟩
 obtain ⟨rm, hrm⟩ : ∃ rm, w6.heap.size = rm := ⟨_, rfl⟩
 rw [hrt, hrm] at HDU0
 have HRT := Lib.hid hrt
 have HRM := Lib.hid hrm
 have HMB := Lib.hid hmb.symm
 have HMW := Lib.hid (show W1.heap.size = mb from hmb.symm)
 obtain ⟨B, hB⟩ : ∃ B, W1.heap.size = B := ⟨_, rfl⟩
 rw [hB] at HDU0 hB0B hpB HMB
 obtain ⟨pb, hpb⟩ : ∃ pb, w4.heap.size = pb := ⟨_, rfl⟩
 rw [hpb] at p0 p1 p2 p3 p4 p5 hpB
 have HPB := Lib.hid hpb
 have HBB := Lib.hid hB
 have HPR := HPR0
 have HO := HO0
 clear hW0 hb4 hb10 hDU hb14 hrt hrm hmb hB hpb hB0 HP1 HA1 HPR0 HO0 HT6 HB6 HB0 HAT3 HB3 HF HA0
 go_wp2_with fail
 rw [HW0.out, HRT.out, HPB.out, HMW.out]
 go_loopw [14] (fun i wr => ∃ j : Nat, j ≤ on ∧ i = .int .i64 (j : Int) ∧ Duo wr B tg g mb rt rm lm (Tr.run PP lm [] (os.take j)) (Tr.run PP lm [] (os.take j)) ∧ Spares both18 W0 wr ∧ Below B W0 wr) (fun i _ => on - (intOf i).toNat)
 case atStart => exact ⟨0, by omega, rfl, HDU0.out, Spares.refl _ _, Below.refl _ _⟩
 case round =>
  obtain ⟨j, hj, rfl, hdu, hsp, hblw⟩ := hrel
  obtain ⟨LL, hLL⟩ : ∃ x, Tr.run PP lm [] (os.take j) = x := ⟨_, rfl⟩
  rw [hLL] at hdu
  have HLL := Lib.hid hLL
  have HDU := Lib.hid hdu
  have HSP := Lib.hid hsp
  have HBL := Lib.hid hblw
  clear hdu hsp hblw hLL
  by_cases hlt : j < on
  case pos =>
   have hji : (j : Int) < (on : Int) := by omega
   have hj0 : (0 : Int) ≤ (j : Int) := by omega
   obtain ⟨o, ho⟩ : ∃ o, os[j]? = some o := ⟨_, List.getElem?_eq_getElem (by rw [HON.out]; exact hlt)⟩
   obtain ⟨b, q, rfl, hbl, A', c', ⟨A2, c2', hv, hcap, hcl⟩, hcells⟩ := HO.out.at_ ho
   injection hv with hv1 _ hv2
   subst hv1 hv2
   have HSTEP := Lib.hid (show Tr.run PP lm [] (os.take (j + 1)) = Tr.step lm LL (Tr.told PP LL o) by rw [take_snocT ho, Tr.run_snoc, HLL.out])
   have hom := List.mem_of_getElem? ho
   have hten := (HFW.out o hom)
   have hKO : KOk W0 B0 A' o.ks := .inl ⟨hcl, hB0W⟩
   have y0 := hcells 0 _ rfl
   have y1 := hcells 1 _ rfl
   have y2 := hcells 2 _ rfl
   have y3 := hcells 3 _ rfl
   have y4 := hcells 4 _ rfl
   have y5 := hcells 5 _ rfl
   have y6 := hcells 6 _ rfl
   simp only [Nat.add_zero] at y0
   rw [← Nat.add_assoc] at y1 y2 y3 y4 y5 y6
   have hbB : b < B := Nat.lt_of_lt_of_le hbl hB0B
   have hTL : (Tr.told PP LL o).ks.length ≤ 1000000 := Tr.told_small HPS.out _ o hten
   have HTL := Lib.hid hTL
   have HTO := Lib.hid (show Calls Try.prog 18 #[.agg #[.slice P1 n1 c1, .slice P2 n2 c2, .slice P3 n3 c3, .slice P4 n4 c4, .slice P5 n5 c5, .slice P6 n6 c6], .pointer (some ⟨rt, 0, none⟩), .agg #[.int .i64 o.d, .int .i64 o.r, .int .i64 o.s, .int .i64 o.x.t, .int .i64 o.x.a, .int .i64 o.x.b, .slice A' o.ks.length c']] wr.drew fun e w' => ∃ A5 c5', e = .returned (.agg (opC (Tr.told PP LL o, .slice A5 (Tr.told PP LL o).ks.length c5')).toArray) ∧ KOk w' B0 A5 (Tr.told PP LL o).ks ∧ (Tr.told PP LL o).ks.length ≤ c5' ∧ Below wr.drew.heap.size wr.drew w' from by
    obtain ⟨m5, v5, S5, k5, k6⟩ := HDU.out.ref
    have hw : Below wr.heap.size wr wr.drew := below_drew (Below.refl _ _)
    have := told_any (.agg #[.slice P1 n1 c1, .slice P2 n2 c2, .slice P3 n3 c3, .slice P4 n4 c4, .slice P5 n5 c5, .slice P6 n6 c6]) PP o A' c' wr.drew B0 B rt rm lm m5 v5 S5 ((HPR.out.spares HSP.out (by decide) (by decide) (by decide)).below hw) HPS.out (k5.below hw) (HIN.out o hom).2.1 ((hKO.step HSP.out (by decide) (HBL.out.mono hB0B)).below hw) hcap
    rw [k6] at this
    exact this)
   obtain ⟨kn, hkn⟩ : ∃ kn, o.ks.length = kn := ⟨_, rfl⟩
   rw [hkn] at y6 HTO
   clear ho hcells hcl hcap hom hten hKO hTL hkn hbl
   go_wp2_with fail
   have hz0 : Below B W0 wr.drew := below_drew HBL.out
   refine Zed.begin_ (fun w' => Below B W0 w') [] (by kernel_rfl) ?_
   refine Zd.pureD (i := 0) (d := some 55) (v := ?vm0) rfl rfl (by kernel_rfl) (by kernel_rfl) (by kernel_rfl) (by kernel_rfl) (by kernel_rfl) (fun _ _ _ h => h) (Or.inl ⟨by kernel_rfl, ?hym0⟩) (.inr hz0) ?restm0
   case hym0 => (intro w _; go_simp; try with_reducible rfl)
   try simp only [Act.put, List.setIfInBounds_toArray, List.set_cons_zero, List.set_cons_succ]
   refine Zd.pureD (i := 1) (d := some 56) (v := ?vm1) rfl rfl (by kernel_rfl) (by kernel_rfl) (by kernel_rfl) (by kernel_rfl) (by kernel_rfl) (fun _ _ _ h => h) (Or.inl ⟨by kernel_rfl, ?hym1⟩) (.inr hz0) ?restm1
   case hym1 => (intro w _; go_simp; try with_reducible rfl)
   try simp only [Act.put, List.setIfInBounds_toArray, List.set_cons_zero, List.set_cons_succ]
   refine Zd.takeD (i := 2) (d := some 57) (v := ?vm2) rfl rfl (by kernel_rfl) (by kernel_rfl) (by kernel_rfl) (by kernel_rfl) (by kernel_rfl) (fun _ _ _ h => h) (Or.inl ⟨by kernel_rfl, ?hym2⟩) hz0 ?restm2
   case hym2 => (intro w hSw; (try dsimp only at hSw); have k0 := (hSw.cell (p := ⟨pb, 0, none⟩) hpB).trans p0; have k1 := (hSw.cell (p := ⟨pb, 1, none⟩) hpB).trans p1; have k2 := (hSw.cell (p := ⟨pb, 2, none⟩) hpB).trans p2; have k3 := (hSw.cell (p := ⟨pb, 3, none⟩) hpB).trans p3; have k4 := (hSw.cell (p := ⟨pb, 4, none⟩) hpB).trans p4; have k5 := (hSw.cell (p := ⟨pb, 5, none⟩) hpB).trans p5; go_simp; try with_reducible rfl)
   try simp only [Act.put, List.setIfInBounds_toArray, List.set_cons_zero, List.set_cons_succ]
   refine Zd.pureD (i := 3) (d := some 58) (v := ?vm3) rfl rfl (by kernel_rfl) (by kernel_rfl) (by kernel_rfl) (by kernel_rfl) (by kernel_rfl) (fun _ _ _ h => h) (Or.inl ⟨by kernel_rfl, ?hym3⟩) (.inr hz0) ?restm3
   case hym3 => (intro w _; go_simp; try with_reducible rfl)
   try simp only [Act.put, List.setIfInBounds_toArray, List.set_cons_zero, List.set_cons_succ]
   refine Zd.pureD (i := 4) (d := some 59) (v := ?vm4) rfl rfl (by kernel_rfl) (by kernel_rfl) (by kernel_rfl) (by kernel_rfl) (by kernel_rfl) (fun _ _ _ h => h) (Or.inl ⟨by kernel_rfl, ?hym4⟩) (.inr hz0) ?restm4
   case hym4 => (intro w _; go_simp; try with_reducible rfl)
   try simp only [Act.put, List.setIfInBounds_toArray, List.set_cons_zero, List.set_cons_succ]
   refine Zd.pureD (i := 5) (d := some 60) (v := ?vm5) rfl rfl (by kernel_rfl) (by kernel_rfl) (by kernel_rfl) (by kernel_rfl) (by kernel_rfl) (fun _ _ _ h => h) (Or.inl ⟨by kernel_rfl, ?hym5⟩) (.inr hz0) ?restm5
   case hym5 => (intro w _; go_simp; try with_reducible rfl)
   try simp only [Act.put, List.setIfInBounds_toArray, List.set_cons_zero, List.set_cons_succ]
   refine Zd.pureD (i := 6) (d := some 61) (v := ?vm6) rfl rfl (by kernel_rfl) (by kernel_rfl) (by kernel_rfl) (by kernel_rfl) (by kernel_rfl) (fun _ _ _ h => h) (Or.inl ⟨by kernel_rfl, ?hym6⟩) (.inr hz0) ?restm6
   case hym6 => (intro w _; go_simp; try with_reducible rfl)
   try simp only [Act.put, List.setIfInBounds_toArray, List.set_cons_zero, List.set_cons_succ]
   refine Zd.takeD (i := 7) (d := some 62) (v := ?vm7) rfl rfl (by kernel_rfl) (by kernel_rfl) (by kernel_rfl) (by kernel_rfl) (by kernel_rfl) (fun _ _ _ h => h) (Or.inl ⟨by kernel_rfl, ?hym7⟩) hz0 ?restm7
   case hym7 => (intro w hSw; (try dsimp only at hSw); have k0 := (hSw.cell (p := ⟨b, q + j * 7, none⟩) hbB).trans y0; have k1 := (hSw.cell (p := ⟨b, q + j * 7 + 1, none⟩) hbB).trans y1; have k2 := (hSw.cell (p := ⟨b, q + j * 7 + 2, none⟩) hbB).trans y2; have k3 := (hSw.cell (p := ⟨b, q + j * 7 + 3, none⟩) hbB).trans y3; have k4 := (hSw.cell (p := ⟨b, q + j * 7 + 4, none⟩) hbB).trans y4; have k5 := (hSw.cell (p := ⟨b, q + j * 7 + 5, none⟩) hbB).trans y5; have k6 := (hSw.cell (p := ⟨b, q + j * 7 + 6, none⟩) hbB).trans y6; go_simp; try with_reducible rfl)
   try simp only [Act.put, List.setIfInBounds_toArray, List.set_cons_zero, List.set_cons_succ]
   refine Zd.call (i := 8) (d := some 63) (by kernel_rfl) rfl rfl (by kernel_rfl) (by kernel_rfl) HTO.out ?_
   rintro e w2 ⟨A5, c5', rfl, hk5, hc5, hb5⟩
   have HB5 := Lib.hid ((below_drew (Below.refl wr.heap.size wr)).trans (hb5.mono (by simp)))
   have HK5 := Lib.hid hk5
   have hz1 := hz0.trans (hb5.mono (Nat.le_trans HDU.out.size (by simp)))
   have HDO := Lib.hid (done_any (Tr.told PP LL o) A5 c5' w2 B0 B tg g mb rt rm lm LL (HDU.out.below HB5.out) hk5 hB0B hc5 (HTL.out))
   clear hk5 hc5 hb5 HTO
   refine ⟨_, rfl, hz1, ?_⟩
   try simp only [Act.put, List.setIfInBounds_toArray, List.set_cons_zero, List.set_cons_succ]
   refine Zd.call (i := 9) (d := some 64) (by kernel_rfl) rfl rfl (by kernel_rfl) (by kernel_rfl) HDO.out ?_
   rintro e w3 ⟨rfl, hdu, hsp, hbl3⟩
   have hz2 := hz1.trans hbl3
   have HDN := Lib.hid hdu
   have HSPN := Lib.hid (HSP.out.trans ((spares_belowT HB5.out both18).trans hsp))
   have HBLN := Lib.hid hz2
   clear hdu hsp hbl3 HDO
   refine ⟨_, rfl, hz2, ?_⟩
   try simp only [Act.put, List.setIfInBounds_toArray, List.set_cons_zero, List.set_cons_succ]
   refine Zed.all (by kernel_rfl) ?_ _
   clear hz0 hz1 hz2
   obtain ⟨LN, hLN⟩ : ∃ x, Tr.step lm LL (Tr.told PP LL o) = x := ⟨_, rfl⟩
   rw [hLN] at HDN HSTEP
   have HLT := Lib.hid (show LN.length ≤ 41 by
    have h1 := Tr.run_len PP lm (os.take (j + 1)) []
    rw [HSTEP.out, List.length_take] at h1
    simp at h1; omega)
   have HGD := Lib.hid (show Tr.Good LN by rw [← HSTEP.out]; exact Tr.run_good _ _ _ _ Tr.good_nil)
   obtain ⟨mm, S, hT, hS⟩ := HDN.out.tree
   have HTR := Lib.hid hT
   have HS := Lib.hid hS
   obtain ⟨n, hn⟩ : ∃ n, LN.length = n := ⟨_, rfl⟩
   have HN := Lib.hid hn
   have HLE := Lib.hid (tlen_any w3 B tg g mb lm mm S hT)
   rw [hS, hn] at HLE
   have hn41 : n ≤ 41 := by rw [← hn]; exact HLT.out
   have hroom := hT.room
   have hco : costS S = Tr.cost LN := by unfold costS; rw [hS]
   have HCO := Lib.hid hco
   obtain ⟨C, hC⟩ : ∃ C, Tr.cost LN = C := ⟨_, rfl⟩
   rw [hco, hC] at hroom
   have HC := Lib.hid hC
   clear hLN hT hS hn hco hC
   go_wp2_with fail
   refine HLE.out.mono ?_
   rintro e w4 ⟨rfl, rfl⟩
   clear HLE
   go_wp2_with fail
   go_loopw [16, 17] (fun sm q wr => ∃ p : Nat, p ≤ n ∧ q = .int .i64 (p : Int) ∧ sm = .int .i64 ((n : Int) - (p : Int) + Tr.cost (LN.take p)) ∧ Below w3.heap.size w3 wr) (fun _ q _ => n - (intOf q).toNat)
   case atStart => exact ⟨0, by omega, rfl, by simp [Tr.cost], Below.refl _ _⟩
   case round =>
    obtain ⟨p, hp, rfl, rfl, hb⟩ := hrel
    have HB := Lib.hid hb
    clear hb
    have hcl := Tr.cost_le LN p
    rw [HC.out] at hcl
    obtain ⟨cp, hcp⟩ : ∃ c, Tr.cost (LN.take p) = c := ⟨_, rfl⟩
    rw [hcp] at hcl ⊢
    have HCP := Lib.hid hcp
    clear hcp
    by_cases hlt2 : p < n
    case pos =>
     have hpi : (p : Int) < (n : Int) := by omega
     obtain ⟨nd, hnd⟩ : ∃ x, LN[p]? = some x := ⟨_, List.getElem?_eq_getElem (by rw [HN.out]; exact hlt2)⟩
     have hat := Tr.at_of hnd
     have hct := Tr.cost_takeN hnd
     have hkl := HGD.out.kids_len (p : Int)
     unfold Tr.kidsOf at hkl
     have HKI := Lib.hid (tkids_any (p : Int) wr B tg g mb lm mm S (HTR.out.below HB.out))
     rw [HS.out, hat] at HKI
     rw [hat, HN.out] at hkl
     rw [HCP.out] at hct
     obtain ⟨kn, hkn⟩ : ∃ kn, nd.kids.length = kn := ⟨_, rfl⟩
     rw [hkn] at HKI hkl hct
     have hw : IntKind.i64.wrap ((n : Int) - (p : Int) + cp + (kn : Int)) = (n : Int) - (p : Int) + cp + (kn : Int) := by rw [IntKind.wrap_i64]; omega
     have HCT := Lib.hid hct
     clear hnd hat hct hkn
     go_wp2_with fail
     refine HKI.out.mono ?_
     rintro e w5 ⟨KA, kc, rfl, _, hb5⟩
     have HB5' := Lib.hid (HB.out.trans (hb5.mono HB.out.size))
     clear hb5 HKI
     go_wp2_with fail
     go_roundw
     case rel => exact ⟨p + 1, by omega, by go_num, by rw [HCT.out]; congr 1; omega, HB5'.out⟩
     case measure => simp [intOf]; omega
    case neg =>
     obtain rfl : n = p := by omega
     have hcc : cp = C := by rw [← HCP.out, ← HC.out, List.take_of_length_le (by rw [HN.out]; exact Nat.le_refl _)]
     subst hcc
     have hsm : (n : Int) - (n : Int) + cp = cp := by omega
     rw [hsm]
     have HCE := Lib.hid (tcells_any wr B tg g mb lm mm S (HTR.out.below HB.out))
     rw [HS.out, HC.out] at HCE
     have HUS := Lib.hid (used_any mb lm cp mm wr (by have := (HTR.out.below HB.out).meter; rw [HCO.out, HC.out] at this; exact this))
     have hgt : ¬ lm < cp := by omega
     clear hsm hlt2
     go_wp2_with fail
     refine HCE.out.mono ?_
     rintro e _ ⟨rfl, rfl⟩
     go_wp2_with fail
     refine HUS.out.mono ?_
     rintro e _ ⟨rfl, rfl⟩
     go_wp2_with fail
     refine (Held_any lim _).mono ?_
     rw [HLM.out]
     rintro e _ ⟨rfl, rfl⟩
     go_wp2_with fail
     go_roundw
     case rel => exact ⟨j + 1, by omega, by go_num, by rw [HSTEP.out]; exact HDN.out.below HB.out, HSPN.out.trans (spares_belowT HB.out both18), HBLN.out.trans (HB.out.mono HDN.out.size)⟩
     case measure => simp [intOf]; omega
  case neg =>
  obtain rfl : on = j := by omega
  rw [List.take_of_length_le (by rw [HON.out]; exact Nat.le_refl _)] at HLL
  obtain ⟨mm, S, hT, hS⟩ := HDU.out.tree
  have HCE := Lib.hid (tcells_any wr B tg g mb lm mm S hT)
  have HRS := Lib.hid (treset_any wr B tg g mb lm mm S hT HDU.out.size)
  rw [hS] at HCE HRS
  obtain ⟨C, hC⟩ : ∃ C, Tr.cost LL = C := ⟨_, rfl⟩
  rw [hC] at HCE HRS
  clear hT hS hC hlt
  go_wp2_with fail
  refine HCE.out.mono ?_
  rintro e _ ⟨rfl, rfl⟩
  go_wp2_with fail
  refine HRS.out.mono ?_
  rintro e w7 ⟨rfl, hd⟩
  obtain ⟨m7, S7, hT7, hS7⟩ := hd.tree
  have HLE := Lib.hid (tlen_any w7 B tg g mb lm m7 S7 hT7)
  have HCE7 := Lib.hid (tcells_any w7 B tg g mb lm m7 S7 hT7)
  have hco : costS S7 = 0 := by unfold costS; rw [hS7]; rfl
  have hM := hT7.meter
  rw [hco] at hM
  have HUS := Lib.hid (used_any mb lm 0 m7 w7 hM)
  rw [hS7] at HLE HCE7
  rw [show Tr.cost [] = 0 from rfl] at HCE7
  rw [show ((([] : List Tr.Nd).length : Nat) : Int) = 0 from rfl] at HLE
  have HD := Lib.hid hd.below
  clear hd hT7 hS7 hco hM HRS HCE
  go_wp2_with fail
  refine HLE.out.mono ?_
  rintro e _ ⟨rfl, rfl⟩
  go_wp2_with fail
  refine HUS.out.mono ?_
  rintro e _ ⟨rfl, rfl⟩
  go_wp2_with fail
  refine HCE7.out.mono ?_
  rintro e _ ⟨rfl, rfl⟩
  go_wp2_with fail
  go_ret
  exact ⟨rfl, HBW.out.trans ((HBL.out.trans HD.out).mono (by rw [HBZ.out]; exact hB0B))⟩
end Go.Proofs.Ytdhhkancbgealaa
