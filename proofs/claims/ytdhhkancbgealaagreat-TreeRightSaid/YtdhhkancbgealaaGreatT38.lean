import Derived.Test.YtdhhkancbgealaaGreatT37
import Derived.Test.YtdhhkancbgealaaGreatT31
import Derived.Test.YtdhhkancbgealaaGreatT25
namespace Go.Proofs.YtdhhkancbgealaaGreat
open Go.RowKit Go.Shelf
open Lx
set_option linter.unusedVariables false
set_option linter.unusedSimpArgs false
set_option maxRecDepth 100000
theorem PlanR.shape2 {w : World} {v : Value} {P : Nm.Plan} (h : PlanR w v P) : ∃ P1 n1 c1 P2 n2 c2 P3 n3 c3 P4 n4 c4 P5 n5 c5 P6 n6 c6, v = .agg #[.slice P1 n1 c1, .slice P2 n2 c2, .slice P3 n3 c3, .slice P4 n4 c4, .slice P5 n5 c5, .slice P6 n6 c6] ∧ P.terms.length = n1 ∧ P.rules.length = n3 ∧ Lie w 9 P1 (namesV P.terms) ∧ (∃ pl, Lie w 72 P3 (prodsV pl) ∧ pl.map (·.1) = P.rules ∧ ∀ p ∈ pl, IntL w p.2 p.1.right) := by
 obtain ⟨A1, c1, A2, c2, A3, c3, A4, c4, A5, c5, A6, c6, e, h1, _, h3⟩ := h.ex
 exact ⟨A1, _, c1, A2, _, c2, A3, _, c3, A4, _, c4, A5, _, c5, A6, _, c6, e, rfl, rfl, h1, h3⟩
theorem callIfT {P : Program} {ops : Array Oper} {Q : Exit → Act → World → Prop} {K : Act → World → Prop} {o : Oper} {a : Act} {w : World} {fn : FuncId} {vs : Array Value} {F : Ending → World → Prop}
  (hw : Region.wanted o (yielded ops a.tmps) = true) (hrun : (execOp a.eval o).run P w = .ok (.enter fn vs) w) (hc : Calls P fn vs w F) (hF : ∀ e w', F e w' → ∃ v, e = .returned v ∧ K (a.put o.dst v) w') :
  if Region.wanted o (yielded ops a.tmps) = true then Oper.wp P o a w K Q else K (a.put o.dst undef) w := by
 rw [if_pos hw]
 unfold Oper.wp
 rw [hrun, Oper.upon_enter]
 refine hc.mono fun e w' h => ?_
 obtain ⟨v, rfl, hk⟩ := hF e w' h
 exact hk
structure TellR (w : World) (tg : Nat) (pv : Value) (P : Nm.Plan) (L : List Tr.Nd) : Prop where
 right : ∀ (i : Int) w', Below w.heap.size w w' → Calls Tryz.prog 31 #[.pointer (some ⟨tg, 0, none⟩), pv, .int .i64 i] w' fun e w'' => e = .returned (.bool (Tr.right P L i)) ∧ Below w'.heap.size w' w''
 sym : ∀ (i : Int) w', Below w.heap.size w w' → Calls Tryz.prog 20 #[.pointer (some ⟨tg, 0, none⟩), .int .i64 i] w' fun e w'' => e = .returned (.int .i64 (Tr.at_ L i).sym) ∧ Below w'.heap.size w' w''
 rule : ∀ (i : Int) w', Below w.heap.size w w' → Calls Tryz.prog 21 #[.pointer (some ⟨tg, 0, none⟩), .int .i64 i] w' fun e w'' => e = .returned (.int .i64 (Tr.at_ L i).rule) ∧ Below w'.heap.size w' w''
theorem Duo.tellR {w : World} {B tg g mb rt rm : Nat} {l : Int} {L M : List Tr.Nd} {pv : Value} {P : Nm.Plan} (h : Duo w B tg g mb rt rm l L M) (hp : PlanR w pv P) (hb : PlanB P) (hg : Tr.Good L) (hl : L.length ≤ 41) : TellR w tg pv P L := by
 obtain ⟨m, S, h1, rfl⟩ := h.tree
 have hbl := fun i => hg.bel_len i
 exact ⟨fun i w' hw => tright_any pv P i w' B tg g mb l m S (h1.below hw) (hp.below hw) hg.down (by have := hbl i; omega) hb.terms hb.rules, fun i w' hw => tsym_any i w' B tg g mb l m S (h1.below hw), fun i w' hw => trule_any i w' B tg g mb l m S (h1.below hw)⟩
theorem Tr.Good.leaf_right {L : List Tr.Nd} (hg : Tr.Good L) (P : Nm.Plan) {i : Int} (hi : Tr.has L i = true) (hl : (Tr.at_ L i).leaf = true) : Tr.right P L i = decide (0 < (Tr.at_ L i).sym ∧ (Tr.at_ L i).sym < (P.terms.length : Int)) := by
 obtain ⟨x, h1, h2⟩ := Tr.has_get hi
 have hk : Tr.kidsOf L i = [] := by
  unfold Tr.kidsOf; rw [h2] at hl ⊢
  exact hg.leaf _ x h1 hl
 rw [hg.right_eq P hi, hk]
 unfold Tr.fits
 rw [if_pos hl]; rfl
theorem vals_snocR (l : List Int) (x : Int) : vals (l ++ [x]) = vals l ++ [.int .i64 x] := by simp [vals]
set_option maxHeartbeats 16000000 in
theorem right18_law (v : Value) (s : Sm.S) (vo : Value) (os : List Tr.Op) (W : World) (hgs : SmallC W W.heap.size v s ∧ SmSz s) (hos : OpsC W W.heap.size vo os ∧ (∀ o ∈ os, opIn o) ∧ os.length ≤ reachBytes) :
  Calls Tryz.prog 5 #[v, vo] W fun e w' => e = .returned (.bool true) ∧ Below W.heap.size W w' := by
 obtain ⟨hg, hs⟩ := hgs
 obtain ⟨ho, hin, hlen⟩ := hos
 have hrb : reachBytes = 140737488351232 := rfl
 have HFEW := Lib.hid (show ∀ w', Below W.heap.size W w' → Calls Tryz.prog 7 #[v, .int .i64 20, .int .i64 8] w' fun e w'' => e = .returned (.bool (Sm.few s 20 8)) ∧ Below w'.heap.size w' w'' from fun w' hw' => sfew_any v s 20 8 W.heap.size w' (hg.below hw') hw'.size hs (by decide) (by decide))
 have HPLN := Lib.hid (fun (hl5 : Sm.nl s ≤ 5) (h20 : s.lefts.length ≤ 20) (h8 : ∀ l ∈ s.rights, l.length ≤ 8) (w' : World) (hw' : Below W.heap.size W w') => splan_any v s W.heap.size w' (hg.below hw') hw'.size hs hl5 h20 h8)
 have HF18 := Lib.hid (fun (w' : World) (hw' : Below W.heap.size W w') => few18_any vo os W.heap.size w' (ho.below hw') hw'.size (by omega) (fun o h => by have := (hin o h).2.2.2.2.2.2.2; omega))
 obtain ⟨AO, cO, ql, rfl, _⟩ := id ho
 have HO := Lib.hid ho
 have HIN := Lib.hid hin
 obtain ⟨x1, x2, E1, m1, f1, E2, m2, f2, E3, m3, f3, E4, m4, f4, E5, m5, f5, rfl⟩ := small_form hg
 have HAT0 := Lib.hid (At.new W 25 #[.int .u8 x1, .int .u8 x2, .slice E1 m1 f1, .slice E2 m2 f2, .slice E3 m3 f3, .slice E4 m4 f4, .slice E5 m5 f5])
 have HB0 := Lib.hid ((Below.refl W.heap.size W).alloc (Nat.le_refl _) (.cells #[.int .u8 x1, .int .u8 x2, .slice E1 m1 f1, .slice E2 m2 f2, .slice E3 m3 f3, .slice E4 m4 f4, .slice E5 m5 f5] 25))
 obtain ⟨on, hon⟩ : ∃ n, os.length = n := ⟨_, rfl⟩
 rw [hon] at HF18 HO ⊢
 have HON := Lib.hid hon
 clear hg hs ho hin hlen hon hrb
 go_enter Tryz.func5, Tryz.ntmps5
 go_wp2_with fail
 refine (awake18_any _).mono ?_
 rintro e w1 ⟨rfl, hb1⟩
 have HAT1 := Lib.hid (HAT0.out.below hb1 HAT0.out.lt)
 have HB1 := Lib.hid (HB0.out.trans (hb1.mono HB0.out.size))
 have ht1 := HAT1.out.lt
 clear hb1
 have x0 := HAT1.out.cell 0
 have x1' := HAT1.out.cell 1
 have x2' := HAT1.out.cell 2
 have x3 := HAT1.out.cell 3
 have x4 := HAT1.out.cell 4
 have x5 := HAT1.out.cell 5
 have x6 := HAT1.out.cell 6
 simp only [List.getElem?_toArray, List.getElem?_cons_zero, List.getElem?_cons_succ] at x0 x1' x2' x3 x4 x5 x6
 go_wp2_with fail
 refine (HFEW.out w1 HB1.out).mono ?_
 rintro e w2 ⟨rfl, hb2⟩
 have HAT2 := Lib.hid (HAT1.out.below hb2 ht1)
 have HB2 := Lib.hid (HB1.out.trans (hb2.mono HB1.out.size))
 clear hb2 x0 x1' x2' x3 x4 x5 x6 ht1 HAT1
 go_wp2_with fail
 refine (HF18.out w2 HB2.out).mono ?_
 rintro e w3 ⟨rfl, hb3⟩
 have HAT3 := Lib.hid (HAT2.out.below hb3 HAT2.out.lt)
 have HB3 := Lib.hid (HB2.out.trans (hb3.mono HB2.out.size))
 clear hb3 HAT2 HB2 HB1
 cases hfew : Sm.few s 20 8 with
 | false =>
  go_wp2_with fail
  go_ret
  exact ⟨rfl, HB3.out⟩
 | true =>
 cases hf18 : Tr.few os with
 | false =>
  go_wp2_with fail
  go_ret
  exact ⟨rfl, HB3.out⟩
 | true =>
 obtain ⟨h20, hl5, h8⟩ := few_partsT hfew
 have HPL := Lib.hid (HPLN.out hl5 h20 h8 w3 HB3.out)
 have HPS := Lib.hid (small_plan h20 h8)
 obtain ⟨PP, hPP⟩ : ∃ P, Nm.plan (Sm.gram s) = P := ⟨_, rfl⟩
 rw [hPP] at HPL HPS
 have HF := Lib.hid hf18
 have ht3 := HAT3.out.lt
 have x0 := HAT3.out.cell 0
 have x1' := HAT3.out.cell 1
 have x2' := HAT3.out.cell 2
 have x3 := HAT3.out.cell 3
 have x4 := HAT3.out.cell 4
 have x5 := HAT3.out.cell 5
 have x6 := HAT3.out.cell 6
 simp only [List.getElem?_toArray, List.getElem?_cons_zero, List.getElem?_cons_succ] at x0 x1' x2' x3 x4 x5 x6
 clear hfew hf18 h20 hl5 h8 HPLN HFEW HF18 HB0 HAT0 hPP
 go_wp2_with fail
 refine HPL.out.mono ?_
 rintro e w4 ⟨⟨pv, rfl, hpl⟩, hb4⟩
 have HB4 := Lib.hid (HB3.out.trans (hb4.mono HB3.out.size))
 have HPR := Lib.hid hpl.planR
 clear hpl hb4 HPL x0 x1' x2' x3 x4 x5 x6 ht3
 obtain ⟨P1, n1, c1, P2, n2, c2, P3, n3, c3, P4, n4, c4, P5, n5, c5, P6, n6, c6, rfl, hn1, hn3, _, hpll⟩ := HPR.out.shape2
 have HN1 := Lib.hid hn1
 have HN3 := Lib.hid hn3
 obtain ⟨W1, hW1⟩ : ∃ W, w4.alloc (.cells #[.slice P1 n1 c1, .slice P2 n2 c2, .slice P3 n3 c3, .slice P4 n4 c4, .slice P5 n5 c5, .slice P6 n6 c6] 34) = W := ⟨_, rfl⟩
 have a1 : At W1 w4.heap.size 34 #[.slice P1 n1 c1, .slice P2 n2 c2, .slice P3 n3 c3, .slice P4 n4 c4, .slice P5 n5 c5, .slice P6 n6 c6] := by rw [← hW1]; exact At.new _ _ _
 have hb1 : Below w4.heap.size w4 W1 := by rw [← hW1]; exact (Below.refl w4.heap.size w4).alloc (Nat.le_refl _) _
 have HW1 := Lib.hid hW1
 have HBW1 := Lib.hid (HB4.out.trans (hb1.mono HB4.out.size))
 have HMD := Lib.hid (made_any (.agg #[.slice P1 n1 c1, .slice P2 n2 c2, .slice P3 n3 c3, .slice P4 n4 c4, .slice P5 n5 c5, .slice P6 n6 c6]) PP _ os W1 W.heap.size (HPR.out.below hb1) HPS.out (HO.out.below HBW1.out) HBW1.out.size HIN.out HF.out)
 have HA1 := Lib.hid a1
 have HPL1 := Lib.hid (HPR.out.below hb1)
 have b0 := a1.cell 0
 have b1 := a1.cell 1
 have b2 := a1.cell 2
 have b3 := a1.cell 3
 have b4 := a1.cell 4
 have b5 := a1.cell 5
 simp only [List.getElem?_toArray, List.getElem?_cons_zero, List.getElem?_cons_succ] at b0 b1 b2 b3 b4 b5
 have bl := a1.lt
 have HPLL4 := Lib.hid hpll
 have HB14 := Lib.hid hb1
 clear hn1 hn3 hpll hW1 a1 hb1
 go_wp2_with fail
 rw [HW1.out]
 refine HMD.out.mono ?_
 rintro e w5 ⟨B, tg, g, mb, rt, rm, rfl, hdu, hBl, hb5⟩
 have HB5 := Lib.hid (HBW1.out.trans (hb5.mono HBW1.out.size))
 have hgd : Tr.Good (Tr.run PP 1000 [] os) := Tr.run_good _ _ _ _ Tr.good_nil
 have hll : (Tr.run PP 1000 [] os).length ≤ 40 := by
  have h1 := Tr.run_len PP 1000 os []
  have h2 := (Tr.few_of HF.out).1
  simp at h1; omega
 obtain ⟨L, hL⟩ : ∃ L, Tr.run PP 1000 [] os = L := ⟨_, rfl⟩
 rw [hL] at hdu hgd hll
 have HGD := Lib.hid hgd
 have HTL := Lib.hid (hdu.tell hgd hll)
 have HTR := Lib.hid (hdu.tellR (HPL1.out.below hb5) HPS.out.b hgd (by omega))
 obtain ⟨m5, v5, S5, hrf, hS5⟩ := hdu.ref
 obtain ⟨ao, cap, rfl⟩ := own_form hrf.own
 have HRF := Lib.hid hrf
 have HS5 := Lib.hid hS5
 obtain ⟨pb, hpb⟩ : ∃ pb, w4.heap.size = pb := ⟨_, rfl⟩
 have hA5 := HA1.out.below hb5 HA1.out.lt
 rw [hpb] at hA5
 have hpbl := hA5.lt
 have p0 := hA5.cell 0
 have p1 := hA5.cell 1
 have p2 := hA5.cell 2
 have p3 := hA5.cell 3
 have p4 := hA5.cell 4
 have p5 := hA5.cell 5
 simp only [List.getElem?_toArray, List.getElem?_cons_zero, List.getElem?_cons_succ] at p0 p1 p2 p3 p4 p5
 have HPB := Lib.hid hpb
 have hPR5 : PlanR w5 (.agg #[.slice P1 n1 c1, .slice P2 n2 c2, .slice P3 n3 c3, .slice P4 n4 c4, .slice P5 n5 c5, .slice P6 n6 c6]) PP := HPL1.out.below hb5
 have HPLL := Lib.hid (show ∃ pl, Lie w5 72 P3 (prodsV pl) ∧ pl.map (·.1) = PP.rules ∧ ∀ p ∈ pl, IntL w5 p.2 p.1.right from by
  obtain ⟨pl, k1, k2, k3⟩ := HPLL4.out
  have hb45 : Below w4.heap.size w4 w5 := HB14.out.trans (hb5.mono HB14.out.size)
  exact ⟨pl, k1.below hb45, k2, fun p hp => (k3 p hp).stay (Stay.below hb45)⟩)
 obtain ⟨n, hn⟩ : ∃ n, L.length = n := ⟨_, rfl⟩
 have HN := Lib.hid hn
 have hn40 : n ≤ 40 := by rw [← hn]; exact hll
 have hsn : S5.length = n := by rw [← hn, ← hS5, nds_len]
 have HSN := Lib.hid hsn
 have HLE := Lib.hid (fun w' (hw : Below w5.heap.size w5 w') => (HTL.out.len w' hw))
 rw [hn] at HLE
 have rc1 := hrf.at_.cell 1
 have rtl := hrf.at_.lt
 simp only [List.getElem?_toArray, List.getElem?_cons_zero, List.getElem?_cons_succ] at rc1
 rw [hsn] at rc1
 have HB := Lib.hid (Below.refl w5.heap.size w5)
 obtain ⟨GW, hGW⟩ := Qt.class_of w5.heap.size w5 (Nat.le_refl _)
 obtain ⟨xw, hxw⟩ := hGW.onto w5 (Below.refl _ _)
 have HGW := Lib.hid hGW
 have HXW := Lib.hid hxw
 have rq1 := Qt.cell hGW rtl rc1
 have K1 := Lib.hid (calls_atT hGW (fun x => (HLE.out (GW x) (hGW.below x)).mono (by rintro e w' ⟨rfl, rfl⟩; exact ⟨rfl, Below.refl _ _⟩)))
 clear hdu hgd hll hL hb5 hBl HMD HPR HO HIN HF HAT3 HB4 HB3 hrf hS5 hA5 hpb hPR5 hn hsn b0 b1 b2 b3 b4 b5 bl HPLL4 HB14 HA1 HPL1
 clear hGW hxw
 go_wp2_with fail
 rw [HXW.out]
 refine Qt.start HGW.out (by kernel_rfl) (by kernel_rfl) ?_
 repeat (go_big_quiet_step (first | with_reducible exact K1.out _))
 refine wpQuiet_nil ?_
 intro _ hw'
 obtain ⟨y, hw''⟩ := hw'
 subst hw''
 have HBY := Lib.hid (HB.out.trans ((HGW.out.below y).mono HB.out.size))
 go_wp2_with fail
 rw [HPB.out]
 go_loopw [11] (fun i wr => ∃ j : Nat, j ≤ n ∧ i = .int .i64 (j : Int) ∧ Below w5.heap.size w5 wr) (fun i _ => n - (intOf i).toNat)
 case atStart => exact ⟨0, by omega, rfl, HBY.out⟩
 case round =>
  obtain ⟨j, hj, rfl, hb⟩ := hrel
  have HB := Lib.hid hb
  have HLE1 := Lib.hid (HLE.out wr hb)
  clear hb
  by_cases hlt : j < n
  case neg =>
   obtain rfl : n = j := by omega
   go_wp2_with fail
   refine HLE1.out.mono ?_
   rintro e w6 ⟨rfl, rfl⟩
   go_wp2_with fail
   go_ret
   exact ⟨rfl, HB5.out.trans (HB.out.mono HB5.out.size)⟩
  case pos =>
  have hji : (j : Int) < (n : Int) := by omega
  have hj0 : (0 : Int) ≤ (j : Int) := by omega
  have hhas : Tr.has L (j : Int) = true := Tr.has_of (by rw [HN.out]; exact hlt)
  have HHA := Lib.hid hhas
  obtain ⟨sl, hsl⟩ : ∃ s, S5[j]? = some s := ⟨_, List.getElem?_eq_getElem (by rw [HSN.out]; exact hlt)⟩
  obtain ⟨bn, capn, e, _, hbln, hcln, _⟩ := HRF.out.cells hsl
  simp only [Value.slice.injEq] at e
  have hao := e.1
  have hcap := e.2.2
  clear e
  have hat : Tr.at_ L (j : Int) = sl.x := by rw [← HS5.out]; exact Tr.at_of (nds_at hsl)
  have z0 := hcln 0 (.bool sl.x.leaf) (by omega) rfl
  rw [Nat.add_zero] at z0
  have w0 := (HB.out.cell (p := ⟨bn, j * 8, none⟩) hbln).trans z0
  have w1' := (HB.out.cell (p := ⟨rt, 1, none⟩) rtl).trans rc1
  rw [hao] at w1'
  clear hcap
  obtain ⟨lf, hlf⟩ : ∃ b, (Tr.at_ L (j : Int)).leaf = b := ⟨_, rfl⟩
  have hlf2 : sl.x.leaf = lf := by rw [← hat]; exact hlf
  rw [hlf2] at w0
  have HLF := Lib.hid hlf
  obtain ⟨sy, hsy⟩ : ∃ z, (Tr.at_ L (j : Int)).sym = z := ⟨_, rfl⟩
  have HSY := Lib.hid hsy
  have hrtw : rt < wr.heap.size := Nat.lt_of_lt_of_le rtl HB.out.size
  have hbnw : bn < wr.heap.size := Nat.lt_of_lt_of_le hbln HB.out.size
  clear hsl hcln hat z0 hlf hlf2 hsy hhas hao
  cases lf with
  | true =>
   have HRV := Lib.hid (show Tr.right PP L (j : Int) = decide (0 < sy ∧ sy < (n1 : Int)) by rw [HGD.out.leaf_right PP HHA.out HLF.out, HSY.out, HN1.out])
   go_wp2_with fail
   refine HLE1.out.mono ?_
   rintro e w6 ⟨rfl, rfl⟩
   by_cases h1 : 0 < sy
   ·by_cases h2 : sy < (n1 : Int)
    ·have d1 : decide (0 < sy) = true := decide_eq_true h1
     have d2 : decide (sy < (n1 : Int)) = true := decide_eq_true h2
     have h2' : ¬ (n1 : Int) ≤ sy := by omega
     obtain ⟨GW, hGW⟩ := Qt.class_of wr.heap.size wr (Nat.le_refl _)
     obtain ⟨xw, hxw⟩ := hGW.onto wr (Below.refl _ _)
     have HGW := Lib.hid hGW
     have HXW := Lib.hid hxw
     have q0 := Qt.cell hGW (Nat.lt_of_lt_of_le hpbl HB.out.size) ((HB.out.cell (p := ⟨pb, 0, none⟩) hpbl).trans p0)
     have q1 := Qt.cell hGW (Nat.lt_of_lt_of_le hpbl HB.out.size) ((HB.out.cell (p := ⟨pb, 1, none⟩) hpbl).trans p1)
     have q2 := Qt.cell hGW (Nat.lt_of_lt_of_le hpbl HB.out.size) ((HB.out.cell (p := ⟨pb, 2, none⟩) hpbl).trans p2)
     have q3 := Qt.cell hGW (Nat.lt_of_lt_of_le hpbl HB.out.size) ((HB.out.cell (p := ⟨pb, 3, none⟩) hpbl).trans p3)
     have q4 := Qt.cell hGW (Nat.lt_of_lt_of_le hpbl HB.out.size) ((HB.out.cell (p := ⟨pb, 4, none⟩) hpbl).trans p4)
     have q5 := Qt.cell hGW (Nat.lt_of_lt_of_le hpbl HB.out.size) ((HB.out.cell (p := ⟨pb, 5, none⟩) hpbl).trans p5)
     have HRI := HTR.out.right (j : Int)
     rw [show Tr.right PP L (j : Int) = true by rw [HRV.out]; exact decide_eq_true ⟨h1, h2⟩] at HRI
     have K1 := Lib.hid (calls_atT hGW (fun x => HRI (GW x) (HB.out.trans ((hGW.below x).mono HB.out.size))))
     have K2 := Lib.hid (calls_atT hGW (fun x => HTR.out.sym (j : Int) (GW x) (HB.out.trans ((hGW.below x).mono HB.out.size))))
     rw [HSY.out] at K2
     clear HRI
     clear hGW hxw
     go_wp2_with fail
     rw [HXW.out]
     refine Qt.start HGW.out (by kernel_rfl) (by kernel_rfl) ?_
     repeat (go_big_quiet_step (first | with_reducible exact K1.out _ | with_reducible exact K2.out _))
     refine wpQuiet_nil ?_
     intro _ hw'
     obtain ⟨y, hw''⟩ := hw'
     subst hw''
     have HBY := Lib.hid (HB.out.trans ((HGW.out.below y).mono HB.out.size))
     go_wp2_with fail
     go_roundw
     case rel => exact ⟨j + 1, by omega, by go_num, HBY.out⟩
     case measure => simp [intOf]; omega
    ·have d1 : decide (0 < sy) = true := decide_eq_true h1
     have d2 : decide (sy < (n1 : Int)) = false := decide_eq_false h2
     have h2' : (n1 : Int) ≤ sy := by omega
     obtain ⟨GW, hGW⟩ := Qt.class_of wr.heap.size wr (Nat.le_refl _)
     obtain ⟨xw, hxw⟩ := hGW.onto wr (Below.refl _ _)
     have HGW := Lib.hid hGW
     have HXW := Lib.hid hxw
     have q0 := Qt.cell hGW (Nat.lt_of_lt_of_le hpbl HB.out.size) ((HB.out.cell (p := ⟨pb, 0, none⟩) hpbl).trans p0)
     have q1 := Qt.cell hGW (Nat.lt_of_lt_of_le hpbl HB.out.size) ((HB.out.cell (p := ⟨pb, 1, none⟩) hpbl).trans p1)
     have q2 := Qt.cell hGW (Nat.lt_of_lt_of_le hpbl HB.out.size) ((HB.out.cell (p := ⟨pb, 2, none⟩) hpbl).trans p2)
     have q3 := Qt.cell hGW (Nat.lt_of_lt_of_le hpbl HB.out.size) ((HB.out.cell (p := ⟨pb, 3, none⟩) hpbl).trans p3)
     have q4 := Qt.cell hGW (Nat.lt_of_lt_of_le hpbl HB.out.size) ((HB.out.cell (p := ⟨pb, 4, none⟩) hpbl).trans p4)
     have q5 := Qt.cell hGW (Nat.lt_of_lt_of_le hpbl HB.out.size) ((HB.out.cell (p := ⟨pb, 5, none⟩) hpbl).trans p5)
     have HRI := HTR.out.right (j : Int)
     rw [show Tr.right PP L (j : Int) = false by rw [HRV.out]; exact decide_eq_false (fun h => by first | exact h1 h.1 | exact h2 h.2)] at HRI
     have K1 := Lib.hid (calls_atT hGW (fun x => HRI (GW x) (HB.out.trans ((hGW.below x).mono HB.out.size))))
     have K2 := Lib.hid (calls_atT hGW (fun x => HTR.out.sym (j : Int) (GW x) (HB.out.trans ((hGW.below x).mono HB.out.size))))
     rw [HSY.out] at K2
     clear HRI
     clear hGW hxw
     go_wp2_with fail
     rw [HXW.out]
     refine Qt.start HGW.out (by kernel_rfl) (by kernel_rfl) ?_
     repeat (go_big_quiet_step (first | with_reducible exact K1.out _ | with_reducible exact K2.out _))
     refine wpQuiet_nil ?_
     intro _ hw'
     obtain ⟨y, hw''⟩ := hw'
     subst hw''
     have HBY := Lib.hid (HB.out.trans ((HGW.out.below y).mono HB.out.size))
     go_wp2_with fail
     go_roundw
     case rel => exact ⟨j + 1, by omega, by go_num, HBY.out⟩
     case measure => simp [intOf]; omega
   ·have d1 : decide (0 < sy) = false := decide_eq_false h1
    obtain ⟨GW, hGW⟩ := Qt.class_of wr.heap.size wr (Nat.le_refl _)
    obtain ⟨xw, hxw⟩ := hGW.onto wr (Below.refl _ _)
    have HGW := Lib.hid hGW
    have HXW := Lib.hid hxw
    have q0 := Qt.cell hGW (Nat.lt_of_lt_of_le hpbl HB.out.size) ((HB.out.cell (p := ⟨pb, 0, none⟩) hpbl).trans p0)
    have q1 := Qt.cell hGW (Nat.lt_of_lt_of_le hpbl HB.out.size) ((HB.out.cell (p := ⟨pb, 1, none⟩) hpbl).trans p1)
    have q2 := Qt.cell hGW (Nat.lt_of_lt_of_le hpbl HB.out.size) ((HB.out.cell (p := ⟨pb, 2, none⟩) hpbl).trans p2)
    have q3 := Qt.cell hGW (Nat.lt_of_lt_of_le hpbl HB.out.size) ((HB.out.cell (p := ⟨pb, 3, none⟩) hpbl).trans p3)
    have q4 := Qt.cell hGW (Nat.lt_of_lt_of_le hpbl HB.out.size) ((HB.out.cell (p := ⟨pb, 4, none⟩) hpbl).trans p4)
    have q5 := Qt.cell hGW (Nat.lt_of_lt_of_le hpbl HB.out.size) ((HB.out.cell (p := ⟨pb, 5, none⟩) hpbl).trans p5)
    have HRI := HTR.out.right (j : Int)
    rw [show Tr.right PP L (j : Int) = false by rw [HRV.out]; exact decide_eq_false (fun h => by first | exact h1 h.1 | exact h2 h.2)] at HRI
    have K1 := Lib.hid (calls_atT hGW (fun x => HRI (GW x) (HB.out.trans ((hGW.below x).mono HB.out.size))))
    have K2 := Lib.hid (calls_atT hGW (fun x => HTR.out.sym (j : Int) (GW x) (HB.out.trans ((hGW.below x).mono HB.out.size))))
    rw [HSY.out] at K2
    clear HRI
    clear hGW hxw
    go_wp2_with fail
    rw [HXW.out]
    refine Qt.start HGW.out (by kernel_rfl) (by kernel_rfl) ?_
    repeat (go_big_quiet_step (first | with_reducible exact K1.out _ | with_reducible exact K2.out _))
    refine wpQuiet_nil ?_
    intro _ hw'
    obtain ⟨y, hw''⟩ := hw'
    subst hw''
    have HBY := Lib.hid (HB.out.trans ((HGW.out.below y).mono HB.out.size))
    go_wp2_with fail
    go_roundw
    case rel => exact ⟨j + 1, by omega, by go_num, HBY.out⟩
    case measure => simp [intOf]; omega
  | false =>
   obtain ⟨ru, hru⟩ : ∃ z, (Tr.at_ L (j : Int)).rule = z := ⟨_, rfl⟩
   have HRU := Lib.hid hru
   obtain ⟨K, hK⟩ : ∃ K, Tr.kidsOf L (j : Int) = K := ⟨_, rfl⟩
   have HK := Lib.hid hK
   have HKI := Lib.hid (HTL.out.kids (j : Int) wr HB.out)
   rw [show (Tr.at_ L (j : Int)).kids = K from hK] at HKI
   obtain ⟨kn, hkn⟩ : ∃ kn, K.length = kn := ⟨_, rfl⟩
   rw [hkn] at HKI
   have HKN := Lib.hid hkn
   have HK40 := Lib.hid (show kn ≤ 40 from by have := HGD.out.kids_len (j : Int); rw [hK, hkn, HN.out] at this; omega)
   clear hK hkn hru
   go_wp2_with fail
   refine HLE1.out.mono ?_
   rintro e w6 ⟨rfl, rfl⟩
   go_wp2_with fail
   refine HKI.out.mono ?_
   rintro e w6 ⟨KA, kc, rfl, hko, hb6⟩
   have HBo := HB
   have HB6 := Lib.hid (HB.out.trans (hb6.mono HB.out.size))
   have HL6 := Lib.hid (Lie.own hko)
   clear hko hb6 HKI HLE1
   obtain ⟨GW, hGW⟩ := Qt.class_of w6.heap.size w6 (Nat.le_refl _)
   obtain ⟨xw, hxw⟩ := hGW.onto w6 (Below.refl _ _)
   have HGW := Lib.hid hGW
   have HXW := Lib.hid hxw
   have q0 := Qt.cell hGW (Nat.lt_of_lt_of_le hpbl HB6.out.size) ((HB6.out.cell (p := ⟨pb, 0, none⟩) hpbl).trans p0)
   have q1 := Qt.cell hGW (Nat.lt_of_lt_of_le hpbl HB6.out.size) ((HB6.out.cell (p := ⟨pb, 1, none⟩) hpbl).trans p1)
   have q2 := Qt.cell hGW (Nat.lt_of_lt_of_le hpbl HB6.out.size) ((HB6.out.cell (p := ⟨pb, 2, none⟩) hpbl).trans p2)
   have q3 := Qt.cell hGW (Nat.lt_of_lt_of_le hpbl HB6.out.size) ((HB6.out.cell (p := ⟨pb, 3, none⟩) hpbl).trans p3)
   have q4 := Qt.cell hGW (Nat.lt_of_lt_of_le hpbl HB6.out.size) ((HB6.out.cell (p := ⟨pb, 4, none⟩) hpbl).trans p4)
   have q5 := Qt.cell hGW (Nat.lt_of_lt_of_le hpbl HB6.out.size) ((HB6.out.cell (p := ⟨pb, 5, none⟩) hpbl).trans p5)
   have K1 := Lib.hid (calls_atT hGW (fun x => HTR.out.rule (j : Int) (GW x) (HB6.out.trans ((hGW.below x).mono HB6.out.size))))
   rw [HRU.out] at K1
   by_cases h1 : 0 < ru
   ·by_cases h2 : ru < (n3 : Int)
    ·have d1 : decide (0 < ru) = true := decide_eq_true h1
     have d2 : decide (ru < (n3 : Int)) = true := decide_eq_true h2
     clear hGW hxw
     go_wp2_with fail
     rw [HXW.out]
     refine Qt.start HGW.out (by kernel_rfl) (by kernel_rfl) ?_
     repeat (go_big_quiet_step (first | with_reducible exact K1.out _))
     refine wpQuiet_nil ?_
     intro _ hw'
     obtain ⟨y, hw''⟩ := hw'
     subst hw''
     have HBY := Lib.hid (HB6.out.trans ((HGW.out.below y).mono HB6.out.size))
     obtain ⟨wk, hwk⟩ : ∃ z, GW y = z := ⟨_, rfl⟩
     rw [hwk] at HBY ⊢
     have HBK := Lib.hid HBY.out
     have HLKA := Lib.hid (show Lie wk 3 KA (vals K) by rw [← hwk]; exact HL6.out.below (HGW.out.below y))
     clear hwk HBY q0 q1 q2 q3 q4 q5
     have HF0 := Lib.hid (show true = decide (0 < ru ∧ ru < (n3 : Int)) from (by symm; exact decide_eq_true (by omega)))
     go_wp2_with fail
     go_loopw [13, 14, 15] (fun fn sy q wr => ∃ (p : Nat) (A : Option Addr) (c : Nat), p ≤ kn ∧ q = .int .i64 (p : Int) ∧ fn = .bool (true && (K.take p).all (Tr.right PP L)) ∧ sy = .slice A p c ∧ wr.ownsRow wk.heap.size 3 1 (.slice A p c) p (vals ((K.take p).map fun k => (Tr.at_ L k).sym)) ∧ Below wk.heap.size wk wr) (fun _ _ q _ => kn - (intOf q).toNat)
     case atStart => exact ⟨0, none, 0, by omega, rfl, rfl, rfl, World.ownsRow_nil _ _ _ _, Below.refl _ _⟩
     case round =>
      obtain ⟨p, A, c, hp, rfl, rfl, rfl, ho, hbw⟩ := hrel
      have HOS := Lib.hid ho
      have HBW := Lib.hid hbw
      have HB := Lib.hid (HBK.out.trans (hbw.mono HBK.out.size))
      have HLK := Lib.hid (HLKA.out.below hbw)
      have hk40 := HK40.out
      obtain ⟨FV, hFV⟩ : ∃ b, (true && (K.take p).all (Tr.right PP L)) = b := ⟨_, rfl⟩
      rw [hFV]
      have HFV := Lib.hid hFV
      clear ho hbw hFV
      by_cases hlt2 : p < kn
      case pos =>
       have hpi : (p : Int) < (kn : Int) := by omega
       have hp0 : (0 : Int) ≤ (p : Int) := by omega
       obtain ⟨x, hx⟩ : ∃ x, K[p]? = some x := ⟨_, List.getElem?_eq_getElem (by rw [HKN.out]; exact hlt2)⟩
       obtain ⟨b9, o9, rfl, hbl9, hc9⟩ := lie_at HLK.out hx
       have HTM := Lib.hid (map_take_succ (fun k => (Tr.at_ L k).sym) hx)
       have HTA := Lib.hid (all_take_succ (Tr.right PP L) hx)
       obtain ⟨RX, hRX⟩ : ∃ b, Tr.right PP L x = b := ⟨_, rfl⟩
       rw [hRX] at HTA
       obtain ⟨sx, hsx⟩ : ∃ z, (Tr.at_ L x).sym = z := ⟨_, rfl⟩
       rw [hsx] at HTM
       obtain ⟨j0, hj0, hj1, hj2, hj3⟩ := info_parts infoIntW
       obtain ⟨GW, hGW⟩ := Qt.class_of wr.heap.size wr (Nat.le_refl _)
       obtain ⟨xw, hxw⟩ := hGW.onto wr (Below.refl _ _)
       have HGW := Lib.hid hGW
       have HXW := Lib.hid hxw
       have qk := Qt.cell hGW hbl9 hc9
       have q0 := Qt.cell hGW (Nat.lt_of_lt_of_le hpbl HB.out.size) ((HB.out.cell (p := ⟨pb, 0, none⟩) hpbl).trans p0)
       have q1 := Qt.cell hGW (Nat.lt_of_lt_of_le hpbl HB.out.size) ((HB.out.cell (p := ⟨pb, 1, none⟩) hpbl).trans p1)
       have q2 := Qt.cell hGW (Nat.lt_of_lt_of_le hpbl HB.out.size) ((HB.out.cell (p := ⟨pb, 2, none⟩) hpbl).trans p2)
       have q3 := Qt.cell hGW (Nat.lt_of_lt_of_le hpbl HB.out.size) ((HB.out.cell (p := ⟨pb, 3, none⟩) hpbl).trans p3)
       have q4 := Qt.cell hGW (Nat.lt_of_lt_of_le hpbl HB.out.size) ((HB.out.cell (p := ⟨pb, 4, none⟩) hpbl).trans p4)
       have q5 := Qt.cell hGW (Nat.lt_of_lt_of_le hpbl HB.out.size) ((HB.out.cell (p := ⟨pb, 5, none⟩) hpbl).trans p5)
       have hri := HTR.out.right x
       have hsy := HTR.out.sym x
       rw [hRX] at hri
       rw [hsx] at hsy
       have K1 := Lib.hid (calls_atT hGW (fun z => hri (GW z) (HB.out.trans ((hGW.below z).mono HB.out.size))))
       have HSX := Lib.hid hsy
       clear hx hRX hsx hri hsy
       cases FV with
       | false =>
        clear hGW hxw
        go_wp2_with fail
        rw [HXW.out]
        refine Qt.start HGW.out (by kernel_rfl) (by kernel_rfl) ?_
        repeat (go_big_quiet_step (fail))
        refine wpQuiet_nil ?_
        intro _ hw'
        obtain ⟨y, hw''⟩ := hw'
        subst hw''
        have HBY := Lib.hid (HB.out.trans ((HGW.out.below y).mono HB.out.size))
        go_wp2_with fail
        refine (HSX.out (GW y) HBY.out).mono ?_
        rintro e w7 ⟨rfl, hb7⟩
        have hby : Below wr.heap.size wr w7 := (HGW.out.below y).trans (hb7.mono (HGW.out.below y).size)
        have HB7 := Lib.hid (HBW.out.trans (hby.mono HBW.out.size))
        have HO7 := Lib.hid (own_below HOS.out hby (fun k hk => (HOS.out.lt k hk).2))
        clear hb7 hby HSX
        go_wp2_with (at_builtin; (refine wpList_append_own3T _ rfl (.tmp 113) (.tmp 120) 32 rfl wk.heap.size 3 j0 _ 1 8 Tryz.underlying32 hj0 hj1 hj2 hj3 rfl (by decide) _ p _ rfl (HO7.out.alloc (.cells #[.int .i64 sx] 3)) (some ⟨w7.heap.size, 0, none⟩) 1 1 [.int .i64 sx] rfl rfl (LiesT_lie (lie_new w7 3 [.int .i64 sx])) (by simp [Value.oneCell']) (by unfold maxLen; omega) (by omega) (by have := HB7.out.size; simp; omega) ?_; intro v8 w8 ho8 hg8 hn8; obtain ⟨a8, c8, rfl⟩ := own_form ho8; have hb8 := (HB7.out.alloc HB7.out.size (.cells #[.int .i64 sx] 3)).grown hg8 (by have := HB7.out.size; simp; omega) (fun k hk => (HO7.out.lt k hk).1); have HO8 := Lib.hid ho8; have HB8 := Lib.hid hb8; clear ho8 hg8 hn8 hb8))
        go_roundw
        case rel =>
         refine ⟨p + 1, a8, c8, by omega, by go_num, by rw [HTA.out, ← Bool.and_assoc, HFV.out]; rfl, rfl, ?_, HB8.out⟩
         rw [HTM.out, vals_snocR]; exact HO8.out
        case measure => simp [intOf]; omega
       | true =>
        clear hGW hxw
        go_wp2_with fail
        rw [HXW.out]
        refine Qt.start HGW.out (by kernel_rfl) (by kernel_rfl) ?_
        repeat (go_big_quiet_step (first | with_reducible exact K1.out _))
        refine wpQuiet_nil ?_
        intro _ hw'
        obtain ⟨y, hw''⟩ := hw'
        subst hw''
        have HBY := Lib.hid (HB.out.trans ((HGW.out.below y).mono HB.out.size))
        go_wp2_with fail
        refine (HSX.out (GW y) HBY.out).mono ?_
        rintro e w7 ⟨rfl, hb7⟩
        have hby : Below wr.heap.size wr w7 := (HGW.out.below y).trans (hb7.mono (HGW.out.below y).size)
        have HB7 := Lib.hid (HBW.out.trans (hby.mono HBW.out.size))
        have HO7 := Lib.hid (own_below HOS.out hby (fun k hk => (HOS.out.lt k hk).2))
        clear hb7 hby HSX
        go_wp2_with (at_builtin; (refine wpList_append_own3T _ rfl (.tmp 113) (.tmp 120) 32 rfl wk.heap.size 3 j0 _ 1 8 Tryz.underlying32 hj0 hj1 hj2 hj3 rfl (by decide) _ p _ rfl (HO7.out.alloc (.cells #[.int .i64 sx] 3)) (some ⟨w7.heap.size, 0, none⟩) 1 1 [.int .i64 sx] rfl rfl (LiesT_lie (lie_new w7 3 [.int .i64 sx])) (by simp [Value.oneCell']) (by unfold maxLen; omega) (by omega) (by have := HB7.out.size; simp; omega) ?_; intro v8 w8 ho8 hg8 hn8; obtain ⟨a8, c8, rfl⟩ := own_form ho8; have hb8 := (HB7.out.alloc HB7.out.size (.cells #[.int .i64 sx] 3)).grown hg8 (by have := HB7.out.size; simp; omega) (fun k hk => (HO7.out.lt k hk).1); have HO8 := Lib.hid ho8; have HB8 := Lib.hid hb8; clear ho8 hg8 hn8 hb8))
        go_roundw
        case rel =>
         refine ⟨p + 1, a8, c8, by omega, by go_num, by rw [HTA.out, ← Bool.and_assoc, HFV.out]; rfl, rfl, ?_, HB8.out⟩
         rw [HTM.out, vals_snocR]; exact HO8.out
        case measure => simp [intOf]; omega
      case neg =>
       obtain rfl : kn = p := by omega
       rw [List.take_of_length_le (by rw [HKN.out]; exact Nat.le_refl _)] at HFV HOS
       clear hlt2
       obtain ⟨RV, hRV⟩ : ∃ b, Tr.right PP L (j : Int) = b := ⟨_, rfl⟩
       have HRI := Lib.hid (HTR.out.right (j : Int))
       rw [hRV] at HRI
       have hre := HGD.out.right_eq PP HHA.out
       rw [hRV, HK.out] at hre
       have HRE := Lib.hid hre
       clear hRV hre
       have q0 := (HB.out.cell (p := ⟨pb, 0, none⟩) hpbl).trans p0
       have q1 := (HB.out.cell (p := ⟨pb, 1, none⟩) hpbl).trans p1
       have q2 := (HB.out.cell (p := ⟨pb, 2, none⟩) hpbl).trans p2
       have q3 := (HB.out.cell (p := ⟨pb, 3, none⟩) hpbl).trans p3
       have q4 := (HB.out.cell (p := ⟨pb, 4, none⟩) hpbl).trans p4
       have q5 := (HB.out.cell (p := ⟨pb, 5, none⟩) hpbl).trans p5
       have hbs := HB.out.size
       have hpbw : pb < wr.heap.size := Nat.lt_of_lt_of_le hpbl hbs
       cases FV with
       | false =>
        have hrv : RV = false := by
         rw [HRE.out]
         cases ha : K.all (Tr.right PP L) with
         | false => rfl
         | true =>
          have h5 := HFV.out
          rw [ha, Bool.and_true] at h5
          rw [Bool.true_and]
          unfold Tr.fits
          rw [if_neg (by rw [HLF.out]; decide), if_pos]
          have h6 := HF0.out
          rw [h5] at h6
          have h7 := of_decide_eq_false h6.symm
          rw [HRU.out, HN3.out]
          omega
        subst hrv
        go_wp2_with fail
        refine (HRI.out wr HB.out).mono ?_
        rintro e w8 ⟨rfl, hb8⟩
        have HBY := Lib.hid (HB.out.trans (hb8.mono HB.out.size))
        clear hb8 HRI
        go_wp2_with fail
        go_roundw
        case rel => exact ⟨j + 1, by omega, by go_num, HBY.out⟩
        case measure => simp [intOf]; omega
       | true =>
        have hall : K.all (Tr.right PP L) = true := by have := HFV.out; simpa using this
        have hru := of_decide_eq_true HF0.out.symm
        obtain ⟨k, hk⟩ : ∃ k : Nat, ru = (k : Int) := ⟨ru.toNat, by omega⟩
        obtain ⟨pl, q3', q4', q5'⟩ := HPLL.out
        have hpl : pl.length = n3 := by rw [← HN3.out, ← q4', List.length_map]
        obtain ⟨⟨pi, pw⟩, hpk⟩ : ∃ p, pl[k]? = some p := ⟨_, List.getElem?_eq_getElem (by omega)⟩
        have hpr : PP.rules[k]? = some pi := by rw [← q4', List.getElem?_map, hpk]; rfl
        have hrl := HPS.out.right pi (List.mem_of_getElem? hpr)
        obtain ⟨RA, rc, hpw, hRA⟩ := q5' _ (List.mem_of_getElem? hpk)
        dsimp only at hpw hRA
        subst hpw
        obtain ⟨b, o, rfl, hbl, y0, y1, y2⟩ := prods_at q3' hpk
        dsimp only at y0 y1 y2
        obtain ⟨sj, hsj⟩ : ∃ z, (Tr.at_ L (j : Int)).sym = z := ⟨_, rfl⟩
        have HSJ := Lib.hid hsj
        have hans : RV = (decide (sj = pi.left) && decide ((K.map fun k => (Tr.at_ L k).sym) = pi.right)) := by
         rw [HRE.out, hall, Bool.true_and]
         unfold Tr.fits
         rw [if_neg (by rw [HLF.out]; decide), if_neg (by rw [HRU.out, HN3.out]; omega), HRU.out, hk, Int.toNat_natCast, hpr, hsj]
         have e1 : (Tr.at_ L (j : Int)).kids = K := HK.out
         rw [e1]
        obtain ⟨rn, hrn⟩ : ∃ n, pi.right.length = n := ⟨_, rfl⟩
        rw [hrn] at y1 hrl
        have HRN := Lib.hid hrn
        have HRA9 := Lib.hid (fun w' (hw : Below w5.heap.size w5 w') => hRA.below hw)
        obtain ⟨pl0, hpl0⟩ : ∃ z, pi.left = z := ⟨_, rfl⟩
        rw [hpl0] at y0 hans
        obtain ⟨pl2, hpl2⟩ : ∃ z, pi.level = z := ⟨_, rfl⟩
        rw [hpl2] at y2
        have HANS := Lib.hid hans
        have HKK := Lib.hid hk
        have HRUL := Lib.hid (HTR.out.rule (j : Int) wr.drew (below_drew HB.out))
        rw [HRU.out, hk] at HRUL
        have hk0 : (0 : Int) ≤ (k : Int) := by omega
        have hkn3 : (k : Int) < (n3 : Int) := by omega
        have HZ := Lib.hid (show ∀ w', Below wr.heap.size wr w' → (w'.cell? ⟨pb, 2, none⟩ = some (.slice (some ⟨b, o, none⟩) n3 c3) ∧ w'.cell? ⟨b, o + k * 3, none⟩ = some (.int .i64 pl0) ∧ w'.cell? ⟨b, o + k * 3 + 1, none⟩ = some (.slice RA rn rc) ∧ w'.cell? ⟨b, o + k * 3 + 2, none⟩ = some (.int .i64 pl2)) from fun w' hw => by
         have hw5 := HB.out.trans (hw.mono HB.out.size)
         exact ⟨(hw5.cell (p := ⟨pb, 2, none⟩) hpbl).trans p2, (hw5.cell (p := ⟨b, o + k * 3, none⟩) hbl).trans y0, (hw5.cell (p := ⟨b, o + k * 3 + 1, none⟩) hbl).trans y1, (hw5.cell (p := ⟨b, o + k * 3 + 2, none⟩) hbl).trans y2⟩)
        have hz0 := HZ.out wr.drew (below_drew (Below.refl _ _))
        clear hall hru hpl hpk hpr hRA hsj hans hrn hpl0 hpl2 q3' q4' q5' hk q0 q1 q2 q3 q4 q5
        go_wp2_with fail
        refine Zed.begin_ (fun w' => w'.cell? ⟨pb, 2, none⟩ = some (.slice (some ⟨b, o, none⟩) n3 c3) ∧ w'.cell? ⟨b, o + k * 3, none⟩ = some (.int .i64 pl0) ∧ w'.cell? ⟨b, o + k * 3 + 1, none⟩ = some (.slice RA rn rc) ∧ w'.cell? ⟨b, o + k * 3 + 2, none⟩ = some (.int .i64 pl2)) [8] (by kernel_rfl) ?_
        refine Zd.pureD (i := 0) (d := some 123) (v := ?vrz0) rfl rfl (by kernel_rfl) (by kernel_rfl) (by kernel_rfl) (by kernel_rfl) (by kernel_rfl) (fun _ _ _ h => h) (Or.inl ⟨by kernel_rfl, ?hyrz0⟩) (.inr hz0) ?restrz0
        case hyrz0 => (intro w _; go_simp; try with_reducible rfl)
        try simp only [Act.put, List.setIfInBounds_toArray, List.set_cons_zero, List.set_cons_succ]
        refine Zd.takeD (i := 1) (d := some 124) (v := ?vrz1) rfl rfl (by kernel_rfl) (by kernel_rfl) (by kernel_rfl) (by kernel_rfl) (by kernel_rfl) (fun _ _ _ h => h) (Or.inl ⟨by kernel_rfl, ?hyrz1⟩) hz0 ?restrz1
        case hyrz1 => (intro w hSw; (try dsimp only at hSw); obtain ⟨u1, u2, u3, u4⟩ := hSw; go_simp; try with_reducible rfl)
        try simp only [Act.put, List.setIfInBounds_toArray, List.set_cons_zero, List.set_cons_succ]
        refine Zd.pureD (i := 2) (d := some 125) (v := ?vrz2) rfl rfl (by kernel_rfl) (by kernel_rfl) (by kernel_rfl) (by kernel_rfl) (by kernel_rfl) (fun _ _ _ h => h) (Or.inl ⟨by kernel_rfl, ?hyrz2⟩) (.inr hz0) ?restrz2
        case hyrz2 => (intro w _; go_simp; try with_reducible rfl)
        try simp only [Act.put, List.setIfInBounds_toArray, List.set_cons_zero, List.set_cons_succ]
        refine Zd.pureD (i := 3) (d := some 126) (v := ?vrz3) rfl rfl (by kernel_rfl) (by kernel_rfl) (by kernel_rfl) (by kernel_rfl) (by kernel_rfl) (fun _ _ _ h => h) (Or.inl ⟨by kernel_rfl, ?hyrz3⟩) (.inr hz0) ?restrz3
        case hyrz3 => (intro w _; go_simp; try with_reducible rfl)
        try simp only [Act.put, List.setIfInBounds_toArray, List.set_cons_zero, List.set_cons_succ]
        refine Zed.two (i := 4) (j := 7) (by kernel_rfl) rfl rfl (fun K hK => ?_) (fun K hK => ?_)
        ·refine callIfT (by kernel_rfl) (by kernel_rfl) HRUL.out ?_
         rintro e wa ⟨rfl, hba⟩
         have hba2 : Below wr.heap.size wr wa := (below_drew (Below.refl wr.heap.size wr)).trans (hba.mono (by simp))
         have hza := HZ.out _ hba2
         refine ⟨_, rfl, ?_⟩
         refine hK.out _ _ (.inr hza) ?_
         clear hK K
         try simp only [Act.put, List.setIfInBounds_toArray, List.set_cons_zero, List.set_cons_succ]
         refine Zd.pureD (i := 5) (d := some 128) (v := ?vra5) rfl rfl (by kernel_rfl) (by kernel_rfl) (by kernel_rfl) (by kernel_rfl) (by kernel_rfl) (fun _ _ _ h => h) (Or.inl ⟨by kernel_rfl, ?hyra5⟩) (.inr hza) ?restra5
         case hyra5 => (intro w _; go_simp; try with_reducible rfl)
         try simp only [Act.put, List.setIfInBounds_toArray, List.set_cons_zero, List.set_cons_succ]
         refine Zd.takeD (i := 6) (d := some 129) (v := ?vra6) rfl rfl (by kernel_rfl) (by kernel_rfl) (by kernel_rfl) (by kernel_rfl) (by kernel_rfl) (fun _ _ _ h => h) (Or.inl ⟨by kernel_rfl, ?hyra6⟩) hza ?restra6
         case hyra6 => (intro w hSw; (try dsimp only at hSw); obtain ⟨u1, u2, u3, u4⟩ := hSw; go_simp; try with_reducible rfl)
         try simp only [Act.put, List.setIfInBounds_toArray, List.set_cons_zero, List.set_cons_succ]
         refine Zed.one (i := 7) (by kernel_rfl) rfl (fun K hK => ?_)
         go_simp
         have hzb := HZ.out _ (hba2.alloc hba2.size (.cells #[.int .i64 0, .slice none 0 0, .int .i64 0] 72))
         refine hK.out _ _ (.inr hzb) ?_
         clear hK K
         try simp only [Act.put, List.setIfInBounds_toArray, List.set_cons_zero, List.set_cons_succ]
         refine Zed.one (i := 8) (by kernel_rfl) rfl (fun K hK => ?_)
         rw [if_pos (by kernel_rfl)]
         refine wp_store_row 72 _ _ rfl wa.heap.size _ rfl rfl _ _ (At.new wa 72 #[.int .i64 0, .slice none 0 0, .int .i64 0]) (by kernel_rfl) rfl (by simp [Value.oneCell']) ?_
         refine hK.out _ _ (.inl (by kernel_rfl)) ?_
         clear hK K
         try simp only [Act.put, List.setIfInBounds_toArray, List.set_cons_zero, List.set_cons_succ]
         refine Zed.all (by kernel_rfl) ?_ _
         obtain ⟨xb, hxb⟩ : ∃ xb, xb = wa.heap.size := ⟨_, rfl⟩
         have hA9 : At (World.setRow (wa.alloc (.cells #[.int .i64 0, .slice none 0 0, .int .i64 0] 72)) wa.heap.size #[.int .i64 pl0, .slice RA rn rc, .int .i64 pl2]) wa.heap.size 72 #[.int .i64 pl0, .slice RA rn rc, .int .i64 pl2] := setRow_heap _ _ _ _ _ (0, 0) (At.new wa 72 #[.int .i64 0, .slice none 0 0, .int .i64 0])
         have hb9 : Below wr.heap.size wr (World.setRow (wa.alloc (.cells #[.int .i64 0, .slice none 0 0, .int .i64 0] 72)) wa.heap.size #[.int .i64 pl0, .slice RA rn rc, .int .i64 pl2]) := below_grown (hba2.alloc hba2.size _) ⟨rfl, rfl, rfl, by simp, fun j _ hj => setRow_other _ _ j _ (fun e => hj (by simp [e]))⟩ (Below.size (hba2.alloc hba2.size _)) hba2.size
         obtain ⟨w9, hw9⟩ : ∃ w9, World.setRow (wa.alloc (.cells #[.int .i64 0, .slice none 0 0, .int .i64 0] 72)) wa.heap.size #[.int .i64 pl0, .slice RA rn rc, .int .i64 pl2] = w9 := ⟨_, rfl⟩
         rw [hw9] at hA9 hb9 ⊢
         rw [← hxb] at hA9 ⊢
         have HA9 := Lib.hid hA9
         have HW9 := Lib.hid hb9
         have HB9 := Lib.hid (HB.out.trans (hb9.mono HB.out.size))
         have HO9 := Lib.hid (own_below HOS.out hb9 (fun k hk => (HOS.out.lt k hk).2))
         clear hA9 hb9 hw9 hxb hz0 hba hba2 hza hzb
         obtain ⟨GW, hGW⟩ := Qt.class_of w9.heap.size w9 (Nat.le_refl _)
         obtain ⟨xw, hxw⟩ := hGW.onto w9 (Below.refl _ _)
         have HGW := Lib.hid hGW
         have HXW := Lib.hid hxw
         have q0 := Qt.cell hGW (Nat.lt_of_lt_of_le hpbl HB9.out.size) ((HB9.out.cell (p := ⟨pb, 0, none⟩) hpbl).trans p0)
         have q1 := Qt.cell hGW (Nat.lt_of_lt_of_le hpbl HB9.out.size) ((HB9.out.cell (p := ⟨pb, 1, none⟩) hpbl).trans p1)
         have q2 := Qt.cell hGW (Nat.lt_of_lt_of_le hpbl HB9.out.size) ((HB9.out.cell (p := ⟨pb, 2, none⟩) hpbl).trans p2)
         have q3 := Qt.cell hGW (Nat.lt_of_lt_of_le hpbl HB9.out.size) ((HB9.out.cell (p := ⟨pb, 3, none⟩) hpbl).trans p3)
         have q4 := Qt.cell hGW (Nat.lt_of_lt_of_le hpbl HB9.out.size) ((HB9.out.cell (p := ⟨pb, 4, none⟩) hpbl).trans p4)
         have q5 := Qt.cell hGW (Nat.lt_of_lt_of_le hpbl HB9.out.size) ((HB9.out.cell (p := ⟨pb, 5, none⟩) hpbl).trans p5)
         have r0 := Qt.cell hGW HA9.out.lt (HA9.out.cell 0)
         have r1 := Qt.cell hGW HA9.out.lt (HA9.out.cell 1)
         try simp only [List.getElem?_toArray, List.getElem?_cons_zero, List.getElem?_cons_succ] at r0 r1
         have K2 := Lib.hid (calls_atT hGW (fun x => HTR.out.sym (j : Int) (GW x) (HB9.out.trans ((hGW.below x).mono HB9.out.size))))
         rw [HSJ.out] at K2
         have K3 := Lib.hid (calls_atT hGW (fun x => intsL_any RA A rn kn rc c pi.right (K.map fun k => (Tr.at_ L k).sym) (GW x) HRN.out (by rw [List.length_map, HKN.out]) ((HRA9.out w9 HB9.out).below (hGW.below x)) ((Lie.own HO9.out).below (hGW.below x)) (by omega)))
         obtain ⟨QQ, hQQ⟩ : ∃ b, decide (pi.right = K.map fun k => (Tr.at_ L k).sym) = b := ⟨_, rfl⟩
         rw [hQQ] at K3
         have HQQ := Lib.hid hQQ
         clear hQQ
         by_cases hlr : pl0 = sj
         case pos =>
          subst hlr
          have hrv : RV = QQ := by rw [HANS.out, ← HQQ.out, decide_eq_true rfl, Bool.true_and]; exact decide_eq_decide.2 ⟨Eq.symm, Eq.symm⟩
          subst hrv
          clear hGW hxw
          go_wp2_with fail
          rw [HXW.out]
          refine Qt.start HGW.out (by kernel_rfl) (by kernel_rfl) ?_
          repeat (go_big_quiet_step (first | with_reducible exact K2.out _ | with_reducible exact K3.out _))
          refine wpQuiet_nil ?_
          intro _ hw'
          obtain ⟨y, hw''⟩ := hw'
          subst hw''
          have HBY := Lib.hid (HB9.out.trans ((HGW.out.below y).mono HB9.out.size))
          go_wp2_with fail
          refine (HRI.out (GW y) HBY.out).mono ?_
          rintro e w8 ⟨rfl, hb8⟩
          have HBZ := Lib.hid (HBY.out.trans (hb8.mono HBY.out.size))
          clear hb8 HRI
          cases RV with
          | false =>
           go_wp2_with fail
           go_roundw
           case rel => exact ⟨j + 1, by omega, by go_num, HBZ.out⟩
           case measure => simp [intOf]; omega
          | true =>
           go_wp2_with fail
           go_roundw
           case rel => exact ⟨j + 1, by omega, by go_num, HBZ.out⟩
           case measure => simp [intOf]; omega
         case neg =>
          have hle : (pl0 == sj) = false := by simpa using hlr
          have hrv : RV = false := by rw [HANS.out, decide_eq_false (fun h => hlr h.symm)]; rfl
          subst hrv
          clear hGW hxw
          go_wp2_with fail
          rw [HXW.out]
          refine Qt.start HGW.out (by kernel_rfl) (by kernel_rfl) ?_
          repeat (go_big_quiet_step (first | with_reducible exact K2.out _ | with_reducible exact K3.out _))
          refine wpQuiet_nil ?_
          intro _ hw'
          obtain ⟨y, hw''⟩ := hw'
          subst hw''
          have HBY := Lib.hid (HB9.out.trans ((HGW.out.below y).mono HB9.out.size))
          go_wp2_with fail
          refine (HRI.out (GW y) HBY.out).mono ?_
          rintro e w8 ⟨rfl, hb8⟩
          have HBZ := Lib.hid (HBY.out.trans (hb8.mono HBY.out.size))
          clear hb8 HRI
          go_wp2_with fail
          go_roundw
          case rel => exact ⟨j + 1, by omega, by go_num, HBZ.out⟩
          case measure => simp [intOf]; omega
        ·go_simp
         have hba2 : Below wr.heap.size wr (wr.drew.alloc (.cells #[.int .i64 0, .slice none 0 0, .int .i64 0] 72)) := (below_drew (Below.refl wr.heap.size wr)).alloc (by simp) _
         have hza := HZ.out _ hba2
         have haz : At (wr.drew.alloc (.cells #[.int .i64 0, .slice none 0 0, .int .i64 0] 72)) wr.heap.size 72 #[.int .i64 0, .slice none 0 0, .int .i64 0] := At.new wr.drew _ _
         refine hK.out _ _ (.inr hza) ?_
         clear hK K
         try simp only [Act.put, List.setIfInBounds_toArray, List.set_cons_zero, List.set_cons_succ]
         have hrul2 := HTR.out.rule (j : Int) (wr.drew.alloc (.cells #[.int .i64 0, .slice none 0 0, .int .i64 0] 72)) (HB.out.trans (hba2.mono HB.out.size))
         rw [HRU.out, HKK.out] at hrul2
         refine Zd.call (i := 4) (d := some 127) (by kernel_rfl) rfl rfl (by kernel_rfl) (by kernel_rfl) hrul2 ?_
         rintro e wa ⟨rfl, hbb⟩
         have hbb2 := hba2.trans (hbb.mono hba2.size)
         have hzc := HZ.out _ hbb2
         have haz2 := haz.below hbb haz.lt
         refine ⟨_, rfl, hzc, ?_⟩
         try simp only [Act.put, List.setIfInBounds_toArray, List.set_cons_zero, List.set_cons_succ]
         refine Zd.pureD (i := 5) (d := some 128) (v := ?vrb5) rfl rfl (by kernel_rfl) (by kernel_rfl) (by kernel_rfl) (by kernel_rfl) (by kernel_rfl) (fun _ _ _ h => h) (Or.inl ⟨by kernel_rfl, ?hyrb5⟩) (.inr hzc) ?restrb5
         case hyrb5 => (intro w _; go_simp; try with_reducible rfl)
         try simp only [Act.put, List.setIfInBounds_toArray, List.set_cons_zero, List.set_cons_succ]
         refine Zd.takeD (i := 6) (d := some 129) (v := ?vrb6) rfl rfl (by kernel_rfl) (by kernel_rfl) (by kernel_rfl) (by kernel_rfl) (by kernel_rfl) (fun _ _ _ h => h) (Or.inl ⟨by kernel_rfl, ?hyrb6⟩) hzc ?restrb6
         case hyrb6 => (intro w hSw; (try dsimp only at hSw); obtain ⟨u1, u2, u3, u4⟩ := hSw; go_simp; try with_reducible rfl)
         try simp only [Act.put, List.setIfInBounds_toArray, List.set_cons_zero, List.set_cons_succ]
         refine Zed.one (i := 8) (by kernel_rfl) rfl (fun K hK => ?_)
         rw [if_pos (by kernel_rfl)]
         refine wp_store_row 72 _ _ rfl wr.heap.size _ rfl rfl _ _ haz2 (by kernel_rfl) rfl (by simp [Value.oneCell']) ?_
         refine hK.out _ _ (.inl (by kernel_rfl)) ?_
         clear hK K
         try simp only [Act.put, List.setIfInBounds_toArray, List.set_cons_zero, List.set_cons_succ]
         refine Zed.all (by kernel_rfl) ?_ _
         obtain ⟨xb, hxb⟩ : ∃ xb, xb = wr.heap.size := ⟨_, rfl⟩
         have hA9 : At (World.setRow wa wr.heap.size #[.int .i64 pl0, .slice RA rn rc, .int .i64 pl2]) wr.heap.size 72 #[.int .i64 pl0, .slice RA rn rc, .int .i64 pl2] := setRow_heap _ _ _ _ _ (0, 0) haz2
         have hb9 : Below wr.heap.size wr (World.setRow wa wr.heap.size #[.int .i64 pl0, .slice RA rn rc, .int .i64 pl2]) := below_grown hbb2 ⟨rfl, rfl, rfl, by simp, fun j _ hj => setRow_other _ _ j _ (fun e => hj (by simp [e]))⟩ (Below.size hbb2) (Nat.le_refl _)
         obtain ⟨w9, hw9⟩ : ∃ w9, World.setRow wa wr.heap.size #[.int .i64 pl0, .slice RA rn rc, .int .i64 pl2] = w9 := ⟨_, rfl⟩
         rw [hw9] at hA9 hb9 ⊢
         rw [← hxb] at hA9 ⊢
         have HA9 := Lib.hid hA9
         have HW9 := Lib.hid hb9
         have HB9 := Lib.hid (HB.out.trans (hb9.mono HB.out.size))
         have HO9 := Lib.hid (own_below HOS.out hb9 (fun k hk => (HOS.out.lt k hk).2))
         clear hA9 hb9 hw9 hxb hz0 hba2 hza haz hbb hbb2 hzc haz2 hrul2
         obtain ⟨GW, hGW⟩ := Qt.class_of w9.heap.size w9 (Nat.le_refl _)
         obtain ⟨xw, hxw⟩ := hGW.onto w9 (Below.refl _ _)
         have HGW := Lib.hid hGW
         have HXW := Lib.hid hxw
         have q0 := Qt.cell hGW (Nat.lt_of_lt_of_le hpbl HB9.out.size) ((HB9.out.cell (p := ⟨pb, 0, none⟩) hpbl).trans p0)
         have q1 := Qt.cell hGW (Nat.lt_of_lt_of_le hpbl HB9.out.size) ((HB9.out.cell (p := ⟨pb, 1, none⟩) hpbl).trans p1)
         have q2 := Qt.cell hGW (Nat.lt_of_lt_of_le hpbl HB9.out.size) ((HB9.out.cell (p := ⟨pb, 2, none⟩) hpbl).trans p2)
         have q3 := Qt.cell hGW (Nat.lt_of_lt_of_le hpbl HB9.out.size) ((HB9.out.cell (p := ⟨pb, 3, none⟩) hpbl).trans p3)
         have q4 := Qt.cell hGW (Nat.lt_of_lt_of_le hpbl HB9.out.size) ((HB9.out.cell (p := ⟨pb, 4, none⟩) hpbl).trans p4)
         have q5 := Qt.cell hGW (Nat.lt_of_lt_of_le hpbl HB9.out.size) ((HB9.out.cell (p := ⟨pb, 5, none⟩) hpbl).trans p5)
         have r0 := Qt.cell hGW HA9.out.lt (HA9.out.cell 0)
         have r1 := Qt.cell hGW HA9.out.lt (HA9.out.cell 1)
         try simp only [List.getElem?_toArray, List.getElem?_cons_zero, List.getElem?_cons_succ] at r0 r1
         have K2 := Lib.hid (calls_atT hGW (fun x => HTR.out.sym (j : Int) (GW x) (HB9.out.trans ((hGW.below x).mono HB9.out.size))))
         rw [HSJ.out] at K2
         have K3 := Lib.hid (calls_atT hGW (fun x => intsL_any RA A rn kn rc c pi.right (K.map fun k => (Tr.at_ L k).sym) (GW x) HRN.out (by rw [List.length_map, HKN.out]) ((HRA9.out w9 HB9.out).below (hGW.below x)) ((Lie.own HO9.out).below (hGW.below x)) (by omega)))
         obtain ⟨QQ, hQQ⟩ : ∃ b, decide (pi.right = K.map fun k => (Tr.at_ L k).sym) = b := ⟨_, rfl⟩
         rw [hQQ] at K3
         have HQQ := Lib.hid hQQ
         clear hQQ
         by_cases hlr : pl0 = sj
         case pos =>
          subst hlr
          have hrv : RV = QQ := by rw [HANS.out, ← HQQ.out, decide_eq_true rfl, Bool.true_and]; exact decide_eq_decide.2 ⟨Eq.symm, Eq.symm⟩
          subst hrv
          clear hGW hxw
          go_wp2_with fail
          rw [HXW.out]
          refine Qt.start HGW.out (by kernel_rfl) (by kernel_rfl) ?_
          repeat (go_big_quiet_step (first | with_reducible exact K2.out _ | with_reducible exact K3.out _))
          refine wpQuiet_nil ?_
          intro _ hw'
          obtain ⟨y, hw''⟩ := hw'
          subst hw''
          have HBY := Lib.hid (HB9.out.trans ((HGW.out.below y).mono HB9.out.size))
          go_wp2_with fail
          refine (HRI.out (GW y) HBY.out).mono ?_
          rintro e w8 ⟨rfl, hb8⟩
          have HBZ := Lib.hid (HBY.out.trans (hb8.mono HBY.out.size))
          clear hb8 HRI
          cases RV with
          | false =>
           go_wp2_with fail
           go_roundw
           case rel => exact ⟨j + 1, by omega, by go_num, HBZ.out⟩
           case measure => simp [intOf]; omega
          | true =>
           go_wp2_with fail
           go_roundw
           case rel => exact ⟨j + 1, by omega, by go_num, HBZ.out⟩
           case measure => simp [intOf]; omega
         case neg =>
          have hle : (pl0 == sj) = false := by simpa using hlr
          have hrv : RV = false := by rw [HANS.out, decide_eq_false (fun h => hlr h.symm)]; rfl
          subst hrv
          clear hGW hxw
          go_wp2_with fail
          rw [HXW.out]
          refine Qt.start HGW.out (by kernel_rfl) (by kernel_rfl) ?_
          repeat (go_big_quiet_step (first | with_reducible exact K2.out _ | with_reducible exact K3.out _))
          refine wpQuiet_nil ?_
          intro _ hw'
          obtain ⟨y, hw''⟩ := hw'
          subst hw''
          have HBY := Lib.hid (HB9.out.trans ((HGW.out.below y).mono HB9.out.size))
          go_wp2_with fail
          refine (HRI.out (GW y) HBY.out).mono ?_
          rintro e w8 ⟨rfl, hb8⟩
          have HBZ := Lib.hid (HBY.out.trans (hb8.mono HBY.out.size))
          clear hb8 HRI
          go_wp2_with fail
          go_roundw
          case rel => exact ⟨j + 1, by omega, by go_num, HBZ.out⟩
          case measure => simp [intOf]; omega
    ·have d1 : decide (0 < ru) = true := decide_eq_true h1
     have d2 : decide (ru < (n3 : Int)) = false := decide_eq_false h2
     clear hGW hxw
     go_wp2_with fail
     rw [HXW.out]
     refine Qt.start HGW.out (by kernel_rfl) (by kernel_rfl) ?_
     repeat (go_big_quiet_step (first | with_reducible exact K1.out _))
     refine wpQuiet_nil ?_
     intro _ hw'
     obtain ⟨y, hw''⟩ := hw'
     subst hw''
     have HBY := Lib.hid (HB6.out.trans ((HGW.out.below y).mono HB6.out.size))
     obtain ⟨wk, hwk⟩ : ∃ z, GW y = z := ⟨_, rfl⟩
     rw [hwk] at HBY ⊢
     have HBK := Lib.hid HBY.out
     have HLKA := Lib.hid (show Lie wk 3 KA (vals K) by rw [← hwk]; exact HL6.out.below (HGW.out.below y))
     clear hwk HBY q0 q1 q2 q3 q4 q5
     have HF0 := Lib.hid (show false = decide (0 < ru ∧ ru < (n3 : Int)) from (by symm; exact decide_eq_false (fun h => by omega)))
     go_wp2_with fail
     go_loopw [13, 14, 15] (fun fn sy q wr => ∃ (p : Nat) (A : Option Addr) (c : Nat), p ≤ kn ∧ q = .int .i64 (p : Int) ∧ fn = .bool (false && (K.take p).all (Tr.right PP L)) ∧ sy = .slice A p c ∧ wr.ownsRow wk.heap.size 3 1 (.slice A p c) p (vals ((K.take p).map fun k => (Tr.at_ L k).sym)) ∧ Below wk.heap.size wk wr) (fun _ _ q _ => kn - (intOf q).toNat)
     case atStart => exact ⟨0, none, 0, by omega, rfl, rfl, rfl, World.ownsRow_nil _ _ _ _, Below.refl _ _⟩
     case round =>
      obtain ⟨p, A, c, hp, rfl, rfl, rfl, ho, hbw⟩ := hrel
      have HOS := Lib.hid ho
      have HBW := Lib.hid hbw
      have HB := Lib.hid (HBK.out.trans (hbw.mono HBK.out.size))
      have HLK := Lib.hid (HLKA.out.below hbw)
      have hk40 := HK40.out
      obtain ⟨FV, hFV⟩ : ∃ b, (false && (K.take p).all (Tr.right PP L)) = b := ⟨_, rfl⟩
      rw [hFV]
      have HFV := Lib.hid hFV
      clear ho hbw hFV
      by_cases hlt2 : p < kn
      case pos =>
       have hpi : (p : Int) < (kn : Int) := by omega
       have hp0 : (0 : Int) ≤ (p : Int) := by omega
       obtain ⟨x, hx⟩ : ∃ x, K[p]? = some x := ⟨_, List.getElem?_eq_getElem (by rw [HKN.out]; exact hlt2)⟩
       obtain ⟨b9, o9, rfl, hbl9, hc9⟩ := lie_at HLK.out hx
       have HTM := Lib.hid (map_take_succ (fun k => (Tr.at_ L k).sym) hx)
       have HTA := Lib.hid (all_take_succ (Tr.right PP L) hx)
       obtain ⟨RX, hRX⟩ : ∃ b, Tr.right PP L x = b := ⟨_, rfl⟩
       rw [hRX] at HTA
       obtain ⟨sx, hsx⟩ : ∃ z, (Tr.at_ L x).sym = z := ⟨_, rfl⟩
       rw [hsx] at HTM
       obtain ⟨j0, hj0, hj1, hj2, hj3⟩ := info_parts infoIntW
       obtain ⟨GW, hGW⟩ := Qt.class_of wr.heap.size wr (Nat.le_refl _)
       obtain ⟨xw, hxw⟩ := hGW.onto wr (Below.refl _ _)
       have HGW := Lib.hid hGW
       have HXW := Lib.hid hxw
       have qk := Qt.cell hGW hbl9 hc9
       have q0 := Qt.cell hGW (Nat.lt_of_lt_of_le hpbl HB.out.size) ((HB.out.cell (p := ⟨pb, 0, none⟩) hpbl).trans p0)
       have q1 := Qt.cell hGW (Nat.lt_of_lt_of_le hpbl HB.out.size) ((HB.out.cell (p := ⟨pb, 1, none⟩) hpbl).trans p1)
       have q2 := Qt.cell hGW (Nat.lt_of_lt_of_le hpbl HB.out.size) ((HB.out.cell (p := ⟨pb, 2, none⟩) hpbl).trans p2)
       have q3 := Qt.cell hGW (Nat.lt_of_lt_of_le hpbl HB.out.size) ((HB.out.cell (p := ⟨pb, 3, none⟩) hpbl).trans p3)
       have q4 := Qt.cell hGW (Nat.lt_of_lt_of_le hpbl HB.out.size) ((HB.out.cell (p := ⟨pb, 4, none⟩) hpbl).trans p4)
       have q5 := Qt.cell hGW (Nat.lt_of_lt_of_le hpbl HB.out.size) ((HB.out.cell (p := ⟨pb, 5, none⟩) hpbl).trans p5)
       have hri := HTR.out.right x
       have hsy := HTR.out.sym x
       rw [hRX] at hri
       rw [hsx] at hsy
       have K1 := Lib.hid (calls_atT hGW (fun z => hri (GW z) (HB.out.trans ((hGW.below z).mono HB.out.size))))
       have HSX := Lib.hid hsy
       clear hx hRX hsx hri hsy
       cases FV with
       | false =>
        clear hGW hxw
        go_wp2_with fail
        rw [HXW.out]
        refine Qt.start HGW.out (by kernel_rfl) (by kernel_rfl) ?_
        repeat (go_big_quiet_step (fail))
        refine wpQuiet_nil ?_
        intro _ hw'
        obtain ⟨y, hw''⟩ := hw'
        subst hw''
        have HBY := Lib.hid (HB.out.trans ((HGW.out.below y).mono HB.out.size))
        go_wp2_with fail
        refine (HSX.out (GW y) HBY.out).mono ?_
        rintro e w7 ⟨rfl, hb7⟩
        have hby : Below wr.heap.size wr w7 := (HGW.out.below y).trans (hb7.mono (HGW.out.below y).size)
        have HB7 := Lib.hid (HBW.out.trans (hby.mono HBW.out.size))
        have HO7 := Lib.hid (own_below HOS.out hby (fun k hk => (HOS.out.lt k hk).2))
        clear hb7 hby HSX
        go_wp2_with (at_builtin; (refine wpList_append_own3T _ rfl (.tmp 113) (.tmp 120) 32 rfl wk.heap.size 3 j0 _ 1 8 Tryz.underlying32 hj0 hj1 hj2 hj3 rfl (by decide) _ p _ rfl (HO7.out.alloc (.cells #[.int .i64 sx] 3)) (some ⟨w7.heap.size, 0, none⟩) 1 1 [.int .i64 sx] rfl rfl (LiesT_lie (lie_new w7 3 [.int .i64 sx])) (by simp [Value.oneCell']) (by unfold maxLen; omega) (by omega) (by have := HB7.out.size; simp; omega) ?_; intro v8 w8 ho8 hg8 hn8; obtain ⟨a8, c8, rfl⟩ := own_form ho8; have hb8 := (HB7.out.alloc HB7.out.size (.cells #[.int .i64 sx] 3)).grown hg8 (by have := HB7.out.size; simp; omega) (fun k hk => (HO7.out.lt k hk).1); have HO8 := Lib.hid ho8; have HB8 := Lib.hid hb8; clear ho8 hg8 hn8 hb8))
        go_roundw
        case rel =>
         refine ⟨p + 1, a8, c8, by omega, by go_num, by rw [HTA.out, ← Bool.and_assoc, HFV.out]; rfl, rfl, ?_, HB8.out⟩
         rw [HTM.out, vals_snocR]; exact HO8.out
        case measure => simp [intOf]; omega
       | true =>
        clear hGW hxw
        go_wp2_with fail
        rw [HXW.out]
        refine Qt.start HGW.out (by kernel_rfl) (by kernel_rfl) ?_
        repeat (go_big_quiet_step (first | with_reducible exact K1.out _))
        refine wpQuiet_nil ?_
        intro _ hw'
        obtain ⟨y, hw''⟩ := hw'
        subst hw''
        have HBY := Lib.hid (HB.out.trans ((HGW.out.below y).mono HB.out.size))
        go_wp2_with fail
        refine (HSX.out (GW y) HBY.out).mono ?_
        rintro e w7 ⟨rfl, hb7⟩
        have hby : Below wr.heap.size wr w7 := (HGW.out.below y).trans (hb7.mono (HGW.out.below y).size)
        have HB7 := Lib.hid (HBW.out.trans (hby.mono HBW.out.size))
        have HO7 := Lib.hid (own_below HOS.out hby (fun k hk => (HOS.out.lt k hk).2))
        clear hb7 hby HSX
        go_wp2_with (at_builtin; (refine wpList_append_own3T _ rfl (.tmp 113) (.tmp 120) 32 rfl wk.heap.size 3 j0 _ 1 8 Tryz.underlying32 hj0 hj1 hj2 hj3 rfl (by decide) _ p _ rfl (HO7.out.alloc (.cells #[.int .i64 sx] 3)) (some ⟨w7.heap.size, 0, none⟩) 1 1 [.int .i64 sx] rfl rfl (LiesT_lie (lie_new w7 3 [.int .i64 sx])) (by simp [Value.oneCell']) (by unfold maxLen; omega) (by omega) (by have := HB7.out.size; simp; omega) ?_; intro v8 w8 ho8 hg8 hn8; obtain ⟨a8, c8, rfl⟩ := own_form ho8; have hb8 := (HB7.out.alloc HB7.out.size (.cells #[.int .i64 sx] 3)).grown hg8 (by have := HB7.out.size; simp; omega) (fun k hk => (HO7.out.lt k hk).1); have HO8 := Lib.hid ho8; have HB8 := Lib.hid hb8; clear ho8 hg8 hn8 hb8))
        go_roundw
        case rel =>
         refine ⟨p + 1, a8, c8, by omega, by go_num, by rw [HTA.out, ← Bool.and_assoc, HFV.out]; rfl, rfl, ?_, HB8.out⟩
         rw [HTM.out, vals_snocR]; exact HO8.out
        case measure => simp [intOf]; omega
      case neg =>
       obtain rfl : kn = p := by omega
       rw [List.take_of_length_le (by rw [HKN.out]; exact Nat.le_refl _)] at HFV HOS
       clear hlt2
       obtain ⟨RV, hRV⟩ : ∃ b, Tr.right PP L (j : Int) = b := ⟨_, rfl⟩
       have HRI := Lib.hid (HTR.out.right (j : Int))
       rw [hRV] at HRI
       have hre := HGD.out.right_eq PP HHA.out
       rw [hRV, HK.out] at hre
       have HRE := Lib.hid hre
       clear hRV hre
       have q0 := (HB.out.cell (p := ⟨pb, 0, none⟩) hpbl).trans p0
       have q1 := (HB.out.cell (p := ⟨pb, 1, none⟩) hpbl).trans p1
       have q2 := (HB.out.cell (p := ⟨pb, 2, none⟩) hpbl).trans p2
       have q3 := (HB.out.cell (p := ⟨pb, 3, none⟩) hpbl).trans p3
       have q4 := (HB.out.cell (p := ⟨pb, 4, none⟩) hpbl).trans p4
       have q5 := (HB.out.cell (p := ⟨pb, 5, none⟩) hpbl).trans p5
       have hbs := HB.out.size
       have hpbw : pb < wr.heap.size := Nat.lt_of_lt_of_le hpbl hbs
       cases FV with
       | false =>
        have hrv : RV = false := by
         rw [HRE.out]
         cases ha : K.all (Tr.right PP L) with
         | false => rfl
         | true =>
          have h5 := HFV.out
          rw [ha, Bool.and_true] at h5
          rw [Bool.true_and]
          unfold Tr.fits
          rw [if_neg (by rw [HLF.out]; decide), if_pos]
          have h6 := HF0.out
          rw [h5] at h6
          have h7 := of_decide_eq_false h6.symm
          rw [HRU.out, HN3.out]
          omega
        subst hrv
        go_wp2_with fail
        refine (HRI.out wr HB.out).mono ?_
        rintro e w8 ⟨rfl, hb8⟩
        have HBY := Lib.hid (HB.out.trans (hb8.mono HB.out.size))
        clear hb8 HRI
        go_wp2_with fail
        go_roundw
        case rel => exact ⟨j + 1, by omega, by go_num, HBY.out⟩
        case measure => simp [intOf]; omega
       | true =>
        exact absurd HFV.out (by simp)
   ·have d1 : decide (0 < ru) = false := decide_eq_false h1
    clear hGW hxw
    go_wp2_with fail
    rw [HXW.out]
    refine Qt.start HGW.out (by kernel_rfl) (by kernel_rfl) ?_
    repeat (go_big_quiet_step (first | with_reducible exact K1.out _))
    refine wpQuiet_nil ?_
    intro _ hw'
    obtain ⟨y, hw''⟩ := hw'
    subst hw''
    have HBY := Lib.hid (HB6.out.trans ((HGW.out.below y).mono HB6.out.size))
    obtain ⟨wk, hwk⟩ : ∃ z, GW y = z := ⟨_, rfl⟩
    rw [hwk] at HBY ⊢
    have HBK := Lib.hid HBY.out
    have HLKA := Lib.hid (show Lie wk 3 KA (vals K) by rw [← hwk]; exact HL6.out.below (HGW.out.below y))
    clear hwk HBY q0 q1 q2 q3 q4 q5
    have HF0 := Lib.hid (show false = decide (0 < ru ∧ ru < (n3 : Int)) from (by symm; exact decide_eq_false (fun h => by omega)))
    go_wp2_with fail
    go_loopw [13, 14, 15] (fun fn sy q wr => ∃ (p : Nat) (A : Option Addr) (c : Nat), p ≤ kn ∧ q = .int .i64 (p : Int) ∧ fn = .bool (false && (K.take p).all (Tr.right PP L)) ∧ sy = .slice A p c ∧ wr.ownsRow wk.heap.size 3 1 (.slice A p c) p (vals ((K.take p).map fun k => (Tr.at_ L k).sym)) ∧ Below wk.heap.size wk wr) (fun _ _ q _ => kn - (intOf q).toNat)
    case atStart => exact ⟨0, none, 0, by omega, rfl, rfl, rfl, World.ownsRow_nil _ _ _ _, Below.refl _ _⟩
    case round =>
     obtain ⟨p, A, c, hp, rfl, rfl, rfl, ho, hbw⟩ := hrel
     have HOS := Lib.hid ho
     have HBW := Lib.hid hbw
     have HB := Lib.hid (HBK.out.trans (hbw.mono HBK.out.size))
     have HLK := Lib.hid (HLKA.out.below hbw)
     have hk40 := HK40.out
     obtain ⟨FV, hFV⟩ : ∃ b, (false && (K.take p).all (Tr.right PP L)) = b := ⟨_, rfl⟩
     rw [hFV]
     have HFV := Lib.hid hFV
     clear ho hbw hFV
     by_cases hlt2 : p < kn
     case pos =>
      have hpi : (p : Int) < (kn : Int) := by omega
      have hp0 : (0 : Int) ≤ (p : Int) := by omega
      obtain ⟨x, hx⟩ : ∃ x, K[p]? = some x := ⟨_, List.getElem?_eq_getElem (by rw [HKN.out]; exact hlt2)⟩
      obtain ⟨b9, o9, rfl, hbl9, hc9⟩ := lie_at HLK.out hx
      have HTM := Lib.hid (map_take_succ (fun k => (Tr.at_ L k).sym) hx)
      have HTA := Lib.hid (all_take_succ (Tr.right PP L) hx)
      obtain ⟨RX, hRX⟩ : ∃ b, Tr.right PP L x = b := ⟨_, rfl⟩
      rw [hRX] at HTA
      obtain ⟨sx, hsx⟩ : ∃ z, (Tr.at_ L x).sym = z := ⟨_, rfl⟩
      rw [hsx] at HTM
      obtain ⟨j0, hj0, hj1, hj2, hj3⟩ := info_parts infoIntW
      obtain ⟨GW, hGW⟩ := Qt.class_of wr.heap.size wr (Nat.le_refl _)
      obtain ⟨xw, hxw⟩ := hGW.onto wr (Below.refl _ _)
      have HGW := Lib.hid hGW
      have HXW := Lib.hid hxw
      have qk := Qt.cell hGW hbl9 hc9
      have q0 := Qt.cell hGW (Nat.lt_of_lt_of_le hpbl HB.out.size) ((HB.out.cell (p := ⟨pb, 0, none⟩) hpbl).trans p0)
      have q1 := Qt.cell hGW (Nat.lt_of_lt_of_le hpbl HB.out.size) ((HB.out.cell (p := ⟨pb, 1, none⟩) hpbl).trans p1)
      have q2 := Qt.cell hGW (Nat.lt_of_lt_of_le hpbl HB.out.size) ((HB.out.cell (p := ⟨pb, 2, none⟩) hpbl).trans p2)
      have q3 := Qt.cell hGW (Nat.lt_of_lt_of_le hpbl HB.out.size) ((HB.out.cell (p := ⟨pb, 3, none⟩) hpbl).trans p3)
      have q4 := Qt.cell hGW (Nat.lt_of_lt_of_le hpbl HB.out.size) ((HB.out.cell (p := ⟨pb, 4, none⟩) hpbl).trans p4)
      have q5 := Qt.cell hGW (Nat.lt_of_lt_of_le hpbl HB.out.size) ((HB.out.cell (p := ⟨pb, 5, none⟩) hpbl).trans p5)
      have hri := HTR.out.right x
      have hsy := HTR.out.sym x
      rw [hRX] at hri
      rw [hsx] at hsy
      have K1 := Lib.hid (calls_atT hGW (fun z => hri (GW z) (HB.out.trans ((hGW.below z).mono HB.out.size))))
      have HSX := Lib.hid hsy
      clear hx hRX hsx hri hsy
      cases FV with
      | false =>
       clear hGW hxw
       go_wp2_with fail
       rw [HXW.out]
       refine Qt.start HGW.out (by kernel_rfl) (by kernel_rfl) ?_
       repeat (go_big_quiet_step (fail))
       refine wpQuiet_nil ?_
       intro _ hw'
       obtain ⟨y, hw''⟩ := hw'
       subst hw''
       have HBY := Lib.hid (HB.out.trans ((HGW.out.below y).mono HB.out.size))
       go_wp2_with fail
       refine (HSX.out (GW y) HBY.out).mono ?_
       rintro e w7 ⟨rfl, hb7⟩
       have hby : Below wr.heap.size wr w7 := (HGW.out.below y).trans (hb7.mono (HGW.out.below y).size)
       have HB7 := Lib.hid (HBW.out.trans (hby.mono HBW.out.size))
       have HO7 := Lib.hid (own_below HOS.out hby (fun k hk => (HOS.out.lt k hk).2))
       clear hb7 hby HSX
       go_wp2_with (at_builtin; (refine wpList_append_own3T _ rfl (.tmp 113) (.tmp 120) 32 rfl wk.heap.size 3 j0 _ 1 8 Tryz.underlying32 hj0 hj1 hj2 hj3 rfl (by decide) _ p _ rfl (HO7.out.alloc (.cells #[.int .i64 sx] 3)) (some ⟨w7.heap.size, 0, none⟩) 1 1 [.int .i64 sx] rfl rfl (LiesT_lie (lie_new w7 3 [.int .i64 sx])) (by simp [Value.oneCell']) (by unfold maxLen; omega) (by omega) (by have := HB7.out.size; simp; omega) ?_; intro v8 w8 ho8 hg8 hn8; obtain ⟨a8, c8, rfl⟩ := own_form ho8; have hb8 := (HB7.out.alloc HB7.out.size (.cells #[.int .i64 sx] 3)).grown hg8 (by have := HB7.out.size; simp; omega) (fun k hk => (HO7.out.lt k hk).1); have HO8 := Lib.hid ho8; have HB8 := Lib.hid hb8; clear ho8 hg8 hn8 hb8))
       go_roundw
       case rel =>
        refine ⟨p + 1, a8, c8, by omega, by go_num, by rw [HTA.out, ← Bool.and_assoc, HFV.out]; rfl, rfl, ?_, HB8.out⟩
        rw [HTM.out, vals_snocR]; exact HO8.out
       case measure => simp [intOf]; omega
      | true =>
       clear hGW hxw
       go_wp2_with fail
       rw [HXW.out]
       refine Qt.start HGW.out (by kernel_rfl) (by kernel_rfl) ?_
       repeat (go_big_quiet_step (first | with_reducible exact K1.out _))
       refine wpQuiet_nil ?_
       intro _ hw'
       obtain ⟨y, hw''⟩ := hw'
       subst hw''
       have HBY := Lib.hid (HB.out.trans ((HGW.out.below y).mono HB.out.size))
       go_wp2_with fail
       refine (HSX.out (GW y) HBY.out).mono ?_
       rintro e w7 ⟨rfl, hb7⟩
       have hby : Below wr.heap.size wr w7 := (HGW.out.below y).trans (hb7.mono (HGW.out.below y).size)
       have HB7 := Lib.hid (HBW.out.trans (hby.mono HBW.out.size))
       have HO7 := Lib.hid (own_below HOS.out hby (fun k hk => (HOS.out.lt k hk).2))
       clear hb7 hby HSX
       go_wp2_with (at_builtin; (refine wpList_append_own3T _ rfl (.tmp 113) (.tmp 120) 32 rfl wk.heap.size 3 j0 _ 1 8 Tryz.underlying32 hj0 hj1 hj2 hj3 rfl (by decide) _ p _ rfl (HO7.out.alloc (.cells #[.int .i64 sx] 3)) (some ⟨w7.heap.size, 0, none⟩) 1 1 [.int .i64 sx] rfl rfl (LiesT_lie (lie_new w7 3 [.int .i64 sx])) (by simp [Value.oneCell']) (by unfold maxLen; omega) (by omega) (by have := HB7.out.size; simp; omega) ?_; intro v8 w8 ho8 hg8 hn8; obtain ⟨a8, c8, rfl⟩ := own_form ho8; have hb8 := (HB7.out.alloc HB7.out.size (.cells #[.int .i64 sx] 3)).grown hg8 (by have := HB7.out.size; simp; omega) (fun k hk => (HO7.out.lt k hk).1); have HO8 := Lib.hid ho8; have HB8 := Lib.hid hb8; clear ho8 hg8 hn8 hb8))
       go_roundw
       case rel =>
        refine ⟨p + 1, a8, c8, by omega, by go_num, by rw [HTA.out, ← Bool.and_assoc, HFV.out]; rfl, rfl, ?_, HB8.out⟩
        rw [HTM.out, vals_snocR]; exact HO8.out
       case measure => simp [intOf]; omega
     case neg =>
      obtain rfl : kn = p := by omega
      rw [List.take_of_length_le (by rw [HKN.out]; exact Nat.le_refl _)] at HFV HOS
      clear hlt2
      obtain ⟨RV, hRV⟩ : ∃ b, Tr.right PP L (j : Int) = b := ⟨_, rfl⟩
      have HRI := Lib.hid (HTR.out.right (j : Int))
      rw [hRV] at HRI
      have hre := HGD.out.right_eq PP HHA.out
      rw [hRV, HK.out] at hre
      have HRE := Lib.hid hre
      clear hRV hre
      have q0 := (HB.out.cell (p := ⟨pb, 0, none⟩) hpbl).trans p0
      have q1 := (HB.out.cell (p := ⟨pb, 1, none⟩) hpbl).trans p1
      have q2 := (HB.out.cell (p := ⟨pb, 2, none⟩) hpbl).trans p2
      have q3 := (HB.out.cell (p := ⟨pb, 3, none⟩) hpbl).trans p3
      have q4 := (HB.out.cell (p := ⟨pb, 4, none⟩) hpbl).trans p4
      have q5 := (HB.out.cell (p := ⟨pb, 5, none⟩) hpbl).trans p5
      have hbs := HB.out.size
      have hpbw : pb < wr.heap.size := Nat.lt_of_lt_of_le hpbl hbs
      cases FV with
      | false =>
       have hrv : RV = false := by
        rw [HRE.out]
        cases ha : K.all (Tr.right PP L) with
        | false => rfl
        | true =>
         have h5 := HFV.out
         rw [ha, Bool.and_true] at h5
         rw [Bool.true_and]
         unfold Tr.fits
         rw [if_neg (by rw [HLF.out]; decide), if_pos]
         have h6 := HF0.out
         rw [h5] at h6
         have h7 := of_decide_eq_false h6.symm
         rw [HRU.out, HN3.out]
         omega
       subst hrv
       go_wp2_with fail
       refine (HRI.out wr HB.out).mono ?_
       rintro e w8 ⟨rfl, hb8⟩
       have HBY := Lib.hid (HB.out.trans (hb8.mono HB.out.size))
       clear hb8 HRI
       go_wp2_with fail
       go_roundw
       case rel => exact ⟨j + 1, by omega, by go_num, HBY.out⟩
       case measure => simp [intOf]; omega
      | true =>
       exact absurd HFV.out (by simp)
end Go.Proofs.YtdhhkancbgealaaGreat
