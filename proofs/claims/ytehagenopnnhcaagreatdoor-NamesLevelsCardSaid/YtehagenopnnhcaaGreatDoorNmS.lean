import Derived.Test.YtehagenopnnhcaaGreatDoorSmL
import Derived.BigQuiet
import Derived.Deep.QuietTactic
import Derived.Deep.DeepCutAuto
import Derived.Deep.Cut
import Derived.Deep.CutRange
namespace Go.Proofs.YtehagenopnnhcaaGreatDoor
open Go.RowKit
open Lx
set_option linter.unusedVariables false
set_option linter.unusedSimpArgs false
set_option maxRecDepth 100000
theorem lastL_snoc (L R : List Int) (y : Int) : Nm.lastL L (R ++ [y]) = if 0 ≤ y ∧ y < (L.length : Int) then L.getD y.toNat 0 else Nm.lastL L R := by
 unfold Nm.lastL; rw [List.foldl_append]; rfl
theorem int_get9 {w : World} {B : Nat} {A : Option Addr} {l : List Int} (h : Cl w B A (vals l)) {k : Nat} {x : Int} (hk : l[k]? = some x) : ∃ b o, A = some ⟨b, o, none⟩ ∧ b < B ∧ w.cell? ⟨b, o + k, none⟩ = some (.int .i64 x) := by
 have h1 := vals_get hk
 obtain ⟨b, o, hA, hb, hc⟩ := h.ex (fun e => by rw [e] at h1; simp at h1)
 exact ⟨b, o, hA, hb, hc _ _ h1⟩
theorem nm_get9 {w : World} {B : Nat} {A : Option Addr} {l : List Rd.Name} (h : Cl w B A (namesV l)) {k : Nat} {x : Rd.Name} (hk : l[k]? = some x) : ∃ b o, A = some ⟨b, o, none⟩ ∧ b < B ∧ w.cell? ⟨b, o + k, none⟩ = some (.string (str x)) := by
 have h1 := namesV_get hk
 obtain ⟨b, o, hA, hb, hc⟩ := h.ex (fun e => by rw [e] at h1; simp at h1)
 exact ⟨b, o, hA, hb, hc _ _ h1⟩
theorem lev_got9 {w : World} {B : Nat} {A : Option Addr} {pl : List (Rd.Lev × Value × Int)} (h : Cl w B A (levsC pl)) {k : Nat} {x : Rd.Lev × Value × Int} (hk : pl[k]? = some x) :
  ∃ b o, A = some ⟨b, o, none⟩ ∧ b < B ∧ w.cell? ⟨b, o + k * 2, none⟩ = some (.int .i64 x.2.2) ∧ w.cell? ⟨b, o + k * 2 + 1, none⟩ = some x.2.1 := by
 have hv := fun j u (hj : j < 2) (hu : (levC x)[j]? = some u) => flat_get levC 2 (fun _ => rfl) pl k j x u hk hj hu
 obtain ⟨b, o, rfl, hb, hcell⟩ := h.ex (fun e => by
  have h : (levsC pl)[k * 2 + 0]? = some (.int .i64 x.2.2) := hv 0 _ (by omega) rfl
  rw [e] at h; simp at h)
 exact ⟨b, o, rfl, hb, hcell _ _ (hv 0 _ (by omega) rfl), by rw [Nat.add_assoc]; exact hcell _ _ (hv 1 _ (by omega) rfl)⟩
theorem planC_all {w : World} {B t1 e1 t2 e2 t3 e3 t4 e4 t5 e5 t6 e6 : Nat} {P1 P2 P3 P4 P5 P6 : Option Addr} {P : Nm.Plan} (h : PlanC w B (.agg #[.slice P1 t1 e1, .slice P2 t2 e2, .slice P3 t3 e3, .slice P4 t4 e4, .slice P5 t5 e5, .slice P6 t6 e6]) P) :
  P.terms.length = t1 ∧ P.vars.length = t2 ∧ P.rules.length = t3 ∧ P.levels.length = t4 ∧ P.assocs.length = t5 ∧ P.acts.length = t6 ∧ Cl w B P1 (namesV P.terms) ∧ Cl w B P2 (namesV P.vars) ∧ ProdsC w B P3 P.rules ∧ Cl w B P4 (vals P.levels) ∧ Cl w B P5 (vals P.assocs) ∧ Cl w B P6 (namesV P.acts) := by
 obtain ⟨A1, c1, A2, c2, A3, c3, A4, c4, A5, c5, A6, c6, e, h1, h2, h3, h4, h5, h6⟩ := h.ex
 simp only [Value.agg.injEq, Array.mk.injEq, List.cons.injEq, Value.slice.injEq] at e
 obtain ⟨⟨a1, b1, _⟩, ⟨a2, b2, _⟩, ⟨a3, b3, _⟩, ⟨a4, b4, _⟩, ⟨a5, b5, _⟩, ⟨a6, b6, _⟩, _⟩ := e
 subst a1 a2 a3 a4 a5 a6
 exact ⟨b1.symm, b2.symm, b3.symm, b4.symm, b5.symm, b6.symm, h1, h2, h3, h4, h5, h6⟩
theorem planC_form {w : World} {B : Nat} {v : Value} {P : Nm.Plan} (h : PlanC w B v P) : ∃ P1 t1 e1 P2 t2 e2 P3 t3 e3 P4 t4 e4 P5 t5 e5 P6 t6 e6, v = .agg #[.slice P1 t1 e1, .slice P2 t2 e2, .slice P3 t3 e3, .slice P4 t4 e4, .slice P5 t5 e5, .slice P6 t6 e6] := by
 obtain ⟨A1, c1, A2, c2, A3, c3, A4, c4, A5, c5, A6, c6, e, _⟩ := h.ex
 exact ⟨_, _, _, _, _, _, _, _, _, _, _, _, _, _, _, _, _, _, e⟩
set_option maxHeartbeats 16000000 in
theorem levels8_law (v : Value) (s : Sm.S) (W : World) (hgs : SmallC W W.heap.size v s ∧ SmSz s) (hT : Tab W) (h0 : 1 < W.heap.size) :
  Calls Tryz.prog 6 #[v] W fun e w' => e = .returned (.bool true) ∧ Below W.heap.size W w' := by
 obtain ⟨hg, hs⟩ := hgs
 have HFEW := Lib.hid (show ∀ w', Below W.heap.size W w' → Calls Tryz.prog 22 #[v, .int .i64 20, .int .i64 8] w' fun e w'' => e = .returned (.bool (Sm.few s 20 8)) ∧ Below w'.heap.size w' w'' from fun w' hw' => sfew_any v s 20 8 W.heap.size w' (hg.below hw') hw'.size hs (by decide) (by decide))
 have HGR := Lib.hid (fun (hl5 : Sm.nl s ≤ 5) (h20 : s.lefts.length ≤ 20) (h8 : ∀ l ∈ s.rights, l.length ≤ 8) (w' : World) (hw' : Below W.heap.size W w') => sgram_any v s W.heap.size w' (hg.below hw') hw'.size hs hl5 h20 h8)
 have HT := Lib.hid hT
 obtain ⟨x1, x2, E1, m1, f1, E2, m2, f2, E3, m3, f3, E4, m4, f4, E5, m5, f5, rfl⟩ := small_form hg
 have HAT0 := Lib.hid (At.new W 52 #[.int .u8 x1, .int .u8 x2, .slice E1 m1 f1, .slice E2 m2 f2, .slice E3 m3 f3, .slice E4 m4 f4, .slice E5 m5 f5])
 have HB0 := Lib.hid ((Below.refl W.heap.size W).alloc (Nat.le_refl _) (.cells #[.int .u8 x1, .int .u8 x2, .slice E1 m1 f1, .slice E2 m2 f2, .slice E3 m3 f3, .slice E4 m4 f4, .slice E5 m5 f5] 52))
 have HT0 := Lib.hid (HT.out.below HB0.out h0)
 have hl0 : 1 < (W.alloc (.cells #[.int .u8 x1, .int .u8 x2, .slice E1 m1 f1, .slice E2 m2 f2, .slice E3 m3 f3, .slice E4 m4 f4, .slice E5 m5 f5] 52)).heap.size := Nat.lt_of_lt_of_le h0 HB0.out.size
 clear hg hs hT
 go_enter Tryz.func6, Tryz.ntmps6
 go_wp2_with fail
 refine (awake8_any _ HT0.out hl0).mono ?_
 rintro e w1 ⟨rfl, hb1⟩
 have HAT1 := Lib.hid (HAT0.out.below hb1 HAT0.out.lt)
 have HB1 := Lib.hid (HB0.out.trans (hb1.mono HB0.out.size))
 have ht1 := HAT1.out.lt
 clear hb1 hl0 HT0
 have x0 := HAT1.out.cell 0
 have x1' := HAT1.out.cell 1
 have x2' := HAT1.out.cell 2
 have x3 := HAT1.out.cell 3
 have x4 := HAT1.out.cell 4
 have x5 := HAT1.out.cell 5
 have x6 := HAT1.out.cell 6
 simp only [List.getElem?_toArray, List.getElem?_cons_zero, List.getElem?_cons_succ] at x0 x1' x2' x3 x4 x5 x6
 go_wp2_with fail
 refine (HFEW.out _ HB1.out).mono ?_
 rintro e w2 ⟨rfl, hb2⟩
 have HAT2 := Lib.hid (HAT1.out.below hb2 HAT1.out.lt)
 have HB2 := Lib.hid (HB1.out.trans (hb2.mono HB1.out.size))
 have ht2 := HAT2.out.lt
 clear hb2 HFEW HAT0 HB0 HAT1 HB1 x0 x1' x2' x3 x4 x5 x6
 have y0 := HAT2.out.cell 0
 have y1 := HAT2.out.cell 1
 have y2 := HAT2.out.cell 2
 have y3 := HAT2.out.cell 3
 have y4 := HAT2.out.cell 4
 have y5 := HAT2.out.cell 5
 have y6 := HAT2.out.cell 6
 simp only [List.getElem?_toArray, List.getElem?_cons_zero, List.getElem?_cons_succ] at y0 y1 y2 y3 y4 y5 y6
 cases hfew : Sm.few s 20 8 with
 | false =>
  go_wp2_with fail
  go_ret
  exact ⟨rfl, HB2.out⟩
 | true =>
  obtain ⟨h20, hl5, h8⟩ := Sm.few_parts hfew
  clear hfew
  go_wp2_with fail
  refine (HGR.out hl5 h20 h8 _ HB2.out).mono ?_
  rintro e w3 ⟨⟨gv, rfl, hgc⟩, hb3⟩
  clear y0 y1 y2 y3 y4 y5 y6 HAT2 HGR
  have HFI := Lib.hid (Sm.fine_gram hl5 h20 h8)
  have HSZ := Lib.hid (small_sz hl5 h20 h8)
  have hB3 := HB2.out.trans (hb3.mono HB2.out.size)
  have HT3 := Lib.hid (HT.out.below hB3 h0)
  have hl3 : 1 < w3.heap.size := Nat.lt_of_lt_of_le h0 hB3.size
  obtain ⟨G1, n1, d1, G2, n2, d2, G3, n3, d3, st, G4, n4, d4, rfl⟩ := gramC_form9 hgc
  have hat3 := At.new w3 27 #[.slice G1 n1 d1, .slice G2 n2 d2, .slice G3 n3 d3, .string st, .slice G4 n4 d4]
  have hb4 := (Below.refl w3.heap.size w3).alloc (Nat.le_refl _) (.cells #[.slice G1 n1 d1, .slice G2 n2 d2, .slice G3 n3 d3, .string st, .slice G4 n4 d4] 27)
  obtain ⟨w4, hw4⟩ : ∃ w4, w3.alloc (.cells #[.slice G1 n1 d1, .slice G2 n2 d2, .slice G3 n3 d3, .string st, .slice G4 n4 d4] 27) = w4 := ⟨_, rfl⟩
  rw [hw4] at hat3 hb4
  have HW4 := Lib.hid hw4
  have HGC := Lib.hid (hgc.below hb4)
  have HB4 := Lib.hid (hB3.trans (hb4.mono hB3.size))
  have HAT3 := Lib.hid hat3
  have HT4 := Lib.hid (HT3.out.below hb4 hl3)
  have hl4 : 1 < w4.heap.size := Nat.lt_of_lt_of_le hl3 hb4.size
  have hs4 : w3.heap.size ≤ w4.heap.size := hb4.size
  have hltg := hat3.lt
  have g0 := hat3.cell 0
  have g1 := hat3.cell 1
  have g2 := hat3.cell 2
  have g3 := hat3.cell 3
  have g4 := hat3.cell 4
  simp only [List.getElem?_toArray, List.getElem?_cons_zero, List.getElem?_cons_succ] at g0 g1 g2 g3 g4
  rw [← hw4] at g0 g1 g2 g3 g4 hltg
  clear hgc hb3 hB3 hat3 hb4 hw4
  go_wp2_with fail
  rw [HW4.out]
  have HOF := Lib.hid (of_ok (of_any _ (Sm.gram s) w4 (HGC.out.mono hs4) HSZ.out HT4.out hl4 (fun _ => by have := Sm.lvl_gram hl5; omega)) (Sm.fine_of HFI.out))
  refine HOF.out.mono ?_
  rintro e w5 ⟨⟨pv, rfl, hp⟩, hb5⟩
  rw [show (⟨#[]⟩ : ByteArray) = ⟨#[]⟩ from rfl]
  obtain ⟨P1, t1, e1, P2, t2, e2, P3, t3, e3, P4, t4, e4, P5, t5, e5, P6, t6, e6, rfl⟩ := planC_form hp
  have hat5 := At.new w5 45 #[.slice P1 t1 e1, .slice P2 t2 e2, .slice P3 t3 e3, .slice P4 t4 e4, .slice P5 t5 e5, .slice P6 t6 e6]
  have hb6 := (Below.refl w5.heap.size w5).alloc (Nat.le_refl _) (.cells #[.slice P1 t1 e1, .slice P2 t2 e2, .slice P3 t3 e3, .slice P4 t4 e4, .slice P5 t5 e5, .slice P6 t6 e6] 45)
  obtain ⟨w6, hw6⟩ : ∃ w6, w5.alloc (.cells #[.slice P1 t1 e1, .slice P2 t2 e2, .slice P3 t3 e3, .slice P4 t4 e4, .slice P5 t5 e5, .slice P6 t6 e6] 45) = w6 := ⟨_, rfl⟩
  rw [hw6] at hat5 hb6
  have HW6 := Lib.hid hw6
  have HPC := Lib.hid (hp.below hb6)
  have HBG := hb5.trans (hb6.mono hb5.size)
  have HGC6 := Lib.hid (HGC.out.below (HBG.mono hs4))
  have HB6 := Lib.hid (HB4.out.trans (HBG.mono HB4.out.size))
  have HATP := Lib.hid hat5
  have HATG := Lib.hid (HAT3.out.below HBG HAT3.out.lt)
  clear g0 g1 g2 g3 g4 hltg hp hb5 hat5 hb6 hw6 HBG HOF HT4 HT3 HAT3 HB4 HGC HT
  obtain ⟨hgl1, _, hgl3, _, hgl4, hk1, ⟨pl, hk3, hpl, hpe⟩, hk4⟩ := gramC_all HGC6.out
  obtain ⟨hp1, hp2, hp3, hp4, hp5, hp6, _, _, hq3, hq4, hq5, _⟩ := planC_all HPC.out
  have K1 := Lib.hid hk1
  have K3 := Lib.hid hk3
  have K4 := Lib.hid hk4
  have HPLE := Lib.hid hpl
  have HPE := Lib.hid hpe
  have Q3 := Lib.hid hq3
  have Q4 := Lib.hid hq4
  have Q5 := Lib.hid hq5
  have hn1 : n1 = Sm.nt s := by rw [← hgl1]; show ((List.range (Sm.nt s)).map Sm.tok).length = _; simp
  have hn3 : n3 = Sm.nl s := by rw [← hgl3]; exact Sm.levs_len
  have ht4 : t4 = n1 + 1 := by rw [← hp4, ← hgl1]; show (Nm.levelsG (Sm.gram s)).length = _; unfold Nm.levelsG; rw [List.length_map, Nm.terms_len]
  have ht3 : t3 = n4 + 1 := by rw [← hp3, ← hgl4]; show ((_ : Nm.Prod) :: (Sm.gram s).rules.map (Nm.prod (Sm.gram s))).length = _; simp
  have ht5 : t5 = n3 + 1 := by rw [← hp5, ← hgl3]; show (0 :: (Sm.gram s).levels.map (fun v => (v.assoc : Int))).length = _; simp
  have hnt := Sm.nt_le (s := s)
  have hr40 : n4 ≤ 40 := by rw [← hgl4]; exact HFI.out.right.nrule
  have HGL1 := Lib.hid hgl1
  have HGL3 := Lib.hid hgl3
  have HGL4 := Lib.hid hgl4
  have HN1 := Lib.hid hn1
  have HN3 := Lib.hid hn3
  have hn1a : 1 ≤ n1 ∧ n1 ≤ 5 := by rw [hn1]; exact hnt
  have hn3a : n3 ≤ 5 := by rw [hn3]; exact hl5
  have HL5 := Lib.hid hl5
  have HPLEN := Lib.hid (show pl.length = n3 by rw [← hgl3, ← hpl, List.length_map])
  have hls6 : w5.heap.size < w6.heap.size := HATP.out.lt
  have hg36 : w3.heap.size < w6.heap.size := HATG.out.lt
  have HSS := Lib.hid (show w3.heap.size ≤ w6.heap.size ∧ w5.heap.size ≤ w6.heap.size from ⟨Nat.le_of_lt hg36, Nat.le_of_lt hls6⟩)
  clear hgl1 hgl3 hgl4 hk1 hk3 hpl hpe hk4 hp1 hp2 hp3 hp4 hp5 hp6 hq3 hq4 hq5 hn1 hn3 hnt hl5 h20 h8 HGC6 HPC
  subst ht3 ht4 ht5
  have p0 := HATP.out.cell 0
  have p1 := HATP.out.cell 1
  have p2 := HATP.out.cell 2
  have p3 := HATP.out.cell 3
  have p4 := HATP.out.cell 4
  have p5 := HATP.out.cell 5
  simp only [List.getElem?_toArray, List.getElem?_cons_zero, List.getElem?_cons_succ] at p0 p1 p2 p3 p4 p5
  have g0 := HATG.out.cell 0
  have g1 := HATG.out.cell 1
  have g2 := HATG.out.cell 2
  have g3 := HATG.out.cell 3
  have g4 := HATG.out.cell 4
  simp only [List.getElem?_toArray, List.getElem?_cons_zero, List.getElem?_cons_succ] at g0 g1 g2 g3 g4
  rw [← HW6.out] at p0 p1 p2 p3 p4 p5 g0 g1 g2 g3 g4 hls6 hg36
  have c1 : (((n4 : Int) + 1) != ((n4 : Int) + 1)) = false := by simp
  have c2 : (((n1 : Int) + 1) != ((n1 : Int) + 1)) = false := by simp
  have c3 : (((n3 : Int) + 1) != ((n3 : Int) + 1)) = false := by simp
  go_upto_region 9 with (fail)
  try rw [HW6.out]
  obtain ⟨gp, hgp⟩ : ∃ g, w5.heap.size = g := ⟨_, rfl⟩
  obtain ⟨gg, hgg⟩ : ∃ g, w3.heap.size = g := ⟨_, rfl⟩
  rw [hgp] at HATP Q3 Q4 Q5 HSS ⊢
  rw [hgg] at HATG K1 K3 K4 HPE HSS ⊢
  clear p0 p1 p2 p3 p4 p5 g0 g1 g2 g3 g4 hls6 hg36 c1 c2 c3 hgp hgg
  go_wp2_with fail
  go_loopw [9] (fun i wr => ∃ (k : Nat), k ≤ n1 ∧ i = .int .i64 (k : Int) ∧ Below w6.heap.size w6 wr) (fun i _ => n1 - (intOf i).toNat)
  case atStart => exact ⟨0, by omega, rfl, Below.refl _ _⟩
  case round =>
   obtain ⟨k, hk, rfl, hb⟩ := hrel
   obtain ⟨WR, hWR⟩ : ∃ W, wr = W := ⟨_, rfl⟩
   rw [hWR] at hb ⊢
   clear hWR wr
   have HB := Lib.hid hb
   have HATGR := Lib.hid (HATG.out.below hb HATG.out.lt)
   have HATPR := Lib.hid (HATP.out.below hb HATP.out.lt)
   have g0 := HATGR.out.cell 0
   have g1 := HATGR.out.cell 1
   have g2 := HATGR.out.cell 2
   have g3 := HATGR.out.cell 3
   have g4 := HATGR.out.cell 4
   simp only [List.getElem?_toArray, List.getElem?_cons_zero, List.getElem?_cons_succ] at g0 g1 g2 g3 g4
   have p0 := HATPR.out.cell 0
   have p1 := HATPR.out.cell 1
   have p2 := HATPR.out.cell 2
   have p3 := HATPR.out.cell 3
   have p4 := HATPR.out.cell 4
   have p5 := HATPR.out.cell 5
   simp only [List.getElem?_toArray, List.getElem?_cons_zero, List.getElem?_cons_succ] at p0 p1 p2 p3 p4 p5
   have hlgr := HATGR.out.lt
   clear hb
   by_cases hlt : k < n1
   ·have hx : (Sm.gram s).toks[k]? = some (Sm.tok k) := by
     show ((List.range (Sm.nt s)).map Sm.tok)[k]? = _
     rw [List.getElem?_map, List.getElem?_range (by rw [← HN1.out]; exact hlt)]; rfl
    obtain ⟨tb, to_, hA, htb, y0, _⟩ := tok_get (K1.out.below (HB.out.mono HSS.out.1)) hx
    subst hA
    have HY0 := Lib.hid y0
    have htbr : tb < WR.heap.size := by have := HB.out.size; have := HSS.out; omega
    obtain ⟨LK, hLK⟩ : ∃ LK, Sm.lvl s k = LK := ⟨_, rfl⟩
    have HLK := Lib.hid hLK
    have hLKn : LK ≤ n3 := by rw [← hLK, HN3.out]; exact Sm.lvl_le k
    have HMEM := Lib.hid (fun (j : Nat) (hj : j < n3) => show Sm.abc k ∈ (Sm.lev s (Sm.nt s) j).names ↔ LK = j + 1 by rw [← hLK]; exact Sm.abc_mem (by rw [← HN1.out]; exact hlt) (by omega))
    have hlv : (Nm.levelsG (Sm.gram s))[k + 1]? = some (LK : Int) := by
     unfold Nm.levelsG Nm.terms
     rw [List.getElem?_map, List.getElem?_cons_succ, List.getElem?_map, hx]
     show some (Nm.level (Sm.gram s) (Sm.abc k)) = _
     rw [Sm.level_abc HL5.out (by rw [← HN1.out]; exact hlt), hLK]
    have HLV := Lib.hid hlv
    obtain ⟨U, hU⟩ : ∃ U : Nat → Nat, U = fun j => if 1 ≤ LK ∧ LK ≤ j then LK else 0 := ⟨_, rfl⟩
    have HU := Lib.hid (fun j => congrFun hU j)
    have hu0 : U 0 = 0 := by rw [hU]; show (if 1 ≤ LK ∧ LK ≤ 0 then LK else 0) = 0; split <;> omega
    have HU0 := Lib.hid hu0
    have HEQ := Lib.hid (fun (y : Rd.Name) => str_same y (Sm.abc k))
    have hxe : (Sm.tok k).name = Sm.abc k := rfl
    rw [hxe] at y0 HY0
    obtain ⟨X, hX⟩ : ∃ X, str (Sm.abc k) = X := ⟨_, rfl⟩
    rw [hX] at y0 HY0 HEQ
    have hki : (k : Int) < (n1 : Int) := by omega
    have hk0 : (0 : Int) ≤ (k : Int) := by omega
    clear hx hlv hLK hU hX hu0 hxe
    go_wp2_with fail
    clear g0 g1 g2 g3 g4 p0 p1 p2 p3 p4 p5
    clear y0
    go_loopw [10, 11] (fun v i wr => ∃ (j d : Nat), j ≤ n3 ∧ i = .int .i64 (j : Int) ∧ v = .int .i64 ((U j : Nat) : Int) ∧ wr = WR.drewN d) (fun _ i _ => n3 - (intOf i).toNat)
    case atStart => exact ⟨0, 0, by omega, rfl, by rw [HU0.out]; rfl, rfl⟩
    case round =>
     obtain ⟨j, d, hj, rfl, rfl, rfl⟩ := hrel
     have g0 := HATGR.out.cell 0
     have g1 := HATGR.out.cell 1
     have g2 := HATGR.out.cell 2
     have g3 := HATGR.out.cell 3
     have g4 := HATGR.out.cell 4
     simp only [List.getElem?_toArray, List.getElem?_cons_zero, List.getElem?_cons_succ] at g0 g1 g2 g3 g4
     have p0 := HATPR.out.cell 0
     have p1 := HATPR.out.cell 1
     have p2 := HATPR.out.cell 2
     have p3 := HATPR.out.cell 3
     have p4 := HATPR.out.cell 4
     have p5 := HATPR.out.cell 5
     simp only [List.getElem?_toArray, List.getElem?_cons_zero, List.getElem?_cons_succ] at p0 p1 p2 p3 p4 p5
     by_cases hjl : j < n3
     ·obtain ⟨q, hq⟩ := some_get (l := pl) (i := j) (by rw [HPLEN.out]; exact hjl)
      have hqe : q.1 = Sm.lev s (Sm.nt s) j := by
       have h1 : (pl.map (·.1))[j]? = some q.1 := by simp [hq]
       rw [HPLE.out] at h1
       have h2 : (Sm.gram s).levels[j]? = some (Sm.lev s (Sm.nt s) j) := Sm.levs_get (by rw [← HN3.out]; exact hjl)
       rw [h2] at h1
       exact (Option.some.inj h1).symm
      obtain ⟨lb, lo, hA, hlb, _, z1⟩ := lev_got9 (K3.out.below (HB.out.mono HSS.out.1)) hq
      subst hA
      obtain ⟨A', c', hv1, hv2⟩ := ((HPE.out q (List.mem_of_getElem? hq)).2).below (HB.out.mono HSS.out.1)
      rw [hv1] at z1
      have HCL := Lib.hid hv2
      obtain ⟨l, hl⟩ : ∃ l, q.1.names = l := ⟨_, rfl⟩
      rw [hl] at HCL z1
      have hlj : l = (Sm.lev s (Sm.nt s) j).names := by rw [← hl, hqe]
      have HLJ := Lib.hid hlj
      obtain ⟨m, hm⟩ : ∃ m, l.length = m := ⟨_, rfl⟩
      rw [hm] at z1
      have HM := Lib.hid hm
      have hm6 : m ≤ 6 := by rw [← hm, hlj]; exact Sm.names_len (by have := Sm.nt_le (s := s); omega)
      have HZ1 := Lib.hid z1
      obtain ⟨V, hV⟩ : ∃ V : Nat → Nat, V = fun u => if Sm.abc k ∈ l.take u then j + 1 else U j := ⟨_, rfl⟩
      have HV := Lib.hid (fun u => congrFun hV u)
      have HV0 := Lib.hid (show V 0 = U j by rw [hV]; show (if Sm.abc k ∈ l.take 0 then j + 1 else U j) = U j; rw [List.take_zero, if_neg (by simp)])
      have hji : (j : Int) < (n3 : Int) := by omega
      have hj0 : (0 : Int) ≤ (j : Int) := by omega
      clear hq hqe hv1 hv2 hl hlj hm hV
      go_wp2_with fail
      clear g0 g1 g2 g3 g4 p0 p1 p2 p3 p4 p5
      clear z1
      go_loopw [10, 12] (fun v i wr => ∃ (u d : Nat), u ≤ m ∧ i = .int .i64 (u : Int) ∧ v = .int .i64 ((V u : Nat) : Int) ∧ wr = WR.drewN d) (fun _ i _ => m - (intOf i).toNat)
      case atStart => exact ⟨0, d, by omega, rfl, by rw [HV0.out], rfl⟩
      case round =>
       obtain ⟨u, d, hu, rfl, rfl, rfl⟩ := hrel
       have g0 := HATGR.out.cell 0
       have g1 := HATGR.out.cell 1
       have g2 := HATGR.out.cell 2
       have g3 := HATGR.out.cell 3
       have g4 := HATGR.out.cell 4
       simp only [List.getElem?_toArray, List.getElem?_cons_zero, List.getElem?_cons_succ] at g0 g1 g2 g3 g4
       have p0 := HATPR.out.cell 0
       have p1 := HATPR.out.cell 1
       have p2 := HATPR.out.cell 2
       have p3 := HATPR.out.cell 3
       have p4 := HATPR.out.cell 4
       have p5 := HATPR.out.cell 5
       simp only [List.getElem?_toArray, List.getElem?_cons_zero, List.getElem?_cons_succ] at p0 p1 p2 p3 p4 p5
       have z1 := HZ1.out
       have y0 := HY0.out
       by_cases hul : u < m
       ·obtain ⟨y, hy⟩ := some_get (l := l) (i := u) (by rw [HM.out]; exact hul)
        obtain ⟨nb, no, hA, hnb, z2⟩ := nm_get9 HCL.out hy
        subst hA
        have heq := HEQ.out y
        have hui : (u : Int) < (m : Int) := by omega
        have hu0 : (0 : Int) ≤ (u : Int) := by omega
        have htk : Sm.abc k ∈ l.take (u + 1) ↔ Sm.abc k ∈ l.take u ∨ y = Sm.abc k := by
         rw [List.take_add_one, hy, List.mem_append]
         simp [eq_comm]
        cases hyx : (y == Sm.abc k) with
        | true =>
         have HN := Lib.hid (show V (u + 1) = j + 1 by rw [HV.out]; show (if _ then _ else _) = _; rw [if_pos (htk.2 (.inr (beq_iff_eq.1 hyx)))])
         rw [hyx] at heq
         generalize str y = Y at z2 heq
         clear hy htk hyx
         go_wp2_with fail
         go_quiet (fail)
         go_wp2_with fail
         go_roundw
         case rel => exact ⟨u + 1, _, by omega, by go_num, by rw [HN.out]; go_num, rfl⟩
         case measure => simp [intOf]; omega
        | false =>
         have HN := Lib.hid (show V (u + 1) = V u by
          rw [HV.out, HV.out]; show (if _ then _ else _) = (if _ then _ else _)
          have : (Sm.abc k ∈ l.take (u + 1)) = (Sm.abc k ∈ l.take u) := propext ⟨fun h => (htk.1 h).resolve_right (beq_eq_false_iff_ne.1 hyx), fun h => htk.2 (.inl h)⟩
          simp only [this])
         rw [hyx] at heq
         generalize str y = Y at z2 heq
         clear hy htk hyx
         go_wp2_with fail
         go_quiet (fail)
         go_wp2_with fail
         go_roundw
         case rel => exact ⟨u + 1, _, by omega, by go_num, by rw [HN.out], rfl⟩
         case measure => simp [intOf]; omega
       ·obtain rfl : m = u := by omega
        have HEND := Lib.hid (show V m = U (j + 1) by
         have hall : l.take m = l := by rw [← HM.out, List.take_length]
         rw [HV.out, HU.out, HU.out]; show (if _ then _ else _) = (if _ then _ else _)
         rw [hall]
         have h1 := HMEM.out j (by omega)
         rw [← HLJ.out] at h1
         by_cases h : Sm.abc k ∈ l
         ·have := h1.1 h
          rw [if_pos h, if_pos (by omega)]; omega
         ·have : ¬ LK = j + 1 := fun e => h (h1.2 e)
          rw [if_neg h]
          split <;> split <;> omega)
        go_wp2_with fail
        go_roundw
        case rel => exact ⟨j + 1, _, by omega, by go_num, by rw [HEND.out], rfl⟩
        case measure => simp [intOf]; omega
     ·obtain rfl : n3 = j := by omega
      have HEND := Lib.hid (show U n3 = LK by rw [HU.out]; show (if _ then _ else _) = _; split <;> omega)
      obtain ⟨lb, lo, hA, hlb, z1⟩ := int_get9 (Q4.out.below (HB.out.mono HSS.out.2)) HLV.out
      subst hA
      rw [HEND.out]
      have cc : ((LK : Int) != (LK : Int)) = false := by simp
      have hk1 : (k : Int) + 1 < (n1 : Int) + 1 := by omega
      have hk2 : (0 : Int) ≤ (k : Int) + 1 := by omega
      go_wp2_with fail
      go_roundw
      case rel => exact ⟨k + 1, by omega, by go_num, below_drewN HB.out _⟩
      case measure => simp [intOf]; omega
   ·obtain rfl : n1 = k := by omega
    go_wp2_with fail
    clear g0 g1 g2 g3 g4 p0 p1 p2 p3 p4 p5
    obtain ⟨w7, hw7⟩ : ∃ W, WR = W := ⟨_, rfl⟩
    rw [hw7] at HB ⊢
    have HB7 := HB
    clear hw7 HB HATGR HATPR hlgr
    go_loopw [13] (fun i wr => ∃ (k : Nat), k ≤ n4 ∧ i = .int .i64 (k : Int) ∧ Below w6.heap.size w6 wr) (fun i _ => n4 - (intOf i).toNat)
    case atStart => exact ⟨0, by omega, rfl, HB7.out⟩
    case round =>
     clear HB7
     obtain ⟨k, hk, rfl, hb⟩ := hrel
     obtain ⟨WR, hWR⟩ : ∃ W, wr = W := ⟨_, rfl⟩
     rw [hWR] at hb ⊢
     clear hWR wr
     have HB := Lib.hid hb
     have HATGR := Lib.hid (HATG.out.below hb HATG.out.lt)
     have HATPR := Lib.hid (HATP.out.below hb HATP.out.lt)
     have g0 := HATGR.out.cell 0
     have g1 := HATGR.out.cell 1
     have g2 := HATGR.out.cell 2
     have g3 := HATGR.out.cell 3
     have g4 := HATGR.out.cell 4
     simp only [List.getElem?_toArray, List.getElem?_cons_zero, List.getElem?_cons_succ] at g0 g1 g2 g3 g4
     have p0 := HATPR.out.cell 0
     have p1 := HATPR.out.cell 1
     have p2 := HATPR.out.cell 2
     have p3 := HATPR.out.cell 3
     have p4 := HATPR.out.cell 4
     have p5 := HATPR.out.cell 5
     simp only [List.getElem?_toArray, List.getElem?_cons_zero, List.getElem?_cons_succ] at p0 p1 p2 p3 p4 p5
     have hlgr := HATGR.out.lt
     clear hb
     by_cases hlt : k < n4
     ·obtain ⟨r, hr⟩ := some_get (l := (Sm.gram s).rules) (i := k) (by rw [HGL4.out]; exact hlt)
      have hrm := List.mem_of_getElem? hr
      have hpr : (Nm.plan (Sm.gram s)).rules[k + 1]? = some (Nm.prod (Sm.gram s) r) := by
       show ((_ : Nm.Prod) :: (Sm.gram s).rules.map (Nm.prod (Sm.gram s)))[k + 1]? = _
       rw [List.getElem?_cons_succ, List.getElem?_map, hr]; rfl
      obtain ⟨b, o, A', c', hA, hbl, y0, y1, y2, hcl⟩ := (Q3.out.below (HB.out.mono HSS.out.2)).get hpr
      subst hA
      obtain ⟨R, hR⟩ : ∃ R, (Nm.prod (Sm.gram s) r).right = R := ⟨_, rfl⟩
      have hRe : R = r.right.map (Nm.symG (Sm.gram s)) := by rw [← hR]; rfl
      rw [hR] at y1 hcl
      have HPOS := Lib.hid (show ∀ y ∈ R, 0 ≤ y from fun y hy => by
       rw [hRe] at hy
       obtain ⟨n, hn, rfl⟩ := List.mem_map.1 hy
       exact (HFI.out.rules r hrm).1 n hn)
      obtain ⟨m, hm⟩ : ∃ m, R.length = m := ⟨_, rfl⟩
      rw [hm] at y1
      have HM := Lib.hid hm
      have hm8 : m ≤ 1000 := by rw [← hm, hRe, List.length_map]; have := (Nm.rule_ok HFI.out.right r hrm).2.1; omega
      obtain ⟨LV, hLV⟩ : ∃ LV, (Nm.prod (Sm.gram s) r).level = LV := ⟨_, rfl⟩
      rw [hLV] at y2
      have hLVe : LV = if r.prec = [] then Nm.lastL (Nm.levelsG (Sm.gram s)) R else Nm.level (Sm.gram s) r.prec := by rw [← hLV, hRe]; rfl
      have HLV := Lib.hid hLVe
      have hprec := Sm.prec_is (show r ∈ Sm.rules s (Sm.nv s) from hrm)
      generalize (Nm.prod (Sm.gram s) r).left = X0 at y0
      obtain ⟨rb, ro, RA', Rc', hRA, hrb, _, _, v2, _, _⟩ := (K4.out.below (HB.out.mono HSS.out.1)).get hr
      subst hRA
      have HEQ := Lib.hid (fun (y : Rd.Name) => str_same r.prec y)
      obtain ⟨X, hX⟩ : ∃ X, str r.prec = X := ⟨_, rfl⟩
      rw [hX] at v2 HEQ
      have hatx := At.new WR 70 #[.int .i64 X0, .slice A' m c', .int .i64 LV]
      have hbx := (Below.refl WR.heap.size WR).alloc (Nat.le_refl _) (.cells #[.int .i64 X0, .slice A' m c', .int .i64 LV] 70)
      have hki : (k : Int) + 1 < (n4 : Int) + 1 := by omega
      have hkj : (k : Int) < (n4 : Int) := by omega
      have hk0 : (0 : Int) ≤ (k : Int) + 1 := by omega
      have hk1 : (0 : Int) ≤ (k : Int) := by omega
      clear hr hrm hpr hR hRe hm hLV hLVe hX
      go_upto_region 28 with (fail)
      obtain ⟨WX, hWX⟩ : ∃ W, WR.alloc (.cells #[.int .i64 X0, .slice A' m c', .int .i64 LV] 70) = W := ⟨_, rfl⟩
      rw [hWX] at hatx hbx ⊢
      obtain ⟨gx, hgx⟩ : ∃ g, WR.heap.size = g := ⟨_, rfl⟩
      rw [hgx] at hatx ⊢
      have HV2 := Lib.hid ((hbx.cell (p := ⟨rb, ro + k * 4 + 2, none⟩) (by show rb < _; have := HB.out.size; have := HSS.out; omega)).trans v2)
      have HATX := Lib.hid hatx
      have HBX := Lib.hid (HB.out.trans (hbx.mono HB.out.size))
      have HCL := Lib.hid (hcl.below (hbx.mono (Nat.le_trans HSS.out.2 HB.out.size)))
      have HATGX := Lib.hid (HATGR.out.below hbx HATGR.out.lt)
      have HATPX := Lib.hid (HATPR.out.below hbx HATPR.out.lt)
      have hgxl := hatx.lt
      have hggx := HATGX.out.lt
      clear HATGR HATPR hlgr y0 y1 y2 v2 hatx hbx hcl hWX hgx
      clear g0 g1 g2 g3 g4 p0 p1 p2 p3 p4 p5
      go_wp2_with fail
      go_loopw [14, 16] (fun v i wr => ∃ (q d : Nat), q ≤ m ∧ i = .int .i64 (q : Int) ∧ v = .int .i64 (Nm.lastL (Nm.levelsG (Sm.gram s)) (R.take q)) ∧ wr = WX.drewN d) (fun _ i _ => m - (intOf i).toNat)
      case atStart => exact ⟨0, 0, by omega, rfl, rfl, rfl⟩
      case round =>
       obtain ⟨q, d, hq, rfl, rfl, rfl⟩ := hrel
       have hp3 := HATPX.out.cell 3
       have hx1 := HATX.out.cell 1
       simp only [List.getElem?_toArray, List.getElem?_cons_zero, List.getElem?_cons_succ] at hp3 hx1
       by_cases hql : q < m
       ·obtain ⟨y, hy⟩ := some_get (l := R) (i := q) (by rw [HM.out]; exact hql)
        obtain ⟨nb, no, hA, hnb, z0⟩ := int_get9 HCL.out hy
        subst hA
        obtain ⟨yn, rfl⟩ : ∃ yn : Nat, y = (yn : Int) := ⟨y.toNat, by have := HPOS.out y (List.mem_of_getElem? hy); omega⟩
        have htk : R.take (q + 1) = R.take q ++ [(yn : Int)] := by rw [List.take_add_one, hy]; rfl
        have HTK := Lib.hid htk
        have hqi : (q : Int) < (m : Int) := by omega
        have hq0 : (0 : Int) ≤ (q : Int) := by omega
        have hyn0 : (0 : Int) ≤ (yn : Int) := by omega
        have hd1 : decide ((0 : Int) ≤ (yn : Int)) = true := by simp
        have hlen : ((Nm.levelsG (Sm.gram s)).length : Int) = (n1 : Int) + 1 := by
         have : (Nm.levelsG (Sm.gram s)).length = n1 + 1 := by unfold Nm.levelsG; rw [List.length_map, Nm.terms_len, HGL1.out]
         omega
        by_cases hyl : yn < n1 + 1
        ·obtain ⟨z, hz⟩ := some_get (l := Nm.levelsG (Sm.gram s)) (i := yn) (by omega)
         obtain ⟨lb, lo, hA, hlb, z1⟩ := int_get9 (Q4.out.below (HBX.out.mono HSS.out.2)) hz
         subst hA
         have HN := Lib.hid (show Nm.lastL (Nm.levelsG (Sm.gram s)) (R.take (q + 1)) = z by rw [HTK.out, lastL_snoc, if_pos ⟨by omega, by omega⟩]; simp [List.getD, hz])
         have hyi : (yn : Int) < (n1 : Int) + 1 := by omega
         have hd2 : decide ((yn : Int) < (n1 : Int) + 1) = true := by simpa using hyi
         clear hy htk hlen hz
         go_wp2_with fail
         go_quiet (fail)
         go_wp2_with fail
         go_quiet (fail)
         go_wp2_with fail
         go_roundw
         case rel => exact ⟨q + 1, _, by omega, by go_num, by rw [HN.out], rfl⟩
         case measure => simp [intOf]; omega
        ·have HN := Lib.hid (show Nm.lastL (Nm.levelsG (Sm.gram s)) (R.take (q + 1)) = Nm.lastL (Nm.levelsG (Sm.gram s)) (R.take q) by rw [HTK.out, lastL_snoc, if_neg (by omega)])
         have hyi : ¬ (yn : Int) < (n1 : Int) + 1 := by omega
         have hd2 : decide ((yn : Int) < (n1 : Int) + 1) = false := by simpa using hyi
         clear hy htk hlen
         go_wp2_with fail
         go_quiet (fail)
         go_wp2_with fail
         go_roundw
         case rel => exact ⟨q + 1, _, by omega, by go_num, by rw [HN.out], rfl⟩
         case measure => simp [intOf]; omega
       ·obtain rfl : m = q := by omega
        rw [show R.take m = R by rw [← HM.out, List.take_length]]
        obtain ⟨LW, hLW⟩ : ∃ LW, Nm.lastL (Nm.levelsG (Sm.gram s)) R = LW := ⟨_, rfl⟩
        rw [hLW] at HLV ⊢
        have hPW : ∃ PW : Nat → Int, PW 0 = LW ∧ PW n3 = LV ∧ ∀ q, q < n3 → PW (q + 1) = if r.prec = Sm.pqr q then ((q : Int) + 1) else PW q := by
         rcases hprec with h0 | ⟨jj, hjj, h0⟩
         ·refine ⟨fun _ => LW, rfl, by rw [HLV.out, if_pos h0], fun q hq => ?_⟩
          rw [if_neg (by rw [h0]; unfold Sm.pqr; simp)]
         ·have hj5 : jj < 5 := by have := HL5.out; omega
          refine ⟨fun q => if jj < q then ((jj + 1 : Nat) : Int) else LW, if_neg (by omega), ?_, fun q hq => ?_⟩
          ·show (if jj < n3 then ((jj + 1 : Nat) : Int) else LW) = LV
           rw [if_pos (by rw [HN3.out]; exact hjj), HLV.out, if_neg (by rw [h0]; unfold Sm.pqr; simp), h0, Sm.level_pqr HL5.out hjj]
          ·show (if jj < q + 1 then ((jj + 1 : Nat) : Int) else LW) = _
           by_cases e : jj = q
           ·rw [if_pos (by omega), if_pos (by rw [h0, e])]; omega
           ·have hne : ¬ r.prec = Sm.pqr q := fun h => e (Sm.pqr_inj hj5 (by have := HL5.out; have := HN3.out; omega) (h0.symm.trans h))
            rw [if_neg hne]
            show _ = (if jj < q then ((jj + 1 : Nat) : Int) else LW)
            by_cases e2 : jj < q
            ·rw [if_pos (by omega), if_pos e2]
            ·rw [if_neg (by omega), if_neg e2]
        obtain ⟨PW, hp0, hpn, hps⟩ := hPW
        have HPS := Lib.hid hps
        have HP0 := Lib.hid hp0
        have HPN := Lib.hid hpn
        clear hps hp0 hpn hLW hprec
        go_wp2_with fail
        clear hp3 hx1
        go_loopw [14, 17] (fun v i wr => ∃ (q d : Nat), q ≤ n3 ∧ i = .int .i64 (q : Int) ∧ v = .int .i64 (PW q) ∧ wr = WX.drewN d) (fun _ i _ => n3 - (intOf i).toNat)
        case atStart => exact ⟨0, d, by omega, rfl, by rw [HP0.out], rfl⟩
        case round =>
         obtain ⟨q, d, hq, rfl, rfl, rfl⟩ := hrel
         have hg2 := HATGX.out.cell 2
         have hg4 := HATGX.out.cell 4
         have hx2 := HATX.out.cell 2
         simp only [List.getElem?_toArray, List.getElem?_cons_zero, List.getElem?_cons_succ] at hg2 hg4 hx2
         by_cases hql : q < n3
         ·obtain ⟨qq, hqq⟩ := some_get (l := pl) (i := q) (by rw [HPLEN.out]; exact hql)
          have hqe : qq.1 = Sm.lev s (Sm.nt s) q := by
           have h1 : (pl.map (·.1))[q]? = some qq.1 := by simp [hqq]
           rw [HPLE.out] at h1
           have h2 : (Sm.gram s).levels[q]? = some (Sm.lev s (Sm.nt s) q) := Sm.levs_get (by rw [← HN3.out]; exact hql)
           rw [h2] at h1
           exact (Option.some.inj h1).symm
          obtain ⟨lb, lo, hA, hlb, _, z1⟩ := lev_got9 (K3.out.below (HBX.out.mono HSS.out.1)) hqq
          subst hA
          obtain ⟨A'', c'', hv1, hv2⟩ := ((HPE.out qq (List.mem_of_getElem? hqq)).2).below (HBX.out.mono HSS.out.1)
          have hn0 : qq.1.names[0]? = some (Sm.pqr q) := by rw [hqe]; rfl
          obtain ⟨nb, no, hA, hnb, z2⟩ := nm_get9 hv2 hn0
          subst hA
          rw [hv1] at z1
          rw [Nat.add_zero] at z2
          obtain ⟨mm, hmm⟩ : ∃ m, qq.1.names.length = m := ⟨_, rfl⟩
          have hmm0 : 0 < mm := by rw [← hmm]; exact (List.getElem?_eq_some_iff.1 hn0).1
          rw [hmm] at z1
          have hmi : (0 : Int) < (mm : Int) := by omega
          have v2 := HV2.out
          have heq := HEQ.out (Sm.pqr q)
          have hstep := HPS.out q hql
          have hqi : (q : Int) < (n3 : Int) := by omega
          have hq0 : (0 : Int) ≤ (q : Int) := by omega
          generalize hY : str (Sm.pqr q) = Y at z2 heq
          clear hqq hqe hv1 hv2 hn0 hmm hY
          by_cases he : r.prec = Sm.pqr q
          ·rw [if_pos he] at hstep
           rw [he, beq_self_eq_true] at heq
           have HN := Lib.hid hstep
           clear hstep he
           go_wp2_with fail
           go_quiet (fail)
           go_wp2_with fail
           go_roundw
           case rel => exact ⟨q + 1, _, by omega, by go_num, by rw [HN.out], rfl⟩
           case measure => simp [intOf]; omega
          ·rw [if_neg he] at hstep
           rw [beq_eq_false_iff_ne.2 he] at heq
           have HN := Lib.hid hstep
           clear hstep he
           go_wp2_with fail
           go_quiet (fail)
           go_wp2_with fail
           go_roundw
           case rel => exact ⟨q + 1, _, by omega, by go_num, by rw [HN.out], rfl⟩
           case measure => simp [intOf]; omega
         ·obtain rfl : n3 = q := by omega
          rw [HPN.out]
          have cc : (LV != LV) = false := by simp
          go_wp2_with fail
          go_roundw
          case rel => exact ⟨k + 1, by omega, by go_num, below_drewN HBX.out _⟩
          case measure => simp [intOf]; omega
     ·obtain rfl : n4 = k := by omega
      go_wp2_with fail
      clear g0 g1 g2 g3 g4 p0 p1 p2 p3 p4 p5
      obtain ⟨w8, hw8⟩ : ∃ W, WR = W := ⟨_, rfl⟩
      rw [hw8] at HB ⊢
      have HB8 := HB
      clear hw8 HB HATGR HATPR hlgr
      go_loopw [18] (fun i wr => ∃ (k : Nat), k ≤ n3 ∧ i = .int .i64 (k : Int) ∧ Below w6.heap.size w6 wr) (fun i _ => n3 - (intOf i).toNat)
      case atStart => exact ⟨0, by omega, rfl, HB8.out⟩
      case round =>
       clear HB8
       obtain ⟨k, hk, rfl, hb⟩ := hrel
       have HB := Lib.hid hb
       have HATGR := Lib.hid (HATG.out.below hb HATG.out.lt)
       have HATPR := Lib.hid (HATP.out.below hb HATP.out.lt)
       have g0 := HATGR.out.cell 0
       have g1 := HATGR.out.cell 1
       have g2 := HATGR.out.cell 2
       have g3 := HATGR.out.cell 3
       have g4 := HATGR.out.cell 4
       simp only [List.getElem?_toArray, List.getElem?_cons_zero, List.getElem?_cons_succ] at g0 g1 g2 g3 g4
       have p0 := HATPR.out.cell 0
       have p1 := HATPR.out.cell 1
       have p2 := HATPR.out.cell 2
       have p3 := HATPR.out.cell 3
       have p4 := HATPR.out.cell 4
       have p5 := HATPR.out.cell 5
       simp only [List.getElem?_toArray, List.getElem?_cons_zero, List.getElem?_cons_succ] at p0 p1 p2 p3 p4 p5
       have hlgr := HATGR.out.lt
       clear hb
       by_cases hlt : k < n3
       ·obtain ⟨q, hq⟩ := some_get (l := pl) (i := k) (by rw [HPLEN.out]; exact hlt)
        have hqe : (Sm.gram s).levels[k]? = some q.1 := by rw [← HPLE.out, List.getElem?_map, hq]; rfl
        obtain ⟨lb, lo, hA, hlb, z0, _⟩ := lev_got9 (K3.out.below (HB.out.mono HSS.out.1)) hq
        subst hA
        have henc := (HPE.out q (List.mem_of_getElem? hq)).1
        have ha13 := (Nm.lev_ok HFI.out.right q.1 (List.mem_of_getElem? hqe))
        have hqa : q.2.2 = (q.1.assoc : Int) := by rw [henc]; exact encA_of (by rw [← henc]; exact ha13.1)
        have has : (Nm.plan (Sm.gram s)).assocs[k + 1]? = some q.2.2 := by
         show (0 :: (Sm.gram s).levels.map (fun v => (v.assoc : Int)))[k + 1]? = _
         rw [List.getElem?_cons_succ, List.getElem?_map, hqe, hqa]; rfl
        obtain ⟨ab, ao, hA, hab, z1⟩ := int_get9 (Q5.out.below (HB.out.mono HSS.out.2)) has
        subst hA
        generalize q.2.2 = Z at z0 z1
        have cc : (Z != Z) = false := by simp
        have hki : (k : Int) < (n3 : Int) := by omega
        have hk0 : (0 : Int) ≤ (k : Int) := by omega
        have hk1 : (k : Int) + 1 < (n3 : Int) + 1 := by omega
        have hk2 : (0 : Int) ≤ (k : Int) + 1 := by omega
        have hw1 : IntKind.i64.wrap ((k : Int) + 1) = (k : Int) + 1 := IntWalk.i64_in _ ⟨by omega, by omega⟩
        have hkn : ((k : Int) + 1).toNat = k + 1 := by omega
        clear hq hqe henc ha13 hqa has
        obtain ⟨WR, hWR⟩ : ∃ W, wr = W := ⟨_, rfl⟩
        have HB2 := Lib.hid (hWR ▸ HB.out)
        rw [hWR] at z0 z1 hlgr g0 g1 g2 g3 g4 p0 p1 p2 p3 p4 p5 ⊢
        clear hWR HB HATGR HATPR
        go_wp2_with fail
        go_quiet (fail)
        go_wp2_with fail
        go_roundw
        case rel => exact ⟨k + 1, by omega, by go_num, below_drewN HB2.out _⟩
        case measure => simp [intOf]; omega
       ·obtain rfl : n3 = k := by omega
        go_wp2_with fail
        go_ret
        exact ⟨rfl, HB6.out.trans (HB.out.mono HB6.out.size)⟩
end Go.Proofs.YtehagenopnnhcaaGreatDoor
