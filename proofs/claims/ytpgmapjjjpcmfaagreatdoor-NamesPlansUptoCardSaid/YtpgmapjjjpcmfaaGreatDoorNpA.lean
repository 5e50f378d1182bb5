import Derived.Test.YtpgmapjjjpcmfaaGreatDoorPrSm
import Derived.Test.YtpgmapjjjpcmfaaGreatDoorNrD
import Derived.Test.YtpgmapjjjpcmfaaGreatDoorNmJ
import Derived.Test.YtpgmapjjjpcmfaaGreatDoorPrT2
import Derived.Deep.RegionHeld3
import Derived.Sort.Grow
import Derived.Below
import Derived.BigQuiet
import Derived.Deep.QuietTactic
namespace Go.Proofs.YtpgmapjjjpcmfaaGreatDoor
open Go.RowKit
open Lx
set_option linter.unusedVariables false
set_option linter.unusedSimpArgs false
set_option maxRecDepth 100000
theorem intsC_same (A1 A2 : Option Addr) (c1 c2 : Nat) (l : List Int) (B : Nat) (w : World) (h1 : Cl w B A1 (vals l)) (h2 : Cl w B A2 (vals l)) (hl : l.length ≤ 1000000) :
  Calls Tryz.prog 57 #[.slice A1 l.length c1, .slice A2 l.length c2] w fun e w' => e = .returned (.bool true) ∧ ∃ n, w' = w.drewN n := by
 have H1 := Lib.hid h1
 have H2 := Lib.hid h2
 obtain ⟨n, hn⟩ : ∃ n, l.length = n := ⟨_, rfl⟩
 rw [hn] at hl ⊢
 have HN := Lib.hid hn
 clear h1 h2 hn
 go_enter Tryz.func57, Tryz.ntmps57
 go_wp2_with fail
 go_loopw [5] (fun i wr => ∃ (k m : Nat), k ≤ n ∧ i = .int .i64 (k : Int) ∧ wr = w.drewN m) (fun i _ => n - (intOf i).toNat)
 case atStart => exact ⟨0, 0, by omega, rfl, rfl⟩
 case round =>
  obtain ⟨k, m, hk, rfl, rfl⟩ := hrel
  by_cases hlt : k < n
  ·obtain ⟨x, hx⟩ := some_get (l := l) (i := k) (by rw [HN.out]; exact hlt)
   have hv : (vals l)[k]? = some (.int .i64 x) := vals_get hx
   have hne : vals l ≠ [] := fun e => by rw [e] at hv; simp at hv
   obtain ⟨b1, o1, rfl, _, f1⟩ := H1.out.ex hne
   obtain ⟨b2, o2, rfl, _, f2⟩ := H2.out.ex hne
   have cc : w.cell? ⟨b1, o1 + k, none⟩ = some (.int .i64 x) := f1 _ _ hv
   have dd : w.cell? ⟨b2, o2 + k, none⟩ = some (.int .i64 x) := f2 _ _ hv
   have t1 : (x == x) = true := by simp
   have t2 : (x != x) = false := by simp
   have hki : (k : Int) < (n : Int) := by omega
   have hk0 : (0 : Int) ≤ (k : Int) := by omega
   clear hx hv hne f1 f2
   go_wp2_with fail
   go_quiet (fail)
   go_wp2_with fail
   go_roundw
   case rel => exact ⟨k + 1, _, by omega, by go_num, rfl⟩
   case measure => simp [intOf]; omega
  ·obtain rfl : n = k := by omega
   go_wp2_with fail
   go_ret
   exact ⟨rfl, m, rfl⟩
set_option maxHeartbeats 4000000 in
theorem sameP_any (v1 v2 : Value) (P : Nm.Plan) (B : Nat) (w : World) (h1 : PlanC w B v1 P) (h2 : PlanC w B v2 P) (hB : B ≤ w.heap.size)
  (hs : P.terms.length ≤ 1000000 ∧ P.vars.length ≤ 1000000 ∧ P.rules.length ≤ 1000000 ∧ P.levels.length ≤ 1000000 ∧ P.assocs.length ≤ 1000000 ∧ P.acts.length ≤ 1000000) (hr : ∀ r ∈ P.rules, r.right.length ≤ 1000000) :
  Calls Tryz.prog 18 #[v1, v2] w fun e w' => e = .returned (.bool true) ∧ Below w.heap.size w w' := by
 obtain ⟨A1, c1, A2, c2, A3, c3, A4, c4, A5, c5, A6, c6, rfl, k1, k2, k3, k4, k5, k6⟩ := h1.ex
 obtain ⟨B1, e1, B2, e2, B3, e3, B4, e4, B5, e5, B6, e6, rfl, m1, m2, m3, m4, m5, m6⟩ := h2.ex
 obtain ⟨s1, s2, s3, s4, s5, s6⟩ := hs
 have HR := Lib.hid hr
 have K1 := Lib.hid k1
 have M1 := Lib.hid m1
 have K2 := Lib.hid k2
 have M2 := Lib.hid m2
 have K3 := Lib.hid k3
 have M3 := Lib.hid m3
 have K4 := Lib.hid k4
 have M4 := Lib.hid m4
 have K5 := Lib.hid k5
 have M5 := Lib.hid m5
 have K6 := Lib.hid k6
 have M6 := Lib.hid m6
 have S1 := Lib.hid (show ∀ w', Below w.heap.size w w' → Calls Tryz.prog 56 #[.slice A1 P.terms.length c1, .slice B1 P.terms.length e1] w' fun e w'' => e = .returned (.bool true) ∧ ∃ n, w'' = w'.drewN n from fun w' hw => textsC_same A1 B1 c1 e1 P.terms B w' (K1.out.below (hw.mono hB)) (M1.out.below (hw.mono hB)) s1)
 have S2 := Lib.hid (show ∀ w', Below w.heap.size w w' → Calls Tryz.prog 56 #[.slice A2 P.vars.length c2, .slice B2 P.vars.length e2] w' fun e w'' => e = .returned (.bool true) ∧ ∃ n, w'' = w'.drewN n from fun w' hw => textsC_same A2 B2 c2 e2 P.vars B w' (K2.out.below (hw.mono hB)) (M2.out.below (hw.mono hB)) s2)
 have S4 := Lib.hid (show ∀ w', Below w.heap.size w w' → Calls Tryz.prog 57 #[.slice A4 P.levels.length c4, .slice B4 P.levels.length e4] w' fun e w'' => e = .returned (.bool true) ∧ ∃ n, w'' = w'.drewN n from fun w' hw => intsC_same A4 B4 c4 e4 P.levels B w' (K4.out.below (hw.mono hB)) (M4.out.below (hw.mono hB)) s4)
 have S5 := Lib.hid (show ∀ w', Below w.heap.size w w' → Calls Tryz.prog 57 #[.slice A5 P.assocs.length c5, .slice B5 P.assocs.length e5] w' fun e w'' => e = .returned (.bool true) ∧ ∃ n, w'' = w'.drewN n from fun w' hw => intsC_same A5 B5 c5 e5 P.assocs B w' (K5.out.below (hw.mono hB)) (M5.out.below (hw.mono hB)) s5)
 have S6 := Lib.hid (show ∀ w', Below w.heap.size w w' → Calls Tryz.prog 56 #[.slice A6 P.acts.length c6, .slice B6 P.acts.length e6] w' fun e w'' => e = .returned (.bool true) ∧ ∃ n, w'' = w'.drewN n from fun w' hw => textsC_same A6 B6 c6 e6 P.acts B w' (K6.out.below (hw.mono hB)) (M6.out.below (hw.mono hB)) s6)
 obtain ⟨n1, hn1⟩ : ∃ n, P.terms.length = n := ⟨_, rfl⟩
 obtain ⟨n2, hn2⟩ : ∃ n, P.vars.length = n := ⟨_, rfl⟩
 obtain ⟨n3, hn3⟩ : ∃ n, P.rules.length = n := ⟨_, rfl⟩
 obtain ⟨n4, hn4⟩ : ∃ n, P.levels.length = n := ⟨_, rfl⟩
 obtain ⟨n5, hn5⟩ : ∃ n, P.assocs.length = n := ⟨_, rfl⟩
 obtain ⟨n6, hn6⟩ : ∃ n, P.acts.length = n := ⟨_, rfl⟩
 rw [hn1] at S1 ⊢
 rw [hn2] at S2 ⊢
 rw [hn4] at S4 ⊢
 rw [hn5] at S5 ⊢
 rw [hn6] at S6 ⊢
 rw [hn3] at s3 ⊢
 have HN3 := Lib.hid hn3
 clear h1 h2 hr k1 k2 k3 k4 k5 k6 m1 m2 m3 m4 m5 m6 hn1 hn2 hn3 hn4 hn5 hn6 s1 s2 s4 s5 s6 K1 K2 K4 K5 K6 M1 M2 M4 M5 M6
 go_enter Tryz.func18, Tryz.ntmps18
 have hbw : Below w.heap.size w ((w.alloc (.cells #[.slice A1 n1 c1, .slice A2 n2 c2, .slice A3 n3 c3, .slice A4 n4 c4, .slice A5 n5 c5, .slice A6 n6 c6] 45)).alloc (.cells #[.slice B1 n1 e1, .slice B2 n2 e2, .slice B3 n3 e3, .slice B4 n4 e4, .slice B5 n5 e5, .slice B6 n6 e6] 45)) := ((Below.refl _ _).alloc (Nat.le_refl _) _).alloc (by simp) _
 have hg1 := (At.new w 45 #[.slice A1 n1 c1, .slice A2 n2 c2, .slice A3 n3 c3, .slice A4 n4 c4, .slice A5 n5 c5, .slice A6 n6 c6]).alloc (.cells #[.slice B1 n1 e1, .slice B2 n2 e2, .slice B3 n3 e3, .slice B4 n4 e4, .slice B5 n5 e5, .slice B6 n6 e6] 45)
 have hg2 := At.new (w.alloc (.cells #[.slice A1 n1 c1, .slice A2 n2 c2, .slice A3 n3 c3, .slice A4 n4 c4, .slice A5 n5 c5, .slice A6 n6 c6] 45)) 45 #[.slice B1 n1 e1, .slice B2 n2 e2, .slice B3 n3 e3, .slice B4 n4 e4, .slice B5 n5 e5, .slice B6 n6 e6]
 have hg2' : At ((w.alloc (.cells #[.slice A1 n1 c1, .slice A2 n2 c2, .slice A3 n3 c3, .slice A4 n4 c4, .slice A5 n5 c5, .slice A6 n6 c6] 45)).alloc (.cells #[.slice B1 n1 e1, .slice B2 n2 e2, .slice B3 n3 e3, .slice B4 n4 e4, .slice B5 n5 e5, .slice B6 n6 e6] 45)) (w.heap.size + 1) 45 #[.slice B1 n1 e1, .slice B2 n2 e2, .slice B3 n3 e3, .slice B4 n4 e4, .slice B5 n5 e5, .slice B6 n6 e6] := by simpa using hg2
 have u3 : ∀ k : Nat, ((k : Int) != (k : Int)) = false := fun k => by simp
 obtain ⟨W, hW⟩ : ∃ W, (w.alloc (.cells #[.slice A1 n1 c1, .slice A2 n2 c2, .slice A3 n3 c3, .slice A4 n4 c4, .slice A5 n5 c5, .slice A6 n6 c6] 45)).alloc (.cells #[.slice B1 n1 e1, .slice B2 n2 e2, .slice B3 n3 e3, .slice B4 n4 e4, .slice B5 n5 e5, .slice B6 n6 e6] 45) = W := ⟨_, rfl⟩
 have HW := Lib.hid hW
 rw [hW] at hbw hg1 hg2'
 have HBW := Lib.hid hbw
 have HG1 := Lib.hid hg1
 have HG2 := Lib.hid hg2'
 have hgl1 := hg1.lt
 have hgl2 := hg2'.lt
 clear hW hbw hg1 hg2 hg2'
 go_wp2_with fail
 rw [HW.out]
 obtain ⟨g1, hge1⟩ : ∃ g1, w.heap.size = g1 := ⟨_, rfl⟩
 have HGE := Lib.hid hge1
 rw [hge1] at HG1 HG2 hgl1 hgl2 ⊢
 obtain ⟨g2, hge2⟩ : ∃ g2, g1 + 1 = g2 := ⟨_, rfl⟩
 rw [hge2] at HG2 hgl2 ⊢
 have HB0 := Lib.hid (Below.refl W.heap.size W)
 clear hge1 hge2
 refine (S1.out W (HBW.out.trans (HB0.out.mono HBW.out.size))).mono ?_
 rintro e w1 ⟨rfl, nn, hw⟩
 have HB1 := Lib.hid (show Below W.heap.size W w1 from hw ▸ below_drewN HB0.out nn)
 clear hw
 have x0 := (HG1.out.below HB1.out hgl1).cell 0
 have y0 := (HG2.out.below HB1.out hgl2).cell 0
 have x1 := (HG1.out.below HB1.out hgl1).cell 1
 have y1 := (HG2.out.below HB1.out hgl2).cell 1
 have x2 := (HG1.out.below HB1.out hgl1).cell 2
 have y2 := (HG2.out.below HB1.out hgl2).cell 2
 have x3 := (HG1.out.below HB1.out hgl1).cell 3
 have y3 := (HG2.out.below HB1.out hgl2).cell 3
 have x4 := (HG1.out.below HB1.out hgl1).cell 4
 have y4 := (HG2.out.below HB1.out hgl2).cell 4
 have x5 := (HG1.out.below HB1.out hgl1).cell 5
 have y5 := (HG2.out.below HB1.out hgl2).cell 5
 simp only [List.getElem?_toArray, List.getElem?_cons_zero, List.getElem?_cons_succ] at x0 x1 x2 x3 x4 x5 y0 y1 y2 y3 y4 y5
 go_wp2_with fail
 refine (S2.out w1 (HBW.out.trans (HB1.out.mono HBW.out.size))).mono ?_
 rintro e w2 ⟨rfl, nn, hw⟩
 have HB2 := Lib.hid (show Below W.heap.size W w2 from hw ▸ below_drewN HB1.out nn)
 clear hw
 clear x0 x1 x2 x3 x4 x5 y0 y1 y2 y3 y4 y5
 have x0 := (HG1.out.below HB2.out hgl1).cell 0
 have y0 := (HG2.out.below HB2.out hgl2).cell 0
 have x1 := (HG1.out.below HB2.out hgl1).cell 1
 have y1 := (HG2.out.below HB2.out hgl2).cell 1
 have x2 := (HG1.out.below HB2.out hgl1).cell 2
 have y2 := (HG2.out.below HB2.out hgl2).cell 2
 have x3 := (HG1.out.below HB2.out hgl1).cell 3
 have y3 := (HG2.out.below HB2.out hgl2).cell 3
 have x4 := (HG1.out.below HB2.out hgl1).cell 4
 have y4 := (HG2.out.below HB2.out hgl2).cell 4
 have x5 := (HG1.out.below HB2.out hgl1).cell 5
 have y5 := (HG2.out.below HB2.out hgl2).cell 5
 simp only [List.getElem?_toArray, List.getElem?_cons_zero, List.getElem?_cons_succ] at x0 x1 x2 x3 x4 x5 y0 y1 y2 y3 y4 y5
 go_wp2_with fail
 refine (S6.out w2 (HBW.out.trans (HB2.out.mono HBW.out.size))).mono ?_
 rintro e w3 ⟨rfl, nn, hw⟩
 have HB3 := Lib.hid (show Below W.heap.size W w3 from hw ▸ below_drewN HB2.out nn)
 clear hw
 clear x0 x1 x2 x3 x4 x5 y0 y1 y2 y3 y4 y5
 have x0 := (HG1.out.below HB3.out hgl1).cell 0
 have y0 := (HG2.out.below HB3.out hgl2).cell 0
 have x1 := (HG1.out.below HB3.out hgl1).cell 1
 have y1 := (HG2.out.below HB3.out hgl2).cell 1
 have x2 := (HG1.out.below HB3.out hgl1).cell 2
 have y2 := (HG2.out.below HB3.out hgl2).cell 2
 have x3 := (HG1.out.below HB3.out hgl1).cell 3
 have y3 := (HG2.out.below HB3.out hgl2).cell 3
 have x4 := (HG1.out.below HB3.out hgl1).cell 4
 have y4 := (HG2.out.below HB3.out hgl2).cell 4
 have x5 := (HG1.out.below HB3.out hgl1).cell 5
 have y5 := (HG2.out.below HB3.out hgl2).cell 5
 simp only [List.getElem?_toArray, List.getElem?_cons_zero, List.getElem?_cons_succ] at x0 x1 x2 x3 x4 x5 y0 y1 y2 y3 y4 y5
 go_wp2_with fail
 refine (S4.out w3 (HBW.out.trans (HB3.out.mono HBW.out.size))).mono ?_
 rintro e w4 ⟨rfl, nn, hw⟩
 have HB4 := Lib.hid (show Below W.heap.size W w4 from hw ▸ below_drewN HB3.out nn)
 clear hw
 clear x0 x1 x2 x3 x4 x5 y0 y1 y2 y3 y4 y5
 have x0 := (HG1.out.below HB4.out hgl1).cell 0
 have y0 := (HG2.out.below HB4.out hgl2).cell 0
 have x1 := (HG1.out.below HB4.out hgl1).cell 1
 have y1 := (HG2.out.below HB4.out hgl2).cell 1
 have x2 := (HG1.out.below HB4.out hgl1).cell 2
 have y2 := (HG2.out.below HB4.out hgl2).cell 2
 have x3 := (HG1.out.below HB4.out hgl1).cell 3
 have y3 := (HG2.out.below HB4.out hgl2).cell 3
 have x4 := (HG1.out.below HB4.out hgl1).cell 4
 have y4 := (HG2.out.below HB4.out hgl2).cell 4
 have x5 := (HG1.out.below HB4.out hgl1).cell 5
 have y5 := (HG2.out.below HB4.out hgl2).cell 5
 simp only [List.getElem?_toArray, List.getElem?_cons_zero, List.getElem?_cons_succ] at x0 x1 x2 x3 x4 x5 y0 y1 y2 y3 y4 y5
 go_wp2_with fail
 refine (S5.out w4 (HBW.out.trans (HB4.out.mono HBW.out.size))).mono ?_
 rintro e w5 ⟨rfl, nn, hw⟩
 have HB5 := Lib.hid (show Below W.heap.size W w5 from hw ▸ below_drewN HB4.out nn)
 clear hw
 clear x0 x1 x2 x3 x4 x5 y0 y1 y2 y3 y4 y5
 have x0 := (HG1.out.below HB5.out hgl1).cell 0
 have y0 := (HG2.out.below HB5.out hgl2).cell 0
 have x1 := (HG1.out.below HB5.out hgl1).cell 1
 have y1 := (HG2.out.below HB5.out hgl2).cell 1
 have x2 := (HG1.out.below HB5.out hgl1).cell 2
 have y2 := (HG2.out.below HB5.out hgl2).cell 2
 have x3 := (HG1.out.below HB5.out hgl1).cell 3
 have y3 := (HG2.out.below HB5.out hgl2).cell 3
 have x4 := (HG1.out.below HB5.out hgl1).cell 4
 have y4 := (HG2.out.below HB5.out hgl2).cell 4
 have x5 := (HG1.out.below HB5.out hgl1).cell 5
 have y5 := (HG2.out.below HB5.out hgl2).cell 5
 simp only [List.getElem?_toArray, List.getElem?_cons_zero, List.getElem?_cons_succ] at x0 x1 x2 x3 x4 x5 y0 y1 y2 y3 y4 y5
 go_wp2_with fail
 clear x0 x1 x2 x3 x4 x5 y0 y1 y2 y3 y4 y5
 go_loopw [5] (fun i wr => ∃ k : Nat, k ≤ n3 ∧ i = .int .i64 (k : Int) ∧ Below W.heap.size W wr) (fun i _ => n3 - (intOf i).toNat)
 case atStart => exact ⟨0, by omega, rfl, HB5.out⟩
 case round =>
  obtain ⟨k, hk, rfl, hbe⟩ := hrel
  have HBE := Lib.hid hbe
  clear hbe
  have x2 := (HG1.out.below HBE.out hgl1).cell 2
  have y2 := (HG2.out.below HBE.out hgl2).cell 2
  simp only [List.getElem?_toArray, List.getElem?_cons_zero, List.getElem?_cons_succ] at x2 y2
  by_cases hlt : k < n3
  ·obtain ⟨x, hx⟩ := some_get (l := P.rules) (i := k) (by rw [HN3.out]; exact hlt)
   have hbb := HBW.out.trans (HBE.out.mono HBW.out.size)
   have p1 := K3.out.below (hbb.mono hB)
   have p2 := M3.out.below (hbb.mono hB)
   obtain ⟨b1, o1, E1, d1, rfl, hb1, z0, z1, z2, q1⟩ := p1.get hx
   obtain ⟨b2, o2, E2, d2, rfl, hb2, v0, v1, v2, q2⟩ := p2.get hx
   have HI := Lib.hid (fun n => intsC_same E1 E2 d1 d2 x.right B (wr.drewN n) (q1.drewN n) (q2.drewN n) (HR.out x (List.mem_of_getElem? hx)))
   generalize x.left = X0 at z0 v0
   generalize x.level = X2 at z2 v2
   generalize x.right.length = XL at z1 v1 HI
   have t1 : (X0 == X0) = true := by simp
   have t2 : (X0 != X0) = false := by simp
   have t3 : (X2 == X2) = true := by simp
   have t4 : (X2 != X2) = false := by simp
   have hki : (k : Int) < (n3 : Int) := by omega
   have hk0 : (0 : Int) ≤ (k : Int) := by omega
   clear hx hbb p1 p2 q1 q2
   go_wp2_with fail
   go_quiet (exact Calls.quiet_of (HI.out _))
   go_wp2_with fail
   go_roundw
   case rel => exact ⟨k + 1, by omega, by go_num, below_drewN HBE.out _⟩
   case measure => simp [intOf]; omega
  ·obtain rfl : n3 = k := by omega
   go_wp2_with fail
   go_ret
   exact ⟨rfl, HBW.out.trans (HBE.out.mono HBW.out.size)⟩
end Go.Proofs.YtpgmapjjjpcmfaaGreatDoor
