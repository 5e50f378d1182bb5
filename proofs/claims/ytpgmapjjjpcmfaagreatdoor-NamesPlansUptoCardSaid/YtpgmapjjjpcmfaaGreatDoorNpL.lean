import Derived.Test.YtpgmapjjjpcmfaaGreatDoorNpA
namespace Go.Proofs.YtpgmapjjjpcmfaaGreatDoor
open Go.RowKit
open Lx
set_option linter.unusedVariables false
set_option linter.unusedSimpArgs false
set_option maxRecDepth 100000
namespace Pr
open Rd (Name Pat Tok Lev Rule G)
theorem names_le9 : ∀ l : List Name, l.length ≤ (l.map namN).sum
 | [] => by simp
 | x :: r => by
  have := names_le9 r
  simp only [List.map_cons, List.sum_cons, List.length_cons]
  unfold namN at *
  omega
theorem lvl_le9 (g : G) : (lvl g).length ≤ (g.levels.map levN).sum := by
 unfold lvl
 generalize g.levels = l
 induction l with
 | nil => simp
 | cons v r ih =>
  have := names_le9 v.names
  simp only [List.flatMap_cons, List.length_append, List.map_cons, List.sum_cons]
  unfold levN at *
  omega
theorem few_all {g : G} (h : fewB g = true) : g.toks.length ≤ 60 ∧ g.levels.length ≤ 60 ∧ g.rules.length ≤ 60 ∧ (lvl g).length ≤ 1500 ∧ ∀ r ∈ g.rules, r.right.length ≤ 1500 := by
 unfold fewB at h
 simp only [Bool.and_eq_true, decide_eq_true_eq] at h
 have h1 := lvl_le9 g
 have h2 := h.2
 have h3 := h.1
 unfold total at h2
 unfold cntN at h2 h3
 refine ⟨by omega, by omega, by omega, by omega, fun r hr => ?_⟩
 have h4 := mem_le rulN hr
 have h5 := names_le9 r.right
 have h6 : rulN r = rulN0 r + (r.right.map namN).sum := rfl
 omega
end Pr
theorem Nm.plan_sz {g : Rd.G} (h : Pr.fewB g = true) : ((Nm.ofG g).1.terms.length ≤ 1000000 ∧ (Nm.ofG g).1.vars.length ≤ 1000000 ∧ (Nm.ofG g).1.rules.length ≤ 1000000 ∧ (Nm.ofG g).1.levels.length ≤ 1000000 ∧ (Nm.ofG g).1.assocs.length ≤ 1000000 ∧ (Nm.ofG g).1.acts.length ≤ 1000000) ∧ ∀ r ∈ (Nm.ofG g).1.rules, r.right.length ≤ 1000000 := by
 obtain ⟨b1, b2, b3, _, b5⟩ := Pr.few_all h
 have hE : (Nm.empty.terms.length ≤ 1000000 ∧ Nm.empty.vars.length ≤ 1000000 ∧ Nm.empty.rules.length ≤ 1000000 ∧ Nm.empty.levels.length ≤ 1000000 ∧ Nm.empty.assocs.length ≤ 1000000 ∧ Nm.empty.acts.length ≤ 1000000) ∧ ∀ r ∈ Nm.empty.rules, r.right.length ≤ 1000000 := by
  refine ⟨⟨by decide, by decide, by decide, by decide, by decide, by decide⟩, fun r hr => by simp [Nm.empty] at hr⟩
 have hP : ((Nm.plan g).terms.length ≤ 1000000 ∧ (Nm.plan g).vars.length ≤ 1000000 ∧ (Nm.plan g).rules.length ≤ 1000000 ∧ (Nm.plan g).levels.length ≤ 1000000 ∧ (Nm.plan g).assocs.length ≤ 1000000 ∧ (Nm.plan g).acts.length ≤ 1000000) ∧ ∀ r ∈ (Nm.plan g).rules, r.right.length ≤ 1000000 := by
  have hv := Nm.varsOf_len (g.rules.map Rd.Rule.left)
  rw [List.length_map] at hv
  unfold Nm.plan Nm.levelsG Nm.terms Nm.vars
  simp only [List.length_cons, List.length_map]
  refine ⟨⟨by omega, by omega, by omega, by omega, by omega, by omega⟩, fun r hr => ?_⟩
  rcases List.mem_cons.1 hr with rfl | hr
  ·simp
  ·obtain ⟨q, hq, rfl⟩ := List.mem_map.1 hr
   have := b5 q hq
   unfold Nm.prod
   simp only [List.length_map]
   omega
 cases hb : Pr.rightB g with
 | false => rw [ofG_bad hb]; exact hE
 | true =>
  by_cases hw : (Nm.wrong g).1 = 0
  ·rw [ofG_fine hb hw]; exact hP
  ·rw [ofG_wrong hb hw]; exact hE
set_option maxHeartbeats 4000000 in
theorem plans8_law (v : Value) (G : Rd.G) (W : World) (hgs : (GramC W W.heap.size v G ∧ Sz G) ∧ Pr.total G < 4611686018427387904) (hT : Tab W) (h0 : 1 < W.heap.size) :
  Calls Tryz.prog 4 #[v] W fun e w' => e = .returned (.bool true) ∧ Below W.heap.size W w' := by
 obtain ⟨⟨hg, hs⟩, hM⟩ := hgs
 have HF := Lib.hid (show ∀ w', Below W.heap.size W w' → Calls Tryz.prog 6 #[v] w' fun e w'' => e = .returned (.bool (Pr.fewB G)) ∧ Below w'.heap.size w' w'' from fun w' hw' => (few_any v G W.heap.size w' (hg.below hw') hw'.size hs).mono (by
  rintro e w2 ⟨⟨⟨b, rfl, hb⟩⟩, hb2⟩
  exact ⟨by rw [hb hM], hb2⟩))
 obtain ⟨P, hP⟩ : ∃ P, (Nm.ofG G).1 = P := ⟨_, rfl⟩
 obtain ⟨c, hc⟩ : ∃ c : Nat, (Nm.ofG G).2.1 = c := ⟨_, rfl⟩
 obtain ⟨n, hn⟩ : ∃ n, str (Nm.ofG G).2.2 = n := ⟨_, rfl⟩
 have HPS := Lib.hid (fun h : Pr.fewB G = true => hP ▸ Nm.plan_sz h)
 have HOF := Lib.hid (show Pr.fewB G = true → ∀ w', Below W.heap.size W w' → Calls Tryz.prog 16 #[v] w' fun e w'' => (∃ pv, e = .returned (.tuple #[pv, .int .i64 (c : Int), .string n]) ∧ PlanC w'' w''.heap.size pv P) ∧ Below w'.heap.size w' w'' from fun hN w' hw' => (of_any v G w' ((hg.below hw').mono hw'.size) hs (hT.below hw' h0) (Nat.lt_of_lt_of_le h0 hw'.size) (fun _ => by have := (Pr.few_all hN).2.2.2.1; omega)).mono (by
  rintro e w2 ⟨⟨pv, rfl, hp⟩, hb2⟩
  rw [hP] at hp
  exact ⟨⟨pv, by rw [hc, hn], hp⟩, hb2⟩))
 have HRO := Lib.hid (show Pr.fewB G = true → ∀ w', Below W.heap.size W w' → Calls Tryz.prog 17 #[v] w' fun e w'' => (∃ pv, e = .returned (.tuple #[pv, .int .i64 (c : Int), .string n]) ∧ PlanC w'' w''.heap.size pv P) ∧ Below w'.heap.size w' w'' from fun hN w' hw' => (rof_any v G w' ((hg.below hw').mono hw'.size) hs (by have := (Pr.few_all hN).2.2.2.1; omega)).mono (by
  rintro e w2 ⟨⟨pv, rfl, hp⟩, hb2⟩
  rw [hP] at hp
  exact ⟨⟨pv, by rw [hc, hn], hp.planC⟩, hb2⟩))
 have HT := Lib.hid hT
 obtain ⟨E1, m1, f1, E2, m2, f2, E3, m3, f3, st, E4, m4, f4, rfl⟩ : ∃ E1 m1 f1 E2 m2 f2 E3 m3 f3 st E4 m4 f4, v = .agg #[.slice E1 m1 f1, .slice E2 m2 f2, .slice E3 m3 f3, .string st, .slice E4 m4 f4] := by
  obtain ⟨A1, c1, A2, c2, A3, c3, A4, c4, pl, ql, h0, _⟩ := hg.ex
  exact ⟨_, _, _, _, _, _, _, _, _, _, _, _, _, h0⟩
 have HAT0 := Lib.hid (At.new W 27 #[.slice E1 m1 f1, .slice E2 m2 f2, .slice E3 m3 f3, .string st, .slice E4 m4 f4])
 have HB0 := Lib.hid ((Below.refl W.heap.size W).alloc (Nat.le_refl _) (.cells #[.slice E1 m1 f1, .slice E2 m2 f2, .slice E3 m3 f3, .string st, .slice E4 m4 f4] 27))
 have HT0 := Lib.hid (HT.out.below HB0.out h0)
 have hl0 : 1 < (W.alloc (.cells #[.slice E1 m1 f1, .slice E2 m2 f2, .slice E3 m3 f3, .string st, .slice E4 m4 f4] 27)).heap.size := Nat.lt_of_lt_of_le h0 HB0.out.size
 have u1 : (n.toList == n.toList) = true := by simp
 have u2 : ((c : Int) == (c : Int)) = true := by simp
 clear hg hs hT hM hP hc hn
 generalize Pr.fewB G = fb at HF HPS HOF HRO
 go_enter Tryz.func4, Tryz.ntmps4
 go_wp2_with fail
 refine (awake8_any _ HT0.out hl0).mono ?_
 rintro e w1 ⟨rfl, hb1⟩
 have HAT1 := Lib.hid (HAT0.out.below hb1 HAT0.out.lt)
 have HB1 := Lib.hid (HB0.out.trans (hb1.mono HB0.out.size))
 have ht1 := HAT1.out.lt
 clear hb1
 have x0 := HAT1.out.cell 0
 have x1 := HAT1.out.cell 1
 have x2 := HAT1.out.cell 2
 have x3 := HAT1.out.cell 3
 have x4 := HAT1.out.cell 4
 simp only [List.getElem?_toArray, List.getElem?_cons_zero, List.getElem?_cons_succ] at x0 x1 x2 x3 x4
 go_wp2_with fail
 refine (HF.out _ HB1.out).mono ?_
 rintro e w2 ⟨rfl, hb2⟩
 have HAT2 := Lib.hid (HAT1.out.below hb2 HAT1.out.lt)
 have HB2 := Lib.hid (HB1.out.trans (hb2.mono HB1.out.size))
 have ht2 := HAT2.out.lt
 clear hb2 x0 x1 x2 x3 x4
 have y0 := HAT2.out.cell 0
 have y1 := HAT2.out.cell 1
 have y2 := HAT2.out.cell 2
 have y3 := HAT2.out.cell 3
 have y4 := HAT2.out.cell 4
 simp only [List.getElem?_toArray, List.getElem?_cons_zero, List.getElem?_cons_succ] at y0 y1 y2 y3 y4
 cases fb with
 | false =>
  go_wp2_with fail
  go_ret
  exact ⟨rfl, HB2.out⟩
 | true =>
  go_wp2_with fail
  refine (HOF.out (by first | rfl | trivial) _ HB2.out).mono ?_
  rintro e w3 ⟨⟨pv, rfl, hp⟩, hb3⟩
  have HP := Lib.hid hp
  have HSM := Lib.hid (fun (v2 : Value) (w : World) (h1 : PlanC w w3.heap.size pv P) (h2 : PlanC w w.heap.size v2 P) (hB : w3.heap.size ≤ w.heap.size) => sameP_any _ v2 P w.heap.size w (h1.mono hB) h2 (Nat.le_refl _) (HPS.out (by first | rfl | trivial)).1 (HPS.out (by first | rfl | trivial)).2)
  have HP1 := Lib.hid (fun (w : World) (hw : Below w3.heap.size w3 w) => HP.out.below hw)
  obtain ⟨A1, c1, A2, c2, A3, c3, A4, c4, A5, c5, A6, c6, rfl, _⟩ := hp.ex
  obtain ⟨t1, ht1⟩ : ∃ t, P.terms.length = t := ⟨_, rfl⟩
  obtain ⟨t2, ht2⟩ : ∃ t, P.vars.length = t := ⟨_, rfl⟩
  obtain ⟨t3, ht3⟩ : ∃ t, P.rules.length = t := ⟨_, rfl⟩
  obtain ⟨t4, ht4⟩ : ∃ t, P.levels.length = t := ⟨_, rfl⟩
  obtain ⟨t5, ht5⟩ : ∃ t, P.assocs.length = t := ⟨_, rfl⟩
  obtain ⟨t6, ht6⟩ : ∃ t, P.acts.length = t := ⟨_, rfl⟩
  have HFM := Lib.hid (show ∀ v2 (w : World), PlanC w w.heap.size v2 P → ∃ B1 d1 B2 d2 B3 d3 B4 d4 B5 d5 B6 d6, v2 = .agg #[.slice B1 t1 d1, .slice B2 t2 d2, .slice B3 t3 d3, .slice B4 t4 d4, .slice B5 t5 d5, .slice B6 t6 d6] from fun v2 w h => by
   obtain ⟨B1, d1, B2, d2, B3, d3, B4, d4, B5, d5, B6, d6, rfl, _⟩ := h.ex
   rw [ht1, ht2, ht3, ht4, ht5, ht6]
   exact ⟨_, _, _, _, _, _, _, _, _, _, _, _, rfl⟩)
  rw [ht1, ht2, ht3, ht4, ht5, ht6] at HP HSM HP1 ⊢
  have hPA := At.new w3 45 #[.slice A1 t1 c1, .slice A2 t2 c2, .slice A3 t3 c3, .slice A4 t4 c4, .slice A5 t5 c5, .slice A6 t6 c6]
  have hb4 := (Below.refl w3.heap.size w3).alloc (Nat.le_refl _) (.cells #[.slice A1 t1 c1, .slice A2 t2 c2, .slice A3 t3 c3, .slice A4 t4 c4, .slice A5 t5 c5, .slice A6 t6 c6] 45)
  obtain ⟨w4, hw4⟩ : ∃ w4, w3.alloc (.cells #[.slice A1 t1 c1, .slice A2 t2 c2, .slice A3 t3 c3, .slice A4 t4 c4, .slice A5 t5 c5, .slice A6 t6 c6] 45) = w4 := ⟨_, rfl⟩
  have HW4 := Lib.hid hw4
  rw [hw4] at hPA hb4
  have HB4 := Lib.hid (HB2.out.trans ((hb3.trans (hb4.mono hb3.size)).mono HB2.out.size))
  have HC4 := Lib.hid hb4
  have hga := HAT2.out.below (hb3.trans (hb4.mono hb3.size)) HAT2.out.lt
  have HPA := Lib.hid hPA
  have HGA := Lib.hid hga
  have z0 := hga.cell 0
  have z1 := hga.cell 1
  have z2 := hga.cell 2
  have z3 := hga.cell 3
  have z4 := hga.cell 4
  simp only [List.getElem?_toArray, List.getElem?_cons_zero, List.getElem?_cons_succ] at z0 z1 z2 z3 z4
  rw [← hw4] at z0 z1 z2 z3 z4
  have HB3 := Lib.hid hb3
  clear hPA hb4 hw4 hga hb3 hp ht1 ht2 ht3 ht4 ht5 ht6 y0 y1 y2 y3 y4
  go_wp2_with fail
  rw [HW4.out]
  clear z0 z1 z2 z3 z4
  refine (HRO.out (by first | rfl | trivial) _ HB4.out).mono ?_
  rintro e w5 ⟨⟨pv2, rfl, hp2⟩, hb5⟩
  obtain ⟨B1, d1, B2, d2, B3, d3, B4, d4, B5, d5, B6, d6, rfl⟩ := HFM.out _ _ hp2
  have HPA5 := Lib.hid (HPA.out.below hb5 HPA.out.lt)
  have HB5 := Lib.hid (HB4.out.trans (hb5.mono HB4.out.size))
  have HC5 := Lib.hid (HC4.out.trans (hb5.mono HC4.out.size))
  have hb6 := (Below.refl w5.heap.size w5).alloc (Nat.le_refl _) (.cells #[.slice B1 t1 d1, .slice B2 t2 d2, .slice B3 t3 d3, .slice B4 t4 d4, .slice B5 t5 d5, .slice B6 t6 d6] 45)
  have hPB := At.new w5 45 #[.slice B1 t1 d1, .slice B2 t2 d2, .slice B3 t3 d3, .slice B4 t4 d4, .slice B5 t5 d5, .slice B6 t6 d6]
  obtain ⟨w6, hw6⟩ : ∃ w6, w5.alloc (.cells #[.slice B1 t1 d1, .slice B2 t2 d2, .slice B3 t3 d3, .slice B4 t4 d4, .slice B5 t5 d5, .slice B6 t6 d6] 45) = w6 := ⟨_, rfl⟩
  have HW6 := Lib.hid hw6
  rw [hw6] at hb6 hPB
  have hPA6 := HPA5.out.below hb6 HPA5.out.lt
  have HB6 := Lib.hid (HB5.out.trans (hb6.mono HB5.out.size))
  have HC6 := Lib.hid (HC5.out.trans (hb6.mono HC5.out.size))
  have HS := Lib.hid (HSM.out _ w6 (HP1.out _ HC6.out) ((hp2.below hb6).mono hb6.size) HC6.out.size)
  have x0 := hPA6.cell 0
  have x1 := hPA6.cell 1
  have x2 := hPA6.cell 2
  have x3 := hPA6.cell 3
  have x4 := hPA6.cell 4
  have x5 := hPA6.cell 5
  have y0 := hPB.cell 0
  have y1 := hPB.cell 1
  have y2 := hPB.cell 2
  have y3 := hPB.cell 3
  have y4 := hPB.cell 4
  have y5 := hPB.cell 5
  simp only [List.getElem?_toArray, List.getElem?_cons_zero, List.getElem?_cons_succ] at x0 x1 x2 x3 x4 x5 y0 y1 y2 y3 y4 y5
  rw [← hw6] at x0 x1 x2 x3 x4 x5 y0 y1 y2 y3 y4 y5
  clear hPB hb6 hw6 hPA6 hb5 hp2
  go_wp2_with fail
  rw [HW6.out]
  refine HS.out.mono ?_
  rintro e w7 ⟨rfl, hb7⟩
  clear x0 x1 x2 x3 x4 x5 y0 y1 y2 y3 y4 y5
  have HB7 := Lib.hid (HB6.out.trans (hb7.mono HB6.out.size))
  clear hb7
  go_wp2_with fail
  go_ret
  exact ⟨rfl, HB7.out⟩
end Go.Proofs.YtpgmapjjjpcmfaaGreatDoor
