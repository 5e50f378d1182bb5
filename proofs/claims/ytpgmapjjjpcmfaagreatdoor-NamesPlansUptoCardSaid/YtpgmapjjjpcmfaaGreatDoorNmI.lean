/-
  The walk of names.Of.
-/
import Derived.Test.YtpgmapjjjpcmfaaGreatDoorNmH
import Derived.Test.YtpgmapjjjpcmfaaGreatDoorNmE
import Derived.Test.YtpgmapjjjpcmfaaGreatDoorPrY
namespace Go.Proofs.YtpgmapjjjpcmfaaGreatDoor
open Go.RowKit
open Lx
set_option linter.unusedVariables false
set_option linter.unusedSimpArgs false
set_option maxRecDepth 100000

theorem results_cell2 {P : Program} {fn : Func} {p q r : Tmp} {ty : TypeId} (h : fn.results = #[.cell p ty, .tmp q, .tmp r]) (tmps : Array Value) (w : World) (v u : Value) (hv : tmps.getD q undef = v) (hu' : tmps.getD r undef = u) (g : Nat) (t : TypeId) (cs : Array Value) (d : TypeDesc)
    (hp : tmps.getD p undef = .pointer (some ⟨g, 0, none⟩)) (hg : At w g t cs)
    (hu : P.underlying ty = some d) (hd : (match d with | .struct _ | .array _ _ => true | _ => false) = true) (hi : (P.info? ty).map (·.size) = some cs.size) :
    (results fn tmps).run P w = .ok (.tuple #[.agg cs, v, u]) w := by
  have hp' : tmps[p]?.getD undef = .pointer (some ⟨g, 0, none⟩) := by simpa using hp
  have hv' : tmps[q]?.getD undef = v := by simpa using hv
  have hu'' : tmps[r]?.getD undef = u := by simpa using hu'
  simp [results, h, hp', hv', hu'', asAddr, run_loadVar_row w g t ty cs (0, 0) d hg hu hd hi]

/-- What Of has told of the grammar G: a plan, an error's number, a name. -/
structure OfIs (G : Rd.G) (w : World) (e : Ending) (w' : World) : Prop where
  ex : ∃ pv, e = .returned (.tuple #[pv, .int .i64 ((Nm.ofG G).2.1 : Int), .string (str (Nm.ofG G).2.2)]) ∧ PlanC w' w'.heap.size pv (Nm.ofG G).1
  below : Below w.heap.size w w'
theorem ofG_bad {G : Rd.G} (h : Pr.rightB G = false) : Nm.ofG G = (Nm.empty, 1, []) := by unfold Nm.ofG; rw [if_neg (by rw [h]; decide)]
theorem ofG_wrong {G : Rd.G} (h : Pr.rightB G = true) (hw : (Nm.wrong G).1 ≠ 0) : Nm.ofG G = (Nm.empty, (Nm.wrong G).1, (Nm.wrong G).2) := by unfold Nm.ofG; rw [if_pos h, if_neg hw]
theorem ofG_fine {G : Rd.G} (h : Pr.rightB G = true) (hw : (Nm.wrong G).1 = 0) : Nm.ofG G = (Nm.plan G, 0, []) := by unfold Nm.ofG; rw [if_pos h, if_pos hw]

set_option maxHeartbeats 16000000 in
theorem of_any (v : Value) (G : Rd.G) (w : World) (h : GramC w w.heap.size v G) (hs : Sz G) (hT : Tab w) (h0 : 1 < w.heap.size) (hN : Pr.rightC G = true → (Pr.lvl G).length ≤ 10000) :
    Calls Tryz.prog 16 #[v] w (OfIs G w) := by
  have HRT := Lib.hid (show ∀ w', Below w.heap.size w w' → Calls Tryz.prog 9 #[v] w' fun e w'' => e = .returned (.bool (Pr.rightB G)) ∧ Below w'.heap.size w' w'' from fun w' hw' => pright_any v G w.heap.size w' (h.below hw') hw'.size hs (hT.below hw' h0) h0 (fun hc => Nat.le_trans (hN hc) (by decide)))
  have HGC := Lib.hid h
  obtain ⟨A1, c1, A2, c2, A3, c3, A4, c4, ql, rfl, _, _, _, _, _⟩ := h.parts
  generalize hE1 : G.toks.length = n1 at HRT HGC ⊢
  generalize hE2 : G.skips.length = n2 at HRT HGC ⊢
  generalize hE3 : G.levels.length = n3 at HRT HGC ⊢
  generalize hE4 : G.rules.length = n4 at HRT HGC ⊢
  generalize str G.start = ST at HRT HGC ⊢
  have hgg := At.new w 27 #[.slice A1 n1 c1, .slice A2 n2 c2, .slice A3 n3 c3, .string ST, .slice A4 n4 c4]
  have b1 := (Below.refl w.heap.size w).alloc (Nat.le_refl _) (.cells #[.slice A1 n1 c1, .slice A2 n2 c2, .slice A3 n3 c3, .string ST, .slice A4 n4 c4] 27)
  obtain ⟨w1, hw1⟩ : ∃ w1, w.alloc (.cells #[.slice A1 n1 c1, .slice A2 n2 c2, .slice A3 n3 c3, .string ST, .slice A4 n4 c4] 27) = w1 := ⟨_, rfl⟩
  have hs1 : w1.heap.size = w.heap.size + 1 := by rw [← hw1]; simp
  rw [hw1] at hgg b1
  have hgr := At.new w1 45 #[.slice none 0 0, .slice none 0 0, .slice none 0 0, .slice none 0 0, .slice none 0 0, .slice none 0 0]
  have hgg2 := hgg.alloc (.cells #[.slice none 0 0, .slice none 0 0, .slice none 0 0, .slice none 0 0, .slice none 0 0, .slice none 0 0] 45)
  have b2 := b1.alloc b1.size (.cells #[.slice none 0 0, .slice none 0 0, .slice none 0 0, .slice none 0 0, .slice none 0 0, .slice none 0 0] 45)
  obtain ⟨W0, hW0⟩ : ∃ W0, w1.alloc (.cells #[.slice none 0 0, .slice none 0 0, .slice none 0 0, .slice none 0 0, .slice none 0 0, .slice none 0 0] 45) = W0 := ⟨_, rfl⟩
  rw [hW0] at hgr hgg2 b2
  have HWW := Lib.hid (show (w.alloc (.cells #[.slice A1 n1 c1, .slice A2 n2 c2, .slice A3 n3 c3, .string ST, .slice A4 n4 c4] 27)).alloc (.cells #[.slice none 0 0, .slice none 0 0, .slice none 0 0, .slice none 0 0, .slice none 0 0, .slice none 0 0] 45) = W0 by rw [hw1, hW0])
  obtain ⟨g0, hg0⟩ : ∃ g, w.heap.size = g := ⟨_, rfl⟩
  obtain ⟨g1, hg1⟩ : ∃ g, g0 + 1 = g := ⟨_, rfl⟩
  rw [hs1] at hgr
  rw [hg0] at hgr hgg2
  rw [hg1] at hgr
  have HGG := Lib.hid hgg2
  have HGR := Lib.hid hgr
  have HB0 := Lib.hid b2
  have HG := Lib.hid (show w.heap.size = g0 ∧ g0 + 1 = g1 from ⟨hg0, hg1⟩)
  have HSZ := Lib.hid hs
  have HNN := Lib.hid hN
  have HRC := Lib.hid (show Pr.rightB G = true → Pr.rightC G = true from fun h => by unfold Pr.rightB at h; rw [Bool.and_eq_true] at h; exact h.1)
  clear h hgg hgg2 hgr b1 b2 hw1 hW0 hs1 hg0 hg1 hs hN hT
  cases hrb : Pr.rightB G with
  | false =>
    rw [hrb] at HRT
    have HOF := Lib.hid (ofG_bad hrb)
    clear hrb hE1 hE2 hE3 hE4
    go_enter Tryz.func16, Tryz.ntmps16
    go_wp2_with fail
    rw [HWW.out]
    obtain ⟨hg0, hg1⟩ := HG.out
    rw [hg0, hg1]
    clear hg0 hg1
    refine (HRT.out _ HB0.out).mono ?_
    rintro e w2 ⟨rfl, hb2⟩
    have hgr2 := HGR.out.below hb2 HGR.out.lt
    have HGR2 := Lib.hid hgr2
    have HB2 := Lib.hid (HB0.out.trans (hb2.mono HB0.out.size))
    have r0 := hgr2.cell 0
    have r1 := hgr2.cell 1
    have r2 := hgr2.cell 2
    have r3 := hgr2.cell 3
    have r4 := hgr2.cell 4
    have r5 := hgr2.cell 5
    have rf := hgr2.frozen
    have hlr := hgr2.lt
    simp only [List.getElem?_toArray, List.getElem?_cons_zero, List.getElem?_cons_succ] at r0 r1 r2 r3 r4 r5
    clear hb2 hgr2
    go_wp2_with fail
    refine bodyPost_ret (results_cell2 rfl _ _ _ _ rfl rfl g1 _ _ _ rfl (HGR2.out.six _ _ _ _ _ _) Tryz.underlying45 rfl Tryz.sizePlan) rfl ⟨⟨.agg #[.slice none 0 0, .slice none 0 0, .slice none 0 0, .slice none 0 0, .slice none 0 0, .slice none 0 0], ?_, ?_⟩, below_grown HB2.out (grown_six _ _ _ _ _ _ _ _) HB2.out.size (by have := HG.out; omega)⟩
    · rw [HOF.out]; rfl
    · rw [HOF.out]; exact PlanC.empty _ _
  | true =>
    rw [hrb] at HRT
    have hright := (Pr.rightB_iff G).1 hrb
    have HRI := Lib.hid hright
    have b1 : G.toks.length ≤ 1000 := Nat.le_trans hright.ntok (by decide)
    have b4 : G.rules.length ≤ 1000 := Nat.le_trans hright.nrule (by decide)
    have b3 : G.levels.length ≤ 1000 := Nat.le_trans hright.nlev (by decide)
    have bl : ∀ v ∈ G.levels, v.names.length ≤ 140737488355328 := fun v hv => (HSZ.out.lev v hv).1
    have br : ∀ r ∈ G.rules, r.right.length ≤ 1000 := fun r hr => Nat.le_trans (Nm.rule_ok hright r hr).2.1 (by decide)
    have ba : ∀ x ∈ G.levels, 1 ≤ x.assoc := fun x hx => (Nm.lev_ok hright x hx).1
    have tl : (Nm.terms G).length ≤ 1001 := by rw [Nm.terms_len]; omega
    have HSM := Lib.hid (fun (w' : World) (hw' : Below w.heap.size w w') => symbols_any _ G w.heap.size w' (HGC.out.below hw') hw'.size b1 b4)
    have HWR := Lib.hid (fun (pv : Value) (w' : World) (hw' : Below w.heap.size w w') (hp : SymC w' w'.heap.size pv (Nm.terms G) (Nm.vars G)) => wrong_any _ pv G w'.heap.size w' ((HGC.out.below hw').mono hw'.size) hp (Nat.le_refl _) b1 b4 b3 bl br)
    have HLV := Lib.hid (fun (pv : Value) (w' : World) (hw' : Below w.heap.size w w') (hp : SymC w' w'.heap.size pv (Nm.terms G) (Nm.vars G)) => levels_any _ pv G (Nm.terms G) (Nm.vars G) w'.heap.size w' ((HGC.out.below hw').mono hw'.size) hp (Nat.le_refl _) ba tl b3 bl)
    have HRU := Lib.hid (fun (E1 E2 E3 E4 E5 E6 : Option Addr) (d1 d2 n3 d3 d4 n5 d5 n6 d6 : Nat) (w' : World) (hw' : Below w.heap.size w w') (j1 : Cl w' w'.heap.size E1 (namesV (Nm.terms G))) (j2 : Cl w' w'.heap.size E2 (namesV (Nm.vars G))) (j4 : Cl w' w'.heap.size E4 (vals (Nm.levelsG G))) => nrules_any _ G E1 E2 E3 E4 E5 E6 d1 d2 n3 d3 d4 n5 d5 n6 d6 w'.heap.size w' ((HGC.out.below hw').mono hw'.size) j1 j2 j4 (Nat.le_refl _) b1 b4 b3 bl br)
    rw [hE3] at HLV
    rw [hE4] at HRU
    have HLL := Lib.hid (show (Nm.terms G).length = (Nm.levelsG G).length by unfold Nm.levelsG; simp)
    have HPL := Lib.hid (show (Nm.plan G).terms = Nm.terms G ∧ (Nm.plan G).vars = Nm.vars G ∧ (Nm.plan G).rules.length = n4 + 1 ∧ (Nm.plan G).levels = Nm.levelsG G ∧ (Nm.plan G).assocs = 0 :: G.levels.map (fun v => (v.assoc : Int)) ∧ (Nm.plan G).assocs.length = n3 + 1 ∧ (Nm.plan G).acts.length = n4 + 1 from ⟨rfl, rfl, by unfold Nm.plan; simp [hE4], rfl, rfl, by unfold Nm.plan; simp [hE3], by unfold Nm.plan; simp [hE4]⟩)
    have HLT := Lib.hid (show (Nm.terms G).map (Nm.level G) = Nm.levelsG G from rfl)
    obtain ⟨cc, hcc⟩ : ∃ c, (Nm.wrong G).1 = c := ⟨_, rfl⟩
    obtain ⟨cn, hcn⟩ : ∃ n, (Nm.wrong G).2 = n := ⟨_, rfl⟩
    have HWV := Lib.hid (show wrongV (Nm.wrong G) = .tuple #[.int .i64 (cc : Int), .string (str cn)] by unfold wrongV; rw [hcc, hcn])
    have HC0 := Lib.hid (show cc = 0 → Nm.ofG G = (Nm.plan G, 0, []) from fun h => ofG_fine hrb (by rw [hcc]; exact h))
    have HC1 := Lib.hid (show cc ≠ 0 → Nm.ofG G = (Nm.empty, cc, cn) from fun h => by rw [ofG_wrong hrb (by rw [hcc]; exact h), hcc, hcn])
    rw [HWV.out] at HWR
    clear hright hrb b1 b3 b4 bl br ba tl hE1 hE2 hE3 hE4 hcc hcn
    go_enter Tryz.func16, Tryz.ntmps16
    go_wp2_with fail
    rw [HWW.out]
    obtain ⟨hg0, hg1⟩ := HG.out
    rw [hg0, hg1]
    clear hg0 hg1
    refine (HRT.out _ HB0.out).mono ?_
    rintro e w2 ⟨rfl, hb2⟩
    have hgg2 := HGG.out.below hb2 HGG.out.lt
    have HGG2 := Lib.hid hgg2
    have HGR2 := Lib.hid (HGR.out.below hb2 HGR.out.lt)
    have HB2 := Lib.hid (HB0.out.trans (hb2.mono HB0.out.size))
    have e0 := hgg2.cell 0
    have e1 := hgg2.cell 1
    have e2 := hgg2.cell 2
    have e3 := hgg2.cell 3
    have e4 := hgg2.cell 4
    simp only [List.getElem?_toArray, List.getElem?_cons_zero, List.getElem?_cons_succ] at e0 e1 e2 e3 e4
    clear hb2 hgg2
    go_wp2_with fail
    refine (HSM.out _ HB2.out).mono ?_
    rintro e w3 ⟨⟨D1, d1, D2, d2, rfl, j1, j2⟩, hb3⟩
    obtain ⟨t1, ht1⟩ : ∃ n, (Nm.terms G).length = n := ⟨_, rfl⟩
    obtain ⟨t2, ht2⟩ : ∃ n, (Nm.vars G).length = n := ⟨_, rfl⟩
    rw [ht1] at HLV HRU HLL ⊢
    rw [ht2] at HRU ⊢
    have HT1 := Lib.hid ht1
    have HT2 := Lib.hid ht2
    have hgp := At.new w3 45 #[.slice D1 t1 d1, .slice D2 t2 d2, .slice none 0 0, .slice none 0 0, .slice none 0 0, .slice none 0 0]
    have hba := (Below.refl w3.heap.size w3).alloc (Nat.le_refl _) (.cells #[.slice D1 t1 d1, .slice D2 t2 d2, .slice none 0 0, .slice none 0 0, .slice none 0 0, .slice none 0 0] 45)
    obtain ⟨w4, hw4⟩ : ∃ w4, w3.alloc (.cells #[.slice D1 t1 d1, .slice D2 t2 d2, .slice none 0 0, .slice none 0 0, .slice none 0 0, .slice none 0 0] 45) = w4 := ⟨_, rfl⟩
    rw [hw4] at hgp hba
    obtain ⟨g5, hg5⟩ : ∃ g, w3.heap.size = g := ⟨_, rfl⟩
    have HG5 := Lib.hid hg5
    have HW4 := Lib.hid hw4
    have hb34 := hb3.trans (hba.mono hb3.size)
    have HGG4 := Lib.hid (HGG2.out.below hb34 HGG2.out.lt)
    have HGR4 := Lib.hid (HGR2.out.below hb34 HGR2.out.lt)
    have HB4 := Lib.hid (HB2.out.trans (hb34.mono HB2.out.size))
    rw [hg5] at hgp
    have HGP4 := Lib.hid hgp
    have HJ1 := Lib.hid (j1.below hba)
    have HJ2 := Lib.hid (j2.below hba)
    have hg1g5 : g1 ≠ g5 := by have := HGR2.out.lt; have := hb3.size; omega
    have hg1l := HGR2.out.lt
    have HG5W := Lib.hid (show w.heap.size ≤ g5 by have := HB2.out.size; have := hb3.size; omega)
    have hz0 : ∀ j, (w3.alloc (.cells #[.slice D1 t1 d1, .slice D2 t2 d2, .slice none 0 0, .slice none 0 0, .slice none 0 0, .slice none 0 0] 45)).cell? ⟨g0, j, none⟩ = (#[.slice A1 n1 c1, .slice A2 n2 c2, .slice A3 n3 c3, .string ST, .slice A4 n4 c4] : Array Value)[j]? := fun j => by rw [hw4]; exact HGG4.out.cell j
    have f0 := hz0 0
    have f1 := hz0 1
    have f2 := hz0 2
    have f3 := hz0 3
    have f4 := hz0 4
    simp only [List.getElem?_toArray, List.getElem?_cons_zero, List.getElem?_cons_succ] at f0 f1 f2 f3 f4
    clear ht1 ht2 hgp hba hb3 hb34 hw4 hg5 j1 j2 hz0 e0 e1 e2 e3 e4
    go_wp2_with fail
    rw [HW4.out, HG5.out]
    clear f0 f1 f2 f3 f4
    refine (HWR.out _ _ HB4.out ⟨D1, d1, D2, d2, none, 0, 0, none, 0, 0, none, 0, 0, none, 0, 0, by rw [HT1.out, HT2.out], HJ1.out.cl, HJ2.out.cl⟩).mono ?_
    rintro e w5 ⟨rfl, hb5⟩
    have HGG5 := Lib.hid (HGG4.out.below hb5 HGG4.out.lt)
    have HGR5 := Lib.hid (HGR4.out.below hb5 HGR4.out.lt)
    have HGP5 := Lib.hid (HGP4.out.below hb5 HGP4.out.lt)
    have HB5 := Lib.hid (HB4.out.trans (hb5.mono HB4.out.size))
    have HK1 := Lib.hid (HJ1.out.below hb5)
    have HK2 := Lib.hid (HJ2.out.below hb5)
    clear hb5
    by_cases hc0 : cc = 0
    · have HOF := Lib.hid (HC0.out hc0)
      subst hc0
      have e0 := HGG5.out.cell 0
      have e1 := HGG5.out.cell 1
      have e2 := HGG5.out.cell 2
      have e3 := HGG5.out.cell 3
      have e4 := HGG5.out.cell 4
      have p0 := HGP5.out.cell 0
      have p1 := HGP5.out.cell 1
      have p2 := HGP5.out.cell 2
      have p3 := HGP5.out.cell 3
      have p4 := HGP5.out.cell 4
      have p5 := HGP5.out.cell 5
      simp only [List.getElem?_toArray, List.getElem?_cons_zero, List.getElem?_cons_succ] at e0 e1 e2 e3 e4 p0 p1 p2 p3 p4 p5
      rw [show ((0 : Nat) : Int) = 0 from rfl]
      go_wp2_with fail
      refine (HLV.out _ _ HB5.out ⟨D1, d1, D2, d2, none, 0, 0, none, 0, 0, none, 0, 0, none, 0, 0, by rw [HT1.out, HT2.out], HK1.out.cl, HK2.out.cl⟩).mono ?_
      rintro e w6 ⟨⟨L1, l1, L2, l2, rfl, m1, m2⟩, hb6⟩
      have hgp6 := HGP5.out.below hb6 HGP5.out.lt
      have HGP6 := Lib.hid hgp6
      have HGG6 := Lib.hid (HGG5.out.below hb6 HGG5.out.lt)
      have HGR6 := Lib.hid (HGR5.out.below hb6 HGR5.out.lt)
      have HB6 := Lib.hid (HB5.out.trans (hb6.mono HB5.out.size))
      have hset := (hgp6.set 3 (.slice L1 t1 l1)).set 4 (.slice L2 (n3 + 1) l2)
      simp only [List.setIfInBounds_toArray, List.set_cons_succ, List.set_cons_zero] at hset
      have hgw : w6.grownBy ((w6.setCell ⟨g5, 3, none⟩ (.slice L1 t1 l1)).setCell ⟨g5, 4, none⟩ (.slice L2 (n3 + 1) l2)) (some g5) := grown_set (grown_set (grown_refl _ _) _ _) _ _
      have hgg7 := rest_far' HGG6.out hgw hgp6 (by decide)
      have hgr7 := HGR6.out.grown hgw (fun e => by injection e with e; exact hg1g5 e)
      have hk1 := (HK1.out.below hb6).stay (Stay.far hgp6 (by decide) hgw)
      have hk2 := (HK2.out.below hb6).stay (Stay.far hgp6 (by decide) hgw)
      have hm1 := m1.stay (Stay.far hgp6 (by decide) hgw)
      have hm2 := m2.stay (Stay.far hgp6 (by decide) hgw)
      have hb7 := below_grown HB6.out hgw HB6.out.size (by have := HG5W.out; omega)
      have q3 := hgp6.cell 3
      have q4 := hgp6.cell 4
      have qf := hgp6.frozen
      have ql := hgp6.lt
      simp only [List.getElem?_toArray, List.getElem?_cons_zero, List.getElem?_cons_succ] at q3 q4
      obtain ⟨w7, hw7⟩ : ∃ w7, (w6.setCell ⟨g5, 3, none⟩ (.slice L1 t1 l1)).setCell ⟨g5, 4, none⟩ (.slice L2 (n3 + 1) l2) = w7 := ⟨_, rfl⟩
      rw [hw7] at hset hgg7 hgr7 hk1 hk2 hm1 hm2 hb7
      have HW7 := Lib.hid hw7
      have e0 := hgg7.cell 0
      have e1 := hgg7.cell 1
      have e2 := hgg7.cell 2
      have e3 := hgg7.cell 3
      have e4 := hgg7.cell 4
      have p0 := hset.cell 0
      have p1 := hset.cell 1
      have p2 := hset.cell 2
      have p3 := hset.cell 3
      have p4 := hset.cell 4
      have p5 := hset.cell 5
      simp only [List.getElem?_toArray, List.getElem?_cons_zero, List.getElem?_cons_succ] at e0 e1 e2 e3 e4 p0 p1 p2 p3 p4 p5
      rw [← hw7] at e0 e1 e2 e3 e4 p0 p1 p2 p3 p4 p5
      have HGG7 := Lib.hid hgg7
      have HGR7 := Lib.hid hgr7
      have HGP7 := Lib.hid hset
      have HK7 := Lib.hid hk1
      have HK8 := Lib.hid hk2
      have HM7 := Lib.hid hm1
      have HM8 := Lib.hid hm2
      have HB7 := Lib.hid hb7
      clear hgp6 hset hgw hgg7 hgr7 hk1 hk2 hm1 hm2 hb7 hw7 m1 m2 hb6
      go_wp2_with fail
      rw [HW7.out]
      clear e0 e1 e2 e3 e4 p0 p1 p2 p3 p4 p5 q3 q4 qf ql
      have HRN := Lib.hid (HRU.out D1 D2 none L1 L2 none d1 d2 0 0 l1 (n3 + 1) l2 0 0 w7 HB7.out HK7.out.cl HK8.out.cl HM7.out.cl)
      rw [← HLL.out] at HRN
      refine HRN.out.mono ?_
      rintro e w8 ⟨⟨R1, r1, R2, r2, rfl, ⟨pl, x1, x2⟩, x3⟩, hb8⟩
      have hgp8 := HGP7.out.below hb8 HGP7.out.lt
      have hset := (hgp8.set 2 (.slice R1 (n4 + 1) r1)).set 5 (.slice R2 (n4 + 1) r2)
      simp only [List.setIfInBounds_toArray, List.set_cons_succ, List.set_cons_zero] at hset
      have hgw : w8.grownBy ((w8.setCell ⟨g5, 2, none⟩ (.slice R1 (n4 + 1) r1)).setCell ⟨g5, 5, none⟩ (.slice R2 (n4 + 1) r2)) (some g5) := grown_set (grown_set (grown_refl _ _) _ _) _ _
      have hgr9 := (HGR7.out.below hb8 HGR7.out.lt).grown hgw (fun e => by injection e with e; exact hg1g5 e)
      have hk1 := (HK7.out.below hb8).stay (Stay.far hgp8 (by decide) hgw)
      have hk2 := (HK8.out.below hb8).stay (Stay.far hgp8 (by decide) hgw)
      have hm1 := (HM7.out.below hb8).stay (Stay.far hgp8 (by decide) hgw)
      have hm2 := (HM8.out.below hb8).stay (Stay.far hgp8 (by decide) hgw)
      have hx1 := x1.stay (Stay.far hgp8 (by decide) hgw)
      have hx2 := x2.stay (Stay.far hgp8 (by decide) hgw)
      have hx3 := x3.stay (Stay.far hgp8 (by decide) hgw)
      have hb9 := below_grown (HB7.out.trans (hb8.mono HB7.out.size)) hgw (HB7.out.trans (hb8.mono HB7.out.size)).size (by have := HG5W.out; omega)
      have q2 := hgp8.cell 2
      have q5 := hgp8.cell 5
      have qf := hgp8.frozen
      have ql := hgp8.lt
      simp only [List.getElem?_toArray, List.getElem?_cons_zero, List.getElem?_cons_succ] at q2 q5
      obtain ⟨w9, hw9⟩ : ∃ w9, (w8.setCell ⟨g5, 2, none⟩ (.slice R1 (n4 + 1) r1)).setCell ⟨g5, 5, none⟩ (.slice R2 (n4 + 1) r2) = w9 := ⟨_, rfl⟩
      rw [hw9] at hset hgr9 hk1 hk2 hm1 hm2 hx1 hx2 hx3 hb9
      have HW9 := Lib.hid hw9
      have p0 := hset.cell 0
      have p1 := hset.cell 1
      have p2 := hset.cell 2
      have p3 := hset.cell 3
      have p4 := hset.cell 4
      have p5 := hset.cell 5
      have r0 := hgr9.cell 0
      have r1' := hgr9.cell 1
      have r2' := hgr9.cell 2
      have r3 := hgr9.cell 3
      have r4 := hgr9.cell 4
      have r5 := hgr9.cell 5
      have rf := hgr9.frozen
      have rl := hgr9.lt
      simp only [List.getElem?_toArray, List.getElem?_cons_zero, List.getElem?_cons_succ] at p0 p1 p2 p3 p4 p5 r0 r1' r2' r3 r4 r5
      rw [← hw9] at p0 p1 p2 p3 p4 p5 r0 r1' r2' r3 r4 r5 rf rl
      have HGR9 := Lib.hid hgr9
      have HY1 := Lib.hid hk1
      have HY2 := Lib.hid hk2
      have HY3 := Lib.hid hm1
      have HY4 := Lib.hid hm2
      have HX1 := Lib.hid hx1
      have HX2 := Lib.hid hx2
      have HX3 := Lib.hid hx3
      have HB9 := Lib.hid hb9
      clear hgp8 hset hgw hgr9 hk1 hk2 hm1 hm2 hx1 hx2 hx3 hb9 hw9 x1 x2 x3 hb8
      go_wp2_with fail
      rw [HW9.out]
      have hsx := grown_six w9 g1 (.slice D1 t1 d1) (.slice D2 t2 d2) (.slice R1 (n4 + 1) r1) (.slice L1 t1 l1) (.slice L2 (n3 + 1) l2) (.slice R2 (n4 + 1) r2)
      have hst : ∀ t, t ≠ 45 → Stay t w9 _ := fun t ht => Stay.far HGR9.out ht hsx
      refine bodyPost_ret (results_cell2 rfl _ _ _ _ rfl rfl g1 _ _ _ rfl (HGR9.out.six _ _ _ _ _ _) Tryz.underlying45 rfl Tryz.sizePlan) rfl ⟨⟨.agg #[.slice D1 t1 d1, .slice D2 t2 d2, .slice R1 (n4 + 1) r1, .slice L1 t1 l1, .slice L2 (n3 + 1) l2, .slice R2 (n4 + 1) r2], ?_, ?_⟩, below_grown HB9.out hsx HB9.out.size (by have := HG.out; omega)⟩
      · rw [HOF.out]; rfl
      · rw [HOF.out]
        obtain ⟨z1, z2, z3, z4, z5, z6, z7⟩ := HPL.out
        refine ⟨D1, d1, D2, d2, R1, r1, L1, l1, L2, l2, R2, r2, ?_, ?_, ?_, ?_, ?_, ?_, ?_⟩
        · rw [z1, z2, z3, z4, z6, z7, HT1.out, HT2.out, ← HLL.out]
        · rw [z1]; exact (HY1.out.stay (hst _ (by decide))).cl
        · rw [z2]; exact (HY2.out.stay (hst _ (by decide))).cl
        · exact ⟨pl, (HX1.out.stay (hst _ (by decide))).cl, HX2.out.eq, fun p hp => ((HX2.out.stay (hst _ (by decide))).each p hp).intC⟩
        · rw [z4]; exact (HY3.out.stay (hst _ (by decide))).cl
        · rw [z5]; exact (HY4.out.stay (hst _ (by decide))).cl
        · exact (HX3.out.stay (hst _ (by decide))).cl
    · have HOF := Lib.hid (HC1.out hc0)
      have c1 : ((cc : Int) != 0) = true := by rw [bne_iff_ne]; omega
      have c2 : (cc != 0) = true := by rw [bne_iff_ne]; omega
      have hgr5 := HGR5.out
      have r0 := hgr5.cell 0
      have r1 := hgr5.cell 1
      have r2 := hgr5.cell 2
      have r3 := hgr5.cell 3
      have r4 := hgr5.cell 4
      have r5 := hgr5.cell 5
      have rf := hgr5.frozen
      have hlr := hgr5.lt
      simp only [List.getElem?_toArray, List.getElem?_cons_zero, List.getElem?_cons_succ] at r0 r1 r2 r3 r4 r5
      clear hgr5 hc0
      go_wp2_with fail
      refine bodyPost_ret (results_cell2 rfl _ _ _ _ rfl rfl g1 _ _ _ rfl (HGR5.out.six _ _ _ _ _ _) Tryz.underlying45 rfl Tryz.sizePlan) rfl ⟨⟨.agg #[.slice none 0 0, .slice none 0 0, .slice none 0 0, .slice none 0 0, .slice none 0 0, .slice none 0 0], ?_, ?_⟩, below_grown HB5.out (grown_six _ _ _ _ _ _ _ _) HB5.out.size (by have := HG.out; omega)⟩
      · rw [HOF.out]; rfl
      · rw [HOF.out]; exact PlanC.empty _ _

end Go.Proofs.YtpgmapjjjpcmfaaGreatDoor
