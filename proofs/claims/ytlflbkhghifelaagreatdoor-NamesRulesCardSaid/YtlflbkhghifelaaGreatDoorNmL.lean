/-
  The walk of tronagelaw08.NamesRules.
-/
import Derived.Test.YtlflbkhghifelaaGreatDoorNmK
namespace Go.Proofs.YtlflbkhghifelaaGreatDoor
open Go.RowKit Go.Sort
open Lx
set_option linter.unusedVariables false
set_option linter.unusedSimpArgs false
set_option maxRecDepth 100000

theorem str_app8 (a b : List UInt8) : str (a ++ b) = str a ++ str b := by
  rw [← str_bl (str a ++ str b), bl_append, bl_str, bl_str]
theorem gramC_parts8 {w : World} {B m1 f1 m2 f2 m3 f3 m4 f4 : Nat} {E1 E2 E3 E4 : Option Addr} {st : ByteArray} {G : Rd.G} (h : GramC w B (.agg #[.slice E1 m1 f1, .slice E2 m2 f2, .slice E3 m3 f3, .string st, .slice E4 m4 f4]) G) : G.levels.length = m3 ∧ str G.start = st ∧ G.rules.length = m4 ∧ RulsC w B E4 G.rules := by
  obtain ⟨A1, c1, A2, c2, A3, c3, A4, c4, pl, ql, e, h1, h2, h3, h4, h5, h6, h7, h8⟩ := h.ex
  simp only [Value.agg.injEq, Array.mk.injEq, List.cons.injEq, Value.slice.injEq, Value.string.injEq] at e
  obtain ⟨⟨_, e1, _⟩, ⟨_, e2, _⟩, ⟨_, e3, _⟩, e4, ⟨e5, e6, _⟩, _⟩ := e
  subst e5
  exact ⟨e3.symm, e4.symm, e6.symm, ⟨ql, h6, h7, h8⟩⟩
theorem plan_sz {G : Rd.G} (h : Nm.Fine G) : PSz (Nm.plan G) := by
  have b1 : G.toks.length ≤ 20 := h.right.ntok
  have b4 : G.rules.length ≤ 40 := h.right.nrule
  have b3 : G.levels.length ≤ 10 := h.right.nlev
  have hv : (Nm.vars G).length ≤ 40 := Nat.le_trans Nm.vars_len b4
  refine ⟨?_, ?_, ?_, ?_, ?_, ?_, ?_, ?_, ?_⟩
  · show (Nm.terms G).length ≤ 1000; rw [Nm.terms_len]; omega
  · show (Nm.vars G).length ≤ 1000; omega
  · unfold Nm.plan; simp; omega
  · unfold Nm.plan Nm.levelsG; simp [Nm.terms_len]; omega
  · unfold Nm.plan; simp; omega
  · unfold Nm.plan; simp; omega
  · intro n hn
    have hn' : n ∈ Nm.terms G := hn
    unfold Nm.terms at hn'
    rcases List.mem_cons.1 hn' with rfl | hn'
    · decide
    · obtain ⟨t, ht, rfl⟩ := List.mem_map.1 hn'
      exact Pr.name_len (Nm.tok_ok h.right t ht)
  · intro n hn
    exact Pr.name_len (Nm.vars_ok h.right n hn)
  · intro x hx
    have hx' : x ∈ (⟨Nm.acceptG G, [Nm.symG G G.start], 0⟩ : Nm.Prod) :: G.rules.map (Nm.prod G) := hx
    rcases List.mem_cons.1 hx' with rfl | hx'
    · show 1 ≤ 1000; decide
    · obtain ⟨r, hr, rfl⟩ := List.mem_map.1 hx'
      have := (Nm.rule_ok h.right r hr).2.1
      unfold Nm.prod; simp; omega

set_option maxHeartbeats 8000000 in
theorem rules8_law (v : Value) (G : Rd.G) (W : World) (hgs : GramC W W.heap.size v G ∧ Sz G) (hT : Tab W) (h0 : 1 < W.heap.size) :
    Calls Tryz.prog 7 #[v] W fun e w' => e = .returned (.bool true) ∧ Below W.heap.size W w' := by
  obtain ⟨hg, hs⟩ := hgs
  have HGC := Lib.hid hg
  have HSZ := Lib.hid (show ∀ v ∈ G.levels, v.names.length ≤ 140737488355328 from fun v hv => (hs.lev v hv).1)
  have HF := Lib.hid (show ∀ w', Below W.heap.size W w' → Calls Tryz.prog 11 #[v] w' fun e w'' => FewIs e (Pr.total G < 4611686018427387904) (Pr.fewB G) ∧ Below w'.heap.size w' w'' from fun w' hw' => few_any v G W.heap.size w' (hg.below hw') hw'.size hs)
  have HOF := Lib.hid (show (Pr.rightC G = true → (Pr.lvl G).length ≤ 10000) → ∀ w', Below W.heap.size W w' → Calls Tryz.prog 21 #[v] w' (OfIs G w') from fun hN w' hw' => of_any v G w' ((hg.below hw').mono hw'.size) hs (hT.below hw' h0) (Nat.lt_of_lt_of_le h0 hw'.size) hN)
  have HT := Lib.hid hT
  obtain ⟨E1, m1, f1, E2, m2, f2, E3, m3, f3, st, E4, m4, f4, rfl⟩ := gramC_form hg
  have HAT0 := Lib.hid (At.new W 27 #[.slice E1 m1 f1, .slice E2 m2 f2, .slice E3 m3 f3, .string st, .slice E4 m4 f4])
  have HB0 := Lib.hid ((Below.refl W.heap.size W).alloc (Nat.le_refl _) (.cells #[.slice E1 m1 f1, .slice E2 m2 f2, .slice E3 m3 f3, .string st, .slice E4 m4 f4] 27))
  have HT0 := Lib.hid (HT.out.below HB0.out h0)
  have hl0 : 1 < (W.alloc (.cells #[.slice E1 m1 f1, .slice E2 m2 f2, .slice E3 m3 f3, .string st, .slice E4 m4 f4] 27)).heap.size := Nat.lt_of_lt_of_le h0 HB0.out.size
  clear hg hs hT
  go_enter Tryz.func7, Tryz.ntmps7
  go_wp2_with fail
  refine (awake8_any _ HT0.out hl0).mono ?_
  rintro e w1 ⟨rfl, hb1⟩
  have HAT1 := Lib.hid (HAT0.out.below hb1 HAT0.out.lt)
  have HB1 := Lib.hid (HB0.out.trans (hb1.mono HB0.out.size))
  have ht1 := HAT1.out.lt
  clear hb1
  have x0 := HAT1.out.cell 0
  have x1 := HAT1.out.cell 1
  have x2 := HAT1.out.cell 2
  have x3 := HAT1.out.cell 3
  have x4 := HAT1.out.cell 4
  simp only [List.getElem?_toArray, List.getElem?_cons_zero, List.getElem?_cons_succ] at x0 x1 x2 x3 x4
  go_wp2_with fail
  refine (HF.out _ HB1.out).mono ?_
  rintro e w2 ⟨⟨⟨bf, rfl, hbf⟩⟩, hb2⟩
  have HAT2 := Lib.hid (HAT1.out.below hb2 HAT1.out.lt)
  have HB2 := Lib.hid (HB1.out.trans (hb2.mono HB1.out.size))
  have ht2 := HAT2.out.lt
  clear hb2 x0 x1 x2 x3 x4
  have y0 := HAT2.out.cell 0
  have y1 := HAT2.out.cell 1
  have y2 := HAT2.out.cell 2
  have y3 := HAT2.out.cell 3
  have y4 := HAT2.out.cell 4
  simp only [List.getElem?_toArray, List.getElem?_cons_zero, List.getElem?_cons_succ] at y0 y1 y2 y3 y4
  cases bf with
  | false =>
    go_wp2_with fail
    go_ret
    exact ⟨rfl, HB2.out⟩
  | true =>
    have HN := Lib.hid (show Pr.rightC G = true → (Pr.lvl G).length ≤ 10000 from fun hc => by have h1 := Pr.small_right hc HSZ.out; have h2 := Pr.few_lvl (hbf h1).symm; omega)
    clear hbf
    go_wp2_with fail
    by_cases hz : (Nm.ofG G).2.1 = 0
    rotate_left
    · obtain ⟨c, n, b, he, hc1, hc2, hc3⟩ := Nm.ofG_no hz
      clear hz
      refine (of_err (HOF.out HN.out _ HB2.out) he).mono ?_
      rintro e w3 ⟨⟨B1, d1, B2, d2, B3, d3, B4, d4, B5, d5, B6, d6, rfl⟩, hb3⟩
      have hE := At.new w3 45 #[.slice B1 0 d1, .slice B2 0 d2, .slice B3 0 d3, .slice B4 0 d4, .slice B5 0 d5, .slice B6 0 d6]
      have z0 := hE.cell 0
      have z1 := hE.cell 1
      have z2 := hE.cell 2
      have z3 := hE.cell 3
      have z4 := hE.cell 4
      have z5 := hE.cell 5
      simp only [List.getElem?_toArray, List.getElem?_cons_zero, List.getElem?_cons_succ] at z0 z1 z2 z3 z4 z5
      have HB4 := Lib.hid ((HB2.out.trans (hb3.mono HB2.out.size)).alloc (HB2.out.trans (hb3.mono HB2.out.size)).size (.cells #[.slice B1 0 d1, .slice B2 0 d2, .slice B3 0 d3, .slice B4 0 d4, .slice B5 0 d5, .slice B6 0 d6] 45))
      clear hE hb3 he
      cases b <;> (go_wp2_with fail; go_ret; exact ⟨rfl, HB4.out⟩)
    · obtain ⟨he, hfine⟩ := Nm.ofG_ok hz
      have HFI := Lib.hid hfine
      clear hz hfine
      refine (of_ok (HOF.out HN.out _ HB2.out) he).mono ?_
      rintro e w3 ⟨⟨pv, rfl, hp⟩, hb3⟩
      have HP := Lib.hid hp
      have b1 : G.toks.length ≤ 1000 := Nat.le_trans HFI.out.right.ntok (by decide)
      have b4 : G.rules.length ≤ 1000 := Nat.le_trans HFI.out.right.nrule (by decide)
      have b3 : G.levels.length ≤ 1000 := Nat.le_trans HFI.out.right.nlev (by decide)
      have hTl : (Nm.plan G).terms.length ≤ 1001 := by show (Nm.terms G).length ≤ 1001; rw [Nm.terms_len]; omega
      have hVl : (Nm.plan G).vars.length ≤ 1000 := by show (Nm.vars G).length ≤ 1000; exact Nat.le_trans Nm.vars_len b4
      obtain ⟨A1, c1, A2, c2, A3, c3, A4, c4, A5, c5, A6, c6, rfl, _, _, hq3, _, _, hq6⟩ := hp.ex
      obtain ⟨pb, po, _, _, e3, _⟩ := hq3.get (k := 0) (x := ⟨Nm.acceptG G, [Nm.symG G G.start], 0⟩) rfl
      subst e3
      obtain ⟨ab, ao, e6, _⟩ := cl_get hq6 (k := 0) (x := []) rfl
      subst e6
      have HQ3 := Lib.hid hq3
      have HQ6 := Lib.hid hq6
      obtain ⟨hm3, hst, hm4, hrul⟩ := gramC_parts8 HGC.out
      have HRUL := Lib.hid hrul
      have HST := Lib.hid hst
      have HM3 := Lib.hid hm3
      have HM4 := Lib.hid hm4
      have hm4b : m4 ≤ 40 := by rw [← hm4]; exact HFI.out.right.nrule
      have hm3b : m3 ≤ 10 := by rw [← hm3]; exact HFI.out.right.nlev
      clear hq3 hq6 hrul hst hm3 hm4
      have HNM := Lib.hid (fun (i : Int) w' (hw' : Below w3.heap.size w3 w') => name8_any _ _ _ i w3.heap.size w' (HP.out.sym.below hw') hw'.size (by omega) (by omega))
      have HSY := Lib.hid (fun (n : Rd.Name) w' (hw' : Below w3.heap.size w3 w') => sym_any _ _ _ n w3.heap.size w' (HP.out.sym.below hw') hw'.size (by omega) (by omega))
      have HAC := Lib.hid (fun w' (hw' : Below w3.heap.size w3 w') => accept_any _ _ _ w3.heap.size w' (HP.out.sym.below hw') (by omega) (by omega))
      have HSH := Lib.hid (fun (r : Int) w' (hw' : Below w3.heap.size w3 w') => show_any _ _ r w3.heap.size w' (HP.out.below hw') hw'.size (plan_sz HFI.out))
      have HTE := Lib.hid (fun (i : Int) w' (hw' : Below w3.heap.size w3 w') => term_any _ _ _ i w3.heap.size w' (HP.out.sym.below hw') (by omega))
      have HTL := Lib.hid (show (Nm.plan G).terms.length = G.toks.length + 1 from Nm.terms_len)
      have HTV := Lib.hid (show (Nm.plan G).terms = Nm.terms G ∧ (Nm.plan G).vars = Nm.vars G from ⟨rfl, rfl⟩)
      have HRL := Lib.hid (show (Nm.plan G).rules.length = G.rules.length + 1 ∧ (Nm.plan G).levels.length = (Nm.plan G).terms.length ∧ (Nm.plan G).assocs.length = G.levels.length + 1 ∧ (Nm.plan G).acts.length = G.rules.length + 1 by unfold Nm.plan Nm.levelsG; simp)
      generalize hN1 : (Nm.plan G).terms.length = t1 at hTl HNM HSY HAC HTL HRL HSH HTE ⊢
      generalize hN2 : (Nm.plan G).vars.length = t2 at hVl HNM HSY HAC HSH HTE ⊢
      have HN1 := Lib.hid hN1
      have HN2 := Lib.hid hN2
      clear hN1 hN2
      generalize (Nm.plan G).rules.length = t3 at HNM HSY HAC HRL HSH HTE ⊢
      generalize (Nm.plan G).levels.length = t4 at HNM HSY HAC HRL HSH HTE ⊢
      generalize (Nm.plan G).assocs.length = t5 at HNM HSY HAC HRL HSH HTE ⊢
      generalize (Nm.plan G).acts.length = t6 at HNM HSY HAC HRL HSH HTE ⊢
      have hPA := At.new w3 45 #[.slice A1 t1 c1, .slice A2 t2 c2, .slice (some ⟨pb, po, none⟩) t3 c3, .slice A4 t4 c4, .slice A5 t5 c5, .slice (some ⟨ab, ao, none⟩) t6 c6]
      have hb34 := hb3.alloc hb3.size (.cells #[.slice A1 t1 c1, .slice A2 t2 c2, .slice (some ⟨pb, po, none⟩) t3 c3, .slice A4 t4 c4, .slice A5 t5 c5, .slice (some ⟨ab, ao, none⟩) t6 c6] 45)
      have hb4 := (Below.refl w3.heap.size w3).alloc (Nat.le_refl _) (.cells #[.slice A1 t1 c1, .slice A2 t2 c2, .slice (some ⟨pb, po, none⟩) t3 c3, .slice A4 t4 c4, .slice A5 t5 c5, .slice (some ⟨ab, ao, none⟩) t6 c6] 45)
      obtain ⟨w4, hw4⟩ : ∃ w4, w3.alloc (.cells #[.slice A1 t1 c1, .slice A2 t2 c2, .slice (some ⟨pb, po, none⟩) t3 c3, .slice A4 t4 c4, .slice A5 t5 c5, .slice (some ⟨ab, ao, none⟩) t6 c6] 45) = w4 := ⟨_, rfl⟩
      rw [hw4] at hPA hb34 hb4
      obtain ⟨g5, hg5⟩ : ∃ g, w3.heap.size = g := ⟨_, rfl⟩
      have HG5 := Lib.hid hg5
      have HW4 := Lib.hid hw4
      rw [hg5] at hPA
      have HPA := Lib.hid hPA
      have HC4 := Lib.hid hb4
      have HB4 := Lib.hid (HB2.out.trans (hb34.mono HB2.out.size))
      obtain ⟨g0, hg0⟩ : ∃ g, W.heap.size = g := ⟨_, rfl⟩
      have hga := HAT2.out.below hb34 HAT2.out.lt
      rw [hg0] at hga y0 y1 y2 y3 y4 ⊢
      have HG0 := Lib.hid hg0
      have HGA := Lib.hid hga
      clear hPA hb34 hb4 hw4 hga hb3 hp he y0 y1 y2 y3 y4 hg5 hg0
      go_wp2_with fail
      rw [HW4.out, HG5.out]
      have hs0 := Nm.show_start HFI.out
      have HS0 := Lib.hid (HSH.out 0)
      rw [hs0] at HS0
      obtain ⟨S0, hS0⟩ : ∃ S, str (Nm.accN ++ ([32, 58] ++ (32 :: G.start))) = S := ⟨_, rfl⟩
      rw [hS0] at HS0
      have hlen : st.size ≤ 32 := by rw [← HST.out, str_len]; exact Pr.name_len HFI.out.right.start
      have d1 : ((t3 : Int) != IntKind.i64.wrap ((m4 : Int) + 1)) = false := by
        rw [IntKind.wrap_i64, bne_eq_false_iff_eq]; have := HRL.out.1; have := HM4.out; omega
      have d2 : ((t6 : Int) != (t3 : Int)) = false := by
        rw [bne_eq_false_iff_eq]; have := HRL.out; have := HM4.out; omega
      have d3 : ((t4 : Int) != (t1 : Int)) = false := by
        rw [bne_eq_false_iff_eq]; have := HRL.out; omega
      have d4 : ((t5 : Int) != IntKind.i64.wrap ((m3 : Int) + 1)) = false := by
        rw [IntKind.wrap_i64, bne_eq_false_iff_eq]; have := HRL.out; have := HM3.out; omega
      have n1 : ¬ 9223372036854775807 < 10 + st.size := by omega
      have hp4 := HPA.out
      have hg4 := HGA.out
      have p0 := hp4.cell 0
      have p1 := hp4.cell 1
      have p2 := hp4.cell 2
      have p3 := hp4.cell 3
      have p4 := hp4.cell 4
      have p5 := hp4.cell 5
      simp only [List.getElem?_toArray, List.getElem?_cons_zero, List.getElem?_cons_succ] at p0 p1 p2 p3 p4 p5
      have x0 := hg4.cell 0
      have x1 := hg4.cell 1
      have x2 := hg4.cell 2
      have x3 := hg4.cell 3
      have x4 := hg4.cell 4
      simp only [List.getElem?_toArray, List.getElem?_cons_zero, List.getElem?_cons_succ] at x0 x1 x2 x3 x4
      clear hs0 hp4 hg4
      have HCUR := Lib.hid (Below.refl w4.heap.size w4)
      have KEEP := Lib.hid (show ∀ w', Below w4.heap.size w4 w' → (w'.cell? ⟨g5, 0, none⟩ = some (.slice A1 t1 c1) ∧ w'.cell? ⟨g5, 1, none⟩ = some (.slice A2 t2 c2) ∧ w'.cell? ⟨g5, 2, none⟩ = some (.slice (some ⟨pb, po, none⟩) t3 c3) ∧ w'.cell? ⟨g5, 3, none⟩ = some (.slice A4 t4 c4) ∧ w'.cell? ⟨g5, 4, none⟩ = some (.slice A5 t5 c5) ∧ w'.cell? ⟨g5, 5, none⟩ = some (.slice (some ⟨ab, ao, none⟩) t6 c6) ∧ w'.cell? ⟨g0, 2, none⟩ = some (.slice E3 m3 f3) ∧ w'.cell? ⟨g0, 3, none⟩ = some (.string st) ∧ w'.cell? ⟨g0, 4, none⟩ = some (.slice E4 m4 f4)) from fun w' hb => ⟨cell_keep p0 hb, cell_keep p1 hb, cell_keep p2 hb, cell_keep p3 hb, cell_keep p4 hb, cell_keep p5 hb, cell_keep x2 hb, cell_keep x3 hb, cell_keep x4 hb⟩)
      have hkk := KEEP.out w4 HCUR.out
      go_region_held3 (fun w' => w'.cell? ⟨g5, 0, none⟩ = some (.slice A1 t1 c1) ∧ w'.cell? ⟨g5, 1, none⟩ = some (.slice A2 t2 c2) ∧ w'.cell? ⟨g5, 2, none⟩ = some (.slice (some ⟨pb, po, none⟩) t3 c3) ∧ w'.cell? ⟨g5, 3, none⟩ = some (.slice A4 t4 c4) ∧ w'.cell? ⟨g5, 4, none⟩ = some (.slice A5 t5 c5) ∧ w'.cell? ⟨g5, 5, none⟩ = some (.slice (some ⟨ab, ao, none⟩) t6 c6) ∧ w'.cell? ⟨g0, 2, none⟩ = some (.slice E3 m3 f3) ∧ w'.cell? ⟨g0, 3, none⟩ = some (.string st) ∧ w'.cell? ⟨g0, 4, none⟩ = some (.slice E4 m4 f4)) (first | exact hkk | exact KEEP.out _ HCUR.out | exact KEEP.out _ (below_drew HCUR.out)) (first
        | (go_at_call 30
           (first
             | (refine Calls.mono (HS0.out _ (HC4.out.trans (HCUR.out.mono HC4.out.size))) ?_
                rintro e wz ⟨rfl, hbz⟩
                have HCUR2 := Lib.hid (HCUR.out.trans (hbz.mono HCUR.out.size)))
             | (refine Calls.mono (HS0.out _ (HC4.out.trans ((below_drew HCUR.out).mono HC4.out.size))) ?_
                rintro e wz ⟨rfl, hbz⟩
                have HCUR2 := Lib.hid ((below_drew HCUR.out).trans (hbz.mono (below_drew HCUR.out).size))))
           have hkk := KEEP.out _ HCUR2.out
           clear HCUR hbz
           have HCUR := HCUR2
           clear HCUR2))
      have d5 : (S0.toList == ((⟨#[36, 97, 99, 99, 101, 112, 116, 32, 58, 32]⟩ : ByteArray) ++ st).toList) = true := by
        rw [show S0 = (⟨#[36, 97, 99, 99, 101, 112, 116, 32, 58, 32]⟩ : ByteArray) ++ st by rw [← hS0, ← HST.out, show Nm.accN ++ ([32, 58] ++ (32 :: G.start)) = [36, 97, 99, 99, 101, 112, 116, 32, 58, 32] ++ G.start from rfl, str_app8]; rfl]; simp
      have HCZ := Lib.hid (HC4.out.trans (HCUR.out.mono HC4.out.size))
      have HBZ := Lib.hid (HB4.out.trans (HCUR.out.mono HB4.out.size))
      have HPZ := Lib.hid (HPA.out.below HCUR.out HPA.out.lt)
      have HGZ := Lib.hid (HGA.out.below HCUR.out HGA.out.lt)
      clear HCUR KEEP hkk p0 p1 p2 p3 p4 p5 x0 x1 x2 x3 x4 d1 d2 d3 d4 n1 hlen HC4 HB4 HPA HGA hS0
      simp only [d5, Bool.not_true]
      go_wp2_with fail
      clear d5
      have hrl : (t6 : Int) = (m4 : Int) + 1 ∧ (t3 : Int) = (m4 : Int) + 1 := by have := HRL.out; have := HM4.out; omega
      have HR6 := Lib.hid hrl
      clear hrl
      go_loopw [8] (fun i wr => ∃ (k : Nat), k ≤ m4 ∧ i = .int .i64 (k : Int) ∧ Below wz.heap.size wz wr) (fun i _ => m4 - (intOf i).toNat)
      case atStart => exact ⟨0, by omega, rfl, Below.refl _ _⟩
      case round =>
        obtain ⟨k, hk, rfl, hbr⟩ := hrel
        have HBR := Lib.hid hbr
        have HPR := Lib.hid (HPZ.out.below hbr HPZ.out.lt)
        have HGR := Lib.hid (HGZ.out.below hbr HGZ.out.lt)
        have HCR := Lib.hid (HCZ.out.trans (hbr.mono HCZ.out.size))
        have HBW := Lib.hid (HBZ.out.trans (hbr.mono HBZ.out.size))
        have hgr := HGR.out
        have x0 := hgr.cell 0
        have x1 := hgr.cell 1
        have x2 := hgr.cell 2
        have x3 := hgr.cell 3
        have x4 := hgr.cell 4
        simp only [List.getElem?_toArray, List.getElem?_cons_zero, List.getElem?_cons_succ] at x0 x1 x2 x3 x4
        clear hbr hgr
        by_cases hlt : k < m4
        · obtain ⟨x, ht⟩ := some_get (l := G.rules) (i := k) (by rw [HM4.out]; exact hlt)
          obtain ⟨b, o, R', rc, hA, hbl, z0, z1, z2, z3, hcl⟩ := (HRUL.out.below HBW.out).get ht
          subst hA
          have hok := Nm.rule_ok HFI.out.right x (List.mem_of_getElem? ht)
          have HXT := Lib.hid ht
          have hx0 : (str x.left).size ≤ 32 := by rw [str_len]; exact Pr.name_len hok.1
          have HOK := Lib.hid hok
          have HCL := Lib.hid hcl
          obtain ⟨X0, hX0⟩ : ∃ S, str x.left = S := ⟨_, rfl⟩
          have HX0 := Lib.hid hX0
          obtain ⟨n, hn⟩ : ∃ n, x.right.length = n := ⟨_, rfl⟩
          have hn8 : n ≤ 8 := by rw [← hn]; exact hok.2.1
          have HNN := Lib.hid hn
          have HRR := Lib.hid (show ∀ y ∈ x.right, y.length ≤ 32 from fun y hy => Pr.name_len (hok.2.2.1 y hy))
          obtain ⟨X3, hX3⟩ : ∃ S, str x.action = S := ⟨_, rfl⟩
          have HX3 := Lib.hid hX3
          rw [hX0] at z0 hx0
          rw [hn] at z1
          rw [hX3] at z3
          have HZ := Lib.hid (show _ ∧ _ from ⟨z1, z3⟩)
          have hlt2 : (k : Int) < (m4 : Int) := by omega
          have hk0 : (0 : Int) ≤ (k : Int) := by omega
          have n2 : ¬ 9223372036854775807 < X0.size + 2 := by omega
          clear ht hok hcl hX0 hn hX3 z2
          go_wp2_with fail
          have hs0' : str (x.left ++ ([32, 58] ++ (x.right.take 0).flatMap fun n => 32 :: n)) = X0 ++ ⟨#[32, 58]⟩ := by rw [List.take_zero, str_app8, HX0.out]; rfl
          have HSTEP := Lib.hid (fun (q : Nat) (y : Rd.Name) (hq : x.right[q]? = some y) => show str (x.left ++ ([32, 58] ++ (x.right.take (q + 1)).flatMap fun n => 32 :: n)) = str (x.left ++ ([32, 58] ++ (x.right.take q).flatMap fun n => 32 :: n)) ++ ⟨#[32]⟩ ++ str y by
            rw [List.take_add_one, hq]
            simp only [Option.toList_some, List.flatMap_append, List.flatMap_cons, List.flatMap_nil, List.append_nil]
            rw [show x.left ++ ([32, 58] ++ ((x.right.take q).flatMap (fun n => 32 :: n) ++ 32 :: y)) = (x.left ++ ([32, 58] ++ (x.right.take q).flatMap fun n => 32 :: n)) ++ ([32] ++ y) by simp, show (⟨#[32]⟩ : ByteArray) = str [32] from rfl, ← str_app8, ← str_app8]; simp)
          have HBD := Lib.hid (fun (q : Nat) => show (str (x.left ++ ([32, 58] ++ (x.right.take q).flatMap fun n => 32 :: n))).size ≤ 400 by
            rw [str_len]
            have h1 := Pr.name_len HOK.out.1
            have h2 : ∀ l : List Rd.Name, (∀ y ∈ l, y.length ≤ 32) → (l.flatMap fun n => 32 :: n).length ≤ l.length * 33 := by
              intro l
              induction l with
              | nil => intro _; simp
              | cons y t ih =>
                intro h
                have := ih (fun z hz => h z (List.mem_cons_of_mem _ hz))
                have := h y List.mem_cons_self
                simp only [List.flatMap_cons, List.length_append, List.length_cons]; omega
            have h3 := h2 (x.right.take q) (fun y hy => HRR.out y (List.mem_of_mem_take hy))
            have h4 : (x.right.take q).length ≤ 8 := Nat.le_trans (by rw [List.length_take]; exact Nat.min_le_right _ _) (HNN.out ▸ hn8)
            simp only [List.length_append, List.length_cons, List.length_nil]; omega)
          have HS0' := Lib.hid hs0'
          clear hs0' z0 hx0 n2
          go_loopw [9, 10] (fun s j wq => ∃ (q : Nat) (SQ : ByteArray), q ≤ n ∧ j = .int .i64 (q : Int) ∧ s = .string SQ ∧ SQ = str (x.left ++ ([32, 58] ++ (x.right.take q).flatMap fun n => 32 :: n)) ∧ Below wz.heap.size wz wq) (fun _ j _ => n - (intOf j).toNat)
          case atStart => exact ⟨0, _, by omega, rfl, rfl, HS0'.out.symm, HBR.out⟩
          case round =>
            obtain ⟨q, SQ, hq, rfl, rfl, hsq, hbq⟩ := hrel
            have HSQ := Lib.hid hsq
            have hsz : SQ.size ≤ 400 := by rw [hsq]; exact HBD.out q
            have HBQ := Lib.hid hbq
            have hgq := HGZ.out.below hbq HGZ.out.lt
            have x0 := hgq.cell 0
            have x1 := hgq.cell 1
            have x2 := hgq.cell 2
            have x3 := hgq.cell 3
            have x4 := hgq.cell 4
            simp only [List.getElem?_toArray, List.getElem?_cons_zero, List.getElem?_cons_succ] at x0 x1 x2 x3 x4
            obtain ⟨b', o', R2, rc2, hA, hbl2, y0, y1, y2, y3, hcl2⟩ := (HRUL.out.below (HBZ.out.trans (hbq.mono HBZ.out.size))).get HXT.out
            injection hA with hA
            injection hA with e1 e2 _
            subst e1 e2
            rw [HNN.out] at y1
            rw [HX3.out] at y3
            have HCQ := Lib.hid (HCZ.out.trans (hbq.mono HCZ.out.size))
            have HBQW := Lib.hid (HBZ.out.trans (hbq.mono HBZ.out.size))
            have HPQ := Lib.hid (HPZ.out.below hbq HPZ.out.lt)
            have HGQ := Lib.hid hgq
            have HY3 := Lib.hid y3
            clear hsq hbq hgq y0 y2 y3
            by_cases hqn : q < n
            · obtain ⟨y, hy⟩ := some_get (l := x.right) (i := q) (by rw [HNN.out]; exact hqn)
              obtain ⟨rb, ro, hR, hrb, w0⟩ := cl_get hcl2 hy
              subst hR
              have hst := HSTEP.out q y hy
              have hyl : (str y).size ≤ 32 := by rw [str_len]; exact HRR.out y (List.mem_of_getElem? hy)
              rw [← HSQ.out] at hst
              generalize str y = Y0 at w0 hst hyl
              have HNX := Lib.hid hst
              have hq2 : (q : Int) < (n : Int) := by omega
              have hq0 : (0 : Int) ≤ (q : Int) := by omega
              have n3 : ¬ 9223372036854775807 < SQ.size + 1 := by omega
              have n4 : ¬ 9223372036854775807 < SQ.size + 1 + Y0.size := by omega
              clear hy hst hcl2
              go_wp2_with fail
              go_roundw
              case rel => exact ⟨q + 1, _, by omega, by go_num, rfl, HNX.out.symm, HBQ.out⟩
              case measure => simp [intOf]; omega
            · have hge : ¬ ((q : Int) < (n : Int)) := by omega
              have htk : x.right.take q = x.right := List.take_of_length_le (by rw [HNN.out]; omega)
              have hss := HSH.out ((k : Int) + 1)
              rw [Nm.show_rule HFI.out HXT.out] at hss
              have hsq2 := HSQ.out
              rw [htk] at hsq2
              rw [← hsq2] at hss
              have HSS := Lib.hid hss
              obtain ⟨pb', po', R7, rc7, e1, _, l0, l1, l2, _⟩ := (HQ3.out.below HCQ.out).get (k := k + 1) (x := Nm.prod G x) (by show (G.rules.map (Nm.prod G))[k]? = _; rw [List.getElem?_map, HXT.out]; rfl)
              injection e1 with e1
              injection e1 with e1 e2 _
              subst e1 e2
              obtain ⟨ab', ao', e1, _, a0⟩ := cl_get (HQ6.out.below HCQ.out) (k := k + 1) (x := x.action) (by show (G.rules.map Rd.Rule.action)[k]? = _; rw [List.getElem?_map, HXT.out]; rfl)
              injection e1 with e1
              injection e1 with e1 e2 _
              subst e1 e2
              rw [HX3.out] at a0
              have hlv := Nm.left_var HFI.out (r := x) (List.mem_of_getElem? HXT.out)
              have hpl := Nm.prod_level (g := G) x
              have ht1 : (Nm.terms G).length = t1 := HN1.out
              have htt := HTE.out (Nm.prod G x).left
              rw [decide_eq_false (by rintro ⟨_, h2⟩; omega)] at htt
              have HTT := Lib.hid htt
              have hL1 : ¬ (Nm.prod G x).level < 0 := by omega
              have hL2 : ¬ (m3 : Int) < (Nm.prod G x).level := by have := HM3.out; omega
              clear htk hss hsq2 hlv hpl ht1 htt hcl2
              generalize (Nm.prod G x).left = LF at l0 HTT
              generalize (Nm.prod G x).level = LV at l2 hL1 hL2
              generalize (Nm.prod G x).right.length = RL at l1
              have hi3 : (k : Int) + 1 < (t3 : Int) := by have := HR6.out; omega
              have hi0 : (0 : Int) ≤ (k : Int) + 1 := by omega
              have hqa := At.new wr 67 #[.int .i64 LF, .slice R7 RL rc7, .int .i64 LV]
              have hbv := (Below.refl wr.heap.size wr).alloc (Nat.le_refl _) (.cells #[.int .i64 LF, .slice R7 RL rc7, .int .i64 LV] 67)
              obtain ⟨wv, hwv⟩ : ∃ wv, wr.alloc (.cells #[.int .i64 LF, .slice R7 RL rc7, .int .i64 LV] 67) = wv := ⟨_, rfl⟩
              rw [hwv] at hqa hbv
              obtain ⟨gx, hgx⟩ : ∃ g, wr.heap.size = g := ⟨_, rfl⟩
              rw [hgx] at hqa
              have HWV := Lib.hid hwv
              have HGX := Lib.hid hgx
              have HQA := Lib.hid hqa
              have HBV := Lib.hid hbv
              have HCV := Lib.hid (HCQ.out.trans (hbv.mono HCQ.out.size))
              have HA0 := Lib.hid a0
              have p2 := HPQ.out.cell 2
              simp only [List.getElem?_toArray, List.getElem?_cons_zero, List.getElem?_cons_succ] at p2
              have hk3 : k + 1 < t3 := by omega
              clear hwv hgx hqa hbv a0
              go_wp2_with fail
              rw [HWV.out, HGX.out]
              clear l0 l1 l2 x0 x1 x2 x3 x4 y1 hi3 p2
              have hpv := HPQ.out.below HBV.out HPQ.out.lt
              have hgv := HGQ.out.below HBV.out HGQ.out.lt
              have hqa := HQA.out
              have p0 := hpv.cell 0
              have p1 := hpv.cell 1
              have p2 := hpv.cell 2
              have p3 := hpv.cell 3
              have p4 := hpv.cell 4
              have p5 := hpv.cell 5
              simp only [List.getElem?_toArray, List.getElem?_cons_zero, List.getElem?_cons_succ] at p0 p1 p2 p3 p4 p5
              have x0 := hgv.cell 0
              have x1 := hgv.cell 1
              have x2 := hgv.cell 2
              have x3 := hgv.cell 3
              have x4 := hgv.cell 4
              simp only [List.getElem?_toArray, List.getElem?_cons_zero, List.getElem?_cons_succ] at x0 x1 x2 x3 x4
              have q0 := hqa.cell 0
              have q1 := hqa.cell 1
              have q2 := hqa.cell 2
              simp only [List.getElem?_toArray, List.getElem?_cons_zero, List.getElem?_cons_succ] at q0 q1 q2
              have a0 := cell_keep HA0.out HBV.out
              have r3 := cell_keep HY3.out HBV.out
              have hwr : IntKind.i64.wrap ((k : Int) + 1) = (k : Int) + 1 := by rw [IntKind.wrap_i64]; omega
              have hi6 : (k : Int) + 1 < (t6 : Int) := by have := HR6.out; omega
              have hk6 : k + 1 < t6 := by omega
              have hL3 : decide (LV < 0) = false := decide_eq_false (by omega)
              have hL4 : decide ((m3 : Int) < LV) = false := decide_eq_false (by omega)
              have hL5 : (0 : Int) ≤ LV := by omega
              have hL6 : LV ≤ (m3 : Int) := by omega
              have e1 : (!(SQ.toList == SQ.toList)) = false := by simp
              have e2 : (!(X3.toList == X3.toList)) = false := by simp
              clear hpv hgv hqa x0 x1 x3 q1
              have HCUR := Lib.hid (Below.refl wv.heap.size wv)
              have KEEP := Lib.hid (show ∀ w', Below wv.heap.size wv w' → (w'.cell? ⟨g5, 0, none⟩ = some (.slice A1 t1 c1) ∧ w'.cell? ⟨g5, 1, none⟩ = some (.slice A2 t2 c2) ∧ w'.cell? ⟨g5, 2, none⟩ = some (.slice (some ⟨pb, po, none⟩) t3 c3) ∧ w'.cell? ⟨g5, 3, none⟩ = some (.slice A4 t4 c4) ∧ w'.cell? ⟨g5, 4, none⟩ = some (.slice A5 t5 c5) ∧ w'.cell? ⟨g5, 5, none⟩ = some (.slice (some ⟨ab, ao, none⟩) t6 c6) ∧ w'.cell? ⟨g0, 2, none⟩ = some (.slice E3 m3 f3) ∧ w'.cell? ⟨g0, 4, none⟩ = some (.slice (some ⟨b, o, none⟩) m4 f4) ∧ w'.cell? ⟨ab, ao + (k + 1), none⟩ = some (.string X3) ∧ w'.cell? ⟨b, o + k * 4 + 3, none⟩ = some (.string X3) ∧ w'.cell? ⟨gx, 0, none⟩ = some (.int .i64 LF) ∧ w'.cell? ⟨gx, 2, none⟩ = some (.int .i64 LV)) from fun w' hb => ⟨cell_keep p0 hb, cell_keep p1 hb, cell_keep p2 hb, cell_keep p3 hb, cell_keep p4 hb, cell_keep p5 hb, cell_keep x2 hb, cell_keep x4 hb, cell_keep a0 hb, cell_keep r3 hb, cell_keep q0 hb, cell_keep q2 hb⟩)
              have hkk := KEEP.out wv HCUR.out
              go_region_held3 (fun w' => w'.cell? ⟨g5, 0, none⟩ = some (.slice A1 t1 c1) ∧ w'.cell? ⟨g5, 1, none⟩ = some (.slice A2 t2 c2) ∧ w'.cell? ⟨g5, 2, none⟩ = some (.slice (some ⟨pb, po, none⟩) t3 c3) ∧ w'.cell? ⟨g5, 3, none⟩ = some (.slice A4 t4 c4) ∧ w'.cell? ⟨g5, 4, none⟩ = some (.slice A5 t5 c5) ∧ w'.cell? ⟨g5, 5, none⟩ = some (.slice (some ⟨ab, ao, none⟩) t6 c6) ∧ w'.cell? ⟨g0, 2, none⟩ = some (.slice E3 m3 f3) ∧ w'.cell? ⟨g0, 4, none⟩ = some (.slice (some ⟨b, o, none⟩) m4 f4) ∧ w'.cell? ⟨ab, ao + (k + 1), none⟩ = some (.string X3) ∧ w'.cell? ⟨b, o + k * 4 + 3, none⟩ = some (.string X3) ∧ w'.cell? ⟨gx, 0, none⟩ = some (.int .i64 LF) ∧ w'.cell? ⟨gx, 2, none⟩ = some (.int .i64 LV)) (first | exact hkk | exact KEEP.out _ HCUR.out | exact KEEP.out _ (below_drew HCUR.out)) (first
                | (go_at_call 30
                   (first
                     | (refine Calls.mono (HSS.out _ (HCV.out.trans (HCUR.out.mono HCV.out.size))) ?_
                        rintro e wy ⟨rfl, hbz⟩
                        have HCUR2 := Lib.hid (HCUR.out.trans (hbz.mono HCUR.out.size)))
                     | (refine Calls.mono (HSS.out _ (HCV.out.trans ((below_drew HCUR.out).mono HCV.out.size))) ?_
                        rintro e wy ⟨rfl, hbz⟩
                        have HCUR2 := Lib.hid ((below_drew HCUR.out).trans (hbz.mono (below_drew HCUR.out).size))))
                   have hkk := KEEP.out _ HCUR2.out
                   clear HCUR hbz
                   have HCUR := HCUR2
                   clear HCUR2)
                | (go_at_call 29
                   (first
                     | (refine Calls.mono (HTT.out _ (HCV.out.trans (HCUR.out.mono HCV.out.size))) ?_
                        rintro e wy ⟨rfl, hbz⟩
                        have HCUR2 := Lib.hid (HCUR.out.trans (hbz.mono HCUR.out.size)))
                     | (refine Calls.mono (HTT.out _ (HCV.out.trans ((below_drew HCUR.out).mono HCV.out.size))) ?_
                        rintro e wy ⟨rfl, hbz⟩
                        have HCUR2 := Lib.hid ((below_drew HCUR.out).trans (hbz.mono (below_drew HCUR.out).size))))
                   have hkk := KEEP.out _ HCUR2.out
                   clear HCUR hbz
                   have HCUR := HCUR2
                   clear HCUR2))
              clear hkk KEEP
              have HBN := Lib.hid (HBQ.out.trans ((HBV.out.mono HBQ.out.size).trans (HCUR.out.mono (HBQ.out.trans (HBV.out.mono HBQ.out.size)).size)))
              go_wp2_with fail
              exact ⟨⟨k + 1, by omega, by go_num, HBN.out⟩, by simp [intOf]; omega⟩
        · have hge : ¬ ((k : Int) < (m4 : Int)) := by omega
          obtain ⟨pb', po', R7, rc7, e1, _, l0, _⟩ := (HQ3.out.below HCR.out).get (k := 0) (x := ⟨Nm.acceptG G, [Nm.symG G G.start], 0⟩) rfl
          injection e1 with e1
          injection e1 with e1 e2 _
          subst e1 e2
          obtain ⟨ab', ao', e1, _, a0⟩ := cl_get (HQ6.out.below HCR.out) (k := 0) (x := []) rfl
          injection e1 with e1
          injection e1 with e1 e2 _
          subst e1 e2
          rw [show str [] = ⟨#[]⟩ from rfl, Nat.add_zero] at a0
          rw [Nat.zero_mul, Nat.add_zero] at l0
          simp only [] at l0
          rw [show Nm.acceptG G = (t1 : Int) + (t2 : Int) by unfold Nm.acceptG; rw [show (Nm.terms G).length = t1 from HN1.out, show (Nm.vars G).length = t2 from HN2.out]] at l0
          have hpr := HPR.out
          have p0 := hpr.cell 0
          have p1 := hpr.cell 1
          have p2 := hpr.cell 2
          have p3 := hpr.cell 3
          have p4 := hpr.cell 4
          have p5 := hpr.cell 5
          simp only [List.getElem?_toArray, List.getElem?_cons_zero, List.getElem?_cons_succ] at p0 p1 p2 p3 p4 p5
          have hi6 : (0 : Int) < (t6 : Int) ∧ 0 < t6 := by have := HR6.out; omega
          have hi3 : (0 : Int) < (t3 : Int) ∧ 0 < t3 := by have := HR6.out; omega
          obtain ⟨hi6, hj6⟩ := hi6
          obtain ⟨hi3, hj3⟩ := hi3
          clear hpr
          go_wp2_with fail
          have HCUR := Lib.hid (Below.refl wr.heap.size wr)
          have KEEP := Lib.hid (show ∀ w', Below wr.heap.size wr w' → (w'.cell? ⟨g5, 0, none⟩ = some (.slice A1 t1 c1) ∧ w'.cell? ⟨g5, 1, none⟩ = some (.slice A2 t2 c2) ∧ w'.cell? ⟨g5, 2, none⟩ = some (.slice (some ⟨pb, po, none⟩) t3 c3) ∧ w'.cell? ⟨g5, 3, none⟩ = some (.slice A4 t4 c4) ∧ w'.cell? ⟨g5, 4, none⟩ = some (.slice A5 t5 c5) ∧ w'.cell? ⟨g5, 5, none⟩ = some (.slice (some ⟨ab, ao, none⟩) t6 c6) ∧ w'.cell? ⟨ab, ao, none⟩ = some (.string ⟨#[]⟩) ∧ w'.cell? ⟨pb, po, none⟩ = some (.int .i64 ((t1 : Int) + (t2 : Int)))) from fun w' hb => ⟨cell_keep p0 hb, cell_keep p1 hb, cell_keep p2 hb, cell_keep p3 hb, cell_keep p4 hb, cell_keep p5 hb, cell_keep a0 hb, cell_keep l0 hb⟩)
          have hkk := KEEP.out wr HCUR.out
          go_region_held3 (fun w' => w'.cell? ⟨g5, 0, none⟩ = some (.slice A1 t1 c1) ∧ w'.cell? ⟨g5, 1, none⟩ = some (.slice A2 t2 c2) ∧ w'.cell? ⟨g5, 2, none⟩ = some (.slice (some ⟨pb, po, none⟩) t3 c3) ∧ w'.cell? ⟨g5, 3, none⟩ = some (.slice A4 t4 c4) ∧ w'.cell? ⟨g5, 4, none⟩ = some (.slice A5 t5 c5) ∧ w'.cell? ⟨g5, 5, none⟩ = some (.slice (some ⟨ab, ao, none⟩) t6 c6) ∧ w'.cell? ⟨ab, ao, none⟩ = some (.string ⟨#[]⟩) ∧ w'.cell? ⟨pb, po, none⟩ = some (.int .i64 ((t1 : Int) + (t2 : Int)))) (first | exact hkk | exact KEEP.out _ HCUR.out | exact KEEP.out _ (below_drew HCUR.out)) (first
            | (go_at_call 32
               (first
                 | (refine Calls.mono (HAC.out _ (HCR.out.trans (HCUR.out.mono HCR.out.size))) ?_
                    rintro e wy ⟨rfl, hbz⟩
                    have HCUR2 := Lib.hid (HCUR.out.trans (hbz.mono HCUR.out.size)))
                 | (refine Calls.mono (HAC.out _ (HCR.out.trans ((below_drew HCUR.out).mono HCR.out.size))) ?_
                    rintro e wy ⟨rfl, hbz⟩
                    have HCUR2 := Lib.hid ((below_drew HCUR.out).trans (hbz.mono (below_drew HCUR.out).size))))
               have hkk := KEEP.out _ HCUR2.out
               clear HCUR hbz
               have HCUR := HCUR2
               clear HCUR2))
          go_wp2_with fail
          go_ret
          exact ⟨rfl, HBW.out.trans (HCUR.out.mono HBW.out.size)⟩

end Go.Proofs.YtlflbkhghifelaaGreatDoor
