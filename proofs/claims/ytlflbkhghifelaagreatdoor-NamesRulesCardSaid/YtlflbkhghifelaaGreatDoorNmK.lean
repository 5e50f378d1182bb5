/-
  The walks of tronagelaw08.NamesBack, NamesRules.
-/
import Derived.Test.YtlflbkhghifelaaGreatDoorNmJ
import Derived.Test.YtlflbkhghifelaaGreatDoorPrS
import Derived.Test.YtlflbkhghifelaaGreatDoorPrT2
import Derived.Deep.RegionHeld3
import Derived.Sort.Grow
import Derived.Below
namespace Go.Proofs.YtlflbkhghifelaaGreatDoor
open Go.RowKit Go.Sort
open Lx
set_option linter.unusedVariables false
set_option linter.unusedSimpArgs false
set_option maxRecDepth 100000

namespace Pr
open Rd (Name Pat Tok Lev Rule G)
theorem sum_bound {α : Type} (f : α → Nat) (c : Nat) : ∀ l : List α, (∀ x ∈ l, f x ≤ c) → (l.map f).sum ≤ l.length * c
  | [], _ => by simp
  | x :: r, h => by
    have h1 := sum_bound f c r (fun y hy => h y (List.mem_cons_of_mem _ hy))
    have h2 := h x List.mem_cons_self
    simp only [List.map_cons, List.sum_cons, List.length_cons, Nat.add_mul, Nat.one_mul]
    omega
theorem names_le : ∀ l : List Name, l.length ≤ (l.map namN).sum
  | [] => by simp
  | x :: r => by
    have := names_le r
    simp only [List.map_cons, List.sum_cons, List.length_cons]
    unfold namN at *
    omega
theorem lvl_le (g : G) : (lvl g).length ≤ (g.levels.map levN).sum := by
  unfold lvl
  generalize g.levels = l
  induction l with
  | nil => simp
  | cons v r ih =>
    have := names_le v.names
    simp only [List.flatMap_cons, List.length_append, List.map_cons, List.sum_cons]
    unfold levN at *
    omega
theorem pat_small {p : Pat} (h : patOk p = true) : patN p ≤ 400 := by
  unfold patOk at h
  unfold patN
  by_cases h0 : p.text = []
  · rw [if_pos h0] at h; simp only [Bool.and_eq_true] at h; have := rises_len h.2; rw [h0]; simp; omega
  · rw [if_neg h0] at h; simp only [Bool.and_eq_true, decide_eq_true_eq, beq_iff_eq] at h; rw [h.2.1]; simp; omega
theorem tok_small {t : Tok} (h : tokOk t = true) : tokN t ≤ 500 := by
  unfold tokOk at h
  rw [Bool.and_eq_true] at h
  have h1 := name_len h.1
  have h2 := pat_small h.2
  unfold tokN
  unfold patN at h2
  omega
theorem nams_small {l : List Name} (h : ∀ n ∈ l, nameOk n = true) : (l.map namN).sum ≤ l.length * 40 :=
  sum_bound namN 40 l (fun n hn => by have := name_len (h n hn); unfold namN; omega)
theorem lev_small {v : Lev} (h : levOk v = true) (hs : v.names.length ≤ 140737488355328) : levN v ≤ 5629499534213120 := by
  unfold levOk at h
  simp only [Bool.and_eq_true, List.all_eq_true] at h
  have := nams_small h.2.2
  unfold levN
  omega
theorem rule_small {r : Rule} (h : ruleOk r = true) : rulN r ≤ 10000 := by
  unfold ruleOk at h
  simp only [Bool.and_eq_true, Bool.or_eq_true, decide_eq_true_eq, beq_iff_eq, List.all_eq_true] at h
  obtain ⟨k1, k2, k3, k4, k5⟩ := h
  have h1 := nams_small k3
  have h2 := name_len k1
  have h3 := action_len k5
  have h4 : r.prec.length ≤ 32 := by
    rcases k4 with h | h
    · rw [h]; simp
    · exact name_len h
  unfold rulN rulN0
  omega
theorem small_right {g : G} (hc : rightC g = true) (hs : ∀ v ∈ g.levels, v.names.length ≤ 140737488355328) : total g < 4611686018427387904 := by
  unfold rightC fitsB at hc
  simp only [Bool.and_eq_true, decide_eq_true_eq, List.all_eq_true] at hc
  obtain ⟨⟨f1, f2, f3, f4, f5⟩, f6, f7, f8, f9, f10⟩ := hc
  have h1 := sum_bound tokN 500 g.toks (fun t ht => tok_small (f7 t ht))
  have h2 := sum_bound patN 400 g.skips (fun t ht => pat_small (f8 t ht))
  have h3 := sum_bound levN 5629499534213120 g.levels (fun t ht => lev_small (f9 t ht) (hs t ht))
  have h4 := sum_bound rulN 10000 g.rules (fun t ht => rule_small (f10 t ht))
  unfold total cntN
  omega
theorem few_lvl {g : G} (h : fewB g = true) : (lvl g).length ≤ 1500 := by
  unfold fewB at h
  simp only [Bool.and_eq_true, decide_eq_true_eq] at h
  have h1 := lvl_le g
  have h2 := h.2
  unfold total at h2
  omega
end Pr

theorem gramC_form {w : World} {B : Nat} {v : Value} {G : Rd.G} (h : GramC w B v G) : ∃ E1 m1 f1 E2 m2 f2 E3 m3 f3 st E4 m4 f4, v = .agg #[.slice E1 m1 f1, .slice E2 m2 f2, .slice E3 m3 f3, .string st, .slice E4 m4 f4] := by
  obtain ⟨A1, c1, A2, c2, A3, c3, A4, c4, pl, ql, h0, _⟩ := h.ex
  exact ⟨_, _, _, _, _, _, _, _, _, _, _, _, _, h0⟩

theorem cell_keep {w w' : World} {a : Addr} {v : Value} (h : w.cell? a = some v) (hb : Below w.heap.size w w') : w'.cell? a = some v := by rw [hb.cell (block_lt_of_cell h)]; exact h
namespace Nm
theorem ofG_ok {g : Rd.G} (h : (ofG g).2.1 = 0) : ofG g = (plan g, 0, []) ∧ Fine g := by
  by_cases hr : Pr.rightB g = true
  · by_cases hw : (wrong g).1 = 0
    · exact ⟨ofG_fine hr hw, wrong_fine ((Pr.rightB_iff g).1 hr) hw⟩
    · rw [ofG_wrong hr hw] at h; exact absurd h hw
  · rw [ofG_bad (by simpa using hr)] at h; exact absurd h (by decide)
theorem ofG_no {g : Rd.G} (h : (ofG g).2.1 ≠ 0) : ∃ (c : Nat) (n : Rd.Name) (b : Bool), ofG g = (empty, c, n) ∧ ((c : Int) != 0) = true ∧ ((c : Int) == 1) = b ∧ (str n).toList.isEmpty = b := by
  by_cases hr : Pr.rightB g = true
  · by_cases hw : (wrong g).1 = 0
    · rw [ofG_fine hr hw] at h; exact absurd rfl h
    · rcases wrong_code ((Pr.rightB_iff g).1 hr) with ⟨h1, _⟩ | ⟨h1, h2⟩
      · exact absurd h1 hw
      · refine ⟨_, _, false, ofG_wrong hr hw, ?_, ?_, by rw [isEmpty_dec, decide_eq_false h2]⟩
        · rcases h1 with h1 | h1 <;> rw [h1] <;> rfl
        · rcases h1 with h1 | h1 <;> rw [h1] <;> rfl
  · exact ⟨1, [], true, ofG_bad (by simpa using hr), rfl, rfl, by rw [isEmpty_dec]; rfl⟩
theorem name_ne_all {g : Rd.G} (h : Pr.Right g) : ∀ n ∈ terms g ++ vars g, n ≠ [] := fun n hn => by
  rcases List.mem_append.1 hn with h1 | h1
  · exact terms_ne h n h1
  · exact name_ne (vars_ok h n h1)
theorem tok_sym {g : Rd.G} (h : Pr.Right g) {k : Nat} {t : Rd.Tok} (hk : g.toks[k]? = some t) : sym (terms g) (vars g) t.name = (k : Int) + 1 := by
  have h1 := sym_term (T := terms g) (V := vars g) (terms_nodup h) (k := k + 1) (n := t.name) (by unfold terms; simp [hk])
  omega
end Nm

set_option maxHeartbeats 8000000 in
theorem back8_law (v : Value) (G : Rd.G) (W : World) (hgs : GramC W W.heap.size v G ∧ Sz G) (hT : Tab W) (h0 : 1 < W.heap.size) :
    Calls Tryz.prog 6 #[v] W fun e w' => e = .returned (.bool true) ∧ Below W.heap.size W w' := by
  obtain ⟨hg, hs⟩ := hgs
  have HGC := Lib.hid hg
  have HSZ := Lib.hid (show ∀ v ∈ G.levels, v.names.length ≤ 140737488355328 from fun v hv => (hs.lev v hv).1)
  have HF := Lib.hid (show ∀ w', Below W.heap.size W w' → Calls Tryz.prog 11 #[v] w' fun e w'' => FewIs e (Pr.total G < 4611686018427387904) (Pr.fewB G) ∧ Below w'.heap.size w' w'' from fun w' hw' => few_any v G W.heap.size w' (hg.below hw') hw'.size hs)
  have HOF := Lib.hid (show (Pr.rightC G = true → (Pr.lvl G).length ≤ 10000) → ∀ w', Below W.heap.size W w' → Calls Tryz.prog 21 #[v] w' (OfIs G w') from fun hN w' hw' => of_any v G w' ((hg.below hw').mono hw'.size) hs (hT.below hw' h0) (Nat.lt_of_lt_of_le h0 hw'.size) hN)
  have HT := Lib.hid hT
  obtain ⟨E1, m1, f1, E2, m2, f2, E3, m3, f3, st, E4, m4, f4, rfl⟩ := gramC_form hg
  have HAT0 := Lib.hid (At.new W 27 #[.slice E1 m1 f1, .slice E2 m2 f2, .slice E3 m3 f3, .string st, .slice E4 m4 f4])
  have HB0 := Lib.hid ((Below.refl W.heap.size W).alloc (Nat.le_refl _) (.cells #[.slice E1 m1 f1, .slice E2 m2 f2, .slice E3 m3 f3, .string st, .slice E4 m4 f4] 27))
  have HT0 := Lib.hid (HT.out.below HB0.out h0)
  have hl0 : 1 < (W.alloc (.cells #[.slice E1 m1 f1, .slice E2 m2 f2, .slice E3 m3 f3, .string st, .slice E4 m4 f4] 27)).heap.size := Nat.lt_of_lt_of_le h0 HB0.out.size
  clear hg hs hT
  go_enter Tryz.func6, Tryz.ntmps6
  go_wp2_with fail
  refine (awake8_any _ HT0.out hl0).mono ?_
  rintro e w1 ⟨rfl, hb1⟩
  have HAT1 := Lib.hid (HAT0.out.below hb1 HAT0.out.lt)
  have HB1 := Lib.hid (HB0.out.trans (hb1.mono HB0.out.size))
  have ht1 := HAT1.out.lt
  clear hb1
  have x0 := HAT1.out.cell 0
  have x1 := HAT1.out.cell 1
  have x2 := HAT1.out.cell 2
  have x3 := HAT1.out.cell 3
  have x4 := HAT1.out.cell 4
  simp only [List.getElem?_toArray, List.getElem?_cons_zero, List.getElem?_cons_succ] at x0 x1 x2 x3 x4
  go_wp2_with fail
  refine (HF.out _ HB1.out).mono ?_
  rintro e w2 ⟨⟨⟨bf, rfl, hbf⟩⟩, hb2⟩
  have HAT2 := Lib.hid (HAT1.out.below hb2 HAT1.out.lt)
  have HB2 := Lib.hid (HB1.out.trans (hb2.mono HB1.out.size))
  have ht2 := HAT2.out.lt
  clear hb2 x0 x1 x2 x3 x4
  have y0 := HAT2.out.cell 0
  have y1 := HAT2.out.cell 1
  have y2 := HAT2.out.cell 2
  have y3 := HAT2.out.cell 3
  have y4 := HAT2.out.cell 4
  simp only [List.getElem?_toArray, List.getElem?_cons_zero, List.getElem?_cons_succ] at y0 y1 y2 y3 y4
  cases bf with
  | false =>
    go_wp2_with fail
    go_ret
    exact ⟨rfl, HB2.out⟩
  | true =>
    have HN := Lib.hid (show Pr.rightC G = true → (Pr.lvl G).length ≤ 10000 from fun hc => by have h1 := Pr.small_right hc HSZ.out; have h2 := Pr.few_lvl (hbf h1).symm; omega)
    clear hbf
    go_wp2_with fail
    by_cases hz : (Nm.ofG G).2.1 = 0
    rotate_left
    · obtain ⟨c, n, b, he, hc1, hc2, hc3⟩ := Nm.ofG_no hz
      clear hz
      refine (of_err (HOF.out HN.out _ HB2.out) he).mono ?_
      rintro e w3 ⟨⟨B1, d1, B2, d2, B3, d3, B4, d4, B5, d5, B6, d6, rfl⟩, hb3⟩
      have hE := At.new w3 45 #[.slice B1 0 d1, .slice B2 0 d2, .slice B3 0 d3, .slice B4 0 d4, .slice B5 0 d5, .slice B6 0 d6]
      have z0 := hE.cell 0
      have z1 := hE.cell 1
      have z2 := hE.cell 2
      have z3 := hE.cell 3
      have z4 := hE.cell 4
      have z5 := hE.cell 5
      simp only [List.getElem?_toArray, List.getElem?_cons_zero, List.getElem?_cons_succ] at z0 z1 z2 z3 z4 z5
      have HB4 := Lib.hid ((HB2.out.trans (hb3.mono HB2.out.size)).alloc (HB2.out.trans (hb3.mono HB2.out.size)).size (.cells #[.slice B1 0 d1, .slice B2 0 d2, .slice B3 0 d3, .slice B4 0 d4, .slice B5 0 d5, .slice B6 0 d6] 45))
      clear hE hb3 he
      cases b <;> (go_wp2_with fail; go_ret; exact ⟨rfl, HB4.out⟩)
    · obtain ⟨he, hfine⟩ := Nm.ofG_ok hz
      have HFI := Lib.hid hfine
      clear hz hfine
      refine (of_ok (HOF.out HN.out _ HB2.out) he).mono ?_
      rintro e w3 ⟨⟨pv, rfl, hp⟩, hb3⟩
      have HP := Lib.hid hp
      have b1 : G.toks.length ≤ 1000 := Nat.le_trans HFI.out.right.ntok (by decide)
      have b4 : G.rules.length ≤ 1000 := Nat.le_trans HFI.out.right.nrule (by decide)
      have b3 : G.levels.length ≤ 1000 := Nat.le_trans HFI.out.right.nlev (by decide)
      have hTl : (Nm.plan G).terms.length ≤ 1001 := by show (Nm.terms G).length ≤ 1001; rw [Nm.terms_len]; omega
      have hVl : (Nm.plan G).vars.length ≤ 1000 := by show (Nm.vars G).length ≤ 1000; exact Nat.le_trans Nm.vars_len b4
      obtain ⟨A1, c1, A2, c2, A3, c3, A4, c4, A5, c5, A6, c6, rfl, _⟩ := hp.ex
      have HNM := Lib.hid (fun (i : Int) w' (hw' : Below w3.heap.size w3 w') => name8_any _ _ _ i w3.heap.size w' (HP.out.sym.below hw') hw'.size (by omega) (by omega))
      have HSY := Lib.hid (fun (n : Rd.Name) w' (hw' : Below w3.heap.size w3 w') => sym_any _ _ _ n w3.heap.size w' (HP.out.sym.below hw') hw'.size (by omega) (by omega))
      have HAC := Lib.hid (fun w' (hw' : Below w3.heap.size w3 w') => accept_any _ _ _ w3.heap.size w' (HP.out.sym.below hw') (by omega) (by omega))
      have HTL := Lib.hid (show (Nm.plan G).terms.length = G.toks.length + 1 from Nm.terms_len)
      have HTV := Lib.hid (show (Nm.plan G).terms = Nm.terms G ∧ (Nm.plan G).vars = Nm.vars G from ⟨rfl, rfl⟩)
      have HRL := Lib.hid (show (Nm.plan G).rules.length = G.rules.length + 1 ∧ (Nm.plan G).levels.length = (Nm.plan G).terms.length ∧ (Nm.plan G).assocs.length = G.levels.length + 1 ∧ (Nm.plan G).acts.length = G.rules.length + 1 by unfold Nm.plan Nm.levelsG; simp)
      generalize hN1 : (Nm.plan G).terms.length = t1 at hTl HNM HSY HAC HTL HRL ⊢
      generalize hN2 : (Nm.plan G).vars.length = t2 at hVl HNM HSY HAC ⊢
      have HN1 := Lib.hid hN1
      have HN2 := Lib.hid hN2
      clear hN1 hN2
      generalize (Nm.plan G).rules.length = t3 at HNM HSY HAC HRL ⊢
      generalize (Nm.plan G).levels.length = t4 at HNM HSY HAC HRL ⊢
      generalize (Nm.plan G).assocs.length = t5 at HNM HSY HAC HRL ⊢
      generalize (Nm.plan G).acts.length = t6 at HNM HSY HAC HRL ⊢
      have hPA := At.new w3 45 #[.slice A1 t1 c1, .slice A2 t2 c2, .slice A3 t3 c3, .slice A4 t4 c4, .slice A5 t5 c5, .slice A6 t6 c6]
      have hb34 := hb3.alloc hb3.size (.cells #[.slice A1 t1 c1, .slice A2 t2 c2, .slice A3 t3 c3, .slice A4 t4 c4, .slice A5 t5 c5, .slice A6 t6 c6] 45)
      have hb4 := (Below.refl w3.heap.size w3).alloc (Nat.le_refl _) (.cells #[.slice A1 t1 c1, .slice A2 t2 c2, .slice A3 t3 c3, .slice A4 t4 c4, .slice A5 t5 c5, .slice A6 t6 c6] 45)
      obtain ⟨w4, hw4⟩ : ∃ w4, w3.alloc (.cells #[.slice A1 t1 c1, .slice A2 t2 c2, .slice A3 t3 c3, .slice A4 t4 c4, .slice A5 t5 c5, .slice A6 t6 c6] 45) = w4 := ⟨_, rfl⟩
      rw [hw4] at hPA hb34 hb4
      obtain ⟨g5, hg5⟩ : ∃ g, w3.heap.size = g := ⟨_, rfl⟩
      have HG5 := Lib.hid hg5
      have HW4 := Lib.hid hw4
      rw [hg5] at hPA
      have HPA := Lib.hid hPA
      have HC4 := Lib.hid hb4
      have HB4 := Lib.hid (HB2.out.trans (hb34.mono HB2.out.size))
      obtain ⟨g0, hg0⟩ : ∃ g, W.heap.size = g := ⟨_, rfl⟩
      have hga := HAT2.out.below hb34 HAT2.out.lt
      rw [hg0] at hga y0 y1 y2 y3 y4 ⊢
      have HG0 := Lib.hid hg0
      have HGA := Lib.hid hga
      have hz0 : ∀ j, (w3.alloc (.cells #[.slice A1 t1 c1, .slice A2 t2 c2, .slice A3 t3 c3, .slice A4 t4 c4, .slice A5 t5 c5, .slice A6 t6 c6] 45)).cell? ⟨w3.heap.size, j, none⟩ = (#[.slice A1 t1 c1, .slice A2 t2 c2, .slice A3 t3 c3, .slice A4 t4 c4, .slice A5 t5 c5, .slice A6 t6 c6] : Array Value)[j]? := fun j => by rw [hw4, hg5]; exact hPA.cell j
      have p0 := hz0 0
      have p1 := hz0 1
      have p2 := hz0 2
      have p3 := hz0 3
      have p4 := hz0 4
      have p5 := hz0 5
      simp only [List.getElem?_toArray, List.getElem?_cons_zero, List.getElem?_cons_succ] at p0 p1 p2 p3 p4 p5
      clear hz0 hPA hb34 hb4 hw4 hga hb3 hp he y0 y1 y2 y3 y4 hg5 hg0
      go_wp2_with fail
      rw [HW4.out, HG5.out]
      clear p0 p1 p2 p3 p4 p5
      refine (HAC.out _ HC4.out).mono ?_
      rintro e w5 ⟨rfl, hb5⟩
      have HPA5 := Lib.hid (HPA.out.below hb5 HPA.out.lt)
      have HGA5 := Lib.hid (HGA.out.below hb5 HGA.out.lt)
      have HC5 := Lib.hid (HC4.out.trans (hb5.mono HC4.out.size))
      have HB5 := Lib.hid (HB4.out.trans (hb5.mono HB4.out.size))
      clear hb5 HC4 HB4 HPA HGA
      go_wp2_with fail
      go_loopw [9] (fun i wr => ∃ (k : Nat), k ≤ t1 + t2 ∧ i = .int .i64 (k : Int) ∧ Below w5.heap.size w5 wr) (fun i _ => t1 + t2 - (intOf i).toNat)
      case atStart => exact ⟨0, by omega, rfl, Below.refl _ _⟩
      case round =>
        obtain ⟨k, hk, rfl, hbr⟩ := hrel
        have HBR := Lib.hid hbr
        have HPr := HPA5.out.below hbr HPA5.out.lt
        have HPR := Lib.hid HPr
        have p0 := HPr.cell 0
        have p1 := HPr.cell 1
        have p2 := HPr.cell 2
        have p3 := HPr.cell 3
        have p4 := HPr.cell 4
        have p5 := HPr.cell 5
        simp only [List.getElem?_toArray, List.getElem?_cons_zero, List.getElem?_cons_succ] at p0 p1 p2 p3 p4 p5
        clear hbr HPr
        by_cases hlt : k < t1 + t2
        · have hlt2 : (k : Int) < (t1 : Int) + (t2 : Int) := by omega
          have hsn := Nm.sym_name (T := Nm.terms G) (V := Nm.vars G) (Nm.terms_nodup HFI.out.right) Nm.vars_nodup (Nm.apart_all HFI.out) k (by rw [← HTV.out.1, ← HTV.out.2, HN1.out, HN2.out]; exact hlt2)
          have hne := Nm.name_ne_all HFI.out.right _ hsn.2
          rw [← HTV.out.1, ← HTV.out.2] at hsn hne
          have HNK := Lib.hid (HNM.out (k : Int))
          generalize Nm.nameAt (Nm.plan G).terms (Nm.plan G).vars (k : Int) = X at hsn hne HNK
          have HSK := Lib.hid (HSY.out X)
          rw [hsn.1] at HSK
          have hem : (str X).toList.isEmpty = false := by rw [isEmpty_dec, decide_eq_false hne]
          clear hsn hne
          go_wp2_with fail
          refine (HNK.out _ (HC5.out.trans (HBR.out.mono HC5.out.size))).mono ?_
          rintro e w6 ⟨rfl, hb6⟩
          have HB6 := Lib.hid (HBR.out.trans (hb6.mono HBR.out.size))
          have HP6 := HPR.out.below hb6 HPR.out.lt
          have q0 := HP6.cell 0
          have q1 := HP6.cell 1
          have q2 := HP6.cell 2
          have q3 := HP6.cell 3
          have q4 := HP6.cell 4
          have q5 := HP6.cell 5
          simp only [List.getElem?_toArray, List.getElem?_cons_zero, List.getElem?_cons_succ] at q0 q1 q2 q3 q4 q5
          clear hb6 HP6 p0 p1 p2 p3 p4 p5
          go_wp2_with fail
          refine (HSK.out _ (HC5.out.trans (HB6.out.mono HC5.out.size))).mono ?_
          rintro e w7 ⟨rfl, hb7⟩
          have HB7 := Lib.hid (HB6.out.trans (hb7.mono HB6.out.size))
          clear hb7 q0 q1 q2 q3 q4 q5
          go_wp2_with fail
          go_roundw
          case rel => exact ⟨k + 1, by omega, by go_num, HB7.out⟩
          case measure => simp [intOf]; omega
        · obtain rfl : k = t1 + t2 := by omega
          have hge : ¬ (((t1 + t2 : Nat) : Int) < (t1 : Int) + (t2 : Int)) := by omega
          go_wp2_with fail
          have HGr := HGA5.out.below HBR.out HGA5.out.lt
          have HG9 := Lib.hid HGr
          have HP9 := Lib.hid HPR.out
          have HB9 := Lib.hid (HB5.out.trans (HBR.out.mono HB5.out.size))
          have HC9 := Lib.hid (HC5.out.trans (HBR.out.mono HC5.out.size))
          have hm1 : G.toks.length = m1 := by
            obtain ⟨_, _, _, _, _, _, _, _, _, _, e, _⟩ := HGC.out.ex
            simp only [Value.agg.injEq, Array.mk.injEq, List.cons.injEq, Value.slice.injEq] at e
            exact e.1.2.1.symm
          have hE1 : Cl W W.heap.size E1 (toksV G.toks) := by
            obtain ⟨_, _, _, _, _, _, _, _, _, _, e, h, _⟩ := HGC.out.ex
            simp only [Value.agg.injEq, Array.mk.injEq, List.cons.injEq, Value.slice.injEq] at e
            rw [e.1.1]; exact h
          have HM1 := Lib.hid hm1
          have hm1000 : m1 ≤ 1000 := by rw [← hm1]; exact b1
          have HE1 := Lib.hid hE1
          clear HGr hm1 hE1 p0 p1 p2 p3 p4 p5 hge HBR HPR HGA5 HPA5 HC5 HB5
          obtain ⟨wv, hwv⟩ : ∃ x, wr = x := ⟨_, rfl⟩
          rw [hwv] at HG9 HP9 HB9 HC9 ⊢
          clear hwv
          go_loopw [11] (fun i w9 => ∃ (k : Nat), k ≤ m1 ∧ i = .int .i64 (k : Int) ∧ Below wv.heap.size wv w9) (fun i _ => m1 - (intOf i).toNat)
          case atStart => exact ⟨0, by omega, rfl, Below.refl _ _⟩
          case round =>
            obtain ⟨k, hk, rfl, hbr⟩ := hrel
            have HBR := Lib.hid hbr
            have hpr := HP9.out.below hbr HP9.out.lt
            have hgr := HG9.out.below hbr HG9.out.lt
            have p0 := hpr.cell 0
            have p1 := hpr.cell 1
            have p2 := hpr.cell 2
            have p3 := hpr.cell 3
            have p4 := hpr.cell 4
            have p5 := hpr.cell 5
            simp only [List.getElem?_toArray, List.getElem?_cons_zero, List.getElem?_cons_succ] at p0 p1 p2 p3 p4 p5
            have x0 := hgr.cell 0
            have x1 := hgr.cell 1
            have x2 := hgr.cell 2
            have x3 := hgr.cell 3
            have x4 := hgr.cell 4
            simp only [List.getElem?_toArray, List.getElem?_cons_zero, List.getElem?_cons_succ] at x0 x1 x2 x3 x4
            have HPR := Lib.hid hpr
            have HGR := Lib.hid hgr
            clear hbr hpr hgr
            by_cases hlt : k < m1
            · have hlt2 : (k : Int) < (m1 : Int) := by omega
              have hk0 : (0 : Int) ≤ (k : Int) := by omega
              obtain ⟨x, ht⟩ := some_get (l := G.toks) (i := k) (by rw [HM1.out]; exact hlt)
              have hsy := Nm.tok_sym HFI.out.right ht
              rw [← HTV.out.1, ← HTV.out.2] at hsy
              obtain ⟨b, o, hA, hbl, t0, _⟩ := tok_get (HE1.out.below (HB9.out.trans (HBR.out.mono HB9.out.size))) ht
              subst hA
              have HSK := Lib.hid (HSY.out x.name)
              rw [hsy] at HSK
              generalize str x.name = X0 at t0 HSK
              have HCR := Lib.hid (HC9.out.trans (HBR.out.mono HC9.out.size))
              clear ht hsy
              go_wp2_with fail
              have HCUR := Lib.hid (Below.refl wr.heap.size wr)
              have KEEP := Lib.hid (show ∀ w', Below wr.heap.size wr w' → (w'.cell? ⟨g5, 0, none⟩ = some (.slice A1 t1 c1) ∧ w'.cell? ⟨g5, 1, none⟩ = some (.slice A2 t2 c2) ∧ w'.cell? ⟨g5, 2, none⟩ = some (.slice A3 t3 c3) ∧ w'.cell? ⟨g5, 3, none⟩ = some (.slice A4 t4 c4) ∧ w'.cell? ⟨g5, 4, none⟩ = some (.slice A5 t5 c5) ∧ w'.cell? ⟨g5, 5, none⟩ = some (.slice A6 t6 c6) ∧ w'.cell? ⟨g0, 0, none⟩ = some (.slice (some ⟨b, o, none⟩) m1 f1) ∧ w'.cell? ⟨b, o + k * 4, none⟩ = some (.string X0)) from fun w' hb => ⟨cell_keep p0 hb, cell_keep p1 hb, cell_keep p2 hb, cell_keep p3 hb, cell_keep p4 hb, cell_keep p5 hb, cell_keep x0 hb, cell_keep t0 hb⟩)
              have hkk := KEEP.out wr HCUR.out
              go_region_held3 (fun w' => w'.cell? ⟨g5, 0, none⟩ = some (.slice A1 t1 c1) ∧ w'.cell? ⟨g5, 1, none⟩ = some (.slice A2 t2 c2) ∧ w'.cell? ⟨g5, 2, none⟩ = some (.slice A3 t3 c3) ∧ w'.cell? ⟨g5, 3, none⟩ = some (.slice A4 t4 c4) ∧ w'.cell? ⟨g5, 4, none⟩ = some (.slice A5 t5 c5) ∧ w'.cell? ⟨g5, 5, none⟩ = some (.slice A6 t6 c6) ∧ w'.cell? ⟨g0, 0, none⟩ = some (.slice (some ⟨b, o, none⟩) m1 f1) ∧ w'.cell? ⟨b, o + k * 4, none⟩ = some (.string X0)) (first | exact hkk | exact KEEP.out _ HCUR.out | exact KEEP.out _ (below_drew HCUR.out)) (first
                | (go_at_call 33
                   (first
                     | (refine Calls.mono (HSK.out _ (HCR.out.trans (HCUR.out.mono HCR.out.size))) ?_
                        rintro e wz ⟨rfl, hbz⟩
                        have HCUR2 := Lib.hid (HCUR.out.trans (hbz.mono HCUR.out.size)))
                     | (refine Calls.mono (HSK.out _ (HCR.out.trans ((below_drew HCUR.out).mono HCR.out.size))) ?_
                        rintro e wz ⟨rfl, hbz⟩
                        have HCUR2 := Lib.hid ((below_drew HCUR.out).trans (hbz.mono (below_drew HCUR.out).size))))
                   have hkk := KEEP.out _ HCUR2.out
                   clear HCUR hbz
                   have HCUR := HCUR2
                   clear HCUR2))
              rw [show IntKind.i64.wrap ((k : Int) + 1) = (k : Int) + 1 from by rw [IntKind.wrap_i64]; omega, show (((k : Int) + 1) != ((k : Int) + 1)) = false by simp]
              have HQ := Lib.hid (HBR.out.trans (HCUR.out.mono HBR.out.size))
              clear HCUR KEEP hkk p0 p1 p2 p3 p4 p5 x0 x1 x2 x3 x4 t0
              go_wp2_with fail
              exact ⟨⟨k + 1, by omega, by go_num, HQ.out⟩, by simp [intOf]; omega⟩
            · obtain rfl : k = m1 := by omega
              have HNZ := Lib.hid (HNM.out 0)
              have HNA := Lib.hid (HNM.out ((t1 : Int) + (t2 : Int)))
              have hn0 : Nm.nameAt (Nm.plan G).terms (Nm.plan G).vars 0 = [36, 101, 110, 100] := by
                unfold Nm.nameAt
                rw [if_neg (by rw [HN1.out, HN2.out]; omega), if_neg (by rw [HN1.out, HN2.out]; have := HTL.out; omega), if_pos (by rw [HN1.out]; have := HTL.out; omega)]
                rfl
              have hna : Nm.nameAt (Nm.plan G).terms (Nm.plan G).vars ((t1 : Int) + (t2 : Int)) = [36, 97, 99, 99, 101, 112, 116] := by
                unfold Nm.nameAt
                rw [if_neg (by rw [HN1.out, HN2.out]; omega), if_pos (by rw [HN1.out, HN2.out])]
                rfl
              rw [hn0] at HNZ
              rw [hna] at HNA
              have s1 : ((str [36, 101, 110, 100]).toList == [36, 101, 110, 100]) = true := by rw [toList_eq, bl_str]; rfl
              have s2 : ((str [36, 97, 99, 99, 101, 112, 116]).toList == [36, 97, 99, 99, 101, 112, 116]) = true := by rw [toList_eq, bl_str]; rfl
              have htl : ((t1 : Int) == (k : Int) + 1) = true := by rw [beq_iff_eq]; have := HTL.out; have := HM1.out; omega
              clear hn0 hna
              go_wp2_with fail
              refine (HNZ.out _ (HC9.out.trans (HBR.out.mono HC9.out.size))).mono ?_
              rintro e w6 ⟨rfl, hb6⟩
              have HB6 := Lib.hid (HBR.out.trans (hb6.mono HBR.out.size))
              have hp6 := HPR.out.below hb6 HPR.out.lt
              have hg6 := HGR.out.below hb6 HGR.out.lt
              have HP6 := Lib.hid hp6
              have HG6 := Lib.hid hg6
              clear p0 p1 p2 p3 p4 p5 x0 x1 x2 x3 x4
              have q0 := hp6.cell 0
              have q1 := hp6.cell 1
              have q2 := hp6.cell 2
              have q3 := hp6.cell 3
              have q4 := hp6.cell 4
              have q5 := hp6.cell 5
              simp only [List.getElem?_toArray, List.getElem?_cons_zero, List.getElem?_cons_succ] at q0 q1 q2 q3 q4 q5
              clear hb6 hp6 hg6
              go_wp2_with fail
              refine (HNA.out _ (HC9.out.trans (HB6.out.mono HC9.out.size))).mono ?_
              rintro e w7 ⟨rfl, hb7⟩
              have HB7 := Lib.hid (HB6.out.trans (hb7.mono HB6.out.size))
              have hp7 := HP6.out.below hb7 HP6.out.lt
              have hg7 := HG6.out.below hb7 HG6.out.lt
              clear q0 q1 q2 q3 q4 q5
              have p0 := hp7.cell 0
              have p1 := hp7.cell 1
              have p2 := hp7.cell 2
              have p3 := hp7.cell 3
              have p4 := hp7.cell 4
              have p5 := hp7.cell 5
              simp only [List.getElem?_toArray, List.getElem?_cons_zero, List.getElem?_cons_succ] at p0 p1 p2 p3 p4 p5
              have x0 := hg7.cell 0
              have x1 := hg7.cell 1
              have x2 := hg7.cell 2
              have x3 := hg7.cell 3
              have x4 := hg7.cell 4
              simp only [List.getElem?_toArray, List.getElem?_cons_zero, List.getElem?_cons_succ] at x0 x1 x2 x3 x4
              clear hb7 hp7 hg7
              go_wp2_with fail
              go_ret
              exact ⟨rfl, HB9.out.trans (HB7.out.mono HB9.out.size)⟩

end Go.Proofs.YtlflbkhghifelaaGreatDoor
