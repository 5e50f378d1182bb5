import Derived.Test.YtccndcebbjipnaaGreatDoorT45
import Derived.Test.YtccndcebbjipnaaGreatDoorT44
import Derived.Test.YtccndcebbjipnaaGreatDoorT46
import Derived.Test.YtccndcebbjipnaaGreatDoorT47
import Derived.Test.YtccndcebbjipnaaGreatDoorT43
import Derived.Test.YtccndcebbjipnaaGreatDoorT48
import Derived.BigQuiet
import Derived.Deep.QuietTactic
namespace Go.Proofs.YtccndcebbjipnaaGreatDoor
open Go.RowKit
open Lx
set_option linter.unusedVariables false
set_option linter.unusedSimpArgs false
set_option maxRecDepth 100000
theorem wrap_small (a : Nat) (h : a ≤ 2000) : wrap64 (a : Int) = (a : Int) := IntWalk.wrap64_in _ (by omega)
structure Told8 (wt : World) (gp : Nat) (pv : Value) (cs : Array Value) (P : Nm.Plan) (G : World → World) : Prop where
 cls : Qt.Class wt.heap.size wt G
 at_ : At wt gp 45 cs
 pl : PlanL wt pv P
 sz : PSz P
section
variable {wt : World} {gp : Nat} {pv : Value} {cs : Array Value} {P : Nm.Plan} {G : World → World}
theorem Told8.plan (h : Told8 wt gp pv cs P G) (x : World) : PlanC (G x) (G x).heap.size pv P := (h.pl.below (h.cls.below x)).planC
theorem Told8.name (h : Told8 wt gp pv cs P G) (i : Int) : ∀ x, Calls Tryz.prog 23 #[pv, .int .i64 i] (G x) fun e w'' => e = .returned (.string (str (Nm.nameAt P.terms P.vars i))) ∧ ∃ y, w'' = G y :=
 Qt.calls_at h.cls fun x => name8_any _ _ _ i _ _ (h.plan x).sym (Nat.le_refl _) (by have := h.sz.t; omega) (by have := h.sz.v; omega)
theorem Told8.rname (h : Told8 wt gp pv cs P G) (i : Int) : ∀ x, Calls Tryz.prog 24 #[pv, .int .i64 i] (G x) fun e w'' => e = .returned (.string (str (Nm.nameAt P.terms P.vars i))) ∧ ∃ y, w'' = G y :=
 Qt.calls_at h.cls fun x => rname8_any _ _ _ i _ _ (h.plan x).sym (Nat.le_refl _) (by have := h.sz.t; omega) (by have := h.sz.v; omega)
theorem Told8.term (h : Told8 wt gp pv cs P G) (i : Int) : ∀ x, Calls Tryz.prog 25 #[pv, .int .i64 i] (G x) fun e w'' => e = .returned (.bool (decide (0 ≤ i ∧ i < (P.terms.length : Int)))) ∧ ∃ y, w'' = G y :=
 Qt.calls_at h.cls fun x => term_any _ _ _ i _ _ (h.plan x).sym (by have := h.sz.t; omega)
theorem Told8.show (h : Told8 wt gp pv cs P G) (i : Int) : ∀ x, Calls Tryz.prog 26 #[pv, .int .i64 i] (G x) fun e w'' => e = .returned (.string (str (Nm.showT P i))) ∧ ∃ y, w'' = G y :=
 Qt.calls_at h.cls fun x => show_any _ _ i _ _ (h.plan x) (Nat.le_refl _) h.sz
theorem Told8.rshow (h : Told8 wt gp pv cs P G) (i : Int) : ∀ x, Calls Tryz.prog 27 #[pv, .int .i64 i] (G x) fun e w'' => e = .returned (.string (str (Nm.showT P i))) ∧ ∃ y, w'' = G y :=
 Qt.calls_at h.cls fun x => rshow_any _ _ i _ _ (h.plan x) (Nat.le_refl _) h.sz
theorem Told8.accept (h : Told8 wt gp pv cs P G) : ∀ x, Calls Tryz.prog 28 #[pv] (G x) fun e w'' => e = .returned (.int .i64 ((P.terms.length : Int) + (P.vars.length : Int))) ∧ ∃ y, w'' = G y :=
 Qt.calls_at h.cls fun x => accept_any _ _ _ _ _ (h.plan x).sym (by have := h.sz.t; omega) (by have := h.sz.v; omega)
theorem Told8.sym (h : Told8 wt gp pv cs P G) (n : ByteArray) : ∀ x, Calls Tryz.prog 29 #[pv, .string n] (G x) fun e w'' => e = .returned (.int .i64 (Nm.sym P.terms P.vars (bl n))) ∧ ∃ y, w'' = G y :=
 Qt.calls_at h.cls fun x => sym_any _ _ _ (bl n) _ _ (h.plan x).sym (Nat.le_refl _) (by have := h.sz.t; omega) (by have := h.sz.v; omega)
theorem Told8.rsym (h : Told8 wt gp pv cs P G) (n : ByteArray) : ∀ x, Calls Tryz.prog 30 #[pv, .string n] (G x) fun e w'' => e = .returned (.int .i64 (Nm.sym P.terms P.vars (bl n))) ∧ ∃ y, w'' = G y :=
 Qt.calls_at h.cls fun x => rsym_any _ _ _ (bl n) _ _ (h.plan x).sym (Nat.le_refl _) (by have := h.sz.t; omega) (by have := h.sz.v; omega)
end
set_option maxHeartbeats 32000000 in
theorem tell8_law (v : Value) (s : Sm.S) (t : ByteArray) (ht : t.size ≤ 9223372036854775807) (n : Int) (hn : -9223372036854775808 ≤ n ∧ n ≤ 9223372036854775807) (nm : ByteArray) (hnm : nm.size ≤ 9223372036854775807) (W : World) (hgs : SmallC W W.heap.size v s ∧ SmSz s) (hT : Tab W) (h0 : 1 < W.heap.size) :
  Calls Tryz.prog 5 #[v, .string t, .int .i64 n, .string nm] W fun e w' => e = .returned (.bool true) ∧ Below W.heap.size W w' := by
 obtain ⟨hg, hs⟩ := hgs
 have HFEW := Lib.hid (show ∀ w', Below W.heap.size W w' → Calls Tryz.prog 20 #[v, .int .i64 20, .int .i64 8] w' fun e w'' => e = .returned (.bool (Sm.few s 20 8)) ∧ Below w'.heap.size w' w'' from fun w' hw' => sfew_any v s 20 8 W.heap.size w' (hg.below hw') hw'.size hs (by decide) (by decide))
 have HPLN := Lib.hid (fun (hl5 : Sm.nl s ≤ 5) (h20 : s.lefts.length ≤ 20) (h8 : ∀ l ∈ s.rights, l.length ≤ 8) (w' : World) (hw' : Below W.heap.size W w') => splan_any v s W.heap.size w' (hg.below hw') hw'.size hs hl5 h20 h8)
 have HT := Lib.hid hT
 obtain ⟨x1, x2, E1, m1, f1, E2, m2, f2, E3, m3, f3, E4, m4, f4, E5, m5, f5, rfl⟩ := small_form hg
 have HAT0 := Lib.hid (At.new W 52 #[.int .u8 x1, .int .u8 x2, .slice E1 m1 f1, .slice E2 m2 f2, .slice E3 m3 f3, .slice E4 m4 f4, .slice E5 m5 f5])
 have HB0 := Lib.hid ((Below.refl W.heap.size W).alloc (Nat.le_refl _) (.cells #[.int .u8 x1, .int .u8 x2, .slice E1 m1 f1, .slice E2 m2 f2, .slice E3 m3 f3, .slice E4 m4 f4, .slice E5 m5 f5] 52))
 have HT0 := Lib.hid (HT.out.below HB0.out h0)
 have hl0 : 1 < (W.alloc (.cells #[.int .u8 x1, .int .u8 x2, .slice E1 m1 f1, .slice E2 m2 f2, .slice E3 m3 f3, .slice E4 m4 f4, .slice E5 m5 f5] 52)).heap.size := Nat.lt_of_lt_of_le h0 HB0.out.size
 clear hg hs hT
 go_enter Tryz.func5, Tryz.ntmps5
 go_wp2_with fail
 refine (awake8_any _ HT0.out hl0).mono ?_
 rintro e w1 ⟨rfl, hb1⟩
 have HAT1 := Lib.hid (HAT0.out.below hb1 HAT0.out.lt)
 have HB1 := Lib.hid (HB0.out.trans (hb1.mono HB0.out.size))
 have ht1 := HAT1.out.lt
 clear hb1 hl0 HT0
 have x0 := HAT1.out.cell 0
 have x1' := HAT1.out.cell 1
 have x2' := HAT1.out.cell 2
 have x3 := HAT1.out.cell 3
 have x4 := HAT1.out.cell 4
 have x5 := HAT1.out.cell 5
 have x6 := HAT1.out.cell 6
 simp only [List.getElem?_toArray, List.getElem?_cons_zero, List.getElem?_cons_succ] at x0 x1' x2' x3 x4 x5 x6
 go_wp2_with fail
 refine (HFEW.out w1 HB1.out).mono ?_
 rintro e w2 ⟨rfl, hb2⟩
 have HAT2 := Lib.hid (HAT1.out.below hb2 ht1)
 have HB2 := Lib.hid (HB1.out.trans (hb2.mono HB1.out.size))
 clear hb2 x0 x1' x2' x3 x4 x5 x6 ht1 HAT1
 cases hfew : Sm.few s 20 8 with
 | false =>
  go_wp2_with fail
  go_ret
  exact ⟨rfl, HB2.out⟩
 | true =>
  obtain ⟨h20, hl5, h8⟩ := Sm.few_parts hfew
  have HPL := Lib.hid (HPLN.out hl5 h20 h8)
  have HSP := Lib.hid (plan_sz (Sm.fine_gram hl5 h20 h8))
  clear hfew h20 hl5 h8 HPLN
  by_cases h600 : (600 : Int) < (t.size : Int)
  ·go_wp2_with fail
   go_ret
   exact ⟨rfl, HB2.out⟩
  by_cases h100 : (100 : Int) < (nm.size : Int)
  ·go_wp2_with fail
   go_ret
   exact ⟨rfl, HB2.out⟩
  have x0 := HAT2.out.cell 0
  have x1' := HAT2.out.cell 1
  have x2' := HAT2.out.cell 2
  have x3 := HAT2.out.cell 3
  have x4 := HAT2.out.cell 4
  have x5 := HAT2.out.cell 5
  have x6 := HAT2.out.cell 6
  simp only [List.getElem?_toArray, List.getElem?_cons_zero, List.getElem?_cons_succ] at x0 x1' x2' x3 x4 x5 x6
  go_wp2_with fail
  refine (HPL.out w2 HB2.out).mono ?_
  rintro e w3 ⟨⟨pv, rfl, hpl⟩, hb3⟩
  obtain ⟨P, hP⟩ : ∃ P, Nm.plan (Sm.gram s) = P := ⟨_, rfl⟩
  rw [hP] at hpl HSP
  obtain ⟨A1, c1, A2, c2, A3, c3, A4, c4, A5, c5, A6, c6, rfl⟩ := hpl.form
  have hbn := (Below.refl w3.heap.size w3).alloc (Nat.le_refl _) (.cells #[.slice A1 P.terms.length c1, .slice A2 P.vars.length c2, .slice A3 P.rules.length c3, .slice A4 P.levels.length c4, .slice A5 P.assocs.length c5, .slice A6 P.acts.length c6] 45)
  have HB4 := Lib.hid ((HB2.out.trans (hb3.mono HB2.out.size)).trans (hbn.mono (Nat.le_trans HB2.out.size hb3.size)))
  have HA4 := Lib.hid (At.new w3 45 #[.slice A1 P.terms.length c1, .slice A2 P.vars.length c2, .slice A3 P.rules.length c3, .slice A4 P.levels.length c4, .slice A5 P.assocs.length c5, .slice A6 P.acts.length c6])
  have HL4 := Lib.hid (hpl.below hbn)
  obtain ⟨w4, hw4⟩ : ∃ w4, w3.alloc (.cells #[.slice A1 P.terms.length c1, .slice A2 P.vars.length c2, .slice A3 P.rules.length c3, .slice A4 P.levels.length c4, .slice A5 P.assocs.length c5, .slice A6 P.acts.length c6] 45) = w4 := ⟨_, rfl⟩
  rw [hw4] at HB4 HA4 HL4
  have HW4 := Lib.hid hw4
  obtain ⟨gp, hgp⟩ : ∃ g, w3.heap.size = g := ⟨_, rfl⟩
  rw [hgp] at HA4
  have HGP := Lib.hid hgp
  have HLOW := Lib.hid (show W.heap.size ≤ gp from by rw [← hgp]; exact Nat.le_trans HB2.out.size hb3.size)
  clear hw4 hgp hpl hbn hb3 hP x0 x1' x2' x3 x4 x5 x6 HAT2
  have HT4 := Lib.hid (HT.out.below HB4.out h0)
  have hl4 : 1 < w4.heap.size := Nat.lt_of_lt_of_le h0 HB4.out.size
  go_wp2_with fail
  rw [HW4.out, HGP.out]
  go_wp2_with fail
  refine (read_any t w4 ht HT4.out hl4).mono ?_
  rintro e w5 ⟨⟨gv, rfl, hgi⟩, hb5⟩
  obtain ⟨F1, n1, k1, F2, n2, k2, F3, n3, k3, st, F4, n4, k4, rfl⟩ := gram_form8 hgi
  obtain ⟨D1, D2, D3, hD⟩ : ∃ a b c, Rd.readD (bl t) = (a, b, c) := ⟨_, _, _, rfl⟩
  rw [hD, show diagV (D1, D2, D3) = .agg #[.int .i64 (D1 : Int), .int .i64 (D2 : Int), .int .i64 (D3 : Int)] from rfl]
  obtain ⟨hg6, hd6, hbn⟩ := two_new w5 #[.slice F1 n1 k1, .slice F2 n2 k2, .slice F3 n3 k3, .string st, .slice F4 n4 k4] #[.int .i64 (D1 : Int), .int .i64 (D2 : Int), .int .i64 (D3 : Int)]
  have hb45 := hb5.trans (hbn.mono hb5.size)
  have HGI := Lib.hid hgi
  have HBN := Lib.hid hbn
  have HA5 := Lib.hid (HA4.out.below hb5 HA4.out.lt)
  have HB6 := Lib.hid (HB4.out.trans (hb45.mono HB4.out.size))
  have HA6 := Lib.hid (HA4.out.below hb45 HA4.out.lt)
  have HL6 := Lib.hid (HL4.out.below hb45)
  have HDD := Lib.hid hD
  have y0 := hg6.cell 0
  have y1 := hg6.cell 1
  have y2 := hg6.cell 2
  have y3 := hg6.cell 3
  have y4 := hg6.cell 4
  have z0 := hd6.cell 0
  simp only [List.getElem?_toArray, List.getElem?_cons_zero, List.getElem?_cons_succ] at y0 y1 y2 y3 y4 z0
  obtain ⟨w6, hw6⟩ : ∃ w6, (w5.alloc (.cells #[.slice F1 n1 k1, .slice F2 n2 k2, .slice F3 n3 k3, .string st, .slice F4 n4 k4] 27)).alloc (.cells #[.int .i64 (D1 : Int), .int .i64 (D2 : Int), .int .i64 (D3 : Int)] 58) = w6 := ⟨_, rfl⟩
  rw [hw6] at HBN HB6 HA6 HL6 y0 y1 y2 y3 y4 z0
  have HW6 := Lib.hid hw6
  have hs6 : w5.heap.size + 1 < w6.heap.size := by rw [← hw6]; simp
  obtain ⟨gg, hgg⟩ : ∃ g, w5.heap.size = g := ⟨_, rfl⟩
  rw [hgg] at y0 y1 y2 y3 y4 z0 hs6
  have HGG := Lib.hid hgg
  clear hgi hb5 hg6 hd6 hbn hb45 hD hw6 hgg hl4
  by_cases hd0 : D1 = 0
  ·have hdz : ((D1 : Int) == 0) = true := by rw [hd0]; rfl
   obtain ⟨hright, hcnt⟩ := Pr.read_right (l := bl t) (P := (D2, D3)) (by rw [HDD.out, hd0])
   have HRI := Lib.hid hright
   have HC := Lib.hid (rof_any _ (Rd.readG (bl t)) w6 (((HGI.out.gramC (Right.assoc8 hright)).below HBN.out).mono HBN.out.size) (Right.sz8 hright (by omega)) (by omega))
   have HRB := Lib.hid ((Pr.rightB_iff _).2 hright)
   clear hd0 hright hcnt
   go_wp2_with fail
   rw [HW6.out, HGG.out]
   go_wp2_with fail
   refine HC.out.mono ?_
   rintro e w7 ⟨⟨qv, rfl, hql⟩, hb7⟩
   obtain ⟨B1, d1, B2, d2, B3, d3, B4, d4, B5, d5, B6, d6, rfl⟩ := hql.form
   obtain ⟨Q, hQ⟩ : ∃ Q, (Nm.ofG (Rd.readG (bl t))).1 = Q := ⟨_, rfl⟩
   obtain ⟨C, hC⟩ : ∃ C, (Nm.ofG (Rd.readG (bl t))).2.1 = C := ⟨_, rfl⟩
   obtain ⟨X, hX⟩ : ∃ C, str (Nm.ofG (Rd.readG (bl t))).2.2 = C := ⟨_, rfl⟩
   rw [hQ] at hql
   rw [hQ, hC, hX]
   have hbn := (Below.refl w7.heap.size w7).alloc (Nat.le_refl _) (.cells #[.slice B1 Q.terms.length d1, .slice B2 Q.vars.length d2, .slice B3 Q.rules.length d3, .slice B4 Q.levels.length d4, .slice B5 Q.assocs.length d5, .slice B6 Q.acts.length d6] 45)
   have hb67 := hb7.trans (hbn.mono hb7.size)
   have HA7 := Lib.hid (HA6.out.below hb7 HA6.out.lt)
   have HB8 := Lib.hid (HB6.out.trans (hb67.mono HB6.out.size))
   have HA8 := Lib.hid (HA6.out.below hb67 HA6.out.lt)
   have HL8 := Lib.hid (HL6.out.below hb67)
   have HQ8 := Lib.hid (hql.below hbn)
   have hq8 := At.new w7 45 #[.slice B1 Q.terms.length d1, .slice B2 Q.vars.length d2, .slice B3 Q.rules.length d3, .slice B4 Q.levels.length d4, .slice B5 Q.assocs.length d5, .slice B6 Q.acts.length d6]
   obtain ⟨w8, hw8⟩ : ∃ w8, w7.alloc (.cells #[.slice B1 Q.terms.length d1, .slice B2 Q.vars.length d2, .slice B3 Q.rules.length d3, .slice B4 Q.levels.length d4, .slice B5 Q.assocs.length d5, .slice B6 Q.acts.length d6] 45) = w8 := ⟨_, rfl⟩
   rw [hw8] at HB8 HA8 HL8 HQ8 hq8
   have HW8 := Lib.hid hw8
   obtain ⟨gq, hgq⟩ : ∃ g, w7.heap.size = g := ⟨_, rfl⟩
   rw [hgq] at hq8
   have HGQ := Lib.hid hgq
   have HQA := Lib.hid hq8
   by_cases hc0 : C = 0
   ·have hcz : ((C : Int) == 0) = true := by rw [hc0]; rfl
    have hfine : Nm.Fine (Rd.readG (bl t)) ∧ Q = Nm.plan (Rd.readG (bl t)) := by
     have h1 : (Nm.wrong (Rd.readG (bl t))).1 = 0 := by
      apply Classical.byContradiction
      intro hw
      have := ofG_wrong HRB.out hw
      rw [this] at hC
      exact hw (by rw [← hc0, ← hC])
     exact ⟨Nm.wrong_fine HRI.out h1, by rw [← hQ, ofG_fine HRB.out h1]⟩
    have HSQ : Hid (PSz Q) := Lib.hid (by rw [hfine.2]; exact plan_sz hfine.1)
    clear hfine hc0 hQ hC hX hw8 hgq hql hbn hb67 hb7 HC hq8 y0 y1 y2 y3 y4 z0 hs6
    go_wp2_with (first
     | (refine wpList_store_at rfl _ _ _ rfl rfl gp _ _ [_, _, _, _, _, _] rfl rfl (by rw [HW8.out]; exact HA8.out) 6 Tryz.sizePlan rfl rfl rfl ?_; intro w9 hA9 hg9; rw [HW8.out] at hg9; obtain ⟨p0, p1, p2, p3, p4, p5⟩ := at_six hA9))
    have HA9 := Lib.hid hA9
    have HL9 := Lib.hid (HQ8.out.stay fun t ht => Stay.far HA8.out ht hg9)
    have HB9 : Hid (Below W.heap.size W w9) := Lib.hid (below_grown HB8.out hg9 HB8.out.size (by have := HB4.out.size; have := HGP.out; have := HW4.out; exact HLOW.out))
    clear hA9 hg9
    obtain ⟨GW, hGW⟩ := Qt.class_of w9.heap.size w9 (Nat.le_refl _)
    have HTD := Lib.hid (Told8.mk (pv := .agg #[.slice B1 Q.terms.length d1, .slice B2 Q.vars.length d2, .slice B3 Q.rules.length d3, .slice B4 Q.levels.length d4, .slice B5 Q.assocs.length d5, .slice B6 Q.acts.length d6]) (G := GW) hGW HA9.out HL9.out HSQ.out)
    obtain ⟨xw, hxw⟩ := hGW.onto w9 (Below.refl _ _)
    have HXW := Lib.hid hxw
    have HGW := Lib.hid hGW
    have hgl := HA9.out.lt
    have q0 := Qt.cell hGW hgl p0
    have q1 := Qt.cell hGW hgl p1
    have q2 := Qt.cell hGW hgl p2
    have q3 := Qt.cell hGW hgl p3
    have q4 := Qt.cell hGW hgl p4
    have q5 := Qt.cell hGW hgl p5
    have HBB := Lib.hid (fun x => HB9.out.trans ((hGW.below x).mono HB9.out.size))
    obtain ⟨nT, hnT⟩ : ∃ n, Q.terms.length = n := ⟨_, rfl⟩
    obtain ⟨nV, hnV⟩ : ∃ n, Q.vars.length = n := ⟨_, rfl⟩
    obtain ⟨nR, hnR⟩ : ∃ n, Q.rules.length = n := ⟨_, rfl⟩
    have ht3 : nT ≤ 1000 := hnT ▸ HSQ.out.t
    have hv3 : nV ≤ 1000 := hnV ▸ HSQ.out.v
    have hr3 : nR ≤ 1000 := hnR ▸ HSQ.out.r
    have K1 := Lib.hid HTD.out.name
    have K2 := Lib.hid HTD.out.rname
    have K3 := Lib.hid HTD.out.term
    have K4 := Lib.hid HTD.out.show
    have K5 := Lib.hid HTD.out.rshow
    have K6 := Lib.hid HTD.out.accept
    have K7 := Lib.hid (HTD.out.sym nm)
    have K8 := Lib.hid (HTD.out.rsym nm)
    rw [hnT, hnV, hnR] at K1 K2 K3 K4 K5 K6 K7 K8
    rw [hnT] at q0
    rw [hnV] at q1
    rw [hnR] at q2
    obtain ⟨NA, hNA⟩ : ∃ f : Int → ByteArray, ∀ i, str (Nm.nameAt Q.terms Q.vars i) = f i := ⟨_, fun _ => rfl⟩
    obtain ⟨SH, hSH⟩ : ∃ f : Int → ByteArray, ∀ i, str (Nm.showT Q i) = f i := ⟨_, fun _ => rfl⟩
    obtain ⟨SY, hSY⟩ : ∃ c : Int, Nm.sym Q.terms Q.vars (bl nm) = c := ⟨_, rfl⟩
    simp only [hNA] at K1 K2
    simp only [hSH] at K4 K5
    rw [hSY] at K7 K8
    obtain ⟨AC, hAC⟩ : ∃ a : Nat, nT + nV = a := ⟨_, rfl⟩
    have hac : (nT : Int) + (nV : Int) = (AC : Int) := by omega
    rw [hac] at K6
    have hA3 : AC ≤ 2000 := by omega
    have hacw : wrap64 (AC : Int) = (AC : Int) := wrap_small AC hA3
    rw [hnT, hnV, hac, hacw]
    clear hGW hxw hnT hnV hnR hNA hSH hSY p0 p1 p2 p3 p4 p5 hgl
    go_wp2_with fail
    rw [HXW.out]
    go_loopw [18] (fun tt wr => ∃ (k : Nat) (x : World), k ≤ AC + 3 ∧ tt = .int .i64 ((k : Int) - 1) ∧ wr = GW x) (fun tt _ => AC + 3 - (intOf tt + 1).toNat)
    case atStart => exact ⟨0, xw, by omega, rfl, rfl⟩
    case round =>
     obtain ⟨k, x, hk, rfl, rfl⟩ := hrel
     by_cases hlt : k < AC + 3
     ·have hi : (k : Int) - 1 ≤ (AC : Int) + 1 := by omega
      obtain ⟨I, hI⟩ : ∃ I : Int, (k : Int) - 1 = I := ⟨_, rfl⟩
      have M1 := Lib.hid (K1.out I)
      have M2 := Lib.hid (K2.out I)
      have M3 := Lib.hid (K3.out I)
      rw [hI] at hi ⊢
      have t1 : ((NA I).toList != (NA I).toList) = false := by simp
      have hI1 : I + 1 = ((k + 1 : Nat) : Int) - 1 := by omega
      have HI1 := Lib.hid hI1
      have HI := Lib.hid hI
      have b1 : -1 ≤ I ∧ I ≤ 100000 := by omega
      clear hI hI1
      by_cases h0 : I < 0
      ·have M3 := Lib.hid (show ∀ x, Calls Tryz.prog 25 #[.agg #[.slice B1 nT d1, .slice B2 nV d2, .slice B3 nR d3, .slice B4 Q.levels.length d4, .slice B5 Q.assocs.length d5, .slice B6 Q.acts.length d6], .int .i64 I] (GW x) fun e w'' => e = .returned (.bool false) ∧ ∃ y, w'' = GW y from by
        have h := M3.out
        rwa [decide_eq_false (fun hh => by omega)] at h)
       have d0 : decide (0 ≤ I) = false := decide_eq_false (by omega)
       go_wp2_with fail
       refine Qt.start HGW.out (by kernel_rfl) (by kernel_rfl) ?_
       repeat (go_big_quiet_step (first | with_reducible exact M1.out _ | with_reducible exact M2.out _ | with_reducible exact M3.out _))
       refine wpQuiet_nil ?_
       intro _ hw'
       obtain ⟨y, hw''⟩ := hw'
       subst hw''
       go_wp2_with fail
       go_roundw
       case rel => exact ⟨k + 1, y, by omega, by rw [← HI1.out], rfl⟩
       case measure => have := HI.out; simp [intOf]; omega
      ·have h0' : 0 ≤ I := by omega
       by_cases h9 : I < (nT : Int)
       ·have M3 := Lib.hid (show ∀ x, Calls Tryz.prog 25 #[.agg #[.slice B1 nT d1, .slice B2 nV d2, .slice B3 nR d3, .slice B4 Q.levels.length d4, .slice B5 Q.assocs.length d5, .slice B6 Q.acts.length d6], .int .i64 I] (GW x) fun e w'' => e = .returned (.bool true) ∧ ∃ y, w'' = GW y from by
         have h := M3.out
         rwa [decide_eq_true ⟨h0', h9⟩] at h)
        have d0 : decide (0 ≤ I) = true := decide_eq_true h0'
        have d1 : decide (I < (nT : Int)) = true := decide_eq_true h9
        go_wp2_with fail
        refine Qt.start HGW.out (by kernel_rfl) (by kernel_rfl) ?_
        repeat (go_big_quiet_step (first | with_reducible exact M1.out _ | with_reducible exact M2.out _ | with_reducible exact M3.out _))
        refine wpQuiet_nil ?_
        intro _ hw'
        obtain ⟨y, hw''⟩ := hw'
        subst hw''
        go_wp2_with fail
        go_roundw
        case rel => exact ⟨k + 1, y, by omega, by rw [← HI1.out], rfl⟩
        case measure => have := HI.out; simp [intOf]; omega
       ·have M3 := Lib.hid (show ∀ x, Calls Tryz.prog 25 #[.agg #[.slice B1 nT d1, .slice B2 nV d2, .slice B3 nR d3, .slice B4 Q.levels.length d4, .slice B5 Q.assocs.length d5, .slice B6 Q.acts.length d6], .int .i64 I] (GW x) fun e w'' => e = .returned (.bool false) ∧ ∃ y, w'' = GW y from by
         have h := M3.out
         rwa [decide_eq_false (fun hh => h9 hh.2)] at h)
        have d0 : decide (0 ≤ I) = true := decide_eq_true h0'
        have d1 : decide (I < (nT : Int)) = false := decide_eq_false h9
        go_wp2_with fail
        refine Qt.start HGW.out (by kernel_rfl) (by kernel_rfl) ?_
        repeat (go_big_quiet_step (first | with_reducible exact M1.out _ | with_reducible exact M2.out _ | with_reducible exact M3.out _))
        refine wpQuiet_nil ?_
        intro _ hw'
        obtain ⟨y, hw''⟩ := hw'
        subst hw''
        go_wp2_with fail
        go_roundw
        case rel => exact ⟨k + 1, y, by omega, by rw [← HI1.out], rfl⟩
        case measure => have := HI.out; simp [intOf]; omega
     ·have hi : ¬ (k : Int) - 1 ≤ (AC : Int) + 1 := by omega
      go_wp2_with fail
      go_loopw [19] (fun tt wr => ∃ (k : Nat) (x : World), k ≤ nR + 2 ∧ tt = .int .i64 ((k : Int) - 1) ∧ wr = GW x) (fun tt _ => nR + 2 - (intOf tt + 1).toNat)
      case atStart => exact ⟨0, x, by omega, rfl, rfl⟩
      case round =>
       obtain ⟨k, x, hk, rfl, rfl⟩ := hrel
       by_cases hlt : k < nR + 2
       ·obtain ⟨I, hI⟩ : ∃ I : Int, (k : Int) - 1 = I := ⟨_, rfl⟩
        have hi : I ≤ (nR : Int) := by omega
        have M4 := Lib.hid (K4.out I)
        have M5 := Lib.hid (K5.out I)
        rw [hI]
        have t1 : ((SH I).toList != (SH I).toList) = false := by simp
        have hI1 : I + 1 = ((k + 1 : Nat) : Int) - 1 := by omega
        have HI1 := Lib.hid hI1
        have HI := Lib.hid hI
        have b1 : -1 ≤ I ∧ I ≤ 100000 := by omega
        clear hI hI1
        go_wp2_with fail
        refine Qt.start HGW.out (by kernel_rfl) (by kernel_rfl) ?_
        repeat (go_big_quiet_step (first | with_reducible exact M4.out _ | with_reducible exact M5.out _))
        refine wpQuiet_nil ?_
        intro _ hw'
        obtain ⟨y, hw''⟩ := hw'
        subst hw''
        go_wp2_with fail
        go_roundw
        case rel => exact ⟨k + 1, y, by omega, by rw [← HI1.out], rfl⟩
        case measure => have := HI.out; simp [intOf]; omega
       ·have hi : ¬ (k : Int) - 1 ≤ (nR : Int) := by omega
        have t1 : ((SH n).toList != (SH n).toList) = false := by simp
        have M1 := Lib.hid (K1.out n)
        have M2 := Lib.hid (K2.out n)
        have M4 := Lib.hid (K4.out n)
        have M5 := Lib.hid (K5.out n)
        go_wp2_with fail
        refine Qt.start HGW.out (by kernel_rfl) (by kernel_rfl) ?_
        repeat (go_big_quiet_step (first | with_reducible exact K6.out _ | with_reducible exact M1.out _ | with_reducible exact M2.out _ | with_reducible exact K7.out _ | with_reducible exact K8.out _ | with_reducible exact M4.out _ | with_reducible exact M5.out _))
        refine wpQuiet_nil ?_
        intro _ hw'
        obtain ⟨y, hw''⟩ := hw'
        subst hw''
        go_wp2_with fail
        go_ret
        exact ⟨rfl, HBB.out _⟩
   ·have hcz : ((C : Int) == 0) = false := by rw [beq_eq_false_iff_ne]; omega
    clear hc0 hQ hC hX hw8 hgq hql hbn hb67 hb7 HC hq8 y0 y1 y2 y3 y4 z0 hs6
    obtain ⟨p0, p1, p2, p3, p4, p5⟩ := at_six (show At w8 gp 45 [.slice A1 P.terms.length c1, .slice A2 P.vars.length c2, .slice A3 P.rules.length c3, .slice A4 P.levels.length c4, .slice A5 P.assocs.length c5, .slice A6 P.acts.length c6].toArray from HA8.out)
    obtain ⟨e0, e1, _⟩ := at_six (show At w7 gp 45 [.slice A1 P.terms.length c1, .slice A2 P.vars.length c2, .slice A3 P.rules.length c3, .slice A4 P.levels.length c4, .slice A5 P.assocs.length c5, .slice A6 P.acts.length c6].toArray from HA7.out)
    have hgl5 := HA7.out.lt
    obtain ⟨GW, hGW⟩ := Qt.class_of w8.heap.size w8 (Nat.le_refl _)
    have HTD := Lib.hid (Told8.mk (pv := .agg #[.slice A1 P.terms.length c1, .slice A2 P.vars.length c2, .slice A3 P.rules.length c3, .slice A4 P.levels.length c4, .slice A5 P.assocs.length c5, .slice A6 P.acts.length c6]) (G := GW) hGW HA8.out HL8.out HSP.out)
    obtain ⟨xw, hxw⟩ := hGW.onto w8 (Below.refl _ _)
    have HXW := Lib.hid hxw
    have HGW := Lib.hid hGW
    have hgl := HA8.out.lt
    have q0 := Qt.cell hGW hgl p0
    have q1 := Qt.cell hGW hgl p1
    have q2 := Qt.cell hGW hgl p2
    have q3 := Qt.cell hGW hgl p3
    have q4 := Qt.cell hGW hgl p4
    have q5 := Qt.cell hGW hgl p5
    have HBB := Lib.hid (fun x => HB8.out.trans ((hGW.below x).mono HB8.out.size))
    obtain ⟨nT, hnT⟩ : ∃ n, P.terms.length = n := ⟨_, rfl⟩
    obtain ⟨nV, hnV⟩ : ∃ n, P.vars.length = n := ⟨_, rfl⟩
    obtain ⟨nR, hnR⟩ : ∃ n, P.rules.length = n := ⟨_, rfl⟩
    have ht3 : nT ≤ 1000 := hnT ▸ HSP.out.t
    have hv3 : nV ≤ 1000 := hnV ▸ HSP.out.v
    have hr3 : nR ≤ 1000 := hnR ▸ HSP.out.r
    have K1 := Lib.hid HTD.out.name
    have K2 := Lib.hid HTD.out.rname
    have K3 := Lib.hid HTD.out.term
    have K4 := Lib.hid HTD.out.show
    have K5 := Lib.hid HTD.out.rshow
    have K6 := Lib.hid HTD.out.accept
    have K7 := Lib.hid (HTD.out.sym nm)
    have K8 := Lib.hid (HTD.out.rsym nm)
    rw [hnT, hnV, hnR] at K1 K2 K3 K4 K5 K6 K7 K8
    rw [hnT] at q0 e0
    rw [hnV] at q1 e1
    rw [hnR] at q2
    obtain ⟨NA, hNA⟩ : ∃ f : Int → ByteArray, ∀ i, str (Nm.nameAt P.terms P.vars i) = f i := ⟨_, fun _ => rfl⟩
    obtain ⟨SH, hSH⟩ : ∃ f : Int → ByteArray, ∀ i, str (Nm.showT P i) = f i := ⟨_, fun _ => rfl⟩
    obtain ⟨SY, hSY⟩ : ∃ c : Int, Nm.sym P.terms P.vars (bl nm) = c := ⟨_, rfl⟩
    simp only [hNA] at K1 K2
    simp only [hSH] at K4 K5
    rw [hSY] at K7 K8
    obtain ⟨AC, hAC⟩ : ∃ a : Nat, nT + nV = a := ⟨_, rfl⟩
    have hac : (nT : Int) + (nV : Int) = (AC : Int) := by omega
    rw [hac] at K6
    have hA3 : AC ≤ 2000 := by omega
    clear hGW hxw hnT hnV hnR hNA hSH hSY p0 p1 p2 p3 p4 p5 hgl
    go_wp2_with fail
    rw [HW8.out, HGQ.out]
    rw [HXW.out]
    go_loopw [18] (fun tt wr => ∃ (k : Nat) (x : World), k ≤ AC + 3 ∧ tt = .int .i64 ((k : Int) - 1) ∧ wr = GW x) (fun tt _ => AC + 3 - (intOf tt + 1).toNat)
    case atStart => exact ⟨0, xw, by omega, rfl, rfl⟩
    case round =>
     obtain ⟨k, x, hk, rfl, rfl⟩ := hrel
     by_cases hlt : k < AC + 3
     ·have hi : (k : Int) - 1 ≤ (AC : Int) + 1 := by omega
      obtain ⟨I, hI⟩ : ∃ I : Int, (k : Int) - 1 = I := ⟨_, rfl⟩
      have M1 := Lib.hid (K1.out I)
      have M2 := Lib.hid (K2.out I)
      have M3 := Lib.hid (K3.out I)
      rw [hI] at hi ⊢
      have t1 : ((NA I).toList != (NA I).toList) = false := by simp
      have hI1 : I + 1 = ((k + 1 : Nat) : Int) - 1 := by omega
      have HI1 := Lib.hid hI1
      have HI := Lib.hid hI
      have b1 : -1 ≤ I ∧ I ≤ 100000 := by omega
      clear hI hI1
      by_cases h0 : I < 0
      ·have M3 := Lib.hid (show ∀ x, Calls Tryz.prog 25 #[.agg #[.slice A1 nT c1, .slice A2 nV c2, .slice A3 nR c3, .slice A4 P.levels.length c4, .slice A5 P.assocs.length c5, .slice A6 P.acts.length c6], .int .i64 I] (GW x) fun e w'' => e = .returned (.bool false) ∧ ∃ y, w'' = GW y from by
        have h := M3.out
        rwa [decide_eq_false (fun hh => by omega)] at h)
       have d0 : decide (0 ≤ I) = false := decide_eq_false (by omega)
       go_wp2_with fail
       refine Qt.start HGW.out (by kernel_rfl) (by kernel_rfl) ?_
       repeat (go_big_quiet_step (first | with_reducible exact M1.out _ | with_reducible exact M2.out _ | with_reducible exact M3.out _))
       refine wpQuiet_nil ?_
       intro _ hw'
       obtain ⟨y, hw''⟩ := hw'
       subst hw''
       go_wp2_with fail
       go_roundw
       case rel => exact ⟨k + 1, y, by omega, by rw [← HI1.out], rfl⟩
       case measure => have := HI.out; simp [intOf]; omega
      ·have h0' : 0 ≤ I := by omega
       by_cases h9 : I < (nT : Int)
       ·have M3 := Lib.hid (show ∀ x, Calls Tryz.prog 25 #[.agg #[.slice A1 nT c1, .slice A2 nV c2, .slice A3 nR c3, .slice A4 P.levels.length c4, .slice A5 P.assocs.length c5, .slice A6 P.acts.length c6], .int .i64 I] (GW x) fun e w'' => e = .returned (.bool true) ∧ ∃ y, w'' = GW y from by
         have h := M3.out
         rwa [decide_eq_true ⟨h0', h9⟩] at h)
        have d0 : decide (0 ≤ I) = true := decide_eq_true h0'
        have d1 : decide (I < (nT : Int)) = true := decide_eq_true h9
        go_wp2_with fail
        refine Qt.start HGW.out (by kernel_rfl) (by kernel_rfl) ?_
        repeat (go_big_quiet_step (first | with_reducible exact M1.out _ | with_reducible exact M2.out _ | with_reducible exact M3.out _))
        refine wpQuiet_nil ?_
        intro _ hw'
        obtain ⟨y, hw''⟩ := hw'
        subst hw''
        go_wp2_with fail
        go_roundw
        case rel => exact ⟨k + 1, y, by omega, by rw [← HI1.out], rfl⟩
        case measure => have := HI.out; simp [intOf]; omega
       ·have M3 := Lib.hid (show ∀ x, Calls Tryz.prog 25 #[.agg #[.slice A1 nT c1, .slice A2 nV c2, .slice A3 nR c3, .slice A4 P.levels.length c4, .slice A5 P.assocs.length c5, .slice A6 P.acts.length c6], .int .i64 I] (GW x) fun e w'' => e = .returned (.bool false) ∧ ∃ y, w'' = GW y from by
         have h := M3.out
         rwa [decide_eq_false (fun hh => h9 hh.2)] at h)
        have d0 : decide (0 ≤ I) = true := decide_eq_true h0'
        have d1 : decide (I < (nT : Int)) = false := decide_eq_false h9
        go_wp2_with fail
        refine Qt.start HGW.out (by kernel_rfl) (by kernel_rfl) ?_
        repeat (go_big_quiet_step (first | with_reducible exact M1.out _ | with_reducible exact M2.out _ | with_reducible exact M3.out _))
        refine wpQuiet_nil ?_
        intro _ hw'
        obtain ⟨y, hw''⟩ := hw'
        subst hw''
        go_wp2_with fail
        go_roundw
        case rel => exact ⟨k + 1, y, by omega, by rw [← HI1.out], rfl⟩
        case measure => have := HI.out; simp [intOf]; omega
     ·have hi : ¬ (k : Int) - 1 ≤ (AC : Int) + 1 := by omega
      go_wp2_with fail
      go_loopw [19] (fun tt wr => ∃ (k : Nat) (x : World), k ≤ nR + 2 ∧ tt = .int .i64 ((k : Int) - 1) ∧ wr = GW x) (fun tt _ => nR + 2 - (intOf tt + 1).toNat)
      case atStart => exact ⟨0, x, by omega, rfl, rfl⟩
      case round =>
       obtain ⟨k, x, hk, rfl, rfl⟩ := hrel
       by_cases hlt : k < nR + 2
       ·obtain ⟨I, hI⟩ : ∃ I : Int, (k : Int) - 1 = I := ⟨_, rfl⟩
        have hi : I ≤ (nR : Int) := by omega
        have M4 := Lib.hid (K4.out I)
        have M5 := Lib.hid (K5.out I)
        rw [hI]
        have t1 : ((SH I).toList != (SH I).toList) = false := by simp
        have hI1 : I + 1 = ((k + 1 : Nat) : Int) - 1 := by omega
        have HI1 := Lib.hid hI1
        have HI := Lib.hid hI
        have b1 : -1 ≤ I ∧ I ≤ 100000 := by omega
        clear hI hI1
        go_wp2_with fail
        refine Qt.start HGW.out (by kernel_rfl) (by kernel_rfl) ?_
        repeat (go_big_quiet_step (first | with_reducible exact M4.out _ | with_reducible exact M5.out _))
        refine wpQuiet_nil ?_
        intro _ hw'
        obtain ⟨y, hw''⟩ := hw'
        subst hw''
        go_wp2_with fail
        go_roundw
        case rel => exact ⟨k + 1, y, by omega, by rw [← HI1.out], rfl⟩
        case measure => have := HI.out; simp [intOf]; omega
       ·have hi : ¬ (k : Int) - 1 ≤ (nR : Int) := by omega
        have t1 : ((SH n).toList != (SH n).toList) = false := by simp
        have M1 := Lib.hid (K1.out n)
        have M2 := Lib.hid (K2.out n)
        have M4 := Lib.hid (K4.out n)
        have M5 := Lib.hid (K5.out n)
        go_wp2_with fail
        refine Qt.start HGW.out (by kernel_rfl) (by kernel_rfl) ?_
        repeat (go_big_quiet_step (first | with_reducible exact K6.out _ | with_reducible exact M1.out _ | with_reducible exact M2.out _ | with_reducible exact K7.out _ | with_reducible exact K8.out _ | with_reducible exact M4.out _ | with_reducible exact M5.out _))
        refine wpQuiet_nil ?_
        intro _ hw'
        obtain ⟨y, hw''⟩ := hw'
        subst hw''
        go_wp2_with fail
        go_ret
        exact ⟨rfl, HBB.out _⟩
  ·have hdz : ((D1 : Int) == 0) = false := by rw [beq_eq_false_iff_ne]; omega
   obtain ⟨p0, p1, p2, p3, p4, p5⟩ := at_six (show At w6 gp 45 [.slice A1 P.terms.length c1, .slice A2 P.vars.length c2, .slice A3 P.rules.length c3, .slice A4 P.levels.length c4, .slice A5 P.assocs.length c5, .slice A6 P.acts.length c6].toArray from HA6.out)
   obtain ⟨e0, e1, _⟩ := at_six (show At w5 gp 45 [.slice A1 P.terms.length c1, .slice A2 P.vars.length c2, .slice A3 P.rules.length c3, .slice A4 P.levels.length c4, .slice A5 P.assocs.length c5, .slice A6 P.acts.length c6].toArray from HA5.out)
   have hgl5 := HA5.out.lt
   clear hd0 y0 y1 y2 y3 y4
   obtain ⟨GW, hGW⟩ := Qt.class_of w6.heap.size w6 (Nat.le_refl _)
   have HTD := Lib.hid (Told8.mk (pv := .agg #[.slice A1 P.terms.length c1, .slice A2 P.vars.length c2, .slice A3 P.rules.length c3, .slice A4 P.levels.length c4, .slice A5 P.assocs.length c5, .slice A6 P.acts.length c6]) (G := GW) hGW HA6.out HL6.out HSP.out)
   obtain ⟨xw, hxw⟩ := hGW.onto w6 (Below.refl _ _)
   have HXW := Lib.hid hxw
   have HGW := Lib.hid hGW
   have hgl := HA6.out.lt
   have q0 := Qt.cell hGW hgl p0
   have q1 := Qt.cell hGW hgl p1
   have q2 := Qt.cell hGW hgl p2
   have q3 := Qt.cell hGW hgl p3
   have q4 := Qt.cell hGW hgl p4
   have q5 := Qt.cell hGW hgl p5
   have HBB := Lib.hid (fun x => HB6.out.trans ((hGW.below x).mono HB6.out.size))
   obtain ⟨nT, hnT⟩ : ∃ n, P.terms.length = n := ⟨_, rfl⟩
   obtain ⟨nV, hnV⟩ : ∃ n, P.vars.length = n := ⟨_, rfl⟩
   obtain ⟨nR, hnR⟩ : ∃ n, P.rules.length = n := ⟨_, rfl⟩
   have ht3 : nT ≤ 1000 := hnT ▸ HSP.out.t
   have hv3 : nV ≤ 1000 := hnV ▸ HSP.out.v
   have hr3 : nR ≤ 1000 := hnR ▸ HSP.out.r
   have K1 := Lib.hid HTD.out.name
   have K2 := Lib.hid HTD.out.rname
   have K3 := Lib.hid HTD.out.term
   have K4 := Lib.hid HTD.out.show
   have K5 := Lib.hid HTD.out.rshow
   have K6 := Lib.hid HTD.out.accept
   have K7 := Lib.hid (HTD.out.sym nm)
   have K8 := Lib.hid (HTD.out.rsym nm)
   rw [hnT, hnV, hnR] at K1 K2 K3 K4 K5 K6 K7 K8
   rw [hnT] at q0 e0
   rw [hnV] at q1 e1
   rw [hnR] at q2
   obtain ⟨NA, hNA⟩ : ∃ f : Int → ByteArray, ∀ i, str (Nm.nameAt P.terms P.vars i) = f i := ⟨_, fun _ => rfl⟩
   obtain ⟨SH, hSH⟩ : ∃ f : Int → ByteArray, ∀ i, str (Nm.showT P i) = f i := ⟨_, fun _ => rfl⟩
   obtain ⟨SY, hSY⟩ : ∃ c : Int, Nm.sym P.terms P.vars (bl nm) = c := ⟨_, rfl⟩
   simp only [hNA] at K1 K2
   simp only [hSH] at K4 K5
   rw [hSY] at K7 K8
   obtain ⟨AC, hAC⟩ : ∃ a : Nat, nT + nV = a := ⟨_, rfl⟩
   have hac : (nT : Int) + (nV : Int) = (AC : Int) := by omega
   rw [hac] at K6
   have hA3 : AC ≤ 2000 := by omega
   clear hGW hxw hnT hnV hnR hNA hSH hSY p0 p1 p2 p3 p4 p5 hgl
   go_wp2_with fail
   rw [HW6.out, HGG.out]
   rw [HXW.out]
   go_loopw [18] (fun tt wr => ∃ (k : Nat) (x : World), k ≤ AC + 3 ∧ tt = .int .i64 ((k : Int) - 1) ∧ wr = GW x) (fun tt _ => AC + 3 - (intOf tt + 1).toNat)
   case atStart => exact ⟨0, xw, by omega, rfl, rfl⟩
   case round =>
    obtain ⟨k, x, hk, rfl, rfl⟩ := hrel
    by_cases hlt : k < AC + 3
    ·have hi : (k : Int) - 1 ≤ (AC : Int) + 1 := by omega
     obtain ⟨I, hI⟩ : ∃ I : Int, (k : Int) - 1 = I := ⟨_, rfl⟩
     have M1 := Lib.hid (K1.out I)
     have M2 := Lib.hid (K2.out I)
     have M3 := Lib.hid (K3.out I)
     rw [hI] at hi ⊢
     have t1 : ((NA I).toList != (NA I).toList) = false := by simp
     have hI1 : I + 1 = ((k + 1 : Nat) : Int) - 1 := by omega
     have HI1 := Lib.hid hI1
     have HI := Lib.hid hI
     have b1 : -1 ≤ I ∧ I ≤ 100000 := by omega
     clear hI hI1
     by_cases h0 : I < 0
     ·have M3 := Lib.hid (show ∀ x, Calls Tryz.prog 25 #[.agg #[.slice A1 nT c1, .slice A2 nV c2, .slice A3 nR c3, .slice A4 P.levels.length c4, .slice A5 P.assocs.length c5, .slice A6 P.acts.length c6], .int .i64 I] (GW x) fun e w'' => e = .returned (.bool false) ∧ ∃ y, w'' = GW y from by
       have h := M3.out
       rwa [decide_eq_false (fun hh => by omega)] at h)
      have d0 : decide (0 ≤ I) = false := decide_eq_false (by omega)
      go_wp2_with fail
      refine Qt.start HGW.out (by kernel_rfl) (by kernel_rfl) ?_
      repeat (go_big_quiet_step (first | with_reducible exact M1.out _ | with_reducible exact M2.out _ | with_reducible exact M3.out _))
      refine wpQuiet_nil ?_
      intro _ hw'
      obtain ⟨y, hw''⟩ := hw'
      subst hw''
      go_wp2_with fail
      go_roundw
      case rel => exact ⟨k + 1, y, by omega, by rw [← HI1.out], rfl⟩
      case measure => have := HI.out; simp [intOf]; omega
     ·have h0' : 0 ≤ I := by omega
      by_cases h9 : I < (nT : Int)
      ·have M3 := Lib.hid (show ∀ x, Calls Tryz.prog 25 #[.agg #[.slice A1 nT c1, .slice A2 nV c2, .slice A3 nR c3, .slice A4 P.levels.length c4, .slice A5 P.assocs.length c5, .slice A6 P.acts.length c6], .int .i64 I] (GW x) fun e w'' => e = .returned (.bool true) ∧ ∃ y, w'' = GW y from by
        have h := M3.out
        rwa [decide_eq_true ⟨h0', h9⟩] at h)
       have d0 : decide (0 ≤ I) = true := decide_eq_true h0'
       have d1 : decide (I < (nT : Int)) = true := decide_eq_true h9
       go_wp2_with fail
       refine Qt.start HGW.out (by kernel_rfl) (by kernel_rfl) ?_
       repeat (go_big_quiet_step (first | with_reducible exact M1.out _ | with_reducible exact M2.out _ | with_reducible exact M3.out _))
       refine wpQuiet_nil ?_
       intro _ hw'
       obtain ⟨y, hw''⟩ := hw'
       subst hw''
       go_wp2_with fail
       go_roundw
       case rel => exact ⟨k + 1, y, by omega, by rw [← HI1.out], rfl⟩
       case measure => have := HI.out; simp [intOf]; omega
      ·have M3 := Lib.hid (show ∀ x, Calls Tryz.prog 25 #[.agg #[.slice A1 nT c1, .slice A2 nV c2, .slice A3 nR c3, .slice A4 P.levels.length c4, .slice A5 P.assocs.length c5, .slice A6 P.acts.length c6], .int .i64 I] (GW x) fun e w'' => e = .returned (.bool false) ∧ ∃ y, w'' = GW y from by
        have h := M3.out
        rwa [decide_eq_false (fun hh => h9 hh.2)] at h)
       have d0 : decide (0 ≤ I) = true := decide_eq_true h0'
       have d1 : decide (I < (nT : Int)) = false := decide_eq_false h9
       go_wp2_with fail
       refine Qt.start HGW.out (by kernel_rfl) (by kernel_rfl) ?_
       repeat (go_big_quiet_step (first | with_reducible exact M1.out _ | with_reducible exact M2.out _ | with_reducible exact M3.out _))
       refine wpQuiet_nil ?_
       intro _ hw'
       obtain ⟨y, hw''⟩ := hw'
       subst hw''
       go_wp2_with fail
       go_roundw
       case rel => exact ⟨k + 1, y, by omega, by rw [← HI1.out], rfl⟩
       case measure => have := HI.out; simp [intOf]; omega
    ·have hi : ¬ (k : Int) - 1 ≤ (AC : Int) + 1 := by omega
     go_wp2_with fail
     go_loopw [19] (fun tt wr => ∃ (k : Nat) (x : World), k ≤ nR + 2 ∧ tt = .int .i64 ((k : Int) - 1) ∧ wr = GW x) (fun tt _ => nR + 2 - (intOf tt + 1).toNat)
     case atStart => exact ⟨0, x, by omega, rfl, rfl⟩
     case round =>
      obtain ⟨k, x, hk, rfl, rfl⟩ := hrel
      by_cases hlt : k < nR + 2
      ·obtain ⟨I, hI⟩ : ∃ I : Int, (k : Int) - 1 = I := ⟨_, rfl⟩
       have hi : I ≤ (nR : Int) := by omega
       have M4 := Lib.hid (K4.out I)
       have M5 := Lib.hid (K5.out I)
       rw [hI]
       have t1 : ((SH I).toList != (SH I).toList) = false := by simp
       have hI1 : I + 1 = ((k + 1 : Nat) : Int) - 1 := by omega
       have HI1 := Lib.hid hI1
       have HI := Lib.hid hI
       have b1 : -1 ≤ I ∧ I ≤ 100000 := by omega
       clear hI hI1
       go_wp2_with fail
       refine Qt.start HGW.out (by kernel_rfl) (by kernel_rfl) ?_
       repeat (go_big_quiet_step (first | with_reducible exact M4.out _ | with_reducible exact M5.out _))
       refine wpQuiet_nil ?_
       intro _ hw'
       obtain ⟨y, hw''⟩ := hw'
       subst hw''
       go_wp2_with fail
       go_roundw
       case rel => exact ⟨k + 1, y, by omega, by rw [← HI1.out], rfl⟩
       case measure => have := HI.out; simp [intOf]; omega
      ·have hi : ¬ (k : Int) - 1 ≤ (nR : Int) := by omega
       have t1 : ((SH n).toList != (SH n).toList) = false := by simp
       have M1 := Lib.hid (K1.out n)
       have M2 := Lib.hid (K2.out n)
       have M4 := Lib.hid (K4.out n)
       have M5 := Lib.hid (K5.out n)
       go_wp2_with fail
       refine Qt.start HGW.out (by kernel_rfl) (by kernel_rfl) ?_
       repeat (go_big_quiet_step (first | with_reducible exact K6.out _ | with_reducible exact M1.out _ | with_reducible exact M2.out _ | with_reducible exact K7.out _ | with_reducible exact K8.out _ | with_reducible exact M4.out _ | with_reducible exact M5.out _))
       refine wpQuiet_nil ?_
       intro _ hw'
       obtain ⟨y, hw''⟩ := hw'
       subst hw''
       go_wp2_with fail
       go_ret
       exact ⟨rfl, HBB.out _⟩
end Go.Proofs.YtccndcebbjipnaaGreatDoor
