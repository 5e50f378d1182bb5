import Derived.Test.YtccndcebbjipnaaGreatDoorT24
import Derived.Test.YtccndcebbjipnaaGreatDoorT45
import Derived.Deep.RegionHeld3
import Derived.Sort.Grow
import Derived.Below
namespace Go.Proofs.YtccndcebbjipnaaGreatDoor
open Go.RowKit Go.Sort
open Lx
set_option linter.unusedVariables false
set_option linter.unusedSimpArgs false
set_option maxRecDepth 100000
theorem str_app9 (a b : List UInt8) : str (a ++ b) = str a ++ str b := by
  rw [← str_bl (str a ++ str b), bl_append, bl_str, bl_str]
theorem cell_keep9 {w w' : World} {a : Addr} {v : Value} (h : w.cell? a = some v) (hb : Below w.heap.size w w') : w'.cell? a = some v := by rw [hb.cell (block_lt_of_cell h)]; exact h
theorem str_len8 (l : List UInt8) : (str l).size = l.length := by rw [← bl_length, bl_str]
set_option maxHeartbeats 8000000 in
theorem rshow_any (v : Value) (P : Nm.Plan) (r : Int) (B : Nat) (w : World) (h : PlanC w B v P) (hB : B ≤ w.heap.size) (hs : PSz P) :
    Calls Tryz.prog 27 #[v, .int .i64 r] w fun e w' => e = .returned (.string (str (Nm.showT P r))) ∧ Below w.heap.size w w' := by
  have hsym := h.sym
  obtain ⟨A1, c1, A2, c2, A3, c3, A4, c4, A5, c5, A6, c6, rfl, k1, k2, k3, _⟩ := h.ex
  have hb := (Below.refl w.heap.size w).alloc (Nat.le_refl _) (.cells #[.slice A1 P.terms.length c1, .slice A2 P.vars.length c2, .slice A3 P.rules.length c3, .slice A4 P.levels.length c4, .slice A5 P.assocs.length c5, .slice A6 P.acts.length c6] 45)
  have hat := At.new w 45 #[.slice A1 P.terms.length c1, .slice A2 P.vars.length c2, .slice A3 P.rules.length c3, .slice A4 P.levels.length c4, .slice A5 P.assocs.length c5, .slice A6 P.acts.length c6]
  have HNM := Lib.hid (show ∀ (i : Int) w', Below w.heap.size w w' → Calls Tryz.prog 24 #[.agg #[.slice A1 P.terms.length c1, .slice A2 P.vars.length c2, .slice A3 P.rules.length c3, .slice A4 P.levels.length c4, .slice A5 P.assocs.length c5, .slice A6 P.acts.length c6], .int .i64 i] w' fun e w'' => e = .returned (.string (str (Nm.nameAt P.terms P.vars i))) ∧ Below w'.heap.size w' w'' from
    fun i w' hw' => rname8_any _ _ _ i B w' (hsym.below (hw'.mono hB)) (Nat.le_trans hB hw'.size) (by have := hs.t; omega) (by have := hs.v; omega))
  have HP := Lib.hid k3
  have hr1 := hs.r
  by_cases hr : r < 0 ∨ (P.rules.length : Int) ≤ r
  · rw [show_none P hr]
    generalize P.terms.length = n1 at hb ⊢
    generalize P.vars.length = n2 at hb ⊢
    generalize P.rules.length = n3 at hb hr hr1 ⊢
    generalize P.levels.length = n4 at hb ⊢
    generalize P.assocs.length = n5 at hb ⊢
    generalize P.acts.length = n6 at hb ⊢
    have HB := Lib.hid hb
    clear h hsym k1 k2 k3 hb hat HNM HP hs
    by_cases h0 : r < 0
    · clear hr
      go_enter Tryz.func27, Tryz.ntmps27
      go_wp2_with fail
      go_ret
      exact ⟨rfl, HB.out⟩
    · have h1 : (n3 : Int) ≤ r := by omega
      clear hr
      go_enter Tryz.func27, Tryz.ntmps27
      go_wp2_with fail
      go_ret
      exact ⟨rfl, HB.out⟩
  · obtain ⟨k, rfl⟩ : ∃ k : Nat, r = (k : Int) := ⟨r.toNat, by omega⟩
    obtain ⟨x, hx⟩ := some_get (l := P.rules) (i := k) (by omega)
    have hxm := List.mem_of_getElem? hx
    have hsh : Nm.showT P (k : Int) = Nm.nameAt P.terms P.vars x.left ++ ([32, 58] ++ x.right.flatMap fun s => 32 :: Nm.nameAt P.terms P.vars s) := by
      unfold Nm.showT
      rw [if_neg hr, Int.toNat_natCast, show P.rules.getD k ⟨0, [], 0⟩ = x by simp [List.getD, hx]]
    rw [hsh]
    have HLN := Lib.hid (show ∀ i, (Nm.nameAt P.terms P.vars i).length ≤ 32 from fun i => nameAt_len hs.tn hs.vn i)
    generalize hNA : Nm.nameAt P.terms P.vars = NA at HNM HLN ⊢
    have HX := Lib.hid hx
    have hki : (k : Int) < (P.rules.length : Int) := by omega
    have hk0 : (0 : Int) ≤ (k : Int) := by omega
    generalize P.terms.length = n1 at hb hat HNM ⊢
    generalize P.vars.length = n2 at hb hat HNM ⊢
    generalize P.rules.length = n3 at hb hat HNM hki hr1 ⊢
    generalize P.levels.length = n4 at hb hat HNM ⊢
    generalize P.assocs.length = n5 at hb hat HNM ⊢
    generalize P.acts.length = n6 at hb hat HNM ⊢
    obtain ⟨b, o, A', c', hA, hbl, p0, p1, p2, hcl⟩ := (HP.out.below (hb.mono hB)).get hx
    subst hA
    obtain ⟨m, hm⟩ : ∃ m, x.right.length = m := ⟨_, rfl⟩
    rw [hm] at p1
    have HM := Lib.hid hm
    have hm3 : m ≤ 1000 := by have := hs.rr x hxm; omega
    obtain ⟨XL, hXL⟩ : ∃ XL, x.left = XL := ⟨_, rfl⟩
    rw [hXL] at p0
    rw [hXL]
    have HCL := Lib.hid hcl
    obtain ⟨XR, hXR⟩ : ∃ XR, x.right = XR := ⟨_, rfl⟩
    rw [hXR] at HM HCL ⊢
    obtain ⟨W0, hW0⟩ : ∃ W0, w.alloc (.cells #[.slice A1 n1 c1, .slice A2 n2 c2, .slice (some ⟨b, o, none⟩) n3 c3, .slice A4 n4 c4, .slice A5 n5 c5, .slice A6 n6 c6] 45) = W0 := ⟨_, rfl⟩
    rw [hW0] at hb hat p0 p1 p2 HCL
    obtain ⟨g0, hg0⟩ : ∃ g, w.heap.size = g := ⟨_, rfl⟩
    rw [hg0] at hat
    have HW0 := Lib.hid hW0
    have HG0 := Lib.hid hg0
    have HAT := Lib.hid hat
    have HB := Lib.hid hb
    have HP0 := Lib.hid (show _ ∧ _ from ⟨p0, p1⟩)
    have HBL := Lib.hid (show b < W0.heap.size by have := hb.size; omega)
    have HNL := Lib.hid (HNM.out XL)
    have hsl : (str (NA XL)).size ≤ 32 := by rw [str_len8]; exact HLN.out _
    have hs0 : str (NA XL ++ ([32, 58] ++ (XR.take 0).flatMap fun s => 32 :: NA s)) = str (NA XL) ++ ⟨#[32, 58]⟩ := by rw [List.take_zero, str_app9]; rfl
    have HS0 := Lib.hid hs0
    have HSTEP := Lib.hid (fun (q : Nat) (y : Int) (hq : XR[q]? = some y) => show str (NA XL ++ ([32, 58] ++ (XR.take (q + 1)).flatMap fun s => 32 :: NA s)) = str (NA XL ++ ([32, 58] ++ (XR.take q).flatMap fun s => 32 :: NA s)) ++ ⟨#[32]⟩ ++ str (NA y) by
      rw [List.take_add_one, hq]
      simp only [Option.toList_some, List.flatMap_append, List.flatMap_cons, List.flatMap_nil, List.append_nil]
      rw [show NA XL ++ ([32, 58] ++ ((XR.take q).flatMap (fun s => 32 :: NA s) ++ 32 :: NA y)) = (NA XL ++ ([32, 58] ++ (XR.take q).flatMap fun s => 32 :: NA s)) ++ ([32] ++ NA y) by simp, show (⟨#[32]⟩ : ByteArray) = str [32] from rfl, ← str_app9, ← str_app9]; simp)
    have HBD := Lib.hid (fun (q : Nat) => show (str (NA XL ++ ([32, 58] ++ (XR.take q).flatMap fun s => 32 :: NA s))).size ≤ 40000 by
      rw [str_len8]
      have h1 := HLN.out XL
      have h2 : ∀ l : List Int, (l.flatMap fun s => 32 :: NA s).length ≤ l.length * 33 := by
        intro l
        induction l with
        | nil => simp
        | cons y t ih =>
          have := HLN.out y
          simp only [List.flatMap_cons, List.length_append, List.length_cons]; omega
      have h3 := h2 (XR.take q)
      have h4 : (XR.take q).length ≤ 1000 := Nat.le_trans (by rw [List.length_take]; exact Nat.min_le_right _ _) (HM.out ▸ hm3)
      simp only [List.length_append, List.length_cons, List.length_nil]; omega)
    generalize hSL : str (NA XL) = SL at HNL hsl hs0
    have n1' : ¬ 9223372036854775807 < SL.size + 2 := by omega
    clear h hsym k1 k2 k3 hb hat hx hxm hs HP hr hcl hm hsh hW0 hg0 hs0 hXL hXR hNA p0 p1 p2
    go_enter Tryz.func27, Tryz.ntmps27
    have hz2 : (w.alloc (.cells #[.slice A1 n1 c1, .slice A2 n2 c2, .slice (some ⟨b, o, none⟩) n3 c3, .slice A4 n4 c4, .slice A5 n5 c5, .slice A6 n6 c6] 45)).cell? ⟨w.heap.size, 2, none⟩ = some (.slice (some ⟨b, o, none⟩) n3 c3) := by rw [HW0.out, HG0.out]; exact HAT.out.cell 2
    go_wp2_with fail
    rw [HW0.out, HG0.out]
    clear hz2
    have hat := HAT.out
    have p0 := hat.cell 0
    have p1 := hat.cell 1
    have p2 := hat.cell 2
    have p3 := hat.cell 3
    have p4 := hat.cell 4
    have p5 := hat.cell 5
    simp only [List.getElem?_toArray, List.getElem?_cons_zero, List.getElem?_cons_succ] at p0 p1 p2 p3 p4 p5
    obtain ⟨q0, q1⟩ := HP0.out
    clear hat
    have HCUR := Lib.hid (Below.refl W0.heap.size W0)
    have KEEP := Lib.hid (show ∀ w', Below W0.heap.size W0 w' → (w'.cell? ⟨g0, 0, none⟩ = some (.slice A1 n1 c1) ∧ w'.cell? ⟨g0, 1, none⟩ = some (.slice A2 n2 c2) ∧ w'.cell? ⟨g0, 2, none⟩ = some (.slice (some ⟨b, o, none⟩) n3 c3) ∧ w'.cell? ⟨g0, 3, none⟩ = some (.slice A4 n4 c4) ∧ w'.cell? ⟨g0, 4, none⟩ = some (.slice A5 n5 c5) ∧ w'.cell? ⟨g0, 5, none⟩ = some (.slice A6 n6 c6) ∧ w'.cell? ⟨b, o + k * 3, none⟩ = some (.int .i64 XL)) from fun w' hb => ⟨cell_keep9 p0 hb, cell_keep9 p1 hb, cell_keep9 p2 hb, cell_keep9 p3 hb, cell_keep9 p4 hb, cell_keep9 p5 hb, cell_keep9 q0 hb⟩)
    have hkk := KEEP.out W0 HCUR.out
    go_region_held3 (fun w' => w'.cell? ⟨g0, 0, none⟩ = some (.slice A1 n1 c1) ∧ w'.cell? ⟨g0, 1, none⟩ = some (.slice A2 n2 c2) ∧ w'.cell? ⟨g0, 2, none⟩ = some (.slice (some ⟨b, o, none⟩) n3 c3) ∧ w'.cell? ⟨g0, 3, none⟩ = some (.slice A4 n4 c4) ∧ w'.cell? ⟨g0, 4, none⟩ = some (.slice A5 n5 c5) ∧ w'.cell? ⟨g0, 5, none⟩ = some (.slice A6 n6 c6) ∧ w'.cell? ⟨b, o + k * 3, none⟩ = some (.int .i64 XL)) (first | exact hkk | exact KEEP.out _ HCUR.out | exact KEEP.out _ (below_drew HCUR.out)) (first
      | (go_at_call 24
         (first
           | (refine Calls.mono (HNL.out _ (HB.out.trans (HCUR.out.mono HB.out.size))) ?_
              rintro e wz ⟨rfl, hbz⟩
              have HCUR2 := Lib.hid (HCUR.out.trans (hbz.mono HCUR.out.size)))
           | (refine Calls.mono (HNL.out _ (HB.out.trans ((below_drew HCUR.out).mono HB.out.size))) ?_
              rintro e wz ⟨rfl, hbz⟩
              have HCUR2 := Lib.hid ((below_drew HCUR.out).trans (hbz.mono (below_drew HCUR.out).size))))
         have hkk := KEEP.out _ HCUR2.out
         clear HCUR hbz
         have HCUR := HCUR2
         clear HCUR2))
    have HBZ := Lib.hid HCUR.out
    clear HCUR KEEP hkk p0 p1 p2 p3 p4 p5 q0 q1 hsl
    go_wp2_with fail
    clear n1'
    have HSL := Lib.hid hSL
    clear hSL
    go_loopw [5, 6] (fun s j wr => ∃ (q : Nat) (SQ : ByteArray), q ≤ m ∧ j = .int .i64 (q : Int) ∧ s = .string SQ ∧ SQ = str (NA XL ++ ([32, 58] ++ (XR.take q).flatMap fun s => 32 :: NA s)) ∧ Below W0.heap.size W0 wr) (fun _ j _ => m - (intOf j).toNat)
    case atStart => exact ⟨0, _, by omega, rfl, rfl, by rw [HS0.out, HSL.out], HBZ.out⟩
    case round =>
      obtain ⟨q, SQ, hq, rfl, rfl, hsq, hbr⟩ := hrel
      have HSQ := Lib.hid hsq
      have hsz : SQ.size ≤ 40000 := by rw [hsq]; exact HBD.out q
      have HBR := Lib.hid hbr
      have hat := HAT.out.below hbr HAT.out.lt
      have p0 := hat.cell 0
      have p1 := hat.cell 1
      have p2 := hat.cell 2
      have p3 := hat.cell 3
      have p4 := hat.cell 4
      have p5 := hat.cell 5
      simp only [List.getElem?_toArray, List.getElem?_cons_zero, List.getElem?_cons_succ] at p0 p1 p2 p3 p4 p5
      have q1 : wr.cell? ⟨b, o + k * 3 + 1, none⟩ = some (.slice A' m c') := by rw [hbr.cell HBL.out]; exact HP0.out.2
      have HBW := Lib.hid (HB.out.trans (hbr.mono HB.out.size))
      have HC9 := Lib.hid (HCL.out.below (hbr.mono (Nat.le_trans hB HB.out.size)))
      clear hsq hbr hat
      by_cases hqm : q < m
      · obtain ⟨y, hy⟩ := some_get (l := XR) (i := q) (by rw [HM.out]; exact hqm)
        obtain ⟨xb, xo, hA, hxb, hcell⟩ := HC9.out.ex (fun e => by have := vals_get hy; rw [e] at this; simp at this)
        subst hA
        have v0 := hcell q _ (vals_get hy)
        have hst := HSTEP.out q y hy
        have hyl : (str (NA y)).size ≤ 32 := by rw [str_len8]; exact HLN.out y
        have HNY := Lib.hid (HNM.out y)
        rw [← HSQ.out] at hst
        generalize str (NA y) = Y0 at HNY hst hyl
        have HNX := Lib.hid hst
        have hq2 : (q : Int) < (m : Int) := by omega
        have hq0 : (0 : Int) ≤ (q : Int) := by omega
        have n3' : ¬ 9223372036854775807 < SQ.size + 1 := by omega
        have n4' : ¬ 9223372036854775807 < SQ.size + 1 + Y0.size := by omega
        clear hy hst hcell
        go_wp2_with fail
        have HCUR := Lib.hid (Below.refl wr.heap.size wr)
        have KEEP := Lib.hid (show ∀ w', Below wr.heap.size wr w' → (w'.cell? ⟨g0, 0, none⟩ = some (.slice A1 n1 c1) ∧ w'.cell? ⟨g0, 1, none⟩ = some (.slice A2 n2 c2) ∧ w'.cell? ⟨g0, 2, none⟩ = some (.slice (some ⟨b, o, none⟩) n3 c3) ∧ w'.cell? ⟨g0, 3, none⟩ = some (.slice A4 n4 c4) ∧ w'.cell? ⟨g0, 4, none⟩ = some (.slice A5 n5 c5) ∧ w'.cell? ⟨g0, 5, none⟩ = some (.slice A6 n6 c6) ∧ w'.cell? ⟨b, o + k * 3 + 1, none⟩ = some (.slice (some ⟨xb, xo, none⟩) m c') ∧ w'.cell? ⟨xb, xo + q, none⟩ = some (.int .i64 y)) from fun w' hb => ⟨cell_keep9 p0 hb, cell_keep9 p1 hb, cell_keep9 p2 hb, cell_keep9 p3 hb, cell_keep9 p4 hb, cell_keep9 p5 hb, cell_keep9 q1 hb, cell_keep9 v0 hb⟩)
        have hkk := KEEP.out wr HCUR.out
        go_region_held3 (fun w' => w'.cell? ⟨g0, 0, none⟩ = some (.slice A1 n1 c1) ∧ w'.cell? ⟨g0, 1, none⟩ = some (.slice A2 n2 c2) ∧ w'.cell? ⟨g0, 2, none⟩ = some (.slice (some ⟨b, o, none⟩) n3 c3) ∧ w'.cell? ⟨g0, 3, none⟩ = some (.slice A4 n4 c4) ∧ w'.cell? ⟨g0, 4, none⟩ = some (.slice A5 n5 c5) ∧ w'.cell? ⟨g0, 5, none⟩ = some (.slice A6 n6 c6) ∧ w'.cell? ⟨b, o + k * 3 + 1, none⟩ = some (.slice (some ⟨xb, xo, none⟩) m c') ∧ w'.cell? ⟨xb, xo + q, none⟩ = some (.int .i64 y)) (first | exact hkk | exact KEEP.out _ HCUR.out | exact KEEP.out _ (below_drew HCUR.out)) (first
          | (go_at_call 24
             (first
               | (refine Calls.mono (HNY.out _ (HBW.out.trans (HCUR.out.mono HBW.out.size))) ?_
                  rintro e wz ⟨rfl, hbz⟩
                  have HCUR2 := Lib.hid (HCUR.out.trans (hbz.mono HCUR.out.size)))
               | (refine Calls.mono (HNY.out _ (HBW.out.trans ((below_drew HCUR.out).mono HBW.out.size))) ?_
                  rintro e wz ⟨rfl, hbz⟩
                  have HCUR2 := Lib.hid ((below_drew HCUR.out).trans (hbz.mono (below_drew HCUR.out).size))))
             have hkk := KEEP.out _ HCUR2.out
             clear HCUR hbz
             have HCUR := HCUR2
             clear HCUR2))
        have HBN := Lib.hid (HBR.out.trans (HCUR.out.mono HBR.out.size))
        clear HCUR KEEP hkk p0 p1 p2 p3 p4 p5 q1 v0
        go_wp2_with fail
        go_roundw
        case rel => exact ⟨q + 1, _, by omega, by go_num, rfl, HNX.out.symm, HBN.out⟩
        case measure => simp [intOf]; omega
      · have hge : ¬ ((q : Int) < (m : Int)) := by omega
        have htk : XR.take q = XR := List.take_of_length_le (by rw [HM.out]; omega)
        have hsq2 := HSQ.out
        rw [htk] at hsq2
        have HS2 := Lib.hid hsq2
        clear hsq2 htk
        go_wp2_with fail
        go_ret
        exact ⟨by show Ending.returned (Value.string SQ) = _; rw [HS2.out]; rfl, HBW.out⟩
end Go.Proofs.YtccndcebbjipnaaGreatDoor
