import Derived.Test.YtdhhkancbgealaaGreatT38
import Derived.Test.YtdhhkancbgealaaGreatT20
import Derived.Test.YtdhhkancbgealaaGreatT31
import Derived.Test.YtdhhkancbgealaaGreatT25
import Derived.Test.YtdhhkancbgealaaGreatT18
import Derived.Deep.RegionLaw
namespace Go.Proofs.YtdhhkancbgealaaGreat
open Go.RowKit Go.Shelf
open Lx
set_option linter.unusedVariables false
set_option linter.unusedSimpArgs false
set_option maxRecDepth 100000
theorem RefIs.block {w : World} {B rt rm : Nat} {l m : Int} {ao : Option Addr} {n cap : Nat} {S : List Sl} (h : RefIs w B rt rm l m (.slice ao n cap) S) :
  ∃ b, ∀ k s, S[k]? = some s → ao = some ⟨b, 0, none⟩ ∧ b < w.heap.size ∧ ∀ r u, r < 8 → s.rc[r]? = some u → w.cell? ⟨b, k * 8 + r, none⟩ = some u := by
 cases hS : S with
 | nil => exact ⟨0, fun k s hk => by simp at hk⟩
 | cons q S' =>
  obtain ⟨b, cap', e, _⟩ := h.cells (k := 0) (s := q) (by rw [hS]; rfl)
  simp only [Value.slice.injEq] at e
  refine ⟨b, fun k s hk => ?_⟩
  rw [← hS] at hk
  obtain ⟨b2, cap2, e2, _, h3, h4, _⟩ := h.cells hk
  simp only [Value.slice.injEq] at e2
  have : b2 = b := by
   have h5 := e.1.symm.trans e2.1
   simp at h5; exact h5.symm
  subst this
  exact ⟨e.1, h3, h4⟩
theorem PlanR.shape3 {w : World} {v : Value} {P : Nm.Plan} (h : PlanR w v P) : ∃ P1 n1 c1 P2 n2 c2 P3 n3 c3 P4 n4 c4 P5 n5 c5 P6 n6 c6, v = .agg #[.slice P1 n1 c1, .slice P2 n2 c2, .slice P3 n3 c3, .slice P4 n4 c4, .slice P5 n5 c5, .slice P6 n6 c6] ∧ P.terms.length = n1 ∧ P.rules.length = n3 ∧ (∃ pl, Lie w 72 P3 (prodsV pl) ∧ pl.map (·.1) = P.rules ∧ ∀ p ∈ pl, IntL w p.2 p.1.right) := by
 obtain ⟨A1, c1, A2, c2, A3, c3, A4, c4, A5, c5, A6, c6, e, h1, _, h3⟩ := h.ex
 exact ⟨A1, _, c1, A2, _, c2, A3, _, c3, A4, _, c4, A5, _, c5, A6, _, c6, e, rfl, rfl, h3⟩
set_option maxHeartbeats 16000000 in
theorem rright_any (pv : Value) (P : Nm.Plan) (i : Int) (w : World) (B rt rm : Nat) (l m : Int) (v : Value) (S : List Sl) (h : RefIs w B rt rm l m v S) (hp : PlanR w pv P) (hG : Tr.Good (nds S)) (hL : (nds S).length ≤ 1000) (hrr : ∀ p ∈ P.rules, p.right.length ≤ 1000) :
  Calls Tryz.prog 32 #[.pointer (some ⟨rt, 0, none⟩), pv, .int .i64 i] w fun e w' => e = .returned (.bool (Tr.right P (nds S) i)) ∧ Below w.heap.size w w' := by
 obtain ⟨P1, n1, c1p, P2, n2, c2p, P3, n3, c3p, P4, n4, c4p, P5, n5, c5p, P6, n6, c6p, rfl, hn1, hn3, hpll⟩ := hp.shape3
 have HN1 := Lib.hid hn1
 have HN3 := Lib.hid hn3
 have HRR := Lib.hid hrr
 obtain ⟨W, hW⟩ : ∃ W, w.alloc (.cells #[.slice P1 n1 c1p, .slice P2 n2 c2p, .slice P3 n3 c3p, .slice P4 n4 c4p, .slice P5 n5 c5p, .slice P6 n6 c6p] 34) = W := ⟨_, rfl⟩
 have hb0 : Below w.heap.size w W := by rw [← hW]; exact (Below.refl w.heap.size w).alloc (Nat.le_refl _) _
 have ha0 : At W w.heap.size 34 #[.slice P1 n1 c1p, .slice P2 n2 c2p, .slice P3 n3 c3p, .slice P4 n4 c4p, .slice P5 n5 c5p, .slice P6 n6 c6p] := by rw [← hW]; exact At.new _ _ _
 have HPLL := Lib.hid (show ∃ pl, Lie W 72 P3 (prodsV pl) ∧ pl.map (·.1) = P.rules ∧ ∀ p ∈ pl, IntL W p.2 p.1.right from by
  obtain ⟨pl, k1, k2, k3⟩ := hpll
  exact ⟨pl, k1.below hb0, k2, fun p hp => (k3 p hp).stay (Stay.below hb0)⟩)
 have hRW := h.below hb0
 have HBE := Lib.hid (rbelow_any i W B rt rm l m v S hRW hG hL)
 have hbn := hG.below_len i
 have HHB := Lib.hid (show ∀ x ∈ Tr.below (nds S) i, Tr.has (nds S) x = true from fun x hx => by
  unfold Tr.below at hx
  split at hx
  ·rename_i hi
   have h1 := hG.bel_le (i.toNat + 1) i (by omega) x hx
   have h2 := Tr.has_true hi
   unfold Tr.has
   exact decide_eq_true (by omega)
  ·cases hx)
 have HGD := Lib.hid hG
 obtain ⟨ao, cap, rfl⟩ := own_form h.own
 have c1 := hRW.at_.cell 1
 simp only [List.getElem?_toArray, List.getElem?_cons_zero, List.getElem?_cons_succ] at c1
 have hrl := hRW.at_.lt
 obtain ⟨b, hblk⟩ := hRW.block
 have HC := Lib.hid hblk
 have HKD := Lib.hid hRW.kids
 obtain ⟨n, hn⟩ : ∃ n, S.length = n := ⟨_, rfl⟩
 have HLN := Lib.hid (show (nds S).length = n by rw [nds_len, hn])
 rw [hn] at c1
 have HSN := Lib.hid hn
 rw [HLN.out] at hbn hL
 obtain ⟨ANS, hANS⟩ : ∃ b, Tr.right P (nds S) i = b := ⟨_, rfl⟩
 rw [hANS]
 obtain ⟨K0, hK⟩ : ∃ K, Tr.below (nds S) i = K := ⟨_, rfl⟩
 have hans : ANS = (K0.all (fun k => Tr.fits P (nds S) (Tr.at_ (nds S) k)) && decide (0 < K0.length)) := by
  rw [← hANS, ← hK]
  unfold Tr.right Tr.below
  cases hh : Tr.has (nds S) i with
  | false => rfl
  | true =>
   rw [if_pos rfl, Bool.true_and]
   have : 0 < (Tr.Bel (nds S) i).length := by rw [Tr.Bel_eq hG.down]; simp
   rw [decide_eq_true this, Bool.and_true]
 rw [hK] at HBE hbn HHB
 have HNO := Lib.hid (show ∀ (j : Nat) (x : Int), K0[j]? = some x → Tr.fits P (nds S) (Tr.at_ (nds S) x) = false → ANS = false from fun j x hx hf => by
  rw [hans]
  have : K0.all (fun k => Tr.fits P (nds S) (Tr.at_ (nds S) k)) = false := List.all_eq_false.2 ⟨x, List.mem_of_getElem? hx, by rw [hf]; decide⟩
  rw [this]; rfl)
 obtain ⟨kn, hkn⟩ : ∃ kn, K0.length = kn := ⟨_, rfl⟩
 rw [hkn] at HBE hbn hans
 have HANS := Lib.hid hans
 have HKN := Lib.hid hkn
 obtain ⟨j0, hj0, hj1, hj2, hj3⟩ := info_parts infoIntW
 obtain ⟨pb, hpb⟩ : ∃ pb, w.heap.size = pb := ⟨_, rfl⟩
 have HBW0 := Lib.hid hb0
 rw [hpb] at ha0
 have hpbl := ha0.lt
 have p0 := ha0.cell 0
 have p2 := ha0.cell 2
 simp only [List.getElem?_toArray, List.getElem?_cons_zero, List.getElem?_cons_succ] at p0 p2
 have HW := Lib.hid hW
 have HPB := Lib.hid hpb
 clear h hp hn1 hn3 hpll hrr hW hb0 ha0 hRW hG hblk hn hANS hK hans hkn hpb
 go_enter Tryz.func32, Tryz.ntmps32
 go_wp2_with fail
 rw [HW.out]
 refine HBE.out.mono ?_
 rintro e w1 ⟨KA, kc, rfl, hko, hb1⟩
 have HB1 := Lib.hid hb1
 have HKL1 := Lib.hid (Lie.own hko)
 clear hko hb1 HBE
 go_wp2_with fail
 rw [HPB.out]
 go_loopw [8] (fun i wr => ∃ j : Nat, j ≤ kn ∧ i = .int .i64 (j : Int) ∧ (K0.take j).all (fun k => Tr.fits P (nds S) (Tr.at_ (nds S) k)) = true ∧ Below W.heap.size W wr ∧ Lie wr 3 KA (vals K0)) (fun i _ => kn - (intOf i).toNat)
 case atStart => exact ⟨0, by omega, rfl, rfl, HB1.out, HKL1.out⟩
 case round =>
  obtain ⟨j, hj, rfl, hall, hb, hl⟩ := hrel
  have HALL := Lib.hid hall
  have HB := Lib.hid hb
  have HL := Lib.hid hl
  clear hall hb hl
  by_cases hlt : j < kn
  case neg =>
   obtain rfl : kn = j := by omega
   rw [List.take_of_length_le (by rw [HKN.out]; exact Nat.le_refl _)] at HALL
   have ha : ANS = decide (0 < kn) := by rw [HANS.out, HALL.out]; rfl
   by_cases h0 : 0 < kn
   ·have ha2 : ANS = true := by rw [ha]; exact decide_eq_true h0
    subst ha2
    have h0i : (0 : Int) < (kn : Int) := by omega
    clear ha
    go_wp2_with fail
    go_ret
    exact ⟨rfl, HBW0.out.trans (HB.out.mono HBW0.out.size)⟩
   ·have ha2 : ANS = false := by rw [ha]; exact decide_eq_false h0
    subst ha2
    have h0i : ¬ (0 : Int) < (kn : Int) := by omega
    clear ha
    go_wp2_with fail
    go_ret
    exact ⟨rfl, HBW0.out.trans (HB.out.mono HBW0.out.size)⟩
  case pos =>
  have hji : (j : Int) < (kn : Int) := by omega
  have hj0' : (0 : Int) ≤ (j : Int) := by omega
  obtain ⟨x0, hx⟩ : ∃ x, K0[j]? = some x := ⟨_, List.getElem?_eq_getElem (by rw [HKN.out]; exact hlt)⟩
  have HXX := Lib.hid hx
  obtain ⟨bB, oB, rfl, hblB, hcB⟩ := lie_at HL.out hx
  have hxh := HHB.out x0 (List.mem_of_getElem? hx)
  have HYES := Lib.hid (show Tr.fits P (nds S) (Tr.at_ (nds S) x0) = true → (K0.take (j + 1)).all (fun k => Tr.fits P (nds S) (Tr.at_ (nds S) k)) = true from fun hf => by
   rw [all_take_succ _ hx, HALL.out]; simpa using hf)
  obtain ⟨k, hkx, hk⟩ := has_nat hxh
  rw [nds_len, HSN.out] at hk
  rw [hkx] at hcB
  obtain ⟨s, hs⟩ : ∃ s, S[k]? = some s := ⟨_, List.getElem?_eq_getElem (by rw [HSN.out]; exact hk)⟩
  obtain ⟨hao, hbl, hcl⟩ := HC.out k s hs
  have hat : Tr.at_ (nds S) x0 = s.x := by rw [hkx]; exact Tr.at_of (nds_at hs)
  have hlk := HKD.out s (List.mem_of_getElem? hs)
  have hkin : ∀ q ∈ s.x.kids, Tr.has (nds S) q = true := fun q hq => HGD.out.kid_has (i := x0) (by unfold Tr.kidsOf; rw [hat]; exact hq)
  have hkle := HGD.out.kids_lenR x0
  unfold Tr.kidsOf at hkle
  rw [hat, HLN.out] at hkle
  obtain ⟨FX, hFX⟩ : ∃ b, Tr.fits P (nds S) s.x = b := ⟨_, rfl⟩
  have HFX := Lib.hid (show Tr.fits P (nds S) (Tr.at_ (nds S) x0) = FX by rw [hat]; exact hFX)
  have e0 := (HB.out.cell (p := ⟨b, k * 8 + 0, none⟩) hbl).trans (hcl 0 _ (by omega) rfl)
  have e1 := (HB.out.cell (p := ⟨b, k * 8 + 1, none⟩) hbl).trans (hcl 1 _ (by omega) rfl)
  have e2 := (HB.out.cell (p := ⟨b, k * 8 + 2, none⟩) hbl).trans (hcl 2 _ (by omega) rfl)
  have e3 := (HB.out.cell (p := ⟨b, k * 8 + 3, none⟩) hbl).trans (hcl 3 _ (by omega) rfl)
  have e4 := (HB.out.cell (p := ⟨b, k * 8 + 4, none⟩) hbl).trans (hcl 4 _ (by omega) rfl)
  have e5 := (HB.out.cell (p := ⟨b, k * 8 + 5, none⟩) hbl).trans (hcl 5 _ (by omega) rfl)
  have e6 := (HB.out.cell (p := ⟨b, k * 8 + 6, none⟩) hbl).trans (hcl 6 _ (by omega) rfl)
  have e7 := (HB.out.cell (p := ⟨b, k * 8 + 7, none⟩) hbl).trans (hcl 7 _ (by omega) rfl)
  simp only [Nat.add_zero] at e0
  unfold Sl.kv at e6
  have d1 := (HB.out.cell (p := ⟨rt, 1, none⟩) hrl).trans c1
  rw [hao] at d1
  obtain ⟨⟨lf, un, ru, sy, ⟨t0, t1, t2⟩, KL⟩, KS, ksc⟩ := s
  dsimp only at e0 e1 e2 e3 e4 e5 e6 e7 hlk hkin hkle
  obtain ⟨ksn, hksn⟩ : ∃ x, KL.length = x := ⟨_, rfl⟩
  rw [hksn] at e6 hkle
  have HKL := Lib.hid hksn
  have HLK := Lib.hid hlk
  have HKH := Lib.hid hkin
  have HKS := Lib.hid (show ksn ≤ 1000 by omega)
  have hk0 : (0 : Int) ≤ (k : Int) := by omega
  have hkn1 : (k : Int) < (n : Int) := by omega
  have hbs := HB.out.size
  have hrw : rt < wr.heap.size := by omega
  have hbw : b < wr.heap.size := by omega
  have hz0 : wr.drew.cell? ⟨rt, 1, none⟩ = some (.slice (some ⟨b, 0, none⟩) n cap) ∧ wr.drew.cell? ⟨bB, oB + j, none⟩ = some (.int .i64 (k : Int)) ∧ wr.drew.cell? ⟨b, k * 8, none⟩ = some (.bool lf) ∧ wr.drew.cell? ⟨b, k * 8 + 1, none⟩ = some (.int .i64 ru) ∧ wr.drew.cell? ⟨b, k * 8 + 2, none⟩ = some (.int .i64 sy) ∧ wr.drew.cell? ⟨b, k * 8 + 3, none⟩ = some (.int .i64 t0) ∧ wr.drew.cell? ⟨b, k * 8 + 4, none⟩ = some (.int .i64 t1) ∧ wr.drew.cell? ⟨b, k * 8 + 5, none⟩ = some (.int .i64 t2) ∧ wr.drew.cell? ⟨b, k * 8 + 6, none⟩ = some (.slice KS ksn ksc) ∧ wr.drew.cell? ⟨b, k * 8 + 7, none⟩ = some (.bool un) := ⟨d1, hcB, e0, e1, e2, e3, e4, e5, e6, e7⟩
  have hbz1 : Below wr.heap.size wr (wr.drew.alloc (.cells #[.bool false, .int .i64 0, .int .i64 0, .int .i64 0, .int .i64 0, .int .i64 0, .slice none 0 0, .bool false] 56)) := (below_drew (Below.refl _ _)).alloc (by simp) _
  have hat9 : At (wr.drew.alloc (.cells #[.bool false, .int .i64 0, .int .i64 0, .int .i64 0, .int .i64 0, .int .i64 0, .slice none 0 0, .bool false] 56)) wr.heap.size 56 #[.bool false, .int .i64 0, .int .i64 0, .int .i64 0, .int .i64 0, .int .i64 0, .slice none 0 0, .bool false] := At.new wr.drew _ _
  have hz1 : (wr.drew.alloc (.cells #[.bool false, .int .i64 0, .int .i64 0, .int .i64 0, .int .i64 0, .int .i64 0, .slice none 0 0, .bool false] 56)).cell? ⟨rt, 1, none⟩ = some (.slice (some ⟨b, 0, none⟩) n cap) ∧ (wr.drew.alloc (.cells #[.bool false, .int .i64 0, .int .i64 0, .int .i64 0, .int .i64 0, .int .i64 0, .slice none 0 0, .bool false] 56)).cell? ⟨bB, oB + j, none⟩ = some (.int .i64 (k : Int)) ∧ (wr.drew.alloc (.cells #[.bool false, .int .i64 0, .int .i64 0, .int .i64 0, .int .i64 0, .int .i64 0, .slice none 0 0, .bool false] 56)).cell? ⟨b, k * 8, none⟩ = some (.bool lf) ∧ (wr.drew.alloc (.cells #[.bool false, .int .i64 0, .int .i64 0, .int .i64 0, .int .i64 0, .int .i64 0, .slice none 0 0, .bool false] 56)).cell? ⟨b, k * 8 + 1, none⟩ = some (.int .i64 ru) ∧ (wr.drew.alloc (.cells #[.bool false, .int .i64 0, .int .i64 0, .int .i64 0, .int .i64 0, .int .i64 0, .slice none 0 0, .bool false] 56)).cell? ⟨b, k * 8 + 2, none⟩ = some (.int .i64 sy) ∧ (wr.drew.alloc (.cells #[.bool false, .int .i64 0, .int .i64 0, .int .i64 0, .int .i64 0, .int .i64 0, .slice none 0 0, .bool false] 56)).cell? ⟨b, k * 8 + 3, none⟩ = some (.int .i64 t0) ∧ (wr.drew.alloc (.cells #[.bool false, .int .i64 0, .int .i64 0, .int .i64 0, .int .i64 0, .int .i64 0, .slice none 0 0, .bool false] 56)).cell? ⟨b, k * 8 + 4, none⟩ = some (.int .i64 t1) ∧ (wr.drew.alloc (.cells #[.bool false, .int .i64 0, .int .i64 0, .int .i64 0, .int .i64 0, .int .i64 0, .slice none 0 0, .bool false] 56)).cell? ⟨b, k * 8 + 5, none⟩ = some (.int .i64 t2) ∧ (wr.drew.alloc (.cells #[.bool false, .int .i64 0, .int .i64 0, .int .i64 0, .int .i64 0, .int .i64 0, .slice none 0 0, .bool false] 56)).cell? ⟨b, k * 8 + 6, none⟩ = some (.slice KS ksn ksc) ∧ (wr.drew.alloc (.cells #[.bool false, .int .i64 0, .int .i64 0, .int .i64 0, .int .i64 0, .int .i64 0, .slice none 0 0, .bool false] 56)).cell? ⟨b, k * 8 + 7, none⟩ = some (.bool un) := ⟨(hbz1.cell (p := ⟨rt, 1, none⟩) hrw).trans d1, (hbz1.cell (p := ⟨bB, oB + j, none⟩) hblB).trans hcB, (hbz1.cell (p := ⟨b, k * 8, none⟩) hbw).trans e0, (hbz1.cell (p := ⟨b, k * 8 + 1, none⟩) hbw).trans e1, (hbz1.cell (p := ⟨b, k * 8 + 2, none⟩) hbw).trans e2, (hbz1.cell (p := ⟨b, k * 8 + 3, none⟩) hbw).trans e3, (hbz1.cell (p := ⟨b, k * 8 + 4, none⟩) hbw).trans e4, (hbz1.cell (p := ⟨b, k * 8 + 5, none⟩) hbw).trans e5, (hbz1.cell (p := ⟨b, k * 8 + 6, none⟩) hbw).trans e6, (hbz1.cell (p := ⟨b, k * 8 + 7, none⟩) hbw).trans e7⟩
  have HFD := Lib.hid hFX
  have HAO := Lib.hid hao
  clear hx hxh hk hs hcl hat hlk hkin hkle hFX hksn hkx hao
  go_wp2_with fail
  refine Zed.begin_ (fun w' => w'.cell? ⟨rt, 1, none⟩ = some (.slice (some ⟨b, 0, none⟩) n cap) ∧ w'.cell? ⟨bB, oB + j, none⟩ = some (.int .i64 (k : Int)) ∧ w'.cell? ⟨b, k * 8, none⟩ = some (.bool lf) ∧ w'.cell? ⟨b, k * 8 + 1, none⟩ = some (.int .i64 ru) ∧ w'.cell? ⟨b, k * 8 + 2, none⟩ = some (.int .i64 sy) ∧ w'.cell? ⟨b, k * 8 + 3, none⟩ = some (.int .i64 t0) ∧ w'.cell? ⟨b, k * 8 + 4, none⟩ = some (.int .i64 t1) ∧ w'.cell? ⟨b, k * 8 + 5, none⟩ = some (.int .i64 t2) ∧ w'.cell? ⟨b, k * 8 + 6, none⟩ = some (.slice KS ksn ksc) ∧ w'.cell? ⟨b, k * 8 + 7, none⟩ = some (.bool un)) [11] (by kernel_rfl) ?_
  refine Zd.pureD (i := 0) (d := some 21) (v := ?vf0) rfl rfl (by kernel_rfl) (by kernel_rfl) (by kernel_rfl) (by kernel_rfl) (by kernel_rfl) (fun _ _ _ h => h) (Or.inl ⟨by kernel_rfl, ?hyf0⟩) (.inr hz0) ?restf0
  case hyf0 => (intro w _; go_simp; try with_reducible rfl)
  try simp only [Act.put, List.setIfInBounds_toArray, List.set_cons_zero, List.set_cons_succ]
  refine Zd.pureD (i := 1) (d := some 22) (v := ?vf1) rfl rfl (by kernel_rfl) (by kernel_rfl) (by kernel_rfl) (by kernel_rfl) (by kernel_rfl) (fun _ _ _ h => h) (Or.inl ⟨by kernel_rfl, ?hyf1⟩) (.inr hz0) ?restf1
  case hyf1 => (intro w _; go_simp; try with_reducible rfl)
  try simp only [Act.put, List.setIfInBounds_toArray, List.set_cons_zero, List.set_cons_succ]
  refine Zd.pureD (i := 2) (d := some 23) (v := ?vf2) rfl rfl (by kernel_rfl) (by kernel_rfl) (by kernel_rfl) (by kernel_rfl) (by kernel_rfl) (fun _ _ _ h => h) (Or.inl ⟨by kernel_rfl, ?hyf2⟩) (.inr hz0) ?restf2
  case hyf2 => (intro w _; go_simp; try with_reducible rfl)
  try simp only [Act.put, List.setIfInBounds_toArray, List.set_cons_zero, List.set_cons_succ]
  refine Zd.takeD (i := 3) (d := some 24) (v := ?vf3) rfl rfl (by kernel_rfl) (by kernel_rfl) (by kernel_rfl) (by kernel_rfl) (by kernel_rfl) (fun _ _ _ h => h) (Or.inl ⟨by kernel_rfl, ?hyf3⟩) hz0 ?restf3
  case hyf3 => (intro w hSw; (try dsimp only at hSw); obtain ⟨u0, u1, u2, u3, u4, u5, u6, u7, u8, u9⟩ := hSw; go_simp; try with_reducible rfl)
  try simp only [Act.put, List.setIfInBounds_toArray, List.set_cons_zero, List.set_cons_succ]
  refine Zd.pureD (i := 4) (d := some 25) (v := ?vf4) rfl rfl (by kernel_rfl) (by kernel_rfl) (by kernel_rfl) (by kernel_rfl) (by kernel_rfl) (fun _ _ _ h => h) (Or.inl ⟨by kernel_rfl, ?hyf4⟩) (.inr hz0) ?restf4
  case hyf4 => (intro w _; go_simp; try with_reducible rfl)
  try simp only [Act.put, List.setIfInBounds_toArray, List.set_cons_zero, List.set_cons_succ]
  refine Zd.pureD (i := 5) (d := some 26) (v := ?vf5) rfl rfl (by kernel_rfl) (by kernel_rfl) (by kernel_rfl) (by kernel_rfl) (by kernel_rfl) (fun _ _ _ h => h) (Or.inl ⟨by kernel_rfl, ?hyf5⟩) (.inr hz0) ?restf5
  case hyf5 => (intro w _; go_simp; try with_reducible rfl)
  try simp only [Act.put, List.setIfInBounds_toArray, List.set_cons_zero, List.set_cons_succ]
  refine Zd.pureD (i := 6) (d := some 27) (v := ?vf6) rfl rfl (by kernel_rfl) (by kernel_rfl) (by kernel_rfl) (by kernel_rfl) (by kernel_rfl) (fun _ _ _ h => h) (Or.inl ⟨by kernel_rfl, ?hyf6⟩) (.inr hz0) ?restf6
  case hyf6 => (intro w _; go_simp; try with_reducible rfl)
  try simp only [Act.put, List.setIfInBounds_toArray, List.set_cons_zero, List.set_cons_succ]
  refine Zd.takeD (i := 7) (d := some 28) (v := ?vf7) rfl rfl (by kernel_rfl) (by kernel_rfl) (by kernel_rfl) (by kernel_rfl) (by kernel_rfl) (fun _ _ _ h => h) (Or.inl ⟨by kernel_rfl, ?hyf7⟩) hz0 ?restf7
  case hyf7 => (intro w hSw; (try dsimp only at hSw); obtain ⟨u0, u1, u2, u3, u4, u5, u6, u7, u8, u9⟩ := hSw; go_simp; try with_reducible rfl)
  try simp only [Act.put, List.setIfInBounds_toArray, List.set_cons_zero, List.set_cons_succ]
  refine Zd.pureD (i := 8) (d := some 29) (v := ?vf8) rfl rfl (by kernel_rfl) (by kernel_rfl) (by kernel_rfl) (by kernel_rfl) (by kernel_rfl) (fun _ _ _ h => h) (Or.inl ⟨by kernel_rfl, ?hyf8⟩) (.inr hz0) ?restf8
  case hyf8 => (intro w _; go_simp; try with_reducible rfl)
  try simp only [Act.put, List.setIfInBounds_toArray, List.set_cons_zero, List.set_cons_succ]
  refine Zd.takeD (i := 9) (d := some 30) (v := ?vf9) rfl rfl (by kernel_rfl) (by kernel_rfl) (by kernel_rfl) (by kernel_rfl) (by kernel_rfl) (fun _ _ _ h => h) (Or.inl ⟨by kernel_rfl, ?hyf9⟩) hz0 ?restf9
  case hyf9 => (intro w hSw; (try dsimp only at hSw); obtain ⟨u0, u1, u2, u3, u4, u5, u6, u7, u8, u9⟩ := hSw; go_simp; try with_reducible rfl)
  try simp only [Act.put, List.setIfInBounds_toArray, List.set_cons_zero, List.set_cons_succ]
  refine Zed.one (i := 10) (by kernel_rfl) rfl (fun K hK => ?_)
  go_simp
  refine hK.out _ _ (.inr hz1) ?_
  clear hK K
  try simp only [Act.put, List.setIfInBounds_toArray, List.set_cons_zero, List.set_cons_succ]
  refine Zed.one (i := 11) (by kernel_rfl) rfl (fun K hK => ?_)
  rw [if_pos (by kernel_rfl)]
  refine wp_store_row 56 _ _ rfl wr.heap.size _ rfl rfl _ _ hat9 (by kernel_rfl) rfl (by simp [Value.oneCell']) ?_
  refine hK.out _ _ (.inl (by kernel_rfl)) ?_
  clear hK K
  try simp only [Act.put, List.setIfInBounds_toArray, List.set_cons_zero, List.set_cons_succ]
  refine Zed.all (by kernel_rfl) ?_ _
  obtain ⟨xb, hxb⟩ : ∃ xb, xb = wr.heap.size := ⟨_, rfl⟩
  have hA9 : At (((wr.alloc (.cells #[.bool false, .int .i64 0, .int .i64 0, .int .i64 0, .int .i64 0, .int .i64 0, .slice none 0 0, .bool false] 56)).drew).setRow wr.heap.size #[.bool lf, .int .i64 ru, .int .i64 sy, .int .i64 t0, .int .i64 t1, .int .i64 t2, .slice KS ksn ksc, .bool un]) wr.heap.size 56 #[.bool lf, .int .i64 ru, .int .i64 sy, .int .i64 t0, .int .i64 t1, .int .i64 t2, .slice KS ksn ksc, .bool un] := setRow_heap _ _ _ _ _ (0, 0) hat9
  have hb9 : Below wr.heap.size wr (((wr.alloc (.cells #[.bool false, .int .i64 0, .int .i64 0, .int .i64 0, .int .i64 0, .int .i64 0, .slice none 0 0, .bool false] 56)).drew).setRow wr.heap.size #[.bool lf, .int .i64 ru, .int .i64 sy, .int .i64 t0, .int .i64 t1, .int .i64 t2, .slice KS ksn ksc, .bool un]) := below_grown hbz1 ⟨rfl, rfl, rfl, by simp, fun j _ hj => setRow_other _ _ j _ (fun e => hj (by simp [e]))⟩ hbz1.size (Nat.le_refl _)
  obtain ⟨w9, hw9⟩ : ∃ w9, ((wr.alloc (.cells #[.bool false, .int .i64 0, .int .i64 0, .int .i64 0, .int .i64 0, .int .i64 0, .slice none 0 0, .bool false] 56)).drew).setRow wr.heap.size #[.bool lf, .int .i64 ru, .int .i64 sy, .int .i64 t0, .int .i64 t1, .int .i64 t2, .slice KS ksn ksc, .bool un] = w9 := ⟨_, rfl⟩
  rw [hw9] at hA9 hb9 ⊢
  rw [← hxb] at hA9 ⊢
  have HA9 := Lib.hid hA9
  have HB9 := Lib.hid (HB.out.trans (hb9.mono HB.out.size))
  have HL9 := Lib.hid (HL.out.below hb9)
  have r0 := hA9.cell 0
  have r1 := hA9.cell 1
  have r2 := hA9.cell 2
  have r6 := hA9.cell 6
  simp only [List.getElem?_toArray, List.getElem?_cons_zero, List.getElem?_cons_succ] at r0 r1 r2 r6
  have xbl := hA9.lt
  clear hA9 hb9 hw9 hxb hz0 hz1 hat9 hbz1
  have p0' := (HB9.out.cell (p := ⟨pb, 0, none⟩) hpbl).trans p0
  have p2' := (HB9.out.cell (p := ⟨pb, 2, none⟩) hpbl).trans p2
  have hpb9 : pb < w9.heap.size := Nat.lt_of_lt_of_le hpbl HB9.out.size
  cases lf with
  | true =>
   have hf : FX = decide (0 < sy ∧ sy < (n1 : Int)) := by rw [← HFD.out, ← HN1.out]; rfl
   by_cases h1 : sy < 1
   ·have ha : ANS = false := HNO.out j x0 HXX.out (by rw [HFX.out]; rw [hf]; exact decide_eq_false (by omega))
    subst ha
    clear hf
    go_wp2_with fail
    go_ret
    exact ⟨rfl, HBW0.out.trans (HB9.out.mono HBW0.out.size)⟩
   ·by_cases h2 : (n1 : Int) ≤ sy
    ·have ha : ANS = false := HNO.out j x0 HXX.out (by rw [HFX.out]; rw [hf]; exact decide_eq_false (by omega))
     subst ha
     clear hf
     go_wp2_with fail
     go_ret
     exact ⟨rfl, HBW0.out.trans (HB9.out.mono HBW0.out.size)⟩
    ·have HFT := Lib.hid (show FX = true by rw [hf]; exact decide_eq_true (by omega))
     clear hf
     go_wp2_with fail
     go_roundw
     case rel => exact ⟨j + 1, by omega, by go_num, HYES.out (by rw [HFX.out]; exact HFT.out), HB9.out, HL9.out⟩
     case measure => simp [intOf]; omega
  | false =>
   have hf : FX = if ru < 1 ∨ (n3 : Int) ≤ ru then false else match P.rules[ru.toNat]? with
     | none => false
     | some r => decide (sy = r.left) && decide (KL.map (fun k => (Tr.at_ (nds S) k).sym) = r.right) := by rw [← HFD.out, ← HN3.out]; rfl
   by_cases h1 : ru < 1
   ·have d1 : decide (ru < 1) = true := decide_eq_true h1
    have ha : ANS = false := HNO.out j x0 HXX.out (by rw [HFX.out]; rw [hf, if_pos (Or.inl h1)])
    subst ha
    clear hf
    go_wp2_with fail
    go_quiet (fail)
    go_wp2_with fail
    go_ret
    exact ⟨rfl, HBW0.out.trans ((below_drewN HB9.out _).mono HBW0.out.size)⟩
   ·have d1 : decide (ru < 1) = false := decide_eq_false h1
    by_cases h2 : (n3 : Int) ≤ ru
    ·have d2 : decide ((n3 : Int) ≤ ru) = true := decide_eq_true h2
     have ha : ANS = false := HNO.out j x0 HXX.out (by rw [HFX.out]; rw [hf, if_pos (Or.inr h2)])
     subst ha
     clear hf
     go_wp2_with fail
     go_quiet (fail)
     go_wp2_with fail
     go_ret
     exact ⟨rfl, HBW0.out.trans ((below_drewN HB9.out _).mono HBW0.out.size)⟩
    ·have d2 : decide ((n3 : Int) ≤ ru) = false := decide_eq_false h2
     obtain ⟨k2, hk2⟩ : ∃ k : Nat, ru = (k : Int) := ⟨ru.toNat, by omega⟩
     obtain ⟨pl, q3', q4', q5'⟩ := HPLL.out
     have hpl : pl.length = n3 := by rw [← HN3.out, ← q4', List.length_map]
     obtain ⟨⟨pi, pw⟩, hpk⟩ : ∃ p, pl[k2]? = some p := ⟨_, List.getElem?_eq_getElem (by omega)⟩
     have hpr : P.rules[k2]? = some pi := by rw [← q4', List.getElem?_map, hpk]; rfl
     have hrl2 := HRR.out pi (List.mem_of_getElem? hpr)
     obtain ⟨RA, rc, hpw, hRA⟩ := q5' _ (List.mem_of_getElem? hpk)
     dsimp only at hpw hRA
     subst hpw
     obtain ⟨bP, oP, hP3, hblP, y0p, y1p, _⟩ := prods_at q3' hpk
     dsimp only at y0p y1p
     rw [hP3] at p2 p2'
     obtain ⟨rn, hrn⟩ : ∃ n, pi.right.length = n := ⟨_, rfl⟩
     rw [hrn] at y1p hrl2
     have HRN := Lib.hid hrn
     have HRA := Lib.hid hRA
     rw [if_neg (by omega), hk2, Int.toNat_natCast, hpr] at hf
     dsimp only at hf
     obtain ⟨pl0, hpl0⟩ : ∃ z, pi.left = z := ⟨_, rfl⟩
     rw [hpl0] at y0p hf
     have z0p := (HB9.out.cell (p := ⟨bP, oP + k2 * 3, none⟩) hblP).trans y0p
     subst hk2
     have hk20 : (0 : Int) ≤ (k2 : Int) := by omega
     have hk2n : (k2 : Int) < (n3 : Int) := by omega
     have hk2m : ¬ n3 ≤ k2 := by omega
     have hk2l : k2 < n3 := by omega
     have d3 : decide (n3 ≤ k2) = false := decide_eq_false hk2m
     have d4 : decide ((k2 : Int) < 1) = false := decide_eq_false (by omega)
     have hP9 : bP < w9.heap.size := Nat.lt_of_lt_of_le hblP HB9.out.size
     have HFV0 := Lib.hid hf
     clear hpl hpk hpr hRA hrn hpl0 q3' q4' q5' hf hP3
     by_cases h3 : pl0 = sy
     ·subst h3
      have HFV := Lib.hid (show FX = (true && decide (KL.map (fun k => (Tr.at_ (nds S) k).sym) = pi.right)) by rw [HFV0.out, decide_eq_true rfl])
      clear HFV0
      go_wp2_with fail
      go_quiet (fail)
      go_wp2_with fail
      generalize hwk : w9.drewN _ = wk
      have hbk : Below w9.heap.size w9 wk := by rw [← hwk]; exact below_drewN (Below.refl _ _) _
      have HBK := Lib.hid (HB9.out.trans (hbk.mono HB9.out.size))
      have HLK0 := Lib.hid (HL9.out.below hbk)
      have s1 := (hbk.cell (p := ⟨xb, 1, none⟩) xbl).trans r1
      have s6 := (hbk.cell (p := ⟨xb, 6, none⟩) xbl).trans r6
      have xbk : xb < wk.heap.size := Nat.lt_of_lt_of_le xbl hbk.size
      clear hwk hbk r0 r1 r2 r6
      go_loopw [10, 11] (fun sv q wr => ∃ (p : Nat) (A : Option Addr) (c : Nat), p ≤ ksn ∧ q = .int .i64 (p : Int) ∧ sv = .slice A p c ∧ wr.ownsRow wk.heap.size 3 1 (.slice A p c) p (vals ((KL.take p).map fun k => (Tr.at_ (nds S) k).sym)) ∧ Below wk.heap.size wk wr) (fun _ q _ => ksn - (intOf q).toNat)
      case atStart => exact ⟨0, none, 0, by omega, rfl, rfl, World.ownsRow_nil _ _ _ _, Below.refl _ _⟩
      case round =>
       obtain ⟨p, A, c, hp, rfl, rfl, ho, hbw⟩ := hrel
       have HO := Lib.hid ho
       have HBW := Lib.hid hbw
       have HBR := Lib.hid (HBK.out.trans (hbw.mono HBK.out.size))
       have hks := HKS.out
       have v6 := (hbw.cell (p := ⟨xb, 6, none⟩) xbk).trans s6
       have v1 := (hbw.cell (p := ⟨xb, 1, none⟩) xbk).trans s1
       have xbr : xb < wr.heap.size := Nat.lt_of_lt_of_le xbk hbw.size
       clear ho hbw
       by_cases hlt2 : p < ksn
       case pos =>
        have hpi : (p : Int) < (ksn : Int) := by omega
        have hp0 : (0 : Int) ≤ (p : Int) := by omega
        obtain ⟨y, hy⟩ : ∃ y, KL[p]? = some y := ⟨_, List.getElem?_eq_getElem (by rw [HKL.out]; exact hlt2)⟩
        obtain ⟨bK, oK, hKS, hblK, hcK⟩ := lie_at (HLK.out.below HBR.out) hy
        have hyh := HKH.out y (List.mem_of_getElem? hy)
        obtain ⟨kk, rfl, hkk⟩ := has_nat hyh
        rw [nds_len, HSN.out] at hkk
        obtain ⟨s2, hs2⟩ : ∃ s, S[kk]? = some s := ⟨_, List.getElem?_eq_getElem (by rw [HSN.out]; exact hkk)⟩
        obtain ⟨_, _, hcl2⟩ := HC.out kk s2 hs2
        have w2c := (HBR.out.cell (p := ⟨b, kk * 8 + 2, none⟩) hbl).trans (hcl2 2 _ (by omega) rfl)
        have hat2 : Tr.at_ (nds S) (kk : Int) = s2.x := Tr.at_of (nds_at hs2)
        have HTM := Lib.hid (map_take_succ (fun k => (Tr.at_ (nds S) k).sym) hy)
        obtain ⟨sx, hsx⟩ : ∃ z, s2.x.sym = z := ⟨_, rfl⟩
        rw [hsx] at w2c
        have hsx2 : (Tr.at_ (nds S) (kk : Int)).sym = sx := by rw [hat2]; exact hsx
        rw [hsx2] at HTM
        have d2 := (HBR.out.cell (p := ⟨rt, 1, none⟩) hrl).trans c1
        rw [HAO.out] at d2
        rw [hKS] at v6
        have hkk0 : (0 : Int) ≤ (kk : Int) := by omega
        have hkkn : (kk : Int) < (n : Int) := by omega
        have hbr := HBR.out.size
        have hrw2 : rt < wr.heap.size := by omega
        have hbw2 : b < wr.heap.size := by omega
        have hz0 : wr.drew.cell? ⟨rt, 1, none⟩ = some (.slice (some ⟨b, 0, none⟩) n cap) ∧ wr.drew.cell? ⟨xb, 6, none⟩ = some (.slice (some ⟨bK, oK, none⟩) ksn ksc) ∧ wr.drew.cell? ⟨bK, oK + p, none⟩ = some (.int .i64 (kk : Int)) ∧ wr.drew.cell? ⟨b, kk * 8 + 2, none⟩ = some (.int .i64 sx) := ⟨d2, v6, hcK, w2c⟩
        have hbz1 : Below wr.heap.size wr (wr.drew.alloc (.cells #[.int .i64 sx] 3)) := (below_drew (Below.refl _ _)).alloc (by simp) _
        have hz1 : (wr.drew.alloc (.cells #[.int .i64 sx] 3)).cell? ⟨rt, 1, none⟩ = some (.slice (some ⟨b, 0, none⟩) n cap) ∧ (wr.drew.alloc (.cells #[.int .i64 sx] 3)).cell? ⟨xb, 6, none⟩ = some (.slice (some ⟨bK, oK, none⟩) ksn ksc) ∧ (wr.drew.alloc (.cells #[.int .i64 sx] 3)).cell? ⟨bK, oK + p, none⟩ = some (.int .i64 (kk : Int)) ∧ (wr.drew.alloc (.cells #[.int .i64 sx] 3)).cell? ⟨b, kk * 8 + 2, none⟩ = some (.int .i64 sx) := ⟨(hbz1.cell (p := ⟨rt, 1, none⟩) hrw2).trans d2, (hbz1.cell (p := ⟨xb, 6, none⟩) xbr).trans v6, (hbz1.cell (p := ⟨bK, oK + p, none⟩) hblK).trans hcK, (hbz1.cell (p := ⟨b, kk * 8 + 2, none⟩) hbw2).trans w2c⟩
        clear hy hyh hs2 hat2 hsx hsx2 hcl2 hKS hbz1
        go_wp2_with fail
        refine Zed.begin_ (fun w' => w'.cell? ⟨rt, 1, none⟩ = some (.slice (some ⟨b, 0, none⟩) n cap) ∧ w'.cell? ⟨xb, 6, none⟩ = some (.slice (some ⟨bK, oK, none⟩) ksn ksc) ∧ w'.cell? ⟨bK, oK + p, none⟩ = some (.int .i64 (kk : Int)) ∧ w'.cell? ⟨b, kk * 8 + 2, none⟩ = some (.int .i64 sx)) [14] (by kernel_rfl) ?_
        refine Zd.pureD (i := 0) (d := some 74) (v := ?vg0) rfl rfl (by kernel_rfl) (by kernel_rfl) (by kernel_rfl) (by kernel_rfl) (by kernel_rfl) (fun _ _ _ h => h) (Or.inl ⟨by kernel_rfl, ?hyg0⟩) (.inr hz0) ?restg0
        case hyg0 => (intro w _; go_simp; try with_reducible rfl)
        try simp only [Act.put, List.setIfInBounds_toArray, List.set_cons_zero, List.set_cons_succ]
        refine Zd.pureD (i := 1) (d := some 75) (v := ?vg1) rfl rfl (by kernel_rfl) (by kernel_rfl) (by kernel_rfl) (by kernel_rfl) (by kernel_rfl) (fun _ _ _ h => h) (Or.inl ⟨by kernel_rfl, ?hyg1⟩) (.inr hz0) ?restg1
        case hyg1 => (intro w _; go_simp; try with_reducible rfl)
        try simp only [Act.put, List.setIfInBounds_toArray, List.set_cons_zero, List.set_cons_succ]
        refine Zd.pureD (i := 2) (d := some 76) (v := ?vg2) rfl rfl (by kernel_rfl) (by kernel_rfl) (by kernel_rfl) (by kernel_rfl) (by kernel_rfl) (fun _ _ _ h => h) (Or.inl ⟨by kernel_rfl, ?hyg2⟩) (.inr hz0) ?restg2
        case hyg2 => (intro w _; go_simp; try with_reducible rfl)
        try simp only [Act.put, List.setIfInBounds_toArray, List.set_cons_zero, List.set_cons_succ]
        refine Zd.pureD (i := 3) (d := some 77) (v := ?vg3) rfl rfl (by kernel_rfl) (by kernel_rfl) (by kernel_rfl) (by kernel_rfl) (by kernel_rfl) (fun _ _ _ h => h) (Or.inl ⟨by kernel_rfl, ?hyg3⟩) (.inr hz0) ?restg3
        case hyg3 => (intro w _; go_simp; try with_reducible rfl)
        try simp only [Act.put, List.setIfInBounds_toArray, List.set_cons_zero, List.set_cons_succ]
        refine Zd.takeD (i := 4) (d := some 78) (v := ?vg4) rfl rfl (by kernel_rfl) (by kernel_rfl) (by kernel_rfl) (by kernel_rfl) (by kernel_rfl) (fun _ _ _ h => h) (Or.inl ⟨by kernel_rfl, ?hyg4⟩) hz0 ?restg4
        case hyg4 => (intro w hSw; (try dsimp only at hSw); obtain ⟨u0, u1, u2, u3⟩ := hSw; go_simp; try with_reducible rfl)
        try simp only [Act.put, List.setIfInBounds_toArray, List.set_cons_zero, List.set_cons_succ]
        refine Zd.pureD (i := 5) (d := some 79) (v := ?vg5) rfl rfl (by kernel_rfl) (by kernel_rfl) (by kernel_rfl) (by kernel_rfl) (by kernel_rfl) (fun _ _ _ h => h) (Or.inl ⟨by kernel_rfl, ?hyg5⟩) (.inr hz0) ?restg5
        case hyg5 => (intro w _; go_simp; try with_reducible rfl)
        try simp only [Act.put, List.setIfInBounds_toArray, List.set_cons_zero, List.set_cons_succ]
        refine Zd.takeD (i := 6) (d := some 80) (v := ?vg6) rfl rfl (by kernel_rfl) (by kernel_rfl) (by kernel_rfl) (by kernel_rfl) (by kernel_rfl) (fun _ _ _ h => h) (Or.inl ⟨by kernel_rfl, ?hyg6⟩) hz0 ?restg6
        case hyg6 => (intro w hSw; (try dsimp only at hSw); obtain ⟨u0, u1, u2, u3⟩ := hSw; go_simp; try with_reducible rfl)
        try simp only [Act.put, List.setIfInBounds_toArray, List.set_cons_zero, List.set_cons_succ]
        refine Zd.pureD (i := 7) (d := some 81) (v := ?vg7) rfl rfl (by kernel_rfl) (by kernel_rfl) (by kernel_rfl) (by kernel_rfl) (by kernel_rfl) (fun _ _ _ h => h) (Or.inl ⟨by kernel_rfl, ?hyg7⟩) (.inr hz0) ?restg7
        case hyg7 => (intro w _; go_simp; try with_reducible rfl)
        try simp only [Act.put, List.setIfInBounds_toArray, List.set_cons_zero, List.set_cons_succ]
        refine Zd.pureD (i := 8) (d := some 82) (v := ?vg8) rfl rfl (by kernel_rfl) (by kernel_rfl) (by kernel_rfl) (by kernel_rfl) (by kernel_rfl) (fun _ _ _ h => h) (Or.inl ⟨by kernel_rfl, ?hyg8⟩) (.inr hz0) ?restg8
        case hyg8 => (intro w _; go_simp; try with_reducible rfl)
        try simp only [Act.put, List.setIfInBounds_toArray, List.set_cons_zero, List.set_cons_succ]
        refine Zd.takeD (i := 9) (d := some 83) (v := ?vg9) rfl rfl (by kernel_rfl) (by kernel_rfl) (by kernel_rfl) (by kernel_rfl) (by kernel_rfl) (fun _ _ _ h => h) (Or.inl ⟨by kernel_rfl, ?hyg9⟩) hz0 ?restg9
        case hyg9 => (intro w hSw; (try dsimp only at hSw); obtain ⟨u0, u1, u2, u3⟩ := hSw; go_simp; try with_reducible rfl)
        try simp only [Act.put, List.setIfInBounds_toArray, List.set_cons_zero, List.set_cons_succ]
        refine Zd.pureD (i := 10) (d := some 84) (v := ?vg10) rfl rfl (by kernel_rfl) (by kernel_rfl) (by kernel_rfl) (by kernel_rfl) (by kernel_rfl) (fun _ _ _ h => h) (Or.inl ⟨by kernel_rfl, ?hyg10⟩) (.inr hz0) ?restg10
        case hyg10 => (intro w _; go_simp; try with_reducible rfl)
        try simp only [Act.put, List.setIfInBounds_toArray, List.set_cons_zero, List.set_cons_succ]
        refine Zd.pureD (i := 11) (d := some 85) (v := ?vg11) rfl rfl (by kernel_rfl) (by kernel_rfl) (by kernel_rfl) (by kernel_rfl) (by kernel_rfl) (fun _ _ _ h => h) (Or.inl ⟨by kernel_rfl, ?hyg11⟩) (.inr hz0) ?restg11
        case hyg11 => (intro w _; go_simp; try with_reducible rfl)
        try simp only [Act.put, List.setIfInBounds_toArray, List.set_cons_zero, List.set_cons_succ]
        refine Zd.takeD (i := 12) (d := some 86) (v := ?vg12) rfl rfl (by kernel_rfl) (by kernel_rfl) (by kernel_rfl) (by kernel_rfl) (by kernel_rfl) (fun _ _ _ h => h) (Or.inl ⟨by kernel_rfl, ?hyg12⟩) hz0 ?restg12
        case hyg12 => (intro w hSw; (try dsimp only at hSw); obtain ⟨u0, u1, u2, u3⟩ := hSw; go_simp; try with_reducible rfl)
        try simp only [Act.put, List.setIfInBounds_toArray, List.set_cons_zero, List.set_cons_succ]
        refine Zed.one (i := 13) (by kernel_rfl) rfl (fun K hK => ?_)
        go_simp
        refine hK.out _ _ (.inr hz1) ?_
        clear hK K
        try simp only [Act.put, List.setIfInBounds_toArray, List.set_cons_zero, List.set_cons_succ]
        refine Zed.one (i := 14) (by kernel_rfl) rfl (fun K hK => ?_)
        refine step_append_own4T _ (by kernel_rfl) _ _ 32 rfl wk.heap.size 3 j0 _ 1 8 Tryz.underlying32 hj0 hj1 hj2 hj3 rfl (by decide) _ p _ rfl (HO.out.drew.alloc (.cells #[.int .i64 sx] 3)) (some ⟨wr.heap.size, 0, none⟩) 1 1 [.int .i64 sx] rfl rfl (LiesT_lie (lie_new wr.drew 3 [.int .i64 sx])) (by simp [Value.oneCell']) (by unfold maxLen; omega) (by omega) (by have := HBW.out.size; simp; omega) ?_
        intro v5 w5 ho5 hg5 hn5
        obtain ⟨a5, c5', rfl⟩ := own_form ho5
        have hb5 : Below wk.heap.size wk w5 := ((below_drew HBW.out).alloc (by simpa using HBW.out.size) (.cells #[.int .i64 sx] 3)).grown hg5 (by have := HBW.out.size; simp; omega) (fun q hq => (HO.out.lt q hq).1)
        have HO5 := Lib.hid ho5
        have HB5 := Lib.hid hb5
        refine hK.out _ _ (.inl (by kernel_rfl)) ?_
        clear hK K ho5 hg5 hn5 hb5
        try simp only [Act.put, List.setIfInBounds_toArray, List.set_cons_zero, List.set_cons_succ]
        refine Zd.pureD (i := 15) (d := some 10) (v := ?vh15) rfl rfl (by kernel_rfl) (by kernel_rfl) (by kernel_rfl) (by kernel_rfl) (by kernel_rfl) (fun _ _ _ h => h) (Or.inl ⟨by kernel_rfl, ?hyh15⟩) (.inl (by kernel_rfl)) ?resth15
        case hyh15 => (intro w _; go_simp; try with_reducible rfl)
        try simp only [Act.put, List.setIfInBounds_toArray, List.set_cons_zero, List.set_cons_succ]
        refine Zed.all (by kernel_rfl) ?_ _
        clear hz0 hz1
        go_wp2_with fail
        go_roundw
        case rel =>
         refine ⟨p + 1, a5, c5', by omega, by go_num, rfl, ?_, HB5.out⟩
         rw [HTM.out, vals_app]; exact HO5.out
        case measure => simp [intOf]; omega
       case neg =>
        obtain rfl : ksn = p := by omega
        rw [List.take_of_length_le (by rw [HKL.out]; exact Nat.le_refl _)] at HO
        clear hlt2
        have HIN := Lib.hid (intsL_any A RA ksn rn c rc (KL.map fun k => (Tr.at_ (nds S) k).sym) pi.right wr (by rw [List.length_map, HKL.out]) HRN.out (Lie.own HO.out) (HRA.out.below HBR.out) (by omega))
        have q2 := (HBR.out.cell (p := ⟨pb, 2, none⟩) hpbl).trans p2
        have z1 := (HBR.out.cell (p := ⟨bP, oP + k2 * 3 + 1, none⟩) hblP).trans y1p
        have hbr := HBR.out.size
        have hpw : pb < wr.heap.size := by omega
        have hPw : bP < wr.heap.size := by omega
        obtain ⟨QQ, hQQ⟩ : ∃ b, decide ((KL.map fun k => (Tr.at_ (nds S) k).sym) = pi.right) = b := ⟨_, rfl⟩
        rw [hQQ] at HIN
        have HFQ := Lib.hid (show FX = QQ by rw [HFV.out, hQQ]; simp)
        clear hQQ
        cases QQ with
        | false =>
         have ha : ANS = false := HNO.out j x0 HXX.out (by rw [HFX.out]; exact HFQ.out)
         subst ha
         go_wp2_with fail
         refine HIN.out.mono ?_
         rintro e w11 ⟨rfl, hb11⟩
         have HB11 := Lib.hid (HBR.out.trans (hb11.mono HBR.out.size))
         clear hb11 HIN
         go_wp2_with fail
         go_ret
         exact ⟨rfl, HBW0.out.trans (HB11.out.mono HBW0.out.size)⟩
        | true =>
         go_wp2_with fail
         refine HIN.out.mono ?_
         rintro e w11 ⟨rfl, hb11⟩
         have HB11 := Lib.hid (HBR.out.trans (hb11.mono HBR.out.size))
         have HL11 := Lib.hid ((HLK0.out.below HBW.out).below hb11)
         clear hb11 HIN
         go_wp2_with fail
         go_roundw
         case rel => exact ⟨j + 1, by omega, by go_num, HYES.out (by rw [HFX.out]; exact HFQ.out), HB11.out, HL11.out⟩
         case measure => simp [intOf]; omega
     ·have hne : (pl0 != sy) = true := by simpa using h3
      have hf : FX = false := by rw [HFV0.out, decide_eq_false (fun h => h3 h.symm)]; rfl
      have ha : ANS = false := HNO.out j x0 HXX.out (by rw [HFX.out]; exact hf)
      subst ha
      clear hf
      go_wp2_with fail
      go_quiet (fail)
      go_wp2_with fail
      go_ret
      exact ⟨rfl, HBW0.out.trans ((below_drewN HB9.out _).mono HBW0.out.size)⟩
end Go.Proofs.YtdhhkancbgealaaGreat
