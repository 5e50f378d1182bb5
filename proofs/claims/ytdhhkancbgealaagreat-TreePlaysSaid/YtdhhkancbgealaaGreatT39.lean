import Derived.Test.YtdhhkancbgealaaGreatT38
import Derived.Test.YtdhhkancbgealaaGreatT37
import Derived.Test.YtdhhkancbgealaaGreatT18
import Derived.Deep.RegionLaw
namespace Go.Proofs.YtdhhkancbgealaaGreat
open Go.RowKit Go.Shelf
open Lx
set_option linter.unusedVariables false
set_option linter.unusedSimpArgs false
set_option maxRecDepth 100000
set_option maxHeartbeats 8000000 in
theorem ryield_any (i : Int) (w : World) (B rt rm : Nat) (l m : Int) (v : Value) (S : List Sl) (h : RefIs w B rt rm l m v S) (hG : Tr.Good (nds S)) (hL : (nds S).length ≤ 1000) :
  Calls Tryz.prog 30 #[.pointer (some ⟨rt, 0, none⟩), .int .i64 i] w fun e w' => ∃ A c, e = .returned (.slice A (Tr.yield (nds S) i).length c) ∧ w'.ownsRow w.heap.size 50 3 (.slice A (Tr.yield (nds S) i).length c) (Tr.yield (nds S) i).length (toksC (Tr.yield (nds S) i)) ∧ Below w.heap.size w w' := by
 have HBE := Lib.hid (rbelow_any i w B rt rm l m v S h hG hL)
 have hbn := hG.below_len i
 have HHB := Lib.hid (show ∀ x ∈ Tr.below (nds S) i, Tr.has (nds S) x = true from fun x hx => by
  unfold Tr.below at hx
  split at hx
  ·rename_i hi
   have h1 := hG.bel_le (i.toNat + 1) i (by omega) x hx
   have h2 := Tr.has_true hi
   unfold Tr.has
   exact decide_eq_true (by omega)
  ·cases hx)
 obtain ⟨ao, cap, rfl⟩ := own_form h.own
 have c1 := h.at_.cell 1
 simp only [List.getElem?_toArray, List.getElem?_cons_zero, List.getElem?_cons_succ] at c1
 have hrl := h.at_.lt
 have HC := Lib.hid (fun (k : Nat) (s : Sl) (hk : S[k]? = some s) => h.cells hk)
 obtain ⟨n, hn⟩ : ∃ n, S.length = n := ⟨_, rfl⟩
 have HLN := Lib.hid (show (nds S).length = n by rw [nds_len, hn])
 rw [hn] at c1 HC
 have HSN := Lib.hid hn
 rw [HLN.out] at hbn hL
 obtain ⟨Y, hY⟩ : ∃ Y, Tr.yield (nds S) i = Y := ⟨_, rfl⟩
 rw [hY]
 have HY := Lib.hid (show (Tr.below (nds S) i).flatMap (Tr.tokOf (nds S)) = Y from hY)
 obtain ⟨K0, hK⟩ : ∃ K, Tr.below (nds S) i = K := ⟨_, rfl⟩
 rw [hK] at HBE HY hbn HHB
 obtain ⟨kn, hkn⟩ : ∃ kn, K0.length = kn := ⟨_, rfl⟩
 rw [hkn] at HBE hbn
 have HKN := Lib.hid hkn
 obtain ⟨j0, hj0, hj1, hj2, hj3⟩ := info_parts infoTokT
 clear h hG hn hY hK hkn
 go_enter Tryz.func30, Tryz.ntmps30
 go_wp2_with fail
 refine HBE.out.mono ?_
 rintro e w1 ⟨KA, kc, rfl, hko, hb1⟩
 have HB1 := Lib.hid hb1
 have HKL := Lib.hid (Lie.own hko)
 clear hko hb1 HBE
 go_wp2_with fail
 go_loopw [5, 7] (fun l i wr => ∃ (j : Nat) (X : List Tr.Tok) (A : Option Addr) (c : Nat), j ≤ kn ∧ i = .int .i64 (j : Int) ∧ l = .slice A X.length c ∧ X.length ≤ j ∧ (K0.take j).flatMap (Tr.tokOf (nds S)) = X ∧ wr.ownsRow w.heap.size 50 3 (.slice A X.length c) X.length (toksC X) ∧ Below w.heap.size w wr ∧ Lie wr 3 KA (vals K0)) (fun _ i _ => kn - (intOf i).toNat)
 case atStart => exact ⟨0, [], none, 0, by omega, rfl, rfl, by simp, rfl, World.ownsRow_nil _ _ _ _, HB1.out, HKL.out⟩
 case round =>
  obtain ⟨j, X, A, c, hj, rfl, rfl, hXj, hX, ho, hb, hkl⟩ := hrel
  have HX := Lib.hid hX
  have HO := Lib.hid ho
  have HB := Lib.hid hb
  have HL := Lib.hid hkl
  obtain ⟨m0, hm0⟩ : ∃ m0, X.length = m0 := ⟨_, rfl⟩
  rw [hm0] at HO hXj ⊢
  have HM := Lib.hid hm0
  clear hX ho hb hkl hm0
  by_cases hlt : j < kn
  case pos =>
   have hji : (j : Int) < (kn : Int) := by omega
   have hj0' : (0 : Int) ≤ (j : Int) := by omega
   obtain ⟨x, hx⟩ : ∃ x, K0[j]? = some x := ⟨_, List.getElem?_eq_getElem (by rw [HKN.out]; exact hlt)⟩
   obtain ⟨bB, oB, rfl, hblB, hcB⟩ := lie_at HL.out hx
   have hxh := HHB.out x (List.mem_of_getElem? hx)
   have HT := Lib.hid (show (K0.take (j + 1)).flatMap (Tr.tokOf (nds S)) = X ++ Tr.tokOf (nds S) x by rw [take_snocT hx, List.flatMap_append, HX.out]; simp)
   obtain ⟨k, rfl, hk⟩ := has_nat hxh
   rw [nds_len, HSN.out] at hk
   obtain ⟨s, hs⟩ : ∃ s, S[k]? = some s := ⟨_, List.getElem?_eq_getElem (by rw [HSN.out]; exact hk)⟩
   obtain ⟨b, cap', e, _, hbl, hcl, _⟩ := HC.out k s hs
   simp only [Value.slice.injEq] at e
   have hao := e.1
   have hat : Tr.at_ (nds S) (k : Int) = s.x := Tr.at_of (nds_at hs)
   have HTO := Lib.hid (show Tr.tokOf (nds S) (k : Int) = if s.x.leaf = true then [s.x.tok] else [] by rw [← hat]; rfl)
   have y0 := (HB.out.cell (p := ⟨b, k * 8 + 0, none⟩) hbl).trans (hcl 0 _ (by omega) rfl)
   have y3 := (HB.out.cell (p := ⟨b, k * 8 + 3, none⟩) hbl).trans (hcl 3 _ (by omega) rfl)
   have y4 := (HB.out.cell (p := ⟨b, k * 8 + 4, none⟩) hbl).trans (hcl 4 _ (by omega) rfl)
   have y5 := (HB.out.cell (p := ⟨b, k * 8 + 5, none⟩) hbl).trans (hcl 5 _ (by omega) rfl)
   have d1 := (HB.out.cell (p := ⟨rt, 1, none⟩) hrl).trans c1
   rw [hao] at d1
   simp only [Nat.add_zero] at y0
   obtain ⟨⟨lf, un, ru, sy, ⟨t0, t1, t2⟩, ks⟩, sa, sc⟩ := s
   dsimp only at y0 y3 y4 y5 HTO
   have hk0 : (0 : Int) ≤ (k : Int) := by omega
   have hkn1 : (k : Int) < (n : Int) := by omega
   have hbs := HB.out.size
   have hrw : rt < wr.heap.size := by omega
   have hbw : b < wr.heap.size := by omega
   have hz0 : wr.drew.cell? ⟨rt, 1, none⟩ = some (.slice (some ⟨b, 0, none⟩) n cap) ∧ wr.drew.cell? ⟨bB, oB + j, none⟩ = some (.int .i64 (k : Int)) ∧ wr.drew.cell? ⟨b, k * 8 + 3, none⟩ = some (.int .i64 t0) ∧ wr.drew.cell? ⟨b, k * 8 + 4, none⟩ = some (.int .i64 t1) ∧ wr.drew.cell? ⟨b, k * 8 + 5, none⟩ = some (.int .i64 t2) := ⟨d1, hcB, y3, y4, y5⟩
   have HZ := Lib.hid hz0
   clear hx hxh hk hs hcl e hat hao hz0
   cases lf with
   | false =>
    go_wp2_with fail
    go_quiet (fail)
    go_wp2_with fail
    go_roundw
    case rel => exact ⟨j + 1, X, A, c, by omega, by go_num, by rw [HM.out], by rw [HM.out]; omega, by rw [HT.out, HTO.out]; simp, by rw [HM.out]; exact own_below HO.out (below_drewN (Below.refl _ _) _) (fun q hq => (HO.out.lt q hq).2), below_drewN HB.out _, HL.out.below (below_drewN (Below.refl _ _) _)⟩
    case measure => simp [intOf]; omega
   | true =>
    go_wp2_with fail
    go_quiet (fail)
    go_wp2_with fail
    generalize hw2 : wr.drewN _ = w2
    have hb2 : Below wr.heap.size wr w2 := by rw [← hw2]; exact below_drewN (Below.refl _ _) _
    have HB2 := Lib.hid (HB.out.trans (hb2.mono HB.out.size))
    have HO2 := Lib.hid (own_below HO.out hb2 (fun q hq => (HO.out.lt q hq).2))
    have HL2 := Lib.hid (HL.out.below hb2)
    have hz0 : w2.drew.cell? ⟨rt, 1, none⟩ = some (.slice (some ⟨b, 0, none⟩) n cap) ∧ w2.drew.cell? ⟨bB, oB + j, none⟩ = some (.int .i64 (k : Int)) ∧ w2.drew.cell? ⟨b, k * 8 + 3, none⟩ = some (.int .i64 t0) ∧ w2.drew.cell? ⟨b, k * 8 + 4, none⟩ = some (.int .i64 t1) ∧ w2.drew.cell? ⟨b, k * 8 + 5, none⟩ = some (.int .i64 t2) := ⟨(hb2.cell (p := ⟨rt, 1, none⟩) hrw).trans d1, (hb2.cell (p := ⟨bB, oB + j, none⟩) hblB).trans hcB, (hb2.cell (p := ⟨b, k * 8 + 3, none⟩) hbw).trans y3, (hb2.cell (p := ⟨b, k * 8 + 4, none⟩) hbw).trans y4, (hb2.cell (p := ⟨b, k * 8 + 5, none⟩) hbw).trans y5⟩
    have hbz1 : Below wr.heap.size wr (w2.drew.alloc (.cells #[.int .i64 t0, .int .i64 t1, .int .i64 t2] 50)) := (below_drew hb2).alloc (by simpa using hb2.size) _
    have hz1 : (w2.drew.alloc (.cells #[.int .i64 t0, .int .i64 t1, .int .i64 t2] 50)).cell? ⟨rt, 1, none⟩ = some (.slice (some ⟨b, 0, none⟩) n cap) ∧ (w2.drew.alloc (.cells #[.int .i64 t0, .int .i64 t1, .int .i64 t2] 50)).cell? ⟨bB, oB + j, none⟩ = some (.int .i64 (k : Int)) ∧ (w2.drew.alloc (.cells #[.int .i64 t0, .int .i64 t1, .int .i64 t2] 50)).cell? ⟨b, k * 8 + 3, none⟩ = some (.int .i64 t0) ∧ (w2.drew.alloc (.cells #[.int .i64 t0, .int .i64 t1, .int .i64 t2] 50)).cell? ⟨b, k * 8 + 4, none⟩ = some (.int .i64 t1) ∧ (w2.drew.alloc (.cells #[.int .i64 t0, .int .i64 t1, .int .i64 t2] 50)).cell? ⟨b, k * 8 + 5, none⟩ = some (.int .i64 t2) := ⟨(hbz1.cell (p := ⟨rt, 1, none⟩) hrw).trans d1, (hbz1.cell (p := ⟨bB, oB + j, none⟩) hblB).trans hcB, (hbz1.cell (p := ⟨b, k * 8 + 3, none⟩) hbw).trans y3, (hbz1.cell (p := ⟨b, k * 8 + 4, none⟩) hbw).trans y4, (hbz1.cell (p := ⟨b, k * 8 + 5, none⟩) hbw).trans y5⟩
    clear hw2 hb2 hbz1
    refine Zed.begin_ (fun w' => w'.cell? ⟨rt, 1, none⟩ = some (.slice (some ⟨b, 0, none⟩) n cap) ∧ w'.cell? ⟨bB, oB + j, none⟩ = some (.int .i64 (k : Int)) ∧ w'.cell? ⟨b, k * 8 + 3, none⟩ = some (.int .i64 t0) ∧ w'.cell? ⟨b, k * 8 + 4, none⟩ = some (.int .i64 t1) ∧ w'.cell? ⟨b, k * 8 + 5, none⟩ = some (.int .i64 t2)) [13] (by kernel_rfl) ?_
    refine Zd.pureD (i := 0) (d := some 28) (v := ?vy0) rfl rfl (by kernel_rfl) (by kernel_rfl) (by kernel_rfl) (by kernel_rfl) (by kernel_rfl) (fun _ _ _ h => h) (Or.inl ⟨by kernel_rfl, ?hyy0⟩) (.inr hz0) ?resty0
    case hyy0 => (intro w _; go_simp; try with_reducible rfl)
    try simp only [Act.put, List.setIfInBounds_toArray, List.set_cons_zero, List.set_cons_succ]
    refine Zd.pureD (i := 1) (d := some 29) (v := ?vy1) rfl rfl (by kernel_rfl) (by kernel_rfl) (by kernel_rfl) (by kernel_rfl) (by kernel_rfl) (fun _ _ _ h => h) (Or.inl ⟨by kernel_rfl, ?hyy1⟩) (.inr hz0) ?resty1
    case hyy1 => (intro w _; go_simp; try with_reducible rfl)
    try simp only [Act.put, List.setIfInBounds_toArray, List.set_cons_zero, List.set_cons_succ]
    refine Zd.pureD (i := 2) (d := some 30) (v := ?vy2) rfl rfl (by kernel_rfl) (by kernel_rfl) (by kernel_rfl) (by kernel_rfl) (by kernel_rfl) (fun _ _ _ h => h) (Or.inl ⟨by kernel_rfl, ?hyy2⟩) (.inr hz0) ?resty2
    case hyy2 => (intro w _; go_simp; try with_reducible rfl)
    try simp only [Act.put, List.setIfInBounds_toArray, List.set_cons_zero, List.set_cons_succ]
    refine Zd.pureD (i := 3) (d := some 31) (v := ?vy3) rfl rfl (by kernel_rfl) (by kernel_rfl) (by kernel_rfl) (by kernel_rfl) (by kernel_rfl) (fun _ _ _ h => h) (Or.inl ⟨by kernel_rfl, ?hyy3⟩) (.inr hz0) ?resty3
    case hyy3 => (intro w _; go_simp; try with_reducible rfl)
    try simp only [Act.put, List.setIfInBounds_toArray, List.set_cons_zero, List.set_cons_succ]
    refine Zd.takeD (i := 4) (d := some 32) (v := ?vy4) rfl rfl (by kernel_rfl) (by kernel_rfl) (by kernel_rfl) (by kernel_rfl) (by kernel_rfl) (fun _ _ _ h => h) (Or.inl ⟨by kernel_rfl, ?hyy4⟩) hz0 ?resty4
    case hyy4 => (intro w hSw; (try dsimp only at hSw); obtain ⟨u1, u2, u3, u4, u5⟩ := hSw; go_simp; try with_reducible rfl)
    try simp only [Act.put, List.setIfInBounds_toArray, List.set_cons_zero, List.set_cons_succ]
    refine Zd.pureD (i := 5) (d := some 33) (v := ?vy5) rfl rfl (by kernel_rfl) (by kernel_rfl) (by kernel_rfl) (by kernel_rfl) (by kernel_rfl) (fun _ _ _ h => h) (Or.inl ⟨by kernel_rfl, ?hyy5⟩) (.inr hz0) ?resty5
    case hyy5 => (intro w _; go_simp; try with_reducible rfl)
    try simp only [Act.put, List.setIfInBounds_toArray, List.set_cons_zero, List.set_cons_succ]
    refine Zd.pureD (i := 6) (d := some 34) (v := ?vy6) rfl rfl (by kernel_rfl) (by kernel_rfl) (by kernel_rfl) (by kernel_rfl) (by kernel_rfl) (fun _ _ _ h => h) (Or.inl ⟨by kernel_rfl, ?hyy6⟩) (.inr hz0) ?resty6
    case hyy6 => (intro w _; go_simp; try with_reducible rfl)
    try simp only [Act.put, List.setIfInBounds_toArray, List.set_cons_zero, List.set_cons_succ]
    refine Zd.pureD (i := 7) (d := some 35) (v := ?vy7) rfl rfl (by kernel_rfl) (by kernel_rfl) (by kernel_rfl) (by kernel_rfl) (by kernel_rfl) (fun _ _ _ h => h) (Or.inl ⟨by kernel_rfl, ?hyy7⟩) (.inr hz0) ?resty7
    case hyy7 => (intro w _; go_simp; try with_reducible rfl)
    try simp only [Act.put, List.setIfInBounds_toArray, List.set_cons_zero, List.set_cons_succ]
    refine Zd.takeD (i := 8) (d := some 36) (v := ?vy8) rfl rfl (by kernel_rfl) (by kernel_rfl) (by kernel_rfl) (by kernel_rfl) (by kernel_rfl) (fun _ _ _ h => h) (Or.inl ⟨by kernel_rfl, ?hyy8⟩) hz0 ?resty8
    case hyy8 => (intro w hSw; (try dsimp only at hSw); obtain ⟨u1, u2, u3, u4, u5⟩ := hSw; go_simp; try with_reducible rfl)
    try simp only [Act.put, List.setIfInBounds_toArray, List.set_cons_zero, List.set_cons_succ]
    refine Zd.pureD (i := 9) (d := some 37) (v := ?vy9) rfl rfl (by kernel_rfl) (by kernel_rfl) (by kernel_rfl) (by kernel_rfl) (by kernel_rfl) (fun _ _ _ h => h) (Or.inl ⟨by kernel_rfl, ?hyy9⟩) (.inr hz0) ?resty9
    case hyy9 => (intro w _; go_simp; try with_reducible rfl)
    try simp only [Act.put, List.setIfInBounds_toArray, List.set_cons_zero, List.set_cons_succ]
    refine Zd.pureD (i := 10) (d := some 38) (v := ?vy10) rfl rfl (by kernel_rfl) (by kernel_rfl) (by kernel_rfl) (by kernel_rfl) (by kernel_rfl) (fun _ _ _ h => h) (Or.inl ⟨by kernel_rfl, ?hyy10⟩) (.inr hz0) ?resty10
    case hyy10 => (intro w _; go_simp; try with_reducible rfl)
    try simp only [Act.put, List.setIfInBounds_toArray, List.set_cons_zero, List.set_cons_succ]
    refine Zd.takeD (i := 11) (d := some 39) (v := ?vy11) rfl rfl (by kernel_rfl) (by kernel_rfl) (by kernel_rfl) (by kernel_rfl) (by kernel_rfl) (fun _ _ _ h => h) (Or.inl ⟨by kernel_rfl, ?hyy11⟩) hz0 ?resty11
    case hyy11 => (intro w hSw; (try dsimp only at hSw); obtain ⟨u1, u2, u3, u4, u5⟩ := hSw; go_simp; try with_reducible rfl)
    try simp only [Act.put, List.setIfInBounds_toArray, List.set_cons_zero, List.set_cons_succ]
    refine Zed.one (i := 12) (by kernel_rfl) rfl (fun K hK => ?_)
    go_simp
    refine hK.out _ _ (.inr hz1) ?_
    clear hK K
    try simp only [Act.put, List.setIfInBounds_toArray, List.set_cons_zero, List.set_cons_succ]
    refine Zed.one (i := 13) (by kernel_rfl) rfl (fun K hK => ?_)
    refine step_append_own4T _ (by kernel_rfl) _ _ 63 rfl w.heap.size 50 j0 _ 3 24 Tryz.underlying63 hj0 hj1 hj2 hj3 rfl (by decide) _ m0 (toksC X) rfl (HO2.out.drew.alloc (.cells #[.int .i64 t0, .int .i64 t1, .int .i64 t2] 50)) (some ⟨w2.heap.size, 0, none⟩) 1 1 (tokC ⟨t0, t1, t2⟩) rfl rfl (LiesT_lie (lie_new w2.drew 50 (tokC ⟨t0, t1, t2⟩))) (by simp [tokC, Value.oneCell']) (by unfold maxLen; omega) (by omega) (by have := HB2.out.size; simp; omega) ?_
    intro v5 w5 ho5 hg5 hn5
    obtain ⟨a5, c5, rfl⟩ := own_form ho5
    have hb5 : Below w.heap.size w w5 := ((below_drew HB2.out).alloc (by simpa using HB2.out.size) (.cells #[.int .i64 t0, .int .i64 t1, .int .i64 t2] 50)).grown hg5 (by have := HB2.out.size; simp; omega) (fun k hk => (HO2.out.lt k hk).1)
    have hl5 : Lie w5 3 (some ⟨bB, oB, none⟩) (vals K0) := (HL2.out.drew.alloc _).stay (Stay.own (HO2.out.drew.alloc (.cells #[.int .i64 t0, .int .i64 t1, .int .i64 t2] 50)) (by decide) hg5)
    have HO5 := Lib.hid ho5
    have HB5 := Lib.hid hb5
    have HL5 := Lib.hid hl5
    refine hK.out _ _ (.inl (by kernel_rfl)) ?_
    clear hK K ho5 hg5 hn5 hb5 hl5
    try simp only [Act.put, List.setIfInBounds_toArray, List.set_cons_zero, List.set_cons_succ]
    refine Zd.pureD (i := 14) (d := some 5) (v := ?vz14) rfl rfl (by kernel_rfl) (by kernel_rfl) (by kernel_rfl) (by kernel_rfl) (by kernel_rfl) (fun _ _ _ h => h) (Or.inl ⟨by kernel_rfl, ?hyz14⟩) (.inl (by kernel_rfl)) ?restz14
    case hyz14 => (intro w _; go_simp; try with_reducible rfl)
    try simp only [Act.put, List.setIfInBounds_toArray, List.set_cons_zero, List.set_cons_succ]
    refine Zed.all (by kernel_rfl) ?_ _
    clear hz0 hz1
    go_wp2_with fail
    go_roundw
    case rel =>
     refine ⟨j + 1, X ++ [⟨t0, t1, t2⟩], a5, c5, by omega, by go_num, by rw [List.length_append, HM.out]; rfl, by rw [List.length_append, HM.out]; simp; omega, by rw [HT.out, HTO.out]; simp, ?_, HB5.out, HL5.out⟩
     rw [List.length_append, HM.out, toksC_append]; exact HO5.out
    case measure => simp [intOf]; omega
  case neg =>
   obtain rfl : kn = j := by omega
   rw [List.take_of_length_le (by rw [HKN.out]; exact Nat.le_refl _), HY.out] at HX
   obtain rfl : Y = X := HX.out
   go_wp2_with fail
   go_ret
   rw [HM.out]
   exact ⟨A, c, rfl, HO.out, HB.out⟩
end Go.Proofs.YtdhhkancbgealaaGreat
