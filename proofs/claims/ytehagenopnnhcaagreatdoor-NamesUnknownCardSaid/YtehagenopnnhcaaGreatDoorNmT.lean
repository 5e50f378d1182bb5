import Derived.Test.YtehagenopnnhcaaGreatDoorSmL
import Derived.Test.YtehagenopnnhcaaGreatDoorSmU
import Derived.Test.YtehagenopnnhcaaGreatDoorZed
import Derived.Test.YtehagenopnnhcaaGreatDoorPrSm
namespace Go.Proofs.YtehagenopnnhcaaGreatDoor
open Go.RowKit
open Lx
set_option linter.unusedVariables false
set_option linter.unusedSimpArgs false
set_option maxRecDepth 100000
theorem cl_lies {w : World} {B : Nat} {A : Option Addr} {xs : List Value} (h : Cl w B A xs) : Lies w A xs := fun j u hu => by
 obtain ⟨b, o, rfl, _, h3⟩ := h.ex (by rintro rfl; simp at hu)
 exact ⟨_, rfl, by rw [Go.WideShapes.add_plain]; exact h3 j u hu⟩
theorem rulesV_set : ∀ (l : List (Rd.Rule × Value)) (j : Nat) (p : Rd.Rule × Value) (x : Rd.Rule) (v : Value), l[j]? = some p → x.left = p.1.left → x.prec = p.1.prec → x.action = p.1.action → (rulesV l).set (j * 4 + 1) v = rulesV (l.set j (x, v))
 | [], j, p, x, v, h, _, _, _ => by simp at h
 | a :: r, 0, p, x, v, h, e1, e2, e3 => by
  simp at h; subst h
  show Value.string (str a.1.left) :: v :: .string (str a.1.prec) :: .string (str a.1.action) :: rulesV r = Value.string (str x.left) :: v :: .string (str x.prec) :: .string (str x.action) :: rulesV r
  rw [e1, e2, e3]
 | a :: r, j + 1, p, x, v, h, e1, e2, e3 => by
  have h2 := rulesV_set r j p x v (by simpa using h) e1 e2 e3
  have e : (j + 1) * 4 + 1 = j * 4 + 1 + 4 := by omega
  have e5 : rulesV (a :: r) = .string (str a.1.left) :: a.2 :: .string (str a.1.prec) :: .string (str a.1.action) :: rulesV r := rfl
  rw [e, e5, List.set_cons_succ, List.set_cons_succ, List.set_cons_succ, List.set_cons_succ, h2, List.set_cons_succ]
  rfl
theorem rem8 {an n4 i : Nat} (ha : (an : Int) ≤ 255) (hi : an % n4 = i) : (wrap64 (an : Int)).tmod (n4 : Int) = (i : Int) := by
 have h : wrap64 (an : Int) = (an : Int) := by unfold wrap64; omega
 rw [h, tmod_nat0, hi]
theorem right_sz9 {G : Rd.G} (h : Pr.Right G) (hN : (Pr.lvl G).length ≤ 10000) : Sz G := Right.sz8 h hN
set_option maxHeartbeats 16000000 in
theorem unknown8_law (v : Value) (s : Sm.S) (a : Int) (ha : 0 ≤ a ∧ a ≤ 255) (tk : Bool) (W : World) (hgs : SmallC W W.heap.size v s ∧ SmSz s) (hT : Tab W) (h0 : 1 < W.heap.size) :
  Calls Tryz.prog 7 #[v, .int .u8 a, .bool tk] W fun e w' => e = .returned (.bool true) ∧ Below W.heap.size W w' := by
 obtain ⟨hg, hs⟩ := hgs
 have HFEW := Lib.hid (show ∀ w', Below W.heap.size W w' → Calls Tryz.prog 22 #[v, .int .i64 20, .int .i64 7] w' fun e w'' => e = .returned (.bool (Sm.few s 20 7)) ∧ Below w'.heap.size w' w'' from fun w' hw' => sfew_any v s 20 7 W.heap.size w' (hg.below hw') hw'.size hs (by decide) (by decide))
 have HGR := Lib.hid (fun (hl5 : Sm.nl s ≤ 5) (h20 : s.lefts.length ≤ 20) (h8 : ∀ l ∈ s.rights, l.length ≤ 8) (w' : World) (hw' : Below W.heap.size W w') => sgram_any v s W.heap.size w' (hg.below hw') hw'.size hs hl5 h20 h8)
 have HT := Lib.hid hT
 obtain ⟨x1, x2, E1, m1, f1, E2, m2, f2, E3, m3, f3, E4, m4, f4, E5, m5, f5, rfl⟩ := small_form hg
 have HAT0 := Lib.hid (At.new W 52 #[.int .u8 x1, .int .u8 x2, .slice E1 m1 f1, .slice E2 m2 f2, .slice E3 m3 f3, .slice E4 m4 f4, .slice E5 m5 f5])
 have HB0 := Lib.hid ((Below.refl W.heap.size W).alloc (Nat.le_refl _) (.cells #[.int .u8 x1, .int .u8 x2, .slice E1 m1 f1, .slice E2 m2 f2, .slice E3 m3 f3, .slice E4 m4 f4, .slice E5 m5 f5] 52))
 have HT0 := Lib.hid (HT.out.below HB0.out h0)
 have hl0 : 1 < (W.alloc (.cells #[.int .u8 x1, .int .u8 x2, .slice E1 m1 f1, .slice E2 m2 f2, .slice E3 m3 f3, .slice E4 m4 f4, .slice E5 m5 f5] 52)).heap.size := Nat.lt_of_lt_of_le h0 HB0.out.size
 clear hg hs hT
 go_enter Tryz.func7, Tryz.ntmps7
 go_wp2_with fail
 refine (awake8_any _ HT0.out hl0).mono ?_
 rintro e w1 ⟨rfl, hb1⟩
 have HAT1 := Lib.hid (HAT0.out.below hb1 HAT0.out.lt)
 have HB1 := Lib.hid (HB0.out.trans (hb1.mono HB0.out.size))
 have ht1 := HAT1.out.lt
 clear hb1 hl0 HT0
 have x0 := HAT1.out.cell 0
 have x1' := HAT1.out.cell 1
 have x2' := HAT1.out.cell 2
 have x3 := HAT1.out.cell 3
 have x4 := HAT1.out.cell 4
 have x5 := HAT1.out.cell 5
 have x6 := HAT1.out.cell 6
 simp only [List.getElem?_toArray, List.getElem?_cons_zero, List.getElem?_cons_succ] at x0 x1' x2' x3 x4 x5 x6
 go_wp2_with fail
 refine (HFEW.out _ HB1.out).mono ?_
 rintro e w2 ⟨rfl, hb2⟩
 have HAT2 := Lib.hid (HAT1.out.below hb2 HAT1.out.lt)
 have HB2 := Lib.hid (HB1.out.trans (hb2.mono HB1.out.size))
 have ht2 := HAT2.out.lt
 clear hb2 HFEW HAT0 HB0 HAT1 HB1 x0 x1' x2' x3 x4 x5 x6
 have y0 := HAT2.out.cell 0
 have y1 := HAT2.out.cell 1
 have y2 := HAT2.out.cell 2
 have y3 := HAT2.out.cell 3
 have y4 := HAT2.out.cell 4
 have y5 := HAT2.out.cell 5
 have y6 := HAT2.out.cell 6
 simp only [List.getElem?_toArray, List.getElem?_cons_zero, List.getElem?_cons_succ] at y0 y1 y2 y3 y4 y5 y6
 cases hfew : Sm.few s 20 7 with
 | false =>
  go_wp2_with fail
  go_ret
  exact ⟨rfl, HB2.out⟩
 | true =>
  obtain ⟨h20, hl5, h8⟩ := Sm.few_parts hfew
  clear hfew
  have h8' : ∀ l ∈ s.rights, l.length ≤ 8 := fun l hl => Nat.le_trans (h8 l hl) (by decide)
  go_wp2_with fail
  refine (HGR.out hl5 h20 h8' _ HB2.out).mono ?_
  rintro e w3 ⟨⟨gv, rfl, hgc⟩, hb3⟩
  clear y0 y1 y2 y3 y4 y5 y6 HAT2 HGR
  have HFI := Lib.hid (Sm.fine_gram hl5 h20 h8')
  have HSZ := Lib.hid (small_sz hl5 h20 h8')
  have hB3 := HB2.out.trans (hb3.mono HB2.out.size)
  obtain ⟨G1, n1, d1, G2, n2, d2, G3, n3, d3, st, G4, n4, d4, rfl⟩ := gramC_form9 hgc
  have hat3 := At.new w3 27 #[.slice G1 n1 d1, .slice G2 n2 d2, .slice G3 n3 d3, .string st, .slice G4 n4 d4]
  have hb4 := (Below.refl w3.heap.size w3).alloc (Nat.le_refl _) (.cells #[.slice G1 n1 d1, .slice G2 n2 d2, .slice G3 n3 d3, .string st, .slice G4 n4 d4] 27)
  obtain ⟨w4, hw4⟩ : ∃ w4, w3.alloc (.cells #[.slice G1 n1 d1, .slice G2 n2 d2, .slice G3 n3 d3, .string st, .slice G4 n4 d4] 27) = w4 := ⟨_, rfl⟩
  rw [hw4] at hat3 hb4
  have hgc4 := hgc.below hb4
  have HB4 := Lib.hid (hB3.trans (hb4.mono hB3.size))
  have HT4 := Lib.hid (HT.out.below HB4.out h0)
  have hl4 : 1 < w4.heap.size := Nat.lt_of_lt_of_le h0 HB4.out.size
  obtain ⟨hgl1, hgl2, hgl3, hst, hgl4, hk1, ⟨pl, hk3, hpl, hpe⟩, hk4⟩ := gramC_all hgc4
  have hn1 : 1 ≤ n1 ∧ n1 ≤ 20 := by
   rw [← hgl1]
   refine ⟨?_, HFI.out.right.ntok⟩
   show 1 ≤ ((List.range (Sm.nt s)).map Sm.tok).length
   have := Sm.nt_le (s := s)
   simp; omega
  have hn4 : 1 ≤ n4 ∧ n4 ≤ 40 := by rw [← hgl4]; exact ⟨List.length_pos_iff.2 HFI.out.right.rules, HFI.out.right.nrule⟩
  obtain ⟨an, rfl⟩ : ∃ n : Nat, a = (n : Int) := ⟨a.toNat, by omega⟩
  obtain ⟨i, hi⟩ : ∃ i, an % n4 = i := ⟨_, rfl⟩
  have hin : i < n4 := by rw [← hi]; exact Nat.mod_lt _ (by omega)
  have HREM := Lib.hid (rem8 ha.2 hi)
  obtain ⟨r, hr⟩ := some_get (l := (Sm.gram s).rules) (i := i) (by rw [hgl4]; exact hin)
  obtain ⟨rb, ro, A', c', hA, hrb, y0, y1, y2, y3, hcl⟩ := hk4.get hr
  subst hA
  have HR := Lib.hid hr
  have HRM := Lib.hid (List.mem_of_getElem? hr)
  have heq0 := str_same r.left r.left
  obtain ⟨X0, hX0⟩ : ∃ X, str r.left = X := ⟨_, rfl⟩
  rw [hX0] at y0 heq0
  have HEQ := Lib.hid heq0
  have HX0 := Lib.hid hX0
  obtain ⟨gg, hgg⟩ : ∃ g, w3.heap.size = g := ⟨_, rfl⟩
  rw [hgg] at hat3 hgc4 hrb hcl hk4
  have HGC := Lib.hid hgc4
  have HATG := Lib.hid hat3
  have hlg := hat3.lt
  have hrbw : rb < w4.heap.size := by omega
  have HBG9 := Lib.hid (show W.heap.size ≤ gg by rw [← hgg]; exact hB3.size)
  have HGGW := Lib.hid (show gg ≤ w4.heap.size by omega)
  have g0 := hat3.cell 0
  have g1 := hat3.cell 1
  have g2 := hat3.cell 2
  have g3 := hat3.cell 3
  have g4 := hat3.cell 4
  simp only [List.getElem?_toArray, List.getElem?_cons_zero, List.getElem?_cons_succ] at g0 g1 g2 g3 g4
  have hni : (i : Int) < (n4 : Int) := by omega
  have hi0 : (0 : Int) ≤ (i : Int) := by omega
  have hn40 : ¬ n4 = 0 := by omega
  have hn41 : ((n4 : Int) == 0) = false := by rw [beq_eq_false_iff_ne]; omega
  have HW4 := Lib.hid hw4
  have HGGE := Lib.hid hgg
  have HL5 := Lib.hid hl5
  have H20 := Lib.hid h20
  have H7 := Lib.hid h8
  have H8 := Lib.hid h8'
  have HGL1 := Lib.hid hgl1
  have HGL4 := Lib.hid hgl4
  have HK1 := Lib.hid hk1
  have HK4 := Lib.hid hk4
  clear hi hr hX0 heq0 hgc hgc4 hb3 hB3 hat3 hb4 hgl1 hgl2 hgl3 hst hgl4 hk1 hk3 hpl hpe hk4 hl5 h20 h8 h8' ha HSZ
  cases tk with
  | true =>
   rw [← hw4, ← hgg] at g0 g1 g2 g3 g4 hlg
   rw [← hw4] at y0 y1 y2 y3
   clear hw4 hgg
   go_upto_region 8 with (fail)
   rw [HW4.out] at g0 g1 g2 g3 g4 hlg y0 y1 y2 y3 ⊢
   rw [HGGE.out] at g0 g1 g2 g3 g4 hlg ⊢
   rw [HREM.out]
   have htne : toksV (Sm.gram s).toks ≠ [] := by
    intro e
    have h := congrArg List.length e
    have h2 : (toksV (Sm.gram s).toks).length = (Sm.gram s).toks.length * 4 := by
     unfold toksV
     generalize (Sm.gram s).toks = L
     induction L with
     | nil => rfl
     | cons a r ih => rw [List.flatMap_cons, List.length_append, ih]; simp [Rd.Tok.cells]; omega
    rw [h2, HGL1.out] at h
    simp at h; omega
   obtain ⟨tb, to_, hA, htb, htc⟩ := HK1.out.ex htne
   subst hA
   obtain ⟨TV, hTV⟩ : ∃ TV, toksV (Sm.gram s).toks = TV := ⟨_, rfl⟩
   have HTV := Lib.hid hTV
   rw [hTV] at htc
   have HLE := Lib.hid (show TV.length = n1 * 4 by
    rw [← hTV, ← HGL1.out]
    unfold toksV
    generalize (Sm.gram s).toks = L
    induction L with
    | nil => rfl
    | cons a r ih => rw [List.flatMap_cons, List.length_append, ih]; simp [Rd.Tok.cells]; omega)
   have HON := Lib.hid (show ∀ u ∈ TV, u.oneCell' = true from fun u hu => by
    rw [← hTV] at hu
    unfold toksV at hu
    obtain ⟨t, _, hu⟩ := List.mem_flatMap.1 hu
    simp [Rd.Tok.cells] at hu
    rcases hu with rfl | rfl | rfl | rfl <;> rfl)
   have htbw : tb < w4.heap.size := by have := HGGE.out; omega
   have HCE := Lib.hid (show ∀ w', Below w4.heap.size w4 w' → ∀ i u, TV[i]? = some u → w'.cell? ((⟨tb, to_, none⟩ : Addr).add i) = some u from fun w' hb i u hu => by
    rw [Go.WideShapes.add_plain]; exact (hb.cell (p := ⟨tb, to_ + i, none⟩) htbw).trans (htc i u hu))
   obtain ⟨iT, hiT, hT0, hT1, hT2⟩ := info_parts infoToken
   have hc5 : 0 + n1 ≤ maxLen := by unfold maxLen; omega
   have hc6 : (0 + n1) * 56 ≤ 140737488355328 := by omega
   have hc7 : n1 + 1 ≤ maxLen := by unfold maxLen; omega
   have hc8 : (n1 + 1) * 56 ≤ 140737488355328 := by omega
   have hz0 : Below w4.heap.size w4 w4.drew := below_drew (Below.refl _ _)
   clear htc htb hTV htne hn40 hn41
   refine Zed.begin_ (fun w' => Below w4.heap.size w4 w') [15] (by kernel_rfl) ?_
   refine Zed.pure (i := 1) (v := ?vq1) rfl (by kernel_rfl) (by kernel_rfl) (by kernel_rfl) (by kernel_rfl) (by kernel_rfl) (fun _ _ _ h => h) (Or.inl ⟨by rfl, ?hyq1⟩) (.inr hz0) ?restq1
   case hyq1 => (intro w _; go_simp; try with_reducible rfl)
   try simp only [Act.put, List.setIfInBounds_toArray, List.set_cons_zero, List.set_cons_succ]
   refine Zed.take (i := 2) (v := ?vq2) rfl (by kernel_rfl) (by kernel_rfl) (by kernel_rfl) (by kernel_rfl) (by kernel_rfl) (fun _ _ _ h => h) (Or.inl ⟨by rfl, ?hyq2⟩) hz0 ?restq2
   case hyq2 => (intro w hSw; (try dsimp only at hSw); have hc := (hSw.cell (p := ⟨gg, 0, none⟩) hlg).trans g0; go_simp; try with_reducible rfl)
   try simp only [Act.put, List.setIfInBounds_toArray, List.set_cons_zero, List.set_cons_succ]
   refine Zed.pure (i := 4) (v := ?vq4) rfl (by kernel_rfl) (by kernel_rfl) (by kernel_rfl) (by kernel_rfl) (by kernel_rfl) (fun _ _ _ h => h) (Or.inl ⟨by rfl, ?hyq4⟩) (.inr hz0) ?restq4
   case hyq4 => (intro w _; go_simp; try with_reducible rfl)
   try simp only [Act.put, List.setIfInBounds_toArray, List.set_cons_zero, List.set_cons_succ]
   refine Zed.take (i := 5) (v := ?vq5) rfl (by kernel_rfl) (by kernel_rfl) (by kernel_rfl) (by kernel_rfl) (by kernel_rfl) (fun _ _ _ h => h) (Or.inl ⟨by rfl, ?hyq5⟩) hz0 ?restq5
   case hyq5 => (intro w hSw; (try dsimp only at hSw); have hc := (hSw.cell (p := ⟨gg, 4, none⟩) hlg).trans g4; go_simp; try with_reducible rfl)
   try simp only [Act.put, List.setIfInBounds_toArray, List.set_cons_zero, List.set_cons_succ]
   refine Zed.pure (i := 6) (v := ?vq6) rfl (by kernel_rfl) (by kernel_rfl) (by kernel_rfl) (by kernel_rfl) (by kernel_rfl) (fun _ _ _ h => h) (Or.inl ⟨by rfl, ?hyq6⟩) (.inr hz0) ?restq6
   case hyq6 => (intro w _; go_simp; try with_reducible rfl)
   try simp only [Act.put, List.setIfInBounds_toArray, List.set_cons_zero, List.set_cons_succ]
   refine Zed.pure (i := 7) (v := ?vq7) rfl (by kernel_rfl) (by kernel_rfl) (by kernel_rfl) (by kernel_rfl) (by kernel_rfl) (fun _ _ _ h => h) (Or.inl ⟨by rfl, ?hyq7⟩) (.inr hz0) ?restq7
   case hyq7 => (intro w _; go_simp; try with_reducible rfl)
   try simp only [Act.put, List.setIfInBounds_toArray, List.set_cons_zero, List.set_cons_succ]
   refine Zed.pure (i := 8) (v := ?vq8) rfl (by kernel_rfl) (by kernel_rfl) (by kernel_rfl) (by kernel_rfl) (by kernel_rfl) (fun _ _ _ h => h) (Or.inl ⟨by rfl, ?hyq8⟩) (.inr hz0) ?restq8
   case hyq8 => (intro w _; go_simp; try with_reducible rfl)
   try simp only [Act.put, List.setIfInBounds_toArray, List.set_cons_zero, List.set_cons_succ]
   refine Zed.take (i := 9) (v := ?vq9) rfl (by kernel_rfl) (by kernel_rfl) (by kernel_rfl) (by kernel_rfl) (by kernel_rfl) (fun _ _ _ h => h) (Or.inl ⟨by rfl, ?hyq9⟩) hz0 ?restq9
   case hyq9 => (intro w hSw; (try dsimp only at hSw); have hc := (hSw.cell (p := ⟨rb, ro + i * 4, none⟩) hrbw).trans y0; go_simp; try with_reducible rfl)
   try simp only [Act.put, List.setIfInBounds_toArray, List.set_cons_zero, List.set_cons_succ]
   refine Zed.pure (i := 10) (v := ?vq10) rfl (by kernel_rfl) (by kernel_rfl) (by kernel_rfl) (by kernel_rfl) (by kernel_rfl) (fun _ _ _ h => h) (Or.inl ⟨by rfl, ?hyq10⟩) (.inr hz0) ?restq10
   case hyq10 => (intro w _; go_simp; try with_reducible rfl)
   try simp only [Act.put, List.setIfInBounds_toArray, List.set_cons_zero, List.set_cons_succ]
   refine Zed.pure (i := 11) (v := ?vq11) rfl (by kernel_rfl) (by kernel_rfl) (by kernel_rfl) (by kernel_rfl) (by kernel_rfl) (fun _ _ _ h => h) (Or.inl ⟨by rfl, ?hyq11⟩) (.inr hz0) ?restq11
   case hyq11 => (intro w _; go_simp; try with_reducible rfl)
   try simp only [Act.put, List.setIfInBounds_toArray, List.set_cons_zero, List.set_cons_succ]
   refine Zed.two (i := 0) (j := 12) (by kernel_rfl) rfl rfl (fun K hK => ?_) (fun K hK => ?_)
   ·go_simp
    have hz1 := hz0.alloc hz0.size (.cells #[] 41)
    have hE := own_none9 w4.drew 41 4
    refine hK.out _ _ (.inr hz1) ?_
    clear hK K
    try simp only [Act.put, List.setIfInBounds_toArray, List.set_cons_zero, List.set_cons_succ]
    refine Zed.two (i := 3) (j := 12) (by kernel_rfl) rfl rfl (fun K hK => ?_) (fun K hK => ?_)
    ·refine step_append_own2 rfl _ _ 22 rfl w4.heap.size 41 iT _ 4 56 Tryz.underlying22 hiT hT0 hT1 hT2 rfl (by decide) _ 0 [] rfl hE ⟨tb, to_, none⟩ n1 d1 TV rfl HLE.out (HCE.out _ hz1) HON.out hc5 hc6 hz1.size ?_
     intro v5 w5 hown5 hg5 hn5
     rw [Nat.zero_add, List.nil_append] at hown5
     obtain ⟨a5, s5, rfl⟩ := own_form hown5
     have hz2 := hz1.grown hg5 hz1.size (fun j hj => (own_lt hE j hj).1)
     refine hK.out _ _ (.inr hz2) ?_
     clear hK K
     try simp only [Act.put, List.setIfInBounds_toArray, List.set_cons_zero, List.set_cons_succ]
     refine Zed.one (i := 12) (by kernel_rfl) rfl (fun K hK => ?_)
     go_simp
     have hz3 := hz2.alloc hz2.size (.cells #[.string X0, .string ⟨#[120]⟩, .string ⟨#[]⟩, .bool false] 41)
     refine hK.out _ _ (.inr hz3) ?_
     clear hK K
     try simp only [Act.put, List.setIfInBounds_toArray, List.set_cons_zero, List.set_cons_succ]
     refine Zed.one (i := 13) (by kernel_rfl) rfl (fun K hK => ?_)
     refine step_append_own2 rfl _ _ 22 rfl w4.heap.size 41 iT _ 4 56 Tryz.underlying22 hiT hT0 hT1 hT2 rfl (by decide) _ n1 TV rfl (hown5.alloc _) ⟨w5.heap.size, 0, none⟩ 1 1 [.string X0, .string ⟨#[120]⟩, .string ⟨#[]⟩, .bool false] rfl rfl (cells_new _ _ _) (by simp [Value.oneCell']) hc7 hc8 hz3.size ?_
     intro v6 w6 hown6 hg6 hn6
     obtain ⟨a6, s6, rfl⟩ := own_form hown6
     have hz6 := hz3.grown hg6 hz3.size (fun j hj => (own_lt hown5 j hj).1)
     have u0 := (hz6.cell (p := ⟨gg, 0, none⟩) hlg).trans g0
     have uf := (HATG.out.below hz6 hlg).frozen
     refine hK.out _ _ (.inr hz6) ?_
     clear hK K
     try simp only [Act.put, List.setIfInBounds_toArray, List.set_cons_zero, List.set_cons_succ]
     refine Zed.pure (i := 14) (v := ?vqc14) rfl (by kernel_rfl) (by kernel_rfl) (by kernel_rfl) (by kernel_rfl) (by kernel_rfl) (fun _ _ _ h => h) (Or.inl ⟨by rfl, ?hyqc14⟩) (.inr hz6) ?restqc14
     case hyqc14 => (intro w _; go_simp; try with_reducible rfl)
     try simp only [Act.put, List.setIfInBounds_toArray, List.set_cons_zero, List.set_cons_succ]
     refine Zed.one (i := 15) (by kernel_rfl) rfl (fun K hK => ?_)
     go_simp
     refine hK.out _ _ (.inl (by kernel_rfl)) ?_
     clear hK K
     try simp only [Act.put, List.setIfInBounds_toArray, List.set_cons_zero, List.set_cons_succ]
     refine Zed.all (by kernel_rfl) ?_ _
     have hat6 := HATG.out.below hz6 hlg
     have hset := hat6.set 0 (.slice a6 (n1 + 1) s6)
     have hfar : ∀ t, t ≠ 27 → Stay t w6 (w6.setCell ⟨gg, 0, none⟩ (.slice a6 (n1 + 1) s6)) := fun t ht => Stay.far hat6 ht (grown_set (grown_refl _ _) 0 _)
     have hb7 : Below gg w4 (w6.setCell ⟨gg, 0, none⟩ (.slice a6 (n1 + 1) s6)) := below_grown (hz6.mono HGGW.out) (grown_set (grown_refl _ _) 0 _) (Nat.le_trans HGGW.out hz6.size) (Nat.le_refl _)
     have htl := Lie.own (own_stay hown6 (hfar _ (by decide)))
     obtain ⟨w7, hw7⟩ : ∃ W, w6.setCell ⟨gg, 0, none⟩ (.slice a6 (n1 + 1) s6) = W := ⟨_, rfl⟩
     rw [hw7] at hset hb7 htl ⊢
     have hset' : At w7 gg 27 #[.slice a6 (n1 + 1) s6, .slice G2 n2 d2, .slice G3 n3 d3, .string st, .slice (some ⟨rb, ro, none⟩) n4 d4] := by simpa using hset
     have hgc7 : GramC w7 w7.heap.size (.agg #[.slice a6 (n1 + 1) s6, .slice G2 n2 d2, .slice G3 n3 d3, .string st, .slice (some ⟨rb, ro, none⟩) n4 d4]) (Sm.withTok s r.left) := by
      obtain ⟨A1, c1, A2, c2, A3, c3, A4, c4, pl, ql, e, k1, k2, k3, k4, k5, k6, k7, k8⟩ := ((HGC.out.below hb7).mono (Nat.le_of_lt hset'.lt)).ex
      simp only [Value.agg.injEq, Array.mk.injEq, List.cons.injEq, Value.slice.injEq, Value.string.injEq] at e
      obtain ⟨_, ⟨b1, b2, b3⟩, ⟨b4, b5, b6⟩, b7, ⟨b8, b9, b10⟩, _⟩ := e
      refine ⟨a6, s6, G2, d2, G3, d3, some ⟨rb, ro, none⟩, d4, pl, ql, ?_, ?_, Cl.nil _ _ _, by rw [b4]; exact k3, k4, k5, by rw [b8]; exact k6, k7, k8⟩
      ·show _ = Value.agg #[.slice a6 ((Sm.gram s).toks ++ [Sm.newTok r.left]).length s6, .slice G2 0 d2, .slice G3 (Sm.gram s).levels.length d3, .string (str (Sm.gram s).start), .slice (some ⟨rb, ro, none⟩) (Sm.gram s).rules.length d4]
       rw [List.length_append, HGL1.out, b2, b5, b7, b9]; rfl
      ·show Cl _ _ _ (toksV ((Sm.gram s).toks ++ [Sm.newTok r.left]))
       have e2 : toksV ((Sm.gram s).toks ++ [Sm.newTok r.left]) = TV ++ [.string X0, .string ⟨#[120]⟩, .string ⟨#[]⟩, .bool false] := by
        unfold toksV
        rw [List.flatMap_append, ← HTV.out, ← HX0.out]; rfl
       rw [e2]
       exact htl.cl
     have HB7 := Lib.hid (HB4.out.trans (hb7.mono (by have := HB2.out.size; have := HGGE.out; have := HB4.out; exact HBG9.out)))
     have HGC7 := Lib.hid hgc7
     have HT7 := Lib.hid (HT.out.below HB7.out h0)
     have hl7 : 1 < w7.heap.size := Nat.lt_of_lt_of_le h0 HB7.out.size
     have HAT7 := Lib.hid hset'
     have hsz7 := right_sz9 (Sm.right_tok HL5.out H20.out H8.out HRM.out) (by rw [Sm.lvl_tok]; have := Sm.lvl_gram HL5.out; omega)
     have HOF := Lib.hid (of_err (of_any _ (Sm.withTok s r.left) w7 hgc7 hsz7 HT7.out hl7 (fun _ => by rw [Sm.lvl_tok]; have := Sm.lvl_gram HL5.out; omega)) (Sm.of_tok HL5.out H20.out H8.out HRM.out))
     rw [HX0.out] at HOF
     have z0 := hset'.cell 0
     have z1 := hset'.cell 1
     have z2 := hset'.cell 2
     have z3 := hset'.cell 3
     have z4 := hset'.cell 4
     have zl := hset'.lt
     simp only [List.getElem?_toArray, List.getElem?_cons_zero, List.getElem?_cons_succ] at z0 z1 z2 z3 z4
     have y7 := (hb7.cell (p := ⟨rb, ro + i * 4, none⟩) hrb).trans y0
     have HY7 := Lib.hid y7
     clear hown5 hg5 hn5 hown6 hg6 hn6 hz6 u0 uf hat6 hset hset' hfar hb7 htl hw7 hgc7 hsz7 g0 g1 g2 g3 g4 y0 y1 y2 y3 y7
     go_wp2_with fail
     refine HOF.out.mono ?_
     rintro e w8 ⟨⟨B1, k1, B2, k2, B3, k3, B4, k4, B5, k5, B6, k6, rfl⟩, hb8⟩
     have hat8 := HAT7.out.below hb8 HAT7.out.lt
     have hbP := (Below.refl w8.heap.size w8).alloc (Nat.le_refl _) (.cells #[.slice B1 0 k1, .slice B2 0 k2, .slice B3 0 k3, .slice B4 0 k4, .slice B5 0 k5, .slice B6 0 k6] 45)
     have hat9 := hat8.alloc (.cells #[.slice B1 0 k1, .slice B2 0 k2, .slice B3 0 k3, .slice B4 0 k4, .slice B5 0 k5, .slice B6 0 k6] 45)
     have q4 := hat9.cell 4
     simp only [List.getElem?_toArray, List.getElem?_cons_zero, List.getElem?_cons_succ] at q4
     have q5 := ((hb8.trans (hbP.mono hb8.size)).cell (p := ⟨rb, ro + i * 4, none⟩) (by show rb < _; omega)).trans HY7.out
     have HB9 := Lib.hid (HB7.out.trans ((hb8.trans (hbP.mono hb8.size)).mono HB7.out.size))
     have heq := HEQ.out
     clear hb8 hat8 hbP hat9 z0 z1 z2 z3 z4
     go_wp2_with fail
     go_ret
     exact ⟨rfl, HB9.out⟩
    ·go_simp
     have hz2 := hz1.alloc hz1.size (.cells #[.string X0, .string ⟨#[120]⟩, .string ⟨#[]⟩, .bool false] 41)
     have hX2 := At.new (w4.drew.alloc (.cells #[] 41)) 41 #[.string X0, .string ⟨#[120]⟩, .string ⟨#[]⟩, .bool false]
     rw [World.size_alloc] at hX2
     refine hK.out _ _ (.inr hz2) ?_
     clear hK K
     try simp only [Act.put, List.setIfInBounds_toArray, List.set_cons_zero, List.set_cons_succ]
     refine Zed.one (i := 3) (by kernel_rfl) rfl (fun K hK => ?_)
     refine step_append_own2 rfl _ _ 22 rfl w4.heap.size 41 iT _ 4 56 Tryz.underlying22 hiT hT0 hT1 hT2 rfl (by decide) _ 0 [] rfl (hE.alloc _) ⟨tb, to_, none⟩ n1 d1 TV rfl HLE.out (HCE.out _ hz2) HON.out hc5 hc6 hz2.size ?_
     intro v5 w5 hown5 hg5 hn5
     rw [Nat.zero_add, List.nil_append] at hown5
     obtain ⟨a5, s5, rfl⟩ := own_form hown5
     have hz3 := hz2.grown hg5 hz2.size (fun j hj => (own_lt hE j hj).1)
     have hX3 := hX2.grown hg5 (fun e => by
      have h : w4.heap.size + 1 < (w4.drew.alloc (.cells #[] 41)).heap.size := (own_lt hE _ e.symm).2
      rw [World.size_alloc] at h
      exact Nat.lt_irrefl _ h)
     refine hK.out _ _ (.inr hz3) ?_
     clear hK K
     try simp only [Act.put, List.setIfInBounds_toArray, List.set_cons_zero, List.set_cons_succ]
     refine Zed.one (i := 13) (by kernel_rfl) rfl (fun K hK => ?_)
     refine step_append_own2 rfl _ _ 22 rfl w4.heap.size 41 iT _ 4 56 Tryz.underlying22 hiT hT0 hT1 hT2 rfl (by decide) _ n1 TV rfl hown5 ⟨w4.heap.size + 1, 0, none⟩ 1 1 [.string X0, .string ⟨#[120]⟩, .string ⟨#[]⟩, .bool false] rfl rfl (cells_at hX3) (by simp [Value.oneCell']) hc7 hc8 hz3.size ?_
     intro v6 w6 hown6 hg6 hn6
     obtain ⟨a6, s6, rfl⟩ := own_form hown6
     have hz6 := hz3.grown hg6 hz3.size (fun j hj => (own_lt hown5 j hj).1)
     have u0 := (hz6.cell (p := ⟨gg, 0, none⟩) hlg).trans g0
     have uf := (HATG.out.below hz6 hlg).frozen
     refine hK.out _ _ (.inr hz6) ?_
     clear hK K
     try simp only [Act.put, List.setIfInBounds_toArray, List.set_cons_zero, List.set_cons_succ]
     refine Zed.pure (i := 14) (v := ?vqd14) rfl (by kernel_rfl) (by kernel_rfl) (by kernel_rfl) (by kernel_rfl) (by kernel_rfl) (fun _ _ _ h => h) (Or.inl ⟨by rfl, ?hyqd14⟩) (.inr hz6) ?restqd14
     case hyqd14 => (intro w _; go_simp; try with_reducible rfl)
     try simp only [Act.put, List.setIfInBounds_toArray, List.set_cons_zero, List.set_cons_succ]
     refine Zed.one (i := 15) (by kernel_rfl) rfl (fun K hK => ?_)
     go_simp
     refine hK.out _ _ (.inl (by kernel_rfl)) ?_
     clear hK K
     try simp only [Act.put, List.setIfInBounds_toArray, List.set_cons_zero, List.set_cons_succ]
     refine Zed.all (by kernel_rfl) ?_ _
     have hat6 := HATG.out.below hz6 hlg
     have hset := hat6.set 0 (.slice a6 (n1 + 1) s6)
     have hfar : ∀ t, t ≠ 27 → Stay t w6 (w6.setCell ⟨gg, 0, none⟩ (.slice a6 (n1 + 1) s6)) := fun t ht => Stay.far hat6 ht (grown_set (grown_refl _ _) 0 _)
     have hb7 : Below gg w4 (w6.setCell ⟨gg, 0, none⟩ (.slice a6 (n1 + 1) s6)) := below_grown (hz6.mono HGGW.out) (grown_set (grown_refl _ _) 0 _) (Nat.le_trans HGGW.out hz6.size) (Nat.le_refl _)
     have htl := Lie.own (own_stay hown6 (hfar _ (by decide)))
     obtain ⟨w7, hw7⟩ : ∃ W, w6.setCell ⟨gg, 0, none⟩ (.slice a6 (n1 + 1) s6) = W := ⟨_, rfl⟩
     rw [hw7] at hset hb7 htl ⊢
     have hset' : At w7 gg 27 #[.slice a6 (n1 + 1) s6, .slice G2 n2 d2, .slice G3 n3 d3, .string st, .slice (some ⟨rb, ro, none⟩) n4 d4] := by simpa using hset
     have hgc7 : GramC w7 w7.heap.size (.agg #[.slice a6 (n1 + 1) s6, .slice G2 n2 d2, .slice G3 n3 d3, .string st, .slice (some ⟨rb, ro, none⟩) n4 d4]) (Sm.withTok s r.left) := by
      obtain ⟨A1, c1, A2, c2, A3, c3, A4, c4, pl, ql, e, k1, k2, k3, k4, k5, k6, k7, k8⟩ := ((HGC.out.below hb7).mono (Nat.le_of_lt hset'.lt)).ex
      simp only [Value.agg.injEq, Array.mk.injEq, List.cons.injEq, Value.slice.injEq, Value.string.injEq] at e
      obtain ⟨_, ⟨b1, b2, b3⟩, ⟨b4, b5, b6⟩, b7, ⟨b8, b9, b10⟩, _⟩ := e
      refine ⟨a6, s6, G2, d2, G3, d3, some ⟨rb, ro, none⟩, d4, pl, ql, ?_, ?_, Cl.nil _ _ _, by rw [b4]; exact k3, k4, k5, by rw [b8]; exact k6, k7, k8⟩
      ·show _ = Value.agg #[.slice a6 ((Sm.gram s).toks ++ [Sm.newTok r.left]).length s6, .slice G2 0 d2, .slice G3 (Sm.gram s).levels.length d3, .string (str (Sm.gram s).start), .slice (some ⟨rb, ro, none⟩) (Sm.gram s).rules.length d4]
       rw [List.length_append, HGL1.out, b2, b5, b7, b9]; rfl
      ·show Cl _ _ _ (toksV ((Sm.gram s).toks ++ [Sm.newTok r.left]))
       have e2 : toksV ((Sm.gram s).toks ++ [Sm.newTok r.left]) = TV ++ [.string X0, .string ⟨#[120]⟩, .string ⟨#[]⟩, .bool false] := by
        unfold toksV
        rw [List.flatMap_append, ← HTV.out, ← HX0.out]; rfl
       rw [e2]
       exact htl.cl
     have HB7 := Lib.hid (HB4.out.trans (hb7.mono (by have := HB2.out.size; have := HGGE.out; have := HB4.out; exact HBG9.out)))
     have HGC7 := Lib.hid hgc7
     have HT7 := Lib.hid (HT.out.below HB7.out h0)
     have hl7 : 1 < w7.heap.size := Nat.lt_of_lt_of_le h0 HB7.out.size
     have HAT7 := Lib.hid hset'
     have hsz7 := right_sz9 (Sm.right_tok HL5.out H20.out H8.out HRM.out) (by rw [Sm.lvl_tok]; have := Sm.lvl_gram HL5.out; omega)
     have HOF := Lib.hid (of_err (of_any _ (Sm.withTok s r.left) w7 hgc7 hsz7 HT7.out hl7 (fun _ => by rw [Sm.lvl_tok]; have := Sm.lvl_gram HL5.out; omega)) (Sm.of_tok HL5.out H20.out H8.out HRM.out))
     rw [HX0.out] at HOF
     have z0 := hset'.cell 0
     have z1 := hset'.cell 1
     have z2 := hset'.cell 2
     have z3 := hset'.cell 3
     have z4 := hset'.cell 4
     have zl := hset'.lt
     simp only [List.getElem?_toArray, List.getElem?_cons_zero, List.getElem?_cons_succ] at z0 z1 z2 z3 z4
     have y7 := (hb7.cell (p := ⟨rb, ro + i * 4, none⟩) hrb).trans y0
     have HY7 := Lib.hid y7
     clear hown5 hg5 hn5 hown6 hg6 hn6 hz6 u0 uf hat6 hset hset' hfar hb7 htl hw7 hgc7 hsz7 g0 g1 g2 g3 g4 y0 y1 y2 y3 y7
     go_wp2_with fail
     refine HOF.out.mono ?_
     rintro e w8 ⟨⟨B1, k1, B2, k2, B3, k3, B4, k4, B5, k5, B6, k6, rfl⟩, hb8⟩
     have hat8 := HAT7.out.below hb8 HAT7.out.lt
     have hbP := (Below.refl w8.heap.size w8).alloc (Nat.le_refl _) (.cells #[.slice B1 0 k1, .slice B2 0 k2, .slice B3 0 k3, .slice B4 0 k4, .slice B5 0 k5, .slice B6 0 k6] 45)
     have hat9 := hat8.alloc (.cells #[.slice B1 0 k1, .slice B2 0 k2, .slice B3 0 k3, .slice B4 0 k4, .slice B5 0 k5, .slice B6 0 k6] 45)
     have q4 := hat9.cell 4
     simp only [List.getElem?_toArray, List.getElem?_cons_zero, List.getElem?_cons_succ] at q4
     have q5 := ((hb8.trans (hbP.mono hb8.size)).cell (p := ⟨rb, ro + i * 4, none⟩) (by show rb < _; omega)).trans HY7.out
     have HB9 := Lib.hid (HB7.out.trans ((hb8.trans (hbP.mono hb8.size)).mono HB7.out.size))
     have heq := HEQ.out
     clear hb8 hat8 hbP hat9 z0 z1 z2 z3 z4
     go_wp2_with fail
     go_ret
     exact ⟨rfl, HB9.out⟩
   ·go_simp
    have hz1 := hz0.alloc hz0.size (.cells #[.string X0, .string ⟨#[120]⟩, .string ⟨#[]⟩, .bool false] 41)
    have hX1 := At.new w4.drew 41 #[.string X0, .string ⟨#[120]⟩, .string ⟨#[]⟩, .bool false]
    refine hK.out _ _ (.inr hz1) ?_
    clear hK K
    try simp only [Act.put, List.setIfInBounds_toArray, List.set_cons_zero, List.set_cons_succ]
    refine Zed.one (i := 0) (by kernel_rfl) rfl (fun K hK => ?_)
    go_simp
    have hz2 := hz1.alloc hz1.size (.cells #[] 41)
    have hE0 := own_none9 (w4.drew.alloc (.cells #[.string X0, .string ⟨#[120]⟩, .string ⟨#[]⟩, .bool false] 41)) 41 4
    have hE := own_base hE0 hz1.size
    rw [World.size_alloc] at hE0 hE
    have hX2 := hX1.alloc (.cells #[] 41)
    refine hK.out _ _ (.inr hz2) ?_
    clear hK K
    try simp only [Act.put, List.setIfInBounds_toArray, List.set_cons_zero, List.set_cons_succ]
    refine Zed.one (i := 3) (by kernel_rfl) rfl (fun K hK => ?_)
    refine step_append_own2 rfl _ _ 22 rfl w4.heap.size 41 iT _ 4 56 Tryz.underlying22 hiT hT0 hT1 hT2 rfl (by decide) _ 0 [] rfl hE ⟨tb, to_, none⟩ n1 d1 TV rfl HLE.out (HCE.out _ hz2) HON.out hc5 hc6 hz2.size ?_
    intro v5 w5 hown5 hg5 hn5
    rw [Nat.zero_add, List.nil_append] at hown5
    obtain ⟨a5, s5, rfl⟩ := own_form hown5
    have hz3 := hz2.grown hg5 hz2.size (fun j hj => (own_lt hE j hj).1)
    have hX3 := hX2.grown hg5 (fun e => by
     have h : w4.heap.size + 1 ≤ w4.heap.size := (own_lt hE0 _ e.symm).1
     exact Nat.not_succ_le_self _ h)
    refine hK.out _ _ (.inr hz3) ?_
    clear hK K
    try simp only [Act.put, List.setIfInBounds_toArray, List.set_cons_zero, List.set_cons_succ]
    refine Zed.one (i := 13) (by kernel_rfl) rfl (fun K hK => ?_)
    refine step_append_own2 rfl _ _ 22 rfl w4.heap.size 41 iT _ 4 56 Tryz.underlying22 hiT hT0 hT1 hT2 rfl (by decide) _ n1 TV rfl hown5 ⟨w4.heap.size, 0, none⟩ 1 1 [.string X0, .string ⟨#[120]⟩, .string ⟨#[]⟩, .bool false] rfl rfl (cells_at hX3) (by simp [Value.oneCell']) hc7 hc8 hz3.size ?_
    intro v6 w6 hown6 hg6 hn6
    obtain ⟨a6, s6, rfl⟩ := own_form hown6
    have hz6 := hz3.grown hg6 hz3.size (fun j hj => (own_lt hown5 j hj).1)
    have u0 := (hz6.cell (p := ⟨gg, 0, none⟩) hlg).trans g0
    have uf := (HATG.out.below hz6 hlg).frozen
    refine hK.out _ _ (.inr hz6) ?_
    clear hK K
    try simp only [Act.put, List.setIfInBounds_toArray, List.set_cons_zero, List.set_cons_succ]
    refine Zed.pure (i := 14) (v := ?vqe14) rfl (by kernel_rfl) (by kernel_rfl) (by kernel_rfl) (by kernel_rfl) (by kernel_rfl) (fun _ _ _ h => h) (Or.inl ⟨by rfl, ?hyqe14⟩) (.inr hz6) ?restqe14
    case hyqe14 => (intro w _; go_simp; try with_reducible rfl)
    try simp only [Act.put, List.setIfInBounds_toArray, List.set_cons_zero, List.set_cons_succ]
    refine Zed.one (i := 15) (by kernel_rfl) rfl (fun K hK => ?_)
    go_simp
    refine hK.out _ _ (.inl (by kernel_rfl)) ?_
    clear hK K
    try simp only [Act.put, List.setIfInBounds_toArray, List.set_cons_zero, List.set_cons_succ]
    refine Zed.all (by kernel_rfl) ?_ _
    have hat6 := HATG.out.below hz6 hlg
    have hset := hat6.set 0 (.slice a6 (n1 + 1) s6)
    have hfar : ∀ t, t ≠ 27 → Stay t w6 (w6.setCell ⟨gg, 0, none⟩ (.slice a6 (n1 + 1) s6)) := fun t ht => Stay.far hat6 ht (grown_set (grown_refl _ _) 0 _)
    have hb7 : Below gg w4 (w6.setCell ⟨gg, 0, none⟩ (.slice a6 (n1 + 1) s6)) := below_grown (hz6.mono HGGW.out) (grown_set (grown_refl _ _) 0 _) (Nat.le_trans HGGW.out hz6.size) (Nat.le_refl _)
    have htl := Lie.own (own_stay hown6 (hfar _ (by decide)))
    obtain ⟨w7, hw7⟩ : ∃ W, w6.setCell ⟨gg, 0, none⟩ (.slice a6 (n1 + 1) s6) = W := ⟨_, rfl⟩
    rw [hw7] at hset hb7 htl ⊢
    have hset' : At w7 gg 27 #[.slice a6 (n1 + 1) s6, .slice G2 n2 d2, .slice G3 n3 d3, .string st, .slice (some ⟨rb, ro, none⟩) n4 d4] := by simpa using hset
    have hgc7 : GramC w7 w7.heap.size (.agg #[.slice a6 (n1 + 1) s6, .slice G2 n2 d2, .slice G3 n3 d3, .string st, .slice (some ⟨rb, ro, none⟩) n4 d4]) (Sm.withTok s r.left) := by
     obtain ⟨A1, c1, A2, c2, A3, c3, A4, c4, pl, ql, e, k1, k2, k3, k4, k5, k6, k7, k8⟩ := ((HGC.out.below hb7).mono (Nat.le_of_lt hset'.lt)).ex
     simp only [Value.agg.injEq, Array.mk.injEq, List.cons.injEq, Value.slice.injEq, Value.string.injEq] at e
     obtain ⟨_, ⟨b1, b2, b3⟩, ⟨b4, b5, b6⟩, b7, ⟨b8, b9, b10⟩, _⟩ := e
     refine ⟨a6, s6, G2, d2, G3, d3, some ⟨rb, ro, none⟩, d4, pl, ql, ?_, ?_, Cl.nil _ _ _, by rw [b4]; exact k3, k4, k5, by rw [b8]; exact k6, k7, k8⟩
     ·show _ = Value.agg #[.slice a6 ((Sm.gram s).toks ++ [Sm.newTok r.left]).length s6, .slice G2 0 d2, .slice G3 (Sm.gram s).levels.length d3, .string (str (Sm.gram s).start), .slice (some ⟨rb, ro, none⟩) (Sm.gram s).rules.length d4]
      rw [List.length_append, HGL1.out, b2, b5, b7, b9]; rfl
     ·show Cl _ _ _ (toksV ((Sm.gram s).toks ++ [Sm.newTok r.left]))
      have e2 : toksV ((Sm.gram s).toks ++ [Sm.newTok r.left]) = TV ++ [.string X0, .string ⟨#[120]⟩, .string ⟨#[]⟩, .bool false] := by
       unfold toksV
       rw [List.flatMap_append, ← HTV.out, ← HX0.out]; rfl
      rw [e2]
      exact htl.cl
    have HB7 := Lib.hid (HB4.out.trans (hb7.mono (by have := HB2.out.size; have := HGGE.out; have := HB4.out; exact HBG9.out)))
    have HGC7 := Lib.hid hgc7
    have HT7 := Lib.hid (HT.out.below HB7.out h0)
    have hl7 : 1 < w7.heap.size := Nat.lt_of_lt_of_le h0 HB7.out.size
    have HAT7 := Lib.hid hset'
    have hsz7 := right_sz9 (Sm.right_tok HL5.out H20.out H8.out HRM.out) (by rw [Sm.lvl_tok]; have := Sm.lvl_gram HL5.out; omega)
    have HOF := Lib.hid (of_err (of_any _ (Sm.withTok s r.left) w7 hgc7 hsz7 HT7.out hl7 (fun _ => by rw [Sm.lvl_tok]; have := Sm.lvl_gram HL5.out; omega)) (Sm.of_tok HL5.out H20.out H8.out HRM.out))
    rw [HX0.out] at HOF
    have z0 := hset'.cell 0
    have z1 := hset'.cell 1
    have z2 := hset'.cell 2
    have z3 := hset'.cell 3
    have z4 := hset'.cell 4
    have zl := hset'.lt
    simp only [List.getElem?_toArray, List.getElem?_cons_zero, List.getElem?_cons_succ] at z0 z1 z2 z3 z4
    have y7 := (hb7.cell (p := ⟨rb, ro + i * 4, none⟩) hrb).trans y0
    have HY7 := Lib.hid y7
    clear hown5 hg5 hn5 hown6 hg6 hn6 hz6 u0 uf hat6 hset hset' hfar hb7 htl hw7 hgc7 hsz7 g0 g1 g2 g3 g4 y0 y1 y2 y3 y7
    go_wp2_with fail
    refine HOF.out.mono ?_
    rintro e w8 ⟨⟨B1, k1, B2, k2, B3, k3, B4, k4, B5, k5, B6, k6, rfl⟩, hb8⟩
    have hat8 := HAT7.out.below hb8 HAT7.out.lt
    have hbP := (Below.refl w8.heap.size w8).alloc (Nat.le_refl _) (.cells #[.slice B1 0 k1, .slice B2 0 k2, .slice B3 0 k3, .slice B4 0 k4, .slice B5 0 k5, .slice B6 0 k6] 45)
    have hat9 := hat8.alloc (.cells #[.slice B1 0 k1, .slice B2 0 k2, .slice B3 0 k3, .slice B4 0 k4, .slice B5 0 k5, .slice B6 0 k6] 45)
    have q4 := hat9.cell 4
    simp only [List.getElem?_toArray, List.getElem?_cons_zero, List.getElem?_cons_succ] at q4
    have q5 := ((hb8.trans (hbP.mono hb8.size)).cell (p := ⟨rb, ro + i * 4, none⟩) (by show rb < _; omega)).trans HY7.out
    have HB9 := Lib.hid (HB7.out.trans ((hb8.trans (hbP.mono hb8.size)).mono HB7.out.size))
    have heq := HEQ.out
    clear hb8 hat8 hbP hat9 z0 z1 z2 z3 z4
    go_wp2_with fail
    go_ret
    exact ⟨rfl, HB9.out⟩
  | false =>
   rw [← hw4, ← hgg] at g0 g1 g2 g3 g4 hlg
   rw [← hw4] at y0 y1 y2 y3
   clear hw4 hgg
   go_upto_region 11 with (fail)
   rw [HW4.out] at g0 g1 g2 g3 g4 hlg y0 y1 y2 y3 ⊢
   rw [HGGE.out] at g0 g1 g2 g3 g4 hlg ⊢
   rw [HREM.out]
   have hskL := HL5.out
   obtain ⟨ql, hk5, hk6, hk7⟩ := HK4.out.ex
   obtain ⟨p, hp, hpr⟩ : ∃ p, ql[i]? = some p ∧ p.1 = r := by
    have h := HR.out
    rw [← hk6, List.getElem?_map, Option.map_eq_some_iff] at h
    exact h
   obtain ⟨A2, c2, hv2, hc2⟩ := hk7 p (List.mem_of_getElem? hp)
   obtain ⟨RV, hRV⟩ : ∃ RV, rulesV ql = RV := ⟨_, rfl⟩
   obtain ⟨m, hm⟩ : ∃ m, r.right.length = m := ⟨_, rfl⟩
   obtain ⟨NV, hNV⟩ : ∃ NV, namesV r.right = NV := ⟨_, rfl⟩
   rw [hpr, hNV] at hc2
   rw [hpr, hm] at hv2
   have hqll : ql.length = n4 := by rw [← HGL4.out, ← hk6, List.length_map]
   have HLR := Lib.hid (show RV.length = n4 * 4 by
    rw [← hRV, ← hqll]
    unfold rulesV
    generalize ql = L
    induction L with
    | nil => rfl
    | cons a r ih => rw [List.flatMap_cons, List.length_append, ih]; simp [ruleCells]; omega)
   have HOR := Lib.hid (show ∀ u ∈ RV, u.oneCell' = true from fun u hu => by
    rw [← hRV] at hu
    unfold rulesV at hu
    obtain ⟨q, hq, hu⟩ := List.mem_flatMap.1 hu
    obtain ⟨A3, c3, e3, _⟩ := hk7 q hq
    simp [ruleCells, e3] at hu
    rcases hu with rfl | rfl | rfl | rfl <;> rfl)
   have hgv : RV[i * 4 + 1]? = some (.slice A2 m c2) := by
    rw [← hRV, ← hv2]
    exact flat_get ruleCells 4 (fun _ => rfl) ql i 1 p _ hp (by omega) rfl
   have HLN := Lib.hid (show NV.length = m * 1 by rw [← hNV, ← hm]; simp [namesV])
   have HON := Lib.hid (show ∀ u ∈ NV, u.oneCell' = true from fun u hu => by
    rw [← hNV] at hu
    unfold namesV at hu
    obtain ⟨t, _, rfl⟩ := List.mem_map.1 hu
    rfl)
   have hm7 : m ≤ 7 := by rw [← hm]; exact Sm.right_len H7.out (show r ∈ Sm.rules s (Sm.nv s) from HRM.out)
   rw [hRV] at hk5
   have HKR := Lib.hid hk5
   have HK6 := Lib.hid hk6
   have HK7 := Lib.hid hk7
   have HQL := Lib.hid hqll
   have HP := Lib.hid hp
   have HPR := Lib.hid hpr
   have HV2 := Lib.hid hv2
   have HRV := Lib.hid hRV
   have HNV := Lib.hid hNV
   have HML := Lib.hid hm
   have HC2 := Lib.hid hc2
   have HGV := Lib.hid hgv
   clear hskL hk5 hk6 hk7 hqll hp hpr hv2 hRV hNV hm hc2 hgv y0 y1 y2 y3 hcl
   obtain ⟨iR, hiR, hR0, hR1, hR2⟩ := info_parts infoRule
   obtain ⟨iS, hiS, hS0, hS1, hS2⟩ := info_parts strinfo
   have hc5 : 0 + n4 ≤ maxLen := by unfold maxLen; omega
   have hc6 : (0 + n4) * 72 ≤ 140737488355328 := by omega
   have hc7 : 0 + m ≤ maxLen := by unfold maxLen; omega
   have hc8 : (0 + m) * 16 ≤ 140737488355328 := by omega
   have hc9 : m + 1 ≤ maxLen := by unfold maxLen; omega
   have hca : (m + 1) * 16 ≤ 140737488355328 := by omega
   have hE := own_none9 w4 36 4
   have hz4 := (Below.refl w4.heap.size w4).alloc (Nat.le_refl _) (.cells #[] 36)
   go_wp2_with (at_builtin; go_loud (refine wpList_append_own3 _ rfl _ _ 25 rfl w4.heap.size 36 iR _ 4 72 Tryz.underlying25 hiR hR0 hR1 hR2 rfl (by decide) _ 0 [] rfl hE (some ⟨rb, ro, none⟩) n4 d4 RV rfl HLR.out (cl_lies (HKR.out.below (hz4.mono HGGW.out))) HOR.out hc5 hc6 hz4.size ?_))
   intro v5 w5 hown5 hg5 _
   try simp only [Nat.zero_add, List.nil_append] at hown5
   rcases own_shape hown5 with ⟨_, h0, _⟩ | ⟨b5, s5, rfl, _, _, hb5, hl5⟩
   ·omega
   have hz5 := hz4.grown hg5 hz4.size (fun j hj => (own_lt hE j hj).1)
   have y5 : w5.cell? ⟨b5, i * 4 + 1, none⟩ = some (.slice A2 m c2) := by
    obtain ⟨b9, o9, h9, _, h10⟩ := (Lie.own hown5).cell (fun e => by have := HGV.out; rw [e] at this; simp at this)
    simp only [Option.some.injEq, Addr.mk.injEq, and_true] at h9
    obtain ⟨rfl, rfl⟩ := h9
    have := h10 _ _ HGV.out
    rw [Nat.zero_add] at this
    exact this
   obtain ⟨cur, hcur⟩ := own_at hown5
   have HCUR := Lib.hid hcur
   have HO5 := Lib.hid hown5
   have HZ5 := Lib.hid hz5
   have HB5 := Lib.hid hb5
   have hE6 := own_none9 w5 9 1
   have hz5a := (Below.refl w5.heap.size w5).alloc (Nat.le_refl _) (.cells #[] 9)
   have HCN := Lib.hid ((HC2.out.below (hz5.mono HGGW.out)).below (hz5a.mono (Nat.le_trans HGGW.out hz5.size)))
   have hbg5 : gg ≠ b5 := by have := HGGW.out; omega
   clear hcur hown5 hg5 hz5 hE hz4 hb5 g0 g1 g2 g3 g4
   go_wp2_with (at_builtin; refine wpList_append_own3 _ rfl _ _ 34 rfl w5.heap.size 9 iS _ 1 16 Tryz.underlying34 hiS hS0 hS1 hS2 rfl (by decide) _ 0 [] rfl hE6 A2 m c2 NV rfl HLN.out (cl_lies HCN.out) HON.out hc7 hc8 hz5a.size ?_)
   intro v6 w6 hown6 hg6 _
   try simp only [Nat.zero_add, List.nil_append] at hown6
   obtain ⟨a6, s6, rfl⟩ := own_form hown6
   have hz6 := hz5a.grown hg6 hz5a.size (fun j hj => (own_lt hE6 j hj).1)
   have hz6a := hz6.alloc hz6.size (.cells #[.string ⟨#[122, 122]⟩] 9)
   go_wp2_with (at_builtin; refine wpList_append_own2 _ rfl _ _ 34 rfl w5.heap.size 9 iS _ 1 16 Tryz.underlying34 hiS hS0 hS1 hS2 rfl (by decide) _ m NV rfl (hown6.alloc _) ⟨w6.heap.size, 0, none⟩ 1 1 [.string ⟨#[122, 122]⟩] rfl rfl (cells_new _ _ _) (by simp [Value.oneCell']) hc9 hca hz6a.size ?_)
   intro v7 w7 hown7 hg7 _
   obtain ⟨a7, s7, rfl⟩ := own_form hown7
   have hz7 := hz6a.grown hg7 hz6a.size (fun j hj => (own_lt hown6 j hj).1)
   have r1 := (hz7.cell (p := ⟨b5, i * 4 + 1, none⟩) hl5).trans y5
   have rf := (HCUR.out.below hz7 hl5).frozen
   have HO7 := Lib.hid hown7
   have HZ7 := Lib.hid hz7
   clear y5 hE6 hz5a hown6 hg6 hz6 hz6a hown7 hg7 hz7
   go_upto_region 13 with (fail)
   clear r1 rf
   obtain ⟨w8, hw8⟩ : ∃ W, w7.setCell ⟨b5, i * 4 + 1, none⟩ (.slice a7 (m + 1) s7) = W := ⟨_, rfl⟩
   rw [hw8]
   have hfr : ∀ t, t ≠ 36 → Stay t w7 w8 := fun t ht => hw8 ▸ Stay.far (HCUR.out.below HZ7.out hl5) ht (grown_set (grown_refl _ _) _ _)
   have HO8 := Lib.hid (show w8.ownsRow w4.heap.size 36 4 (.slice (some ⟨b5, 0, none⟩) n4 s5) n4 (RV.set (i * 4 + 1) (.slice a7 (m + 1) s7)) from hw8 ▸ own_put (own_stay HO5.out (Stay.below HZ7.out)) (i * 4 + 1) _)
   have hzz7 := HZ5.out.trans (HZ7.out.mono HZ5.out.size)
   have hzz8 : Below w4.heap.size w4 w8 := hw8 ▸ below_grown hzz7 (grown_set (g := b5) (grown_refl _ _) (i * 4 + 1) _) hzz7.size HB5.out
   have HO7' := Lib.hid (own_stay HO7.out (hfr _ (by decide)))
   have hat8 := HATG.out.below hzz8 hlg
   have HAT8 := Lib.hid hat8
   have HZ8 := Lib.hid hzz8
   have r1 := hat8.cell 4
   have rf := hat8.frozen 4
   simp only [List.getElem?_toArray, List.getElem?_cons_zero, List.getElem?_cons_succ] at r1
   have hlg8 := hat8.lt
   clear hw8 hfr hzz7 hzz8 hat8
   go_upto_region 14 with (fail)
   clear r1 rf
   obtain ⟨w9, hw9⟩ : ∃ W, w8.setCell ⟨gg, 4, none⟩ (.slice (some ⟨b5, 0, none⟩) n4 s5) = W := ⟨_, rfl⟩
   rw [hw9]
   have hset' : At w9 gg 27 #[.slice G1 n1 d1, .slice G2 n2 d2, .slice G3 n3 d3, .string st, .slice (some ⟨b5, 0, none⟩) n4 s5] := by
    have := HAT8.out.set 4 (.slice (some ⟨b5, 0, none⟩) n4 s5)
    rw [hw9] at this
    simpa using this
   have hfar : ∀ t, t ≠ 27 → Stay t w8 w9 := fun t ht => hw9 ▸ Stay.far HAT8.out ht (grown_set (grown_refl _ _) _ _)
   have hb9 : Below gg w4 w9 := hw9 ▸ below_grown (HZ8.out.mono HGGW.out) (grown_set (g := gg) (grown_refl _ _) 4 _) (Nat.le_trans HGGW.out HZ8.out.size) (Nat.le_refl _)
   have hro := (Lie.own (own_stay HO8.out (hfar _ (by decide)))).cl
   have hno := (Lie.own (own_stay HO7'.out (hfar _ (by decide)))).cl
   have hgc9 : GramC w9 w9.heap.size (.agg #[.slice G1 n1 d1, .slice G2 n2 d2, .slice G3 n3 d3, .string st, .slice (some ⟨b5, 0, none⟩) n4 s5]) (Sm.withZ s i r) := by
    obtain ⟨A1, c1, B2, e2, A3, c3, A4, c4, pl, _, e, k1, k2, k3, k4, k5, _, _, _⟩ := ((HGC.out.below hb9).mono (Nat.le_of_lt hset'.lt)).ex
    simp only [Value.agg.injEq, Array.mk.injEq, List.cons.injEq, Value.slice.injEq, Value.string.injEq] at e
    obtain ⟨⟨b1, b2, b3⟩, ⟨b4, b5', b6⟩, ⟨b7, b8, b9⟩, ba, _⟩ := e
    refine ⟨G1, d1, G2, d2, G3, d3, some ⟨b5, 0, none⟩, s5, pl, ql.set i (Sm.zRule r, .slice a7 (m + 1) s7), ?_, by rw [b1]; exact k1, Cl.nil _ _ _, by rw [b7]; exact k3, k4, k5, ?_, ?_, ?_⟩
    ·show _ = Value.agg #[.slice G1 (Sm.gram s).toks.length d1, .slice G2 0 d2, .slice G3 (Sm.gram s).levels.length d3, .string (str (Sm.gram s).start), .slice (some ⟨b5, 0, none⟩) ((Sm.gram s).rules.set i (Sm.zRule r)).length s5]
     rw [List.length_set, HGL4.out, b2, b5', b8, ba]; rfl
    ·rw [← rulesV_set ql i p (Sm.zRule r) _ HP.out (by rw [HPR.out]; rfl) (by rw [HPR.out]; rfl) (by rw [HPR.out]; rfl), HRV.out]
     exact hro
    ·rw [List.map_set, HK6.out]; rfl
    ·intro q hq
     rcases List.mem_or_eq_of_mem_set hq with h1 | h1
     ·exact ((HK7.out q h1).below hb9).mono (Nat.le_of_lt hset'.lt)
     ·subst h1
      refine ⟨a7, s7, ?_, ?_⟩
      ·show Value.slice a7 (m + 1) s7 = Value.slice a7 (r.right ++ [Sm.zz]).length s7
       rw [List.length_append, HML.out]; rfl
      ·show Cl _ _ _ (namesV (r.right ++ [Sm.zz]))
       have e2 : namesV (r.right ++ [Sm.zz]) = NV ++ [.string ⟨#[122, 122]⟩] := by unfold namesV; rw [List.map_append, ← HNV.out]; rfl
       rw [e2]; exact hno
   have HB9 := Lib.hid (HB4.out.trans (hb9.mono HBG9.out))
   have HGC9 := Lib.hid hgc9
   have HT9 := Lib.hid (HT.out.below HB9.out h0)
   have hl9 : 1 < w9.heap.size := Nat.lt_of_lt_of_le h0 HB9.out.size
   have HAT9 := Lib.hid hset'
   have hsz9 := right_sz9 (Sm.right_Z HL5.out H20.out H7.out HR.out) (by rw [Sm.lvl_same]; have := Sm.lvl_gram HL5.out; omega)
   have hof := of_err (of_any _ (Sm.withZ s i r) w9 hgc9 hsz9 HT9.out hl9 (fun _ => by rw [Sm.lvl_same]; have := Sm.lvl_gram HL5.out; omega)) (Sm.of_Z HL5.out H20.out H7.out HR.out)
   rw [show str Sm.zz = ⟨#[122, 122]⟩ from rfl] at hof
   have HOF := Lib.hid hof
   have z0 := hset'.cell 0
   have z1 := hset'.cell 1
   have z2 := hset'.cell 2
   have z3 := hset'.cell 3
   have z4 := hset'.cell 4
   have zl := hset'.lt
   simp only [List.getElem?_toArray, List.getElem?_cons_zero, List.getElem?_cons_succ] at z0 z1 z2 z3 z4
   clear hw9 hfar hb9 hro hno hgc9 hsz9 hof hset'
   go_wp2_with fail
   refine HOF.out.mono ?_
   rintro e wA ⟨⟨B1, k1, B2, k2, B3, k3, B4, k4, B5, k5, B6, k6, rfl⟩, hbA⟩
   have hbP := (Below.refl wA.heap.size wA).alloc (Nat.le_refl _) (.cells #[.slice B1 0 k1, .slice B2 0 k2, .slice B3 0 k3, .slice B4 0 k4, .slice B5 0 k5, .slice B6 0 k6] 45)
   have HBA := Lib.hid (HB9.out.trans ((hbA.trans (hbP.mono hbA.size)).mono HB9.out.size))
   clear hbA hbP z0 z1 z2 z3 z4
   go_wp2_with fail
   refine (textsC_same B1 none k1 0 [] 0 _ (Cl.nil _ _ _) (Cl.nil _ _ _) (Nat.zero_le _)).mono ?_
   rintro e w10 ⟨rfl, n10, rfl⟩
   go_wp2_with fail
   go_ret
   exact ⟨rfl, below_drewN HBA.out n10⟩
end Go.Proofs.YtehagenopnnhcaaGreatDoor
