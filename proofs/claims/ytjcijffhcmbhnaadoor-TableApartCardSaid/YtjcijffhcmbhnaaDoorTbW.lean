import Derived.Test.YtjcijffhcmbhnaaDoorTbR
namespace Go.Proofs.YtjcijffhcmbhnaaDoor
set_option maxRecDepth 100000
open Go.RowKit
open BitKit
set_option linter.unusedVariables false
set_option linter.unusedSimpArgs false
set_option maxHeartbeats 4000000 in
theorem apart15_law (v : Value) (R : List (List Int)) (w : World) (h : RowsL w v R) (hT : Tab w) (hT0 : 0 < w.heap.size) (hP : Pow w.heap.size w) :
    Calls Tryd.prog 4 #[v] w fun e w' => e = .returned (.bool true) ∧ Below w.heap.size w w' := by
  have KR := Lib.hid h
  have KT := Lib.hid hT
  have KP := Lib.hid hP
  have Kaw := Lib.hid (awake_any w hT hT0 hP)
  obtain ⟨A, c, rfl⟩ := h.shape
  clear h hT hP
  go_enter Tryd.func4, Tryd.ntmps4
  go_wp2_with fail
  refine Kaw.out.mono ?_
  rintro e w1 ⟨rfl, hb1⟩
  have hR1 := KR.out.below hb1
  have Kfew := Lib.hid (few_any _ R w1 hR1)
  have KR1 := Lib.hid hR1
  have Kb1 := Lib.hid hb1
  clear hR1 hb1 Kaw KR
  go_wp2_with fail
  refine Kfew.out.mono ?_
  rintro e w1 ⟨⟨r, rfl, hr⟩, rfl⟩
  cases r
  · go_wp2_with fail
    go_ret
    exact ⟨rfl, Kb1.out⟩
  have KS := Lib.hid (hr.1 rfl)
  have Ksh := Lib.hid (share_any _ R w1 KR1.out KS.out (KP.out.up Kb1.out Kb1.out.size))
  clear hr Kfew
  go_wp2_with fail
  refine Ksh.out.mono ?_
  rintro e w2 ⟨v1, v2, rfl, hSh⟩
  have Kb2 := Lib.hid (Kb1.out.trans (below_le hSh.below Kb1.out.size))
  have KR2 := Lib.hid (KR1.out.below hSh.below)
  have ho2 := hSh.rows (outs_smalls KR2.out.smalls)
  obtain ⟨A2, c2, rfl⟩ := ho2.shape
  obtain ⟨m, hm⟩ : ∃ m, (Tb.outs R).length = m := ⟨_, rfl⟩
  rw [hm] at ho2 ⊢
  have Kv2 := Lib.hid ho2
  have Km := Lib.hid hm
  have Kpk := Lib.hid (pack_any _ R w2 KR2.out KS.out (KP.out.up Kb2.out Kb2.out.size) (KT.out.below Kb2.out hT0) (Nat.lt_of_lt_of_le hT0 Kb2.out.size))
  clear hSh Ksh ho2 hm
  go_wp2_with fail
  refine Kpk.out.mono ?_
  rintro e w4 ⟨u, rfl, hPk⟩
  have hb4 := hPk.below
  obtain ⟨a1, bv, nv, ov, rfl, hI, hB, hN, hO⟩ := hPk.ex
  obtain ⟨A3, c3, hva⟩ := hI.shape
  obtain ⟨A4, c4, hvb⟩ := hB.shape
  obtain ⟨A5, c5, hvn, _, hN'⟩ := hN.row (outs_small_pack (outs_smalls KR2.out.smalls))
  obtain ⟨A6, c6, hvo, _, hO'⟩ := hO.row (ow_small _ (by have := (outs_short KS.out).1; omega))
  obtain ⟨n, hn⟩ : ∃ n, (Tb.pack (Tb.outs R)).nx.length = n := ⟨_, rfl⟩
  have hn2 := Tb.nx_length (Tb.outs R)
  rw [hn] at hn2
  rw [Tb.idsI_length] at hva
  rw [Tb.base_length] at hvb
  rw [hn] at hvn hN'
  rw [← hn2] at hvo hO'
  subst hva hvb hvn hvo
  have hn3 := Tb.ow_length (Tb.outs R) 25 (outs_short KS.out).2
  rw [← hn2] at hn3
  have hm25 := (outs_short KS.out).1
  rw [Km.out] at hm25 hn3
  have hn4 : n ≤ 625 := by omega
  have hA := At.new w4 29 #[.slice A3 R.length c3, .slice A4 R.length c4, .slice A5 n c5, .slice A6 n c6]
  have Kc := Lib.hid (packed_cells hA)
  have Kgl := Lib.hid hA.lt
  have Kn := Lib.hid (hN'.below ((Below.refl _ _).alloc (Nat.le_refl _) (.cells #[.slice A3 R.length c3, .slice A4 R.length c4, .slice A5 n c5, .slice A6 n c6] 29)))
  have Ko := Lib.hid (hO'.below ((Below.refl _ _).alloc (Nat.le_refl _) (.cells #[.slice A3 R.length c3, .slice A4 R.length c4, .slice A5 n c5, .slice A6 n c6] 29)))
  have Kv5 := Lib.hid ((Kv2.out.below hb4).alloc (.cells #[.slice A3 R.length c3, .slice A4 R.length c4, .slice A5 n c5, .slice A6 n c6] 29))
  have Kb5 := Lib.hid (below_up (Kb2.out.trans (below_le hb4 Kb2.out.size)) (.cells #[.slice A3 R.length c3, .slice A4 R.length c4, .slice A5 n c5, .slice A6 n c6] 29))
  obtain ⟨W, hW⟩ : ∃ W, W = w4.alloc (.cells #[.slice A3 R.length c3, .slice A4 R.length c4, .slice A5 n c5, .slice A6 n c6] 29) := ⟨_, rfl⟩
  rw [← hW] at Kc Kgl Kv5 Kb5 Kn Ko
  have Kl := Lib.hid (And.intro hn hn2)
  clear hb4 hPk hI hB hN hO hN' hO' hA hn hn2 hn3 Kpk
  have hp := Kc.out
  rw [hW] at hp
  obtain ⟨p0, p1, p2, p3⟩ := hp
  have KW := Lib.hid hW
  clear hW
  go_wp2_with fail
  rw [← KW.out]
  clear p0 p1 p2 p3
  obtain ⟨p0, p1, p2, p3⟩ := Kc.out
  have hgl := Kgl.out
  go_loopg [8, 9] n (fun q t8 t9 wr => ∃ k d : Nat, t9 = .int .i64 (k : Int) ∧ t8 = .int .i64 (d : Int) ∧ k ≤ n ∧ q = n - k ∧ d = cnt (fun i => (Tb.pack (Tb.outs R)).ow.getD i 0 != 0) k ∧ d ≤ k ∧ Below W.heap.size W wr)
  case atStart => exact ⟨0, 0, rfl, rfl, by omega, by omega, rfl, by omega, Below.refl _ _⟩
  case round =>
    obtain ⟨k, d, rfl, rfl, hk, hq, hd, hdl, hb⟩ := hrel
    have Kd := Lib.hid hd
    have Kb := Lib.hid hb
    have Kq := Lib.hid hq
    have p0 := (hb.cell (p := ⟨w4.heap.size, 0, none⟩) hgl).trans p0
    have p1 := (hb.cell (p := ⟨w4.heap.size, 1, none⟩) hgl).trans p1
    have p2 := (hb.cell (p := ⟨w4.heap.size, 2, none⟩) hgl).trans p2
    have p3 := (hb.cell (p := ⟨w4.heap.size, 3, none⟩) hgl).trans p3
    clear hd hb hq
    by_cases hlt : k < n
    · obtain ⟨bn, on_, rfl, hbn, c1⟩ := Kn.out.each k hlt
      obtain ⟨bo, oo, rfl, hbo, c2⟩ := Ko.out.each k hlt
      have hcell := Tb.ow_cell (Tb.outs R) k
      obtain ⟨x, hx⟩ : ∃ x, (Tb.pack (Tb.outs R)).nx.getD k 0 = x := ⟨_, rfl⟩
      obtain ⟨y, hy⟩ : ∃ y, (Tb.pack (Tb.outs R)).ow.getD k 0 = y := ⟨_, rfl⟩
      rw [hx, hy, Km.out] at hcell
      rw [hx] at c1
      rw [hy] at c2
      have c1 := (Kb.out.cell (p := ⟨bn, on_ + k, none⟩) (Nat.lt_trans hbn hgl)).trans c1
      have c2 := (Kb.out.cell (p := ⟨bo, oo + k, none⟩) (Nat.lt_trans hbo hgl)).trans c2
      have q1 : (0 : Int) ≤ (k : Int) := by omega
      have q2 : (k : Int) < (n : Int) := by omega
      have q3 : ((k : Int)).toNat = k := by omega
      have q4 : (d : Int) ≤ 1000 := by omega
      obtain ⟨hxy, hy0, hym⟩ := hcell
      have Kx := Lib.hid hx
      have Ky := Lib.hid hy
      have Kxy := Lib.hid hxy
      clear hx hy hxy
      by_cases hz : y = 0
      · subst hz
        obtain rfl : x = 0 := Kxy.out.1 rfl
        have q5 : ¬ (m : Int) < 0 := by omega
        go_wp2_with fail
        go_quiet (fail)
        go_wp2_with fail
        go_roundg (n - (k + 1))
        case measure => have := Kq.out; omega
        case rel => exact ⟨k + 1, d, by go_num, rfl, by omega, rfl, by rw [Kd.out]; simp only [cnt, Ky.out]; rfl, by omega, below_drewN Kb.out _⟩
      · have q5 : ¬ x = 0 := fun e => hz (Kxy.out.2 e)
        have q6 : ¬ y < 0 := by omega
        have q7 : ¬ (m : Int) < y := by omega
        have q8 : 0 < y := by omega
        have q9 : (y == 0) = false := by simpa using hz
        have q10 : (x == 0) = false := by simpa using q5
        go_wp2_with fail
        go_quiet (fail)
        go_wp2_with fail
        go_roundg (n - (k + 1))
        case measure => have := Kq.out; omega
        case rel => exact ⟨k + 1, d + 1, by go_num, by go_num, by omega, rfl, by rw [Kd.out]; simp only [cnt, Ky.out]; rw [show (y != 0) = true by simpa using hz]; rfl, by omega, below_drewN Kb.out _⟩
    · obtain rfl : k = n := by omega
      have hdd : d = Tb.dense (Tb.outs R) := by
        rw [Kd.out, ← Tb.nz_ow]
        unfold Tb.nz
        rw [← Kl.out.2]
      have hdn : d ≤ k := hdl
      subst hdd
      have hnl := Tb.nx_last (Tb.outs R) (fun r hr => Tb.outs_trim hr)
      rw [Kl.out.1] at hnl
      have Kden := Lib.hid (dense_any (.slice A2 m c2) (Tb.outs R) _ (Kv5.out.below Kb.out) (outs_short KS.out))
      rcases Nat.eq_zero_or_pos k with h0 | h0
      · subst h0
        go_wp2_with fail
        refine Kden.out.mono ?_
        rintro e wz ⟨rfl, hbz⟩
        have hbz := Kb.out.trans (below_le hbz Kb.out.size)
        clear p0 p1 p2 p3
        have hp := Kc.out
        have p0 := (hbz.cell (p := ⟨w4.heap.size, 0, none⟩) hgl).trans hp.1
        have p1 := (hbz.cell (p := ⟨w4.heap.size, 1, none⟩) hgl).trans hp.2.1
        have p2 := (hbz.cell (p := ⟨w4.heap.size, 2, none⟩) hgl).trans hp.2.2.1
        have p3 := (hbz.cell (p := ⟨w4.heap.size, 3, none⟩) hgl).trans hp.2.2.2
        clear hp
        have Kbz := Lib.hid hbz
        have q8 : ((Tb.dense (Tb.outs R) : Nat) : Int) ≤ ((0 : Nat) : Int) := by omega
        have Kcel := Lib.hid (cells_any (.slice A3 R.length c3) (.slice A4 R.length c4) (.slice A5 0 c5) (.slice A6 0 c6) 0 c5 A5 rfl wz)
        clear hbz
        go_wp2_with fail
        refine Kcel.out.mono ?_
        rintro e wy ⟨rfl, hby⟩
        have Kby := Lib.hid (Kb5.out.trans (below_le (Kbz.out.trans (below_le hby Kbz.out.size)) Kb5.out.size))
        clear hby p0 p1 p2 p3
        go_wp2_with fail
        go_ret
        exact ⟨rfl, Kby.out⟩
      · obtain ⟨bn, on_, rfl, hbn, c1⟩ := Kn.out.each (k - 1) (by omega)
        have c1 := (Kb.out.cell (p := ⟨bn, on_ + (k - 1), none⟩) (Nat.lt_trans hbn hgl)).trans c1
        have q5 := hnl h0
        obtain ⟨x, hx⟩ : ∃ x, (Tb.pack (Tb.outs R)).nx.getD (k - 1) 0 = x := ⟨_, rfl⟩
        rw [hx] at c1 q5
        have q6 : (x == 0) = false := by simpa using q5
        have q7 : (x != 0) = true := by simpa using q5
        have q9 : ((k : Int) == 0) = false := by have : ¬ (k : Int) = 0 := by omega
                                                 simpa using this
        clear hx
        go_wp2_with fail
        refine Kden.out.mono ?_
        rintro e wz ⟨rfl, hbz⟩
        have hbz := Kb.out.trans (below_le hbz Kb.out.size)
        clear p0 p1 p2 p3
        have hp := Kc.out
        have p0 := (hbz.cell (p := ⟨w4.heap.size, 0, none⟩) hgl).trans hp.1
        have p1 := (hbz.cell (p := ⟨w4.heap.size, 1, none⟩) hgl).trans hp.2.1
        have p2 := (hbz.cell (p := ⟨w4.heap.size, 2, none⟩) hgl).trans hp.2.2.1
        have p3 := (hbz.cell (p := ⟨w4.heap.size, 3, none⟩) hgl).trans hp.2.2.2
        clear hp
        have Kbz := Lib.hid hbz
        have q8 : ((Tb.dense (Tb.outs R) : Nat) : Int) ≤ (k : Int) := by omega
        have Kcel := Lib.hid (cells_any (.slice A3 R.length c3) (.slice A4 R.length c4) (.slice (some ⟨bn, on_, none⟩) k c5) (.slice A6 k c6) k c5 (some ⟨bn, on_, none⟩) rfl wz)
        clear hbz
        go_wp2_with fail
        refine Kcel.out.mono ?_
        rintro e wy ⟨rfl, hby⟩
        have Kby := Lib.hid (Kb5.out.trans (below_le (Kbz.out.trans (below_le hby Kbz.out.size)) Kb5.out.size))
        clear hby p0 p1 p2 p3
        go_wp2_with fail
        go_ret
        exact ⟨rfl, Kby.out⟩
end Go.Proofs.YtjcijffhcmbhnaaDoor
