/-
  The walk of LexerInside.
-/
import Derived.Test.YtcchljghlgnkkaaDoorLwG
import Derived.Test.YtcchljghlgnkkaaDoorLwF
namespace Go.Proofs.YtcchljghlgnkkaaDoor
open Go.RowKit
open Lx
set_option linter.unusedVariables false
set_option linter.unusedSimpArgs false

set_option maxHeartbeats 4000000 in
set_option maxRecDepth 100000 in
theorem inside_law (s : ByteArray) (hs : s.size ≤ 9223372036854775807) (W : World) (hT : Tab W) (h0 : 0 < W.heap.size) :
    Calls Tryd.prog 5 #[.string s] W fun e w' => e = .returned (.bool true) ∧ Below W.heap.size W w' := by
  have HT := Lib.hid hT
  clear hT
  go_enter Tryd.func5, Tryd.ntmps5
  go_wp2_with fail
  refine (awake_any _ HT.out h0).mono ?_
  rintro e w1 ⟨rfl, hb1⟩
  have HB1 := Lib.hid hb1
  have HT1 := Lib.hid (HT.out.below hb1 h0)
  have hs1 := hb1.size
  clear hb1
  by_cases hn1 : (300 : Int) < (s.size : Int)
  · go_wp2_with fail
    go_ret
    exact ⟨rfl, HB1.out⟩
  · have hn1 : (s.size : Int) ≤ 300 := by omega
    obtain ⟨MS1, hMS1⟩ : ∃ MS, (lex (bl s)).marks (bl s) = MS := ⟨_, rfl⟩
    obtain ⟨d1, d2, d3, hD1⟩ : ∃ d1 d2 d3, (lex (bl s)).diag (bl s) = (d1, d2, d3) := ⟨_, _, _, rfl⟩
    have HMS1 := Lib.hid hMS1
    have HDG1 := Lib.hid hD1
    clear hMS1 hD1
    go_wp2_with fail
    refine (lex_is s MS1 (d1, d2, d3) _ (by omega) HT1.out (by omega) HMS1.out HDG1.out).mono ?_
    rintro e w2 ⟨⟨A1, cap1, rfl, hm1⟩, hb2⟩
    simp only [diagV]
    have hs2 := hb2.size
    have HM1 := Lib.hid (hm1.below ((Below.refl _ _).alloc (Nat.le_refl _) (.cells #[.int .i64 (d1 : Int), .int .i64 (d2 : Int), .int .i64 (d3 : Int)] 28)))
    have HB2 := Lib.hid ((HB1.out.trans (hb2.mono hs1)).alloc (by omega) (.cells #[.int .i64 (d1 : Int), .int .i64 (d2 : Int), .int .i64 (d3 : Int)] 28))
    have HD1 := Lib.hid (At.new w2 28 #[.int .i64 (d1 : Int), .int .i64 (d2 : Int), .int .i64 (d3 : Int)])
    have hl2 := HD1.out.lt
    have hgW : W.heap.size ≤ w2.heap.size := by omega
    clear hm1 hb2
    cases hlx : lex (bl s) with
    | bad c p =>
      obtain ⟨hc1, hc2, hp⟩ := lex_at hlx
      rw [bl_length] at hp
      have hd1 : (c, (pos (bl s) p).1, (pos (bl s) p).2) = (d1, d2, d3) := by rw [← HDG1.out, hlx]; rfl
      have hm1 : [] = MS1 := by rw [← HMS1.out, hlx]; rfl
      simp only [Prod.mk.injEq] at hd1
      obtain ⟨rfl, hd2, hd3⟩ := hd1
      subst hm1
      have HP := Lib.hid (show pos (bl s) p = (d2, d3) by rw [← hd2, ← hd3])
      have n1 : ((c : Int) != 0) = true := by rw [bne_iff_ne]; omega
      have n2 : (c : Int) ≠ 0 := by omega
      clear hlx hd2 hd3 hc1 hc2
      go_wp2_with fail
      refine (inside_any s p (d2, d3) _ hp (by omega) HP.out).mono ?_
      rintro e w3 ⟨rfl, hb3⟩
      have HB3 := Lib.hid (HB2.out.trans (hb3.mono HB2.out.size))
      clear hb3
      go_wp2_with fail
      go_ret
      exact ⟨rfl, HB3.out⟩
    | ok ms =>
      obtain ⟨f1, f2, f3, f4⟩ := marks_good hlx
      have hd1 : (0, 0, 0) = (d1, d2, d3) := by rw [← HDG1.out, hlx]; rfl
      have hm1 : ms.map (mkOf (bl s)) = MS1 := by rw [← HMS1.out, hlx]; rfl
      simp only [Prod.mk.injEq] at hd1
      obtain ⟨rfl, rfl, rfl⟩ := hd1
      have z : ((0 : Nat) : Int) = 0 := rfl
      simp only [z] at HM1 HB2 HD1 hl2
      have hlen : ms.length = MS1.length := by rw [← hm1]; simp
      have hcnt : 0 < ms.length := List.length_pos_iff.2 f1
      rw [hm1, hlen] at f2 f3 f4
      rw [hlen] at hcnt
      rw [bl_length] at f4
      have hmx : MS1.length ≤ 9000000 := by
        have := lex_count hlx
        rw [bl_length] at this
        omega
      generalize hN : MS1.length = N at f2 f3 f4 hcnt hmx ⊢
      have HN := Lib.hid hN
      have F2 := Lib.hid f2
      have F3 := Lib.hid f3
      have F4 := Lib.hid f4
      clear hN f2 f3 f4 f1 hlen hm1 hlx
      obtain ⟨b1, rfl, y1, x11, x12, _, _⟩ := HM1.out.cell (i := N - 1) (by rw [HN.out]; omega)
      rw [F2.out, z] at x11
      rw [F3.out] at x12
      have x12' : _ = some (Value.string ⟨#[]⟩) := x12
      clear x12
      have hn1' : ((N : Int) - 1).toNat = N - 1 := by omega
      have hn2' : (1 : Int) ≤ (N : Int) := by omega
      have hn3' : (N : Int) - 1 < (N : Int) := by omega
      have hn4' : (0 : Int) ≤ (N : Int) - 1 := by omega
      have hn5' : ((N : Int) == 0) = false := by rw [beq_eq_false_iff_ne]; omega
      have hn6' : (N == 0) = false := by rw [beq_eq_false_iff_ne]; omega
      have hw' : IntKind.i64.wrap ((N : Int) - 1) = (N : Int) - 1 := IntWalk.i64_in _ (by omega)
      go_wp2_with fail
      generalize (w2.alloc (.cells #[.int .i64 0, .int .i64 0, .int .i64 0] 28)) = W2 at HM1 HB2 HD1 hl2 y1 x11 x12' ⊢
      generalize w2.heap.size = gd at HD1 hl2 hgW ⊢
      clear x11 x12'
      simp only [z]
      go_loopw [6] (fun i wr => ∃ k : Nat, k ≤ N ∧ i = .int .i64 (k : Int) ∧ MAt wr (some ⟨b1, 0, none⟩) MS1 ∧ At wr gd 28 #[.int .i64 0, .int .i64 0, .int .i64 0] ∧ Below W.heap.size W wr) (fun i _ => N - (intOf i).toNat)
      case atStart => exact ⟨0, by omega, rfl, HM1.out, HD1.out, HB2.out⟩
      case round =>
        obtain ⟨j, hj, rfl, hm, hd, hb⟩ := hrel
        have HM := Lib.hid hm
        have HD := Lib.hid hd
        have HB := Lib.hid hb
        have hsb := hb.size
        have hdl := hd.lt
        clear hm hd hb
        by_cases hlt : j < N
        · obtain ⟨⟨p, hp, hpp⟩, hnext⟩ := F4.out j hlt
          obtain ⟨b1', e1, q0, m1, m2, m3, m4⟩ := HM.out.cell (i := j) (by rw [HN.out]; exact hlt)
          injection e1 with e1
          injection e1 with e1
          subst e1
          generalize hK : (MS1.getD j ⟨0, [], 0, 0⟩).kind = K at m1 hnext
          generalize hL : (MS1.getD j ⟨0, [], 0, 0⟩).line = L at m3 hnext hpp
          generalize hC : (MS1.getD j ⟨0, [], 0, 0⟩).col = C at m4 hnext hpp
          have HK := Lib.hid hK
          have HL := Lib.hid hL
          have HC := Lib.hid hC
          have HNX := Lib.hid hnext
          have HPP := Lib.hid hpp
          have hji : (j : Int) < (N : Int) := by omega
          have hj0 : (0 : Int) ≤ (j : Int) := by omega
          clear m2 hK hL hC hnext hpp
          by_cases hlast : j + 1 < N
          · have hl1 : (j : Int) + 1 < (N : Int) := by omega
            obtain ⟨⟨k1, k9⟩, hah⟩ := HNX.out hlast
            obtain ⟨b1', e1, q2, r1, r2, r3, r4⟩ := HM.out.cell (i := j + 1) (by rw [HN.out]; exact hlast)
            injection e1 with e1
            injection e1 with e1
            subst e1
            generalize hL2 : (MS1.getD (j + 1) ⟨0, [], 0, 0⟩).line = L2 at r3 hah
            generalize hC2 : (MS1.getD (j + 1) ⟨0, [], 0, 0⟩).col = C2 at r4 hah
            have HL2 := Lib.hid hL2
            have HC2 := Lib.hid hC2
            unfold Ahead at hah
            simp only at hah
            have HIN := Lib.hid (fun w => inside_any s p (L, C) w hp (by omega) HPP.out)
            have HPOST := Lib.hid (show ∀ w3, Below wr.heap.size wr w3 → w3.cell? ⟨b1, j * 4, none⟩ = some (.int .i64 (K : Int)) ∧ w3.cell? ⟨b1, j * 4 + 2, none⟩ = some (.int .i64 (L : Int)) ∧ w3.cell? ⟨b1, j * 4 + 3, none⟩ = some (.int .i64 (C : Int)) ∧ w3.cell? ⟨b1, (j + 1) * 4 + 2, none⟩ = some (.int .i64 (L2 : Int)) ∧ w3.cell? ⟨b1, (j + 1) * 4 + 3, none⟩ = some (.int .i64 (C2 : Int)) from fun w3 hk3 => by
              obtain ⟨b1', e1, q1, m1, m2, m3, m4⟩ := (HM.out.below hk3).cell (i := j) (by rw [HN.out]; exact hlt)
              injection e1 with e1
              injection e1 with e1
              subst e1
              obtain ⟨b1', e1, q1, s1, s2, s3, s4⟩ := (HM.out.below hk3).cell (i := j + 1) (by rw [HN.out]; exact hlast)
              injection e1 with e1
              injection e1 with e1
              subst e1
              rw [HK.out] at m1
              rw [HL.out] at m3
              rw [HC.out] at m4
              rw [HL2.out] at s3
              rw [HC2.out] at s4
              exact ⟨m1, m3, m4, s3, s4⟩)
            have hREL := Lib.hid (show ∀ w3, Below wr.heap.size wr w3 → MAt w3 (some ⟨b1, 0, none⟩) MS1 ∧ At w3 gd 28 #[.int .i64 0, .int .i64 0, .int .i64 0] ∧ Below W.heap.size W w3 from fun w3 hk3 => ⟨HM.out.below hk3, HD.out.below hk3 hdl, HB.out.trans (hk3.mono hsb)⟩)
            have hmm : N - (j + 1) < N - j := by omega
            have hj1N : j + 1 ≤ N := by omega
            have hjw : IntKind.i64.wrap ((j : Int) + 1) = (j : Int) + 1 := IntWalk.i64_in _ (by omega)
            simp only at HIN
            generalize hKi : (K : Int) = Ki at m1 HPOST
            generalize hLi : (L : Int) = Li at m3 HPOST HIN
            generalize hCi : (C : Int) = Ci at m4 HPOST HIN
            generalize hMi : (L2 : Int) = Mi at r3 HPOST
            generalize hDi : (C2 : Int) = Di at r4 HPOST
            have hjj : ((j : Int) + 1).toNat = j + 1 := by omega
            have hj1 : (0 : Int) ≤ (j : Int) + 1 := by omega
            have hcells := And.intro m1 (And.intro m3 (And.intro m4 (And.intro r3 r4)))
            have g1 : decide (Ki < 1) = false := decide_eq_false (by omega)
            have g2 : decide (9 < Ki) = false := decide_eq_false (by omega)
            have g3 : decide (Mi < Li) = false := decide_eq_false (by omega)
            rcases hah with h | ⟨h, h'⟩
            · have hne : Li ≠ Mi := by omega
              have a2 : (Li == Mi) = false := by rw [beq_eq_false_iff_ne]; exact hne
              clear h k1 k9 hKi hLi hCi hMi hDi r1 r2 q0 q2 HK HL HC HL2 HC2 HNX HPP HM HD HB F4 F2 F3 HN HMS1 HDG1 HT HT1 HB1 HM1 HB2 HD1 hl2 hgW hs2 hs1 hp y1 hn1' hn2' hn3' hn4' hn5' hn6' hw' hcnt hmx hdl hsb hj hlt hlast z
              go_wp2_with fail
              refine wp_region_noPanic ?_
              refine wp_region_held_drew (S := (fun w' => w'.cell? ⟨b1, j * 4, none⟩ = some (.int .i64 Ki) ∧ w'.cell? ⟨b1, j * 4 + 2, none⟩ = some (.int .i64 Li) ∧ w'.cell? ⟨b1, j * 4 + 3, none⟩ = some (.int .i64 Ci) ∧ w'.cell? ⟨b1, (j + 1) * 4 + 2, none⟩ = some (.int .i64 Mi) ∧ w'.cell? ⟨b1, (j + 1) * 4 + 3, none⟩ = some (.int .i64 Di))) (by kernel_rfl) hcells (fun hHeld => ?_)
              refine wpAnyH_take (i := 0) (oi := { dst := some 61, op := Op.move (Operand.tmp 0), type := 9, pos := "law.go:67", after := #[], guard := none }) (v := ?va0) rfl (by kernel_rfl) (by kernel_rfl) (by kernel_rfl) (fun _ _ _ h => h) (Or.inl ⟨by rfl, ?hya0⟩) (by assumption) ?resta0
              case hya0 => (intro w hSw; (try dsimp only at hSw); go_simp; try with_reducible rfl)
              try simp only [Act.put, List.setIfInBounds_toArray, List.set_cons_zero, List.set_cons_succ]
              refine wpAnyH_take (i := 1) (oi := { dst := some 62, op := Op.move (Operand.tmp 4), type := 23, pos := "law.go:67", after := #[], guard := none }) (v := ?va1) rfl (by kernel_rfl) (by kernel_rfl) (by kernel_rfl) (fun _ _ _ h => h) (Or.inl ⟨by rfl, ?hya1⟩) (by assumption) ?resta1
              case hya1 => (intro w hSw; (try dsimp only at hSw); go_simp; try with_reducible rfl)
              try simp only [Act.put, List.setIfInBounds_toArray, List.set_cons_zero, List.set_cons_succ]
              refine wpAnyH_take (i := 2) (oi := { dst := some 63, op := Op.move (Operand.tmp 6), type := 3, pos := "law.go:67", after := #[], guard := none }) (v := ?va2) rfl (by kernel_rfl) (by kernel_rfl) (by kernel_rfl) (fun _ _ _ h => h) (Or.inl ⟨by rfl, ?hya2⟩) (by assumption) ?resta2
              case hya2 => (intro w hSw; (try dsimp only at hSw); go_simp; try with_reducible rfl)
              try simp only [Act.put, List.setIfInBounds_toArray, List.set_cons_zero, List.set_cons_succ]
              refine wpAnyH_take (i := 3) (oi := { dst := some 64, op := Op.indexAddr 23 (Operand.tmp 62) (Operand.tmp 63), type := 0, pos := "law.go:67", after := #[{ on := 1, ground := Ground.data }, { on := 2, ground := Ground.data }], guard := none }) (v := ?va3) rfl (by kernel_rfl) (by kernel_rfl) (by kernel_rfl) (fun _ _ _ h => h) (Or.inl ⟨by rfl, ?hya3⟩) (by assumption) ?resta3
              case hya3 => (intro w hSw; (try dsimp only at hSw); go_simp; try with_reducible rfl)
              try simp only [Act.put, List.setIfInBounds_toArray, List.set_cons_zero, List.set_cons_succ]
              refine wpAnyH_take (i := 4) (oi := { dst := some 65, op := Op.fieldAddr 40 (Operand.tmp 64) 2, type := 0, pos := "law.go:67", after := #[{ on := 3, ground := Ground.data }], guard := none }) (v := ?va4) rfl (by kernel_rfl) (by kernel_rfl) (by kernel_rfl) (fun _ _ _ h => h) (Or.inl ⟨by rfl, ?hya4⟩) (by assumption) ?resta4
              case hya4 => (intro w hSw; (try dsimp only at hSw); go_simp; try with_reducible rfl)
              try simp only [Act.put, List.setIfInBounds_toArray, List.set_cons_zero, List.set_cons_succ]
              refine wpAnyH_take (i := 5) (oi := { dst := some 66, op := Op.load 26 (Operand.tmp 65), type := 26, pos := "law.go:67", after := #[{ on := 4, ground := Ground.data }], guard := none }) (v := ?va5) rfl (by kernel_rfl) (by kernel_rfl) (by kernel_rfl) (fun _ _ _ h => h) (Or.inl ⟨by rfl, ?hya5⟩) (by assumption) ?resta5
              case hya5 => (intro w hSw; (try dsimp only at hSw); go_simp; try with_reducible rfl)
              try simp only [Act.put, List.setIfInBounds_toArray, List.set_cons_zero, List.set_cons_succ]
              refine wpAnyH_ready (rs := [6]) (by kernel_rfl) (by simp) ?_
              refine AllReadyH.cons (o := { dst := some 67, op := Op.call { callee := Callee.value (Operand.func 21), args := #[Operand.tmp 61, Operand.tmp 66], argTypes := #[9, 26] }, type := 4, pos := "law.go:67", after := #[{ on := 0, ground := Ground.data }, { on := 5, ground := Ground.data }], guard := none }) rfl (fun K hK => ?_) AllReadyH.nil
              go_simp
              go_at_call 21
              refine Calls.mono (HIN.out _) ?_
              rintro e w3 ⟨rfl, hb3⟩
              have hk3 : Below wr.heap.size wr w3 := by first | exact hb3 | exact below_undrew hb3
              have hcells3 := HPOST.out w3 hk3
              try obtain ⟨n1, n2, n3, n4, n5⟩ := id hcells3
              go_wp2_with fail
              refine hK.out _ _ hcells3 (fun hHeld => ?_)
              clear hK K
              try simp only [Act.put, List.setIfInBounds_toArray, List.set_cons_zero, List.set_cons_succ]
              refine wpAnyH_take (i := 7) (oi := { dst := some 68, op := Op.unOp UnOp.not 4 (Operand.tmp 67), type := 4, pos := "law.go:67", after := #[{ on := 6, ground := Ground.data }], guard := none }) (v := ?va7) rfl (by kernel_rfl) (by kernel_rfl) (by kernel_rfl) (fun _ _ _ h => h) (Or.inl ⟨by rfl, ?hya7⟩) (by assumption) ?resta7
              case hya7 => (intro w hSw; (try dsimp only at hSw); go_simp; try with_reducible rfl)
              try simp only [Act.put, List.setIfInBounds_toArray, List.set_cons_zero, List.set_cons_succ]
              refine wpAnyH_take (i := 8) (oi := { dst := some 69, op := Op.move (Operand.tmp 68), type := 4, pos := "law.go:67", after := #[{ on := 7, ground := Ground.data }, { on := 6, ground := Ground.chain }], guard := none }) (v := ?va8) rfl (by kernel_rfl) (by kernel_rfl) (by kernel_rfl) (fun _ _ _ h => h) (Or.inl ⟨by rfl, ?hya8⟩) (by assumption) ?resta8
              case hya8 => (intro w hSw; (try dsimp only at hSw); go_simp; try with_reducible rfl)
              try simp only [Act.put, List.setIfInBounds_toArray, List.set_cons_zero, List.set_cons_succ]
              refine wpAnyH_take (i := 9) (oi := { dst := some 70, op := Op.move (Operand.tmp 6), type := 3, pos := "law.go:67", after := #[{ on := 8, ground := Ground.guard }], guard := some (8, false) }) (v := ?va9) rfl (by kernel_rfl) (by kernel_rfl) (by kernel_rfl) (fun _ _ _ h => h) (Or.inl ⟨by rfl, ?hya9⟩) (by assumption) ?resta9
              case hya9 => (intro w hSw; (try dsimp only at hSw); go_simp; try with_reducible rfl)
              try simp only [Act.put, List.setIfInBounds_toArray, List.set_cons_zero, List.set_cons_succ]
              refine wpAnyH_take (i := 10) (oi := { dst := some 71, op := Op.binOp BinOp.add 3 (Operand.tmp 70) (Operand.const (Value.int IntKind.i64 1)) 3, type := 3, pos := "law.go:67", after := #[{ on := 9, ground := Ground.data }, { on := 8, ground := Ground.guard }], guard := some (8, false) }) (v := ?va10) rfl (by kernel_rfl) (by kernel_rfl) (by kernel_rfl) (fun _ _ _ h => h) (Or.inl ⟨by rfl, ?hya10⟩) (by assumption) ?resta10
              case hya10 => (intro w hSw; (try dsimp only at hSw); go_simp; try with_reducible rfl)
              try simp only [Act.put, List.setIfInBounds_toArray, List.set_cons_zero, List.set_cons_succ]
              refine wpAnyH_take (i := 11) (oi := { dst := some 72, op := Op.move (Operand.tmp 4), type := 23, pos := "law.go:67", after := #[{ on := 8, ground := Ground.guard }], guard := some (8, false) }) (v := ?va11) rfl (by kernel_rfl) (by kernel_rfl) (by kernel_rfl) (fun _ _ _ h => h) (Or.inl ⟨by rfl, ?hya11⟩) (by assumption) ?resta11
              case hya11 => (intro w hSw; (try dsimp only at hSw); go_simp; try with_reducible rfl)
              try simp only [Act.put, List.setIfInBounds_toArray, List.set_cons_zero, List.set_cons_succ]
              refine wpAnyH_take (i := 12) (oi := { dst := some 73, op := Op.call { callee := Callee.builtin Builtin.len, args := #[Operand.tmp 72], argTypes := #[23] }, type := 3, pos := "law.go:67", after := #[{ on := 11, ground := Ground.data }, { on := 8, ground := Ground.guard }], guard := some (8, false) }) (v := ?va12) rfl (by kernel_rfl) (by kernel_rfl) (by kernel_rfl) (fun _ _ _ h => h) (Or.inl ⟨by rfl, ?hya12⟩) (by assumption) ?resta12
              case hya12 => (intro w hSw; (try dsimp only at hSw); go_simp; try with_reducible rfl)
              try simp only [Act.put, List.setIfInBounds_toArray, List.set_cons_zero, List.set_cons_succ]
              refine wpAnyH_take (i := 13) (oi := { dst := some 74, op := Op.binOp BinOp.lss 3 (Operand.tmp 71) (Operand.tmp 73) 3, type := 4, pos := "law.go:67", after := #[{ on := 10, ground := Ground.data }, { on := 12, ground := Ground.data }, { on := 8, ground := Ground.guard }], guard := some (8, false) }) (v := ?va13) rfl (by kernel_rfl) (by kernel_rfl) (by kernel_rfl) (fun _ _ _ h => h) (Or.inl ⟨by rfl, ?hya13⟩) (by assumption) ?resta13
              case hya13 => (intro w hSw; (try dsimp only at hSw); go_simp; try with_reducible rfl)
              try simp only [Act.put, List.setIfInBounds_toArray, List.set_cons_zero, List.set_cons_succ]
              refine wpAnyH_take (i := 14) (oi := { dst := some 75, op := Op.move (Operand.tmp 74), type := 4, pos := "law.go:67", after := #[{ on := 13, ground := Ground.data }, { on := 8, ground := Ground.chain }, { on := 8, ground := Ground.guard }], guard := some (8, false) }) (v := ?va14) rfl (by kernel_rfl) (by kernel_rfl) (by kernel_rfl) (fun _ _ _ h => h) (Or.inl ⟨by rfl, ?hya14⟩) (by assumption) ?resta14
              case hya14 => (intro w hSw; (try dsimp only at hSw); go_simp; try with_reducible rfl)
              try simp only [Act.put, List.setIfInBounds_toArray, List.set_cons_zero, List.set_cons_succ]
              refine wpAnyH_take (i := 15) (oi := { dst := some 76, op := Op.move (Operand.tmp 4), type := 23, pos := "law.go:67", after := #[{ on := 14, ground := Ground.guard }], guard := some (14, true) }) (v := ?va15) rfl (by kernel_rfl) (by kernel_rfl) (by kernel_rfl) (fun _ _ _ h => h) (Or.inl ⟨by rfl, ?hya15⟩) (by assumption) ?resta15
              case hya15 => (intro w hSw; (try dsimp only at hSw); go_simp; try with_reducible rfl)
              try simp only [Act.put, List.setIfInBounds_toArray, List.set_cons_zero, List.set_cons_succ]
              refine wpAnyH_take (i := 16) (oi := { dst := some 77, op := Op.move (Operand.tmp 6), type := 3, pos := "law.go:67", after := #[{ on := 14, ground := Ground.guard }], guard := some (14, true) }) (v := ?va16) rfl (by kernel_rfl) (by kernel_rfl) (by kernel_rfl) (fun _ _ _ h => h) (Or.inl ⟨by rfl, ?hya16⟩) (by assumption) ?resta16
              case hya16 => (intro w hSw; (try dsimp only at hSw); go_simp; try with_reducible rfl)
              try simp only [Act.put, List.setIfInBounds_toArray, List.set_cons_zero, List.set_cons_succ]
              refine wpAnyH_take (i := 17) (oi := { dst := some 78, op := Op.indexAddr 23 (Operand.tmp 76) (Operand.tmp 77), type := 0, pos := "law.go:67", after := #[{ on := 15, ground := Ground.data }, { on := 16, ground := Ground.data }, { on := 14, ground := Ground.guard }], guard := some (14, true) }) (v := ?va17) rfl (by kernel_rfl) (by kernel_rfl) (by kernel_rfl) (fun _ _ _ h => h) (Or.inl ⟨by rfl, ?hya17⟩) (by assumption) ?resta17
              case hya17 => (intro w hSw; (try dsimp only at hSw); go_simp; try with_reducible rfl)
              try simp only [Act.put, List.setIfInBounds_toArray, List.set_cons_zero, List.set_cons_succ]
              refine wpAnyH_take (i := 18) (oi := { dst := some 79, op := Op.fieldAddr 40 (Operand.tmp 78) 0, type := 0, pos := "law.go:67", after := #[{ on := 17, ground := Ground.data }, { on := 14, ground := Ground.guard }], guard := some (14, true) }) (v := ?va18) rfl (by kernel_rfl) (by kernel_rfl) (by kernel_rfl) (fun _ _ _ h => h) (Or.inl ⟨by rfl, ?hya18⟩) (by assumption) ?resta18
              case hya18 => (intro w hSw; (try dsimp only at hSw); go_simp; try with_reducible rfl)
              try simp only [Act.put, List.setIfInBounds_toArray, List.set_cons_zero, List.set_cons_succ]
              refine wpAnyH_take (i := 19) (oi := { dst := some 80, op := Op.load 3 (Operand.tmp 79), type := 3, pos := "law.go:67", after := #[{ on := 18, ground := Ground.data }, { on := 14, ground := Ground.guard }], guard := some (14, true) }) (v := ?va19) rfl (by kernel_rfl) (by kernel_rfl) (by kernel_rfl) (fun _ _ _ h => h) (Or.inl ⟨by rfl, ?hya19⟩) (by assumption) ?resta19
              case hya19 => (intro w hSw; (try dsimp only at hSw); go_simp; try with_reducible rfl)
              try simp only [Act.put, List.setIfInBounds_toArray, List.set_cons_zero, List.set_cons_succ]
              refine wpAnyH_take (i := 20) (oi := { dst := some 81, op := Op.binOp BinOp.lss 3 (Operand.tmp 80) (Operand.const (Value.int IntKind.i64 1)) 3, type := 4, pos := "law.go:67", after := #[{ on := 19, ground := Ground.data }, { on := 14, ground := Ground.guard }], guard := some (14, true) }) (v := ?va20) rfl (by kernel_rfl) (by kernel_rfl) (by kernel_rfl) (fun _ _ _ h => h) (Or.inl ⟨by rfl, ?hya20⟩) (by assumption) ?resta20
              case hya20 => (intro w hSw; (try dsimp only at hSw); go_simp; try with_reducible rfl)
              try simp only [Act.put, List.setIfInBounds_toArray, List.set_cons_zero, List.set_cons_succ]
              refine wpAnyH_take (i := 21) (oi := { dst := some 82, op := Op.move (Operand.tmp 81), type := 4, pos := "law.go:67", after := #[{ on := 20, ground := Ground.data }, { on := 14, ground := Ground.chain }, { on := 14, ground := Ground.guard }], guard := some (14, true) }) (v := ?va21) rfl (by kernel_rfl) (by kernel_rfl) (by kernel_rfl) (fun _ _ _ h => h) (Or.inl ⟨by rfl, ?hya21⟩) (by assumption) ?resta21
              case hya21 => (intro w hSw; (try dsimp only at hSw); go_simp; try with_reducible rfl)
              try simp only [Act.put, List.setIfInBounds_toArray, List.set_cons_zero, List.set_cons_succ]
              refine wpAnyH_take (i := 22) (oi := { dst := some 83, op := Op.move (Operand.tmp 4), type := 23, pos := "law.go:67", after := #[{ on := 21, ground := Ground.guard }], guard := some (21, false) }) (v := ?va22) rfl (by kernel_rfl) (by kernel_rfl) (by kernel_rfl) (fun _ _ _ h => h) (Or.inl ⟨by rfl, ?hya22⟩) (by assumption) ?resta22
              case hya22 => (intro w hSw; (try dsimp only at hSw); go_simp; try with_reducible rfl)
              try simp only [Act.put, List.setIfInBounds_toArray, List.set_cons_zero, List.set_cons_succ]
              refine wpAnyH_take (i := 23) (oi := { dst := some 84, op := Op.move (Operand.tmp 6), type := 3, pos := "law.go:67", after := #[{ on := 21, ground := Ground.guard }], guard := some (21, false) }) (v := ?va23) rfl (by kernel_rfl) (by kernel_rfl) (by kernel_rfl) (fun _ _ _ h => h) (Or.inl ⟨by rfl, ?hya23⟩) (by assumption) ?resta23
              case hya23 => (intro w hSw; (try dsimp only at hSw); go_simp; try with_reducible rfl)
              try simp only [Act.put, List.setIfInBounds_toArray, List.set_cons_zero, List.set_cons_succ]
              refine wpAnyH_take (i := 24) (oi := { dst := some 85, op := Op.indexAddr 23 (Operand.tmp 83) (Operand.tmp 84), type := 0, pos := "law.go:67", after := #[{ on := 22, ground := Ground.data }, { on := 23, ground := Ground.data }, { on := 21, ground := Ground.guard }], guard := some (21, false) }) (v := ?va24) rfl (by kernel_rfl) (by kernel_rfl) (by kernel_rfl) (fun _ _ _ h => h) (Or.inl ⟨by rfl, ?hya24⟩) (by assumption) ?resta24
              case hya24 => (intro w hSw; (try dsimp only at hSw); go_simp; try with_reducible rfl)
              try simp only [Act.put, List.setIfInBounds_toArray, List.set_cons_zero, List.set_cons_succ]
              refine wpAnyH_take (i := 25) (oi := { dst := some 86, op := Op.fieldAddr 40 (Operand.tmp 85) 0, type := 0, pos := "law.go:67", after := #[{ on := 24, ground := Ground.data }, { on := 21, ground := Ground.guard }], guard := some (21, false) }) (v := ?va25) rfl (by kernel_rfl) (by kernel_rfl) (by kernel_rfl) (fun _ _ _ h => h) (Or.inl ⟨by rfl, ?hya25⟩) (by assumption) ?resta25
              case hya25 => (intro w hSw; (try dsimp only at hSw); go_simp; try with_reducible rfl)
              try simp only [Act.put, List.setIfInBounds_toArray, List.set_cons_zero, List.set_cons_succ]
              refine wpAnyH_take (i := 26) (oi := { dst := some 87, op := Op.load 3 (Operand.tmp 86), type := 3, pos := "law.go:67", after := #[{ on := 25, ground := Ground.data }, { on := 21, ground := Ground.guard }], guard := some (21, false) }) (v := ?va26) rfl (by kernel_rfl) (by kernel_rfl) (by kernel_rfl) (fun _ _ _ h => h) (Or.inl ⟨by rfl, ?hya26⟩) (by assumption) ?resta26
              case hya26 => (intro w hSw; (try dsimp only at hSw); go_simp; try with_reducible rfl)
              try simp only [Act.put, List.setIfInBounds_toArray, List.set_cons_zero, List.set_cons_succ]
              refine wpAnyH_take (i := 27) (oi := { dst := some 88, op := Op.binOp BinOp.gtr 3 (Operand.tmp 87) (Operand.const (Value.int IntKind.i64 9)) 3, type := 4, pos := "law.go:67", after := #[{ on := 26, ground := Ground.data }, { on := 21, ground := Ground.guard }], guard := some (21, false) }) (v := ?va27) rfl (by kernel_rfl) (by kernel_rfl) (by kernel_rfl) (fun _ _ _ h => h) (Or.inl ⟨by rfl, ?hya27⟩) (by assumption) ?resta27
              case hya27 => (intro w hSw; (try dsimp only at hSw); go_simp; try with_reducible rfl)
              try simp only [Act.put, List.setIfInBounds_toArray, List.set_cons_zero, List.set_cons_succ]
              refine wpAnyH_take (i := 28) (oi := { dst := some 89, op := Op.pick (Operand.tmp 82) (Operand.const (Value.bool true)) (Operand.tmp 88), type := 4, pos := "law.go:67", after := #[{ on := 21, ground := Ground.data }, { on := 27, ground := Ground.data }, { on := 14, ground := Ground.guard }], guard := some (14, true) }) (v := ?va28) rfl (by kernel_rfl) (by kernel_rfl) (by kernel_rfl) (fun _ _ _ h => h) (Or.inl ⟨by rfl, ?hya28⟩) (by assumption) ?resta28
              case hya28 => (intro w hSw; (try dsimp only at hSw); go_simp; try with_reducible rfl)
              try simp only [Act.put, List.setIfInBounds_toArray, List.set_cons_zero, List.set_cons_succ]
              refine wpAnyH_take (i := 29) (oi := { dst := some 90, op := Op.move (Operand.tmp 89), type := 4, pos := "law.go:67", after := #[{ on := 28, ground := Ground.data }, { on := 21, ground := Ground.chain }, { on := 14, ground := Ground.guard }], guard := some (14, true) }) (v := ?va29) rfl (by kernel_rfl) (by kernel_rfl) (by kernel_rfl) (fun _ _ _ h => h) (Or.inl ⟨by rfl, ?hya29⟩) (by assumption) ?resta29
              case hya29 => (intro w hSw; (try dsimp only at hSw); go_simp; try with_reducible rfl)
              try simp only [Act.put, List.setIfInBounds_toArray, List.set_cons_zero, List.set_cons_succ]
              refine wpAnyH_take (i := 30) (oi := { dst := some 91, op := Op.move (Operand.tmp 4), type := 23, pos := "law.go:67", after := #[{ on := 29, ground := Ground.guard }], guard := some (29, false) }) (v := ?va30) rfl (by kernel_rfl) (by kernel_rfl) (by kernel_rfl) (fun _ _ _ h => h) (Or.inl ⟨by rfl, ?hya30⟩) (by assumption) ?resta30
              case hya30 => (intro w hSw; (try dsimp only at hSw); go_simp; try with_reducible rfl)
              try simp only [Act.put, List.setIfInBounds_toArray, List.set_cons_zero, List.set_cons_succ]
              refine wpAnyH_take (i := 31) (oi := { dst := some 92, op := Op.move (Operand.tmp 6), type := 3, pos := "law.go:67", after := #[{ on := 29, ground := Ground.guard }], guard := some (29, false) }) (v := ?va31) rfl (by kernel_rfl) (by kernel_rfl) (by kernel_rfl) (fun _ _ _ h => h) (Or.inl ⟨by rfl, ?hya31⟩) (by assumption) ?resta31
              case hya31 => (intro w hSw; (try dsimp only at hSw); go_simp; try with_reducible rfl)
              try simp only [Act.put, List.setIfInBounds_toArray, List.set_cons_zero, List.set_cons_succ]
              refine wpAnyH_take (i := 32) (oi := { dst := some 93, op := Op.indexAddr 23 (Operand.tmp 91) (Operand.tmp 92), type := 0, pos := "law.go:67", after := #[{ on := 30, ground := Ground.data }, { on := 31, ground := Ground.data }, { on := 29, ground := Ground.guard }], guard := some (29, false) }) (v := ?va32) rfl (by kernel_rfl) (by kernel_rfl) (by kernel_rfl) (fun _ _ _ h => h) (Or.inl ⟨by rfl, ?hya32⟩) (by assumption) ?resta32
              case hya32 => (intro w hSw; (try dsimp only at hSw); go_simp; try with_reducible rfl)
              try simp only [Act.put, List.setIfInBounds_toArray, List.set_cons_zero, List.set_cons_succ]
              refine wpAnyH_take (i := 33) (oi := { dst := some 94, op := Op.fieldAddr 40 (Operand.tmp 93) 2, type := 0, pos := "law.go:67", after := #[{ on := 32, ground := Ground.data }, { on := 29, ground := Ground.guard }], guard := some (29, false) }) (v := ?va33) rfl (by kernel_rfl) (by kernel_rfl) (by kernel_rfl) (fun _ _ _ h => h) (Or.inl ⟨by rfl, ?hya33⟩) (by assumption) ?resta33
              case hya33 => (intro w hSw; (try dsimp only at hSw); go_simp; try with_reducible rfl)
              try simp only [Act.put, List.setIfInBounds_toArray, List.set_cons_zero, List.set_cons_succ]
              refine wpAnyH_take (i := 34) (oi := { dst := some 95, op := Op.fieldAddr 26 (Operand.tmp 94) 0, type := 0, pos := "law.go:67", after := #[{ on := 33, ground := Ground.data }, { on := 29, ground := Ground.guard }], guard := some (29, false) }) (v := ?va34) rfl (by kernel_rfl) (by kernel_rfl) (by kernel_rfl) (fun _ _ _ h => h) (Or.inl ⟨by rfl, ?hya34⟩) (by assumption) ?resta34
              case hya34 => (intro w hSw; (try dsimp only at hSw); go_simp; try with_reducible rfl)
              try simp only [Act.put, List.setIfInBounds_toArray, List.set_cons_zero, List.set_cons_succ]
              refine wpAnyH_take (i := 35) (oi := { dst := some 96, op := Op.load 3 (Operand.tmp 95), type := 3, pos := "law.go:67", after := #[{ on := 34, ground := Ground.data }, { on := 29, ground := Ground.guard }], guard := some (29, false) }) (v := ?va35) rfl (by kernel_rfl) (by kernel_rfl) (by kernel_rfl) (fun _ _ _ h => h) (Or.inl ⟨by rfl, ?hya35⟩) (by assumption) ?resta35
              case hya35 => (intro w hSw; (try dsimp only at hSw); go_simp; try with_reducible rfl)
              try simp only [Act.put, List.setIfInBounds_toArray, List.set_cons_zero, List.set_cons_succ]
              refine wpAnyH_take (i := 36) (oi := { dst := some 97, op := Op.move (Operand.tmp 4), type := 23, pos := "law.go:67", after := #[{ on := 29, ground := Ground.guard }], guard := some (29, false) }) (v := ?va36) rfl (by kernel_rfl) (by kernel_rfl) (by kernel_rfl) (fun _ _ _ h => h) (Or.inl ⟨by rfl, ?hya36⟩) (by assumption) ?resta36
              case hya36 => (intro w hSw; (try dsimp only at hSw); go_simp; try with_reducible rfl)
              try simp only [Act.put, List.setIfInBounds_toArray, List.set_cons_zero, List.set_cons_succ]
              refine wpAnyH_take (i := 37) (oi := { dst := some 98, op := Op.move (Operand.tmp 6), type := 3, pos := "law.go:67", after := #[{ on := 29, ground := Ground.guard }], guard := some (29, false) }) (v := ?va37) rfl (by kernel_rfl) (by kernel_rfl) (by kernel_rfl) (fun _ _ _ h => h) (Or.inl ⟨by rfl, ?hya37⟩) (by assumption) ?resta37
              case hya37 => (intro w hSw; (try dsimp only at hSw); go_simp; try with_reducible rfl)
              try simp only [Act.put, List.setIfInBounds_toArray, List.set_cons_zero, List.set_cons_succ]
              refine wpAnyH_take (i := 38) (oi := { dst := some 99, op := Op.binOp BinOp.add 3 (Operand.tmp 98) (Operand.const (Value.int IntKind.i64 1)) 3, type := 3, pos := "law.go:67", after := #[{ on := 37, ground := Ground.data }, { on := 29, ground := Ground.guard }], guard := some (29, false) }) (v := ?va38) rfl (by kernel_rfl) (by kernel_rfl) (by kernel_rfl) (fun _ _ _ h => h) (Or.inl ⟨by rfl, ?hya38⟩) (by assumption) ?resta38
              case hya38 => (intro w hSw; (try dsimp only at hSw); go_simp; try with_reducible rfl)
              try simp only [Act.put, List.setIfInBounds_toArray, List.set_cons_zero, List.set_cons_succ]
              refine wpAnyH_take (i := 39) (oi := { dst := some 100, op := Op.indexAddr 23 (Operand.tmp 97) (Operand.tmp 99), type := 0, pos := "law.go:67", after := #[{ on := 36, ground := Ground.data }, { on := 38, ground := Ground.data }, { on := 29, ground := Ground.guard }], guard := some (29, false) }) (v := ?va39) rfl (by kernel_rfl) (by kernel_rfl) (by kernel_rfl) (fun _ _ _ h => h) (Or.inl ⟨by rfl, ?hya39⟩) (by assumption) ?resta39
              case hya39 => (intro w hSw; (try dsimp only at hSw); go_simp; try with_reducible rfl)
              try simp only [Act.put, List.setIfInBounds_toArray, List.set_cons_zero, List.set_cons_succ]
              refine wpAnyH_take (i := 40) (oi := { dst := some 101, op := Op.fieldAddr 40 (Operand.tmp 100) 2, type := 0, pos := "law.go:67", after := #[{ on := 39, ground := Ground.data }, { on := 29, ground := Ground.guard }], guard := some (29, false) }) (v := ?va40) rfl (by kernel_rfl) (by kernel_rfl) (by kernel_rfl) (fun _ _ _ h => h) (Or.inl ⟨by rfl, ?hya40⟩) (by assumption) ?resta40
              case hya40 => (intro w hSw; (try dsimp only at hSw); go_simp; try with_reducible rfl)
              try simp only [Act.put, List.setIfInBounds_toArray, List.set_cons_zero, List.set_cons_succ]
              refine wpAnyH_take (i := 41) (oi := { dst := some 102, op := Op.fieldAddr 26 (Operand.tmp 101) 0, type := 0, pos := "law.go:67", after := #[{ on := 40, ground := Ground.data }, { on := 29, ground := Ground.guard }], guard := some (29, false) }) (v := ?va41) rfl (by kernel_rfl) (by kernel_rfl) (by kernel_rfl) (fun _ _ _ h => h) (Or.inl ⟨by rfl, ?hya41⟩) (by assumption) ?resta41
              case hya41 => (intro w hSw; (try dsimp only at hSw); go_simp; try with_reducible rfl)
              try simp only [Act.put, List.setIfInBounds_toArray, List.set_cons_zero, List.set_cons_succ]
              refine wpAnyH_take (i := 42) (oi := { dst := some 103, op := Op.load 3 (Operand.tmp 102), type := 3, pos := "law.go:67", after := #[{ on := 41, ground := Ground.data }, { on := 29, ground := Ground.guard }], guard := some (29, false) }) (v := ?va42) rfl (by kernel_rfl) (by kernel_rfl) (by kernel_rfl) (fun _ _ _ h => h) (Or.inl ⟨by rfl, ?hya42⟩) (by assumption) ?resta42
              case hya42 => (intro w hSw; (try dsimp only at hSw); go_simp; try with_reducible rfl)
              try simp only [Act.put, List.setIfInBounds_toArray, List.set_cons_zero, List.set_cons_succ]
              refine wpAnyH_take (i := 43) (oi := { dst := some 104, op := Op.binOp BinOp.gtr 3 (Operand.tmp 96) (Operand.tmp 103) 3, type := 4, pos := "law.go:67", after := #[{ on := 35, ground := Ground.data }, { on := 42, ground := Ground.data }, { on := 29, ground := Ground.guard }], guard := some (29, false) }) (v := ?va43) rfl (by kernel_rfl) (by kernel_rfl) (by kernel_rfl) (fun _ _ _ h => h) (Or.inl ⟨by rfl, ?hya43⟩) (by assumption) ?resta43
              case hya43 => (intro w hSw; (try dsimp only at hSw); go_simp; try with_reducible rfl)
              try simp only [Act.put, List.setIfInBounds_toArray, List.set_cons_zero, List.set_cons_succ]
              refine wpAnyH_take (i := 44) (oi := { dst := some 105, op := Op.pick (Operand.tmp 90) (Operand.const (Value.bool true)) (Operand.tmp 104), type := 4, pos := "law.go:67", after := #[{ on := 29, ground := Ground.data }, { on := 43, ground := Ground.data }, { on := 14, ground := Ground.guard }], guard := some (14, true) }) (v := ?va44) rfl (by kernel_rfl) (by kernel_rfl) (by kernel_rfl) (fun _ _ _ h => h) (Or.inl ⟨by rfl, ?hya44⟩) (by assumption) ?resta44
              case hya44 => (intro w hSw; (try dsimp only at hSw); go_simp; try with_reducible rfl)
              try simp only [Act.put, List.setIfInBounds_toArray, List.set_cons_zero, List.set_cons_succ]
              refine wpAnyH_take (i := 45) (oi := { dst := some 106, op := Op.move (Operand.tmp 105), type := 4, pos := "law.go:67", after := #[{ on := 44, ground := Ground.data }, { on := 29, ground := Ground.chain }, { on := 14, ground := Ground.guard }], guard := some (14, true) }) (v := ?va45) rfl (by kernel_rfl) (by kernel_rfl) (by kernel_rfl) (fun _ _ _ h => h) (Or.inl ⟨by rfl, ?hya45⟩) (by assumption) ?resta45
              case hya45 => (intro w hSw; (try dsimp only at hSw); go_simp; try with_reducible rfl)
              try simp only [Act.put, List.setIfInBounds_toArray, List.set_cons_zero, List.set_cons_succ]
              refine wpAnyH_take (i := 46) (oi := { dst := some 107, op := Op.move (Operand.tmp 4), type := 23, pos := "law.go:67", after := #[{ on := 45, ground := Ground.guard }], guard := some (45, false) }) (v := ?va46) rfl (by kernel_rfl) (by kernel_rfl) (by kernel_rfl) (fun _ _ _ h => h) (Or.inl ⟨by rfl, ?hya46⟩) (by assumption) ?resta46
              case hya46 => (intro w hSw; (try dsimp only at hSw); go_simp; try with_reducible rfl)
              try simp only [Act.put, List.setIfInBounds_toArray, List.set_cons_zero, List.set_cons_succ]
              refine wpAnyH_take (i := 47) (oi := { dst := some 108, op := Op.move (Operand.tmp 6), type := 3, pos := "law.go:67", after := #[{ on := 45, ground := Ground.guard }], guard := some (45, false) }) (v := ?va47) rfl (by kernel_rfl) (by kernel_rfl) (by kernel_rfl) (fun _ _ _ h => h) (Or.inl ⟨by rfl, ?hya47⟩) (by assumption) ?resta47
              case hya47 => (intro w hSw; (try dsimp only at hSw); go_simp; try with_reducible rfl)
              try simp only [Act.put, List.setIfInBounds_toArray, List.set_cons_zero, List.set_cons_succ]
              refine wpAnyH_take (i := 48) (oi := { dst := some 109, op := Op.indexAddr 23 (Operand.tmp 107) (Operand.tmp 108), type := 0, pos := "law.go:67", after := #[{ on := 46, ground := Ground.data }, { on := 47, ground := Ground.data }, { on := 45, ground := Ground.guard }], guard := some (45, false) }) (v := ?va48) rfl (by kernel_rfl) (by kernel_rfl) (by kernel_rfl) (fun _ _ _ h => h) (Or.inl ⟨by rfl, ?hya48⟩) (by assumption) ?resta48
              case hya48 => (intro w hSw; (try dsimp only at hSw); go_simp; try with_reducible rfl)
              try simp only [Act.put, List.setIfInBounds_toArray, List.set_cons_zero, List.set_cons_succ]
              refine wpAnyH_take (i := 49) (oi := { dst := some 110, op := Op.fieldAddr 40 (Operand.tmp 109) 2, type := 0, pos := "law.go:67", after := #[{ on := 48, ground := Ground.data }, { on := 45, ground := Ground.guard }], guard := some (45, false) }) (v := ?va49) rfl (by kernel_rfl) (by kernel_rfl) (by kernel_rfl) (fun _ _ _ h => h) (Or.inl ⟨by rfl, ?hya49⟩) (by assumption) ?resta49
              case hya49 => (intro w hSw; (try dsimp only at hSw); go_simp; try with_reducible rfl)
              try simp only [Act.put, List.setIfInBounds_toArray, List.set_cons_zero, List.set_cons_succ]
              refine wpAnyH_take (i := 50) (oi := { dst := some 111, op := Op.fieldAddr 26 (Operand.tmp 110) 0, type := 0, pos := "law.go:67", after := #[{ on := 49, ground := Ground.data }, { on := 45, ground := Ground.guard }], guard := some (45, false) }) (v := ?va50) rfl (by kernel_rfl) (by kernel_rfl) (by kernel_rfl) (fun _ _ _ h => h) (Or.inl ⟨by rfl, ?hya50⟩) (by assumption) ?resta50
              case hya50 => (intro w hSw; (try dsimp only at hSw); go_simp; try with_reducible rfl)
              try simp only [Act.put, List.setIfInBounds_toArray, List.set_cons_zero, List.set_cons_succ]
              refine wpAnyH_take (i := 51) (oi := { dst := some 112, op := Op.load 3 (Operand.tmp 111), type := 3, pos := "law.go:67", after := #[{ on := 50, ground := Ground.data }, { on := 45, ground := Ground.guard }], guard := some (45, false) }) (v := ?va51) rfl (by kernel_rfl) (by kernel_rfl) (by kernel_rfl) (fun _ _ _ h => h) (Or.inl ⟨by rfl, ?hya51⟩) (by assumption) ?resta51
              case hya51 => (intro w hSw; (try dsimp only at hSw); go_simp; try with_reducible rfl)
              try simp only [Act.put, List.setIfInBounds_toArray, List.set_cons_zero, List.set_cons_succ]
              refine wpAnyH_take (i := 52) (oi := { dst := some 113, op := Op.move (Operand.tmp 4), type := 23, pos := "law.go:67", after := #[{ on := 45, ground := Ground.guard }], guard := some (45, false) }) (v := ?va52) rfl (by kernel_rfl) (by kernel_rfl) (by kernel_rfl) (fun _ _ _ h => h) (Or.inl ⟨by rfl, ?hya52⟩) (by assumption) ?resta52
              case hya52 => (intro w hSw; (try dsimp only at hSw); go_simp; try with_reducible rfl)
              try simp only [Act.put, List.setIfInBounds_toArray, List.set_cons_zero, List.set_cons_succ]
              refine wpAnyH_take (i := 53) (oi := { dst := some 114, op := Op.move (Operand.tmp 6), type := 3, pos := "law.go:67", after := #[{ on := 45, ground := Ground.guard }], guard := some (45, false) }) (v := ?va53) rfl (by kernel_rfl) (by kernel_rfl) (by kernel_rfl) (fun _ _ _ h => h) (Or.inl ⟨by rfl, ?hya53⟩) (by assumption) ?resta53
              case hya53 => (intro w hSw; (try dsimp only at hSw); go_simp; try with_reducible rfl)
              try simp only [Act.put, List.setIfInBounds_toArray, List.set_cons_zero, List.set_cons_succ]
              refine wpAnyH_take (i := 54) (oi := { dst := some 115, op := Op.binOp BinOp.add 3 (Operand.tmp 114) (Operand.const (Value.int IntKind.i64 1)) 3, type := 3, pos := "law.go:67", after := #[{ on := 53, ground := Ground.data }, { on := 45, ground := Ground.guard }], guard := some (45, false) }) (v := ?va54) rfl (by kernel_rfl) (by kernel_rfl) (by kernel_rfl) (fun _ _ _ h => h) (Or.inl ⟨by rfl, ?hya54⟩) (by assumption) ?resta54
              case hya54 => (intro w hSw; (try dsimp only at hSw); go_simp; try with_reducible rfl)
              try simp only [Act.put, List.setIfInBounds_toArray, List.set_cons_zero, List.set_cons_succ]
              refine wpAnyH_take (i := 55) (oi := { dst := some 116, op := Op.indexAddr 23 (Operand.tmp 113) (Operand.tmp 115), type := 0, pos := "law.go:67", after := #[{ on := 52, ground := Ground.data }, { on := 54, ground := Ground.data }, { on := 45, ground := Ground.guard }], guard := some (45, false) }) (v := ?va55) rfl (by kernel_rfl) (by kernel_rfl) (by kernel_rfl) (fun _ _ _ h => h) (Or.inl ⟨by rfl, ?hya55⟩) (by assumption) ?resta55
              case hya55 => (intro w hSw; (try dsimp only at hSw); go_simp; try with_reducible rfl)
              try simp only [Act.put, List.setIfInBounds_toArray, List.set_cons_zero, List.set_cons_succ]
              refine wpAnyH_take (i := 56) (oi := { dst := some 117, op := Op.fieldAddr 40 (Operand.tmp 116) 2, type := 0, pos := "law.go:67", after := #[{ on := 55, ground := Ground.data }, { on := 45, ground := Ground.guard }], guard := some (45, false) }) (v := ?va56) rfl (by kernel_rfl) (by kernel_rfl) (by kernel_rfl) (fun _ _ _ h => h) (Or.inl ⟨by rfl, ?hya56⟩) (by assumption) ?resta56
              case hya56 => (intro w hSw; (try dsimp only at hSw); go_simp; try with_reducible rfl)
              try simp only [Act.put, List.setIfInBounds_toArray, List.set_cons_zero, List.set_cons_succ]
              refine wpAnyH_take (i := 57) (oi := { dst := some 118, op := Op.fieldAddr 26 (Operand.tmp 117) 0, type := 0, pos := "law.go:67", after := #[{ on := 56, ground := Ground.data }, { on := 45, ground := Ground.guard }], guard := some (45, false) }) (v := ?va57) rfl (by kernel_rfl) (by kernel_rfl) (by kernel_rfl) (fun _ _ _ h => h) (Or.inl ⟨by rfl, ?hya57⟩) (by assumption) ?resta57
              case hya57 => (intro w hSw; (try dsimp only at hSw); go_simp; try with_reducible rfl)
              try simp only [Act.put, List.setIfInBounds_toArray, List.set_cons_zero, List.set_cons_succ]
              refine wpAnyH_take (i := 58) (oi := { dst := some 119, op := Op.load 3 (Operand.tmp 118), type := 3, pos := "law.go:67", after := #[{ on := 57, ground := Ground.data }, { on := 45, ground := Ground.guard }], guard := some (45, false) }) (v := ?va58) rfl (by kernel_rfl) (by kernel_rfl) (by kernel_rfl) (fun _ _ _ h => h) (Or.inl ⟨by rfl, ?hya58⟩) (by assumption) ?resta58
              case hya58 => (intro w hSw; (try dsimp only at hSw); go_simp; try with_reducible rfl)
              try simp only [Act.put, List.setIfInBounds_toArray, List.set_cons_zero, List.set_cons_succ]
              refine wpAnyH_take (i := 59) (oi := { dst := some 120, op := Op.binOp BinOp.eql 3 (Operand.tmp 112) (Operand.tmp 119) 3, type := 4, pos := "law.go:67", after := #[{ on := 51, ground := Ground.data }, { on := 58, ground := Ground.data }, { on := 45, ground := Ground.guard }], guard := some (45, false) }) (v := ?va59) rfl (by kernel_rfl) (by kernel_rfl) (by kernel_rfl) (fun _ _ _ h => h) (Or.inl ⟨by rfl, ?hya59⟩) (by assumption) ?resta59
              case hya59 => (intro w hSw; (try dsimp only at hSw); go_simp; try with_reducible rfl)
              try simp only [Act.put, List.setIfInBounds_toArray, List.set_cons_zero, List.set_cons_succ]
              refine wpAnyH_take (i := 60) (oi := { dst := some 121, op := Op.move (Operand.tmp 120), type := 4, pos := "law.go:67", after := #[{ on := 59, ground := Ground.data }, { on := 45, ground := Ground.chain }, { on := 45, ground := Ground.guard }], guard := some (45, false) }) (v := ?va60) rfl (by kernel_rfl) (by kernel_rfl) (by kernel_rfl) (fun _ _ _ h => h) (Or.inl ⟨by rfl, ?hya60⟩) (by assumption) ?resta60
              case hya60 => (intro w hSw; (try dsimp only at hSw); go_simp; try with_reducible rfl)
              try simp only [Act.put, List.setIfInBounds_toArray, List.set_cons_zero, List.set_cons_succ]
              refine wpAnyH_take (i := 61) (oi := { dst := some 122, op := Op.move (Operand.tmp 4), type := 23, pos := "law.go:67", after := #[{ on := 60, ground := Ground.guard }], guard := some (60, true) }) (v := undef) rfl (by kernel_rfl) (by kernel_rfl) (by kernel_rfl) (fun _ _ _ h => h) (Or.inr ⟨by rfl, rfl⟩) (by assumption) ?_
              try simp only [Act.put, List.setIfInBounds_toArray, List.set_cons_zero, List.set_cons_succ]
              refine wpAnyH_take (i := 62) (oi := { dst := some 123, op := Op.move (Operand.tmp 6), type := 3, pos := "law.go:67", after := #[{ on := 60, ground := Ground.guard }], guard := some (60, true) }) (v := undef) rfl (by kernel_rfl) (by kernel_rfl) (by kernel_rfl) (fun _ _ _ h => h) (Or.inr ⟨by rfl, rfl⟩) (by assumption) ?_
              try simp only [Act.put, List.setIfInBounds_toArray, List.set_cons_zero, List.set_cons_succ]
              refine wpAnyH_take (i := 63) (oi := { dst := some 124, op := Op.indexAddr 23 (Operand.tmp 122) (Operand.tmp 123), type := 0, pos := "law.go:67", after := #[{ on := 61, ground := Ground.data }, { on := 62, ground := Ground.data }, { on := 60, ground := Ground.guard }], guard := some (60, true) }) (v := undef) rfl (by kernel_rfl) (by kernel_rfl) (by kernel_rfl) (fun _ _ _ h => h) (Or.inr ⟨by rfl, rfl⟩) (by assumption) ?_
              try simp only [Act.put, List.setIfInBounds_toArray, List.set_cons_zero, List.set_cons_succ]
              refine wpAnyH_take (i := 64) (oi := { dst := some 125, op := Op.fieldAddr 40 (Operand.tmp 124) 2, type := 0, pos := "law.go:67", after := #[{ on := 63, ground := Ground.data }, { on := 60, ground := Ground.guard }], guard := some (60, true) }) (v := undef) rfl (by kernel_rfl) (by kernel_rfl) (by kernel_rfl) (fun _ _ _ h => h) (Or.inr ⟨by rfl, rfl⟩) (by assumption) ?_
              try simp only [Act.put, List.setIfInBounds_toArray, List.set_cons_zero, List.set_cons_succ]
              refine wpAnyH_take (i := 65) (oi := { dst := some 126, op := Op.fieldAddr 26 (Operand.tmp 125) 1, type := 0, pos := "law.go:67", after := #[{ on := 64, ground := Ground.data }, { on := 60, ground := Ground.guard }], guard := some (60, true) }) (v := undef) rfl (by kernel_rfl) (by kernel_rfl) (by kernel_rfl) (fun _ _ _ h => h) (Or.inr ⟨by rfl, rfl⟩) (by assumption) ?_
              try simp only [Act.put, List.setIfInBounds_toArray, List.set_cons_zero, List.set_cons_succ]
              refine wpAnyH_take (i := 66) (oi := { dst := some 127, op := Op.load 3 (Operand.tmp 126), type := 3, pos := "law.go:67", after := #[{ on := 65, ground := Ground.data }, { on := 60, ground := Ground.guard }], guard := some (60, true) }) (v := undef) rfl (by kernel_rfl) (by kernel_rfl) (by kernel_rfl) (fun _ _ _ h => h) (Or.inr ⟨by rfl, rfl⟩) (by assumption) ?_
              try simp only [Act.put, List.setIfInBounds_toArray, List.set_cons_zero, List.set_cons_succ]
              refine wpAnyH_take (i := 67) (oi := { dst := some 128, op := Op.move (Operand.tmp 4), type := 23, pos := "law.go:67", after := #[{ on := 60, ground := Ground.guard }], guard := some (60, true) }) (v := undef) rfl (by kernel_rfl) (by kernel_rfl) (by kernel_rfl) (fun _ _ _ h => h) (Or.inr ⟨by rfl, rfl⟩) (by assumption) ?_
              try simp only [Act.put, List.setIfInBounds_toArray, List.set_cons_zero, List.set_cons_succ]
              refine wpAnyH_take (i := 68) (oi := { dst := some 129, op := Op.move (Operand.tmp 6), type := 3, pos := "law.go:67", after := #[{ on := 60, ground := Ground.guard }], guard := some (60, true) }) (v := undef) rfl (by kernel_rfl) (by kernel_rfl) (by kernel_rfl) (fun _ _ _ h => h) (Or.inr ⟨by rfl, rfl⟩) (by assumption) ?_
              try simp only [Act.put, List.setIfInBounds_toArray, List.set_cons_zero, List.set_cons_succ]
              refine wpAnyH_take (i := 69) (oi := { dst := some 130, op := Op.binOp BinOp.add 3 (Operand.tmp 129) (Operand.const (Value.int IntKind.i64 1)) 3, type := 3, pos := "law.go:67", after := #[{ on := 68, ground := Ground.data }, { on := 60, ground := Ground.guard }], guard := some (60, true) }) (v := undef) rfl (by kernel_rfl) (by kernel_rfl) (by kernel_rfl) (fun _ _ _ h => h) (Or.inr ⟨by rfl, rfl⟩) (by assumption) ?_
              try simp only [Act.put, List.setIfInBounds_toArray, List.set_cons_zero, List.set_cons_succ]
              refine wpAnyH_take (i := 70) (oi := { dst := some 131, op := Op.indexAddr 23 (Operand.tmp 128) (Operand.tmp 130), type := 0, pos := "law.go:67", after := #[{ on := 67, ground := Ground.data }, { on := 69, ground := Ground.data }, { on := 60, ground := Ground.guard }], guard := some (60, true) }) (v := undef) rfl (by kernel_rfl) (by kernel_rfl) (by kernel_rfl) (fun _ _ _ h => h) (Or.inr ⟨by rfl, rfl⟩) (by assumption) ?_
              try simp only [Act.put, List.setIfInBounds_toArray, List.set_cons_zero, List.set_cons_succ]
              refine wpAnyH_take (i := 71) (oi := { dst := some 132, op := Op.fieldAddr 40 (Operand.tmp 131) 2, type := 0, pos := "law.go:67", after := #[{ on := 70, ground := Ground.data }, { on := 60, ground := Ground.guard }], guard := some (60, true) }) (v := undef) rfl (by kernel_rfl) (by kernel_rfl) (by kernel_rfl) (fun _ _ _ h => h) (Or.inr ⟨by rfl, rfl⟩) (by assumption) ?_
              try simp only [Act.put, List.setIfInBounds_toArray, List.set_cons_zero, List.set_cons_succ]
              refine wpAnyH_take (i := 72) (oi := { dst := some 133, op := Op.fieldAddr 26 (Operand.tmp 132) 1, type := 0, pos := "law.go:67", after := #[{ on := 71, ground := Ground.data }, { on := 60, ground := Ground.guard }], guard := some (60, true) }) (v := undef) rfl (by kernel_rfl) (by kernel_rfl) (by kernel_rfl) (fun _ _ _ h => h) (Or.inr ⟨by rfl, rfl⟩) (by assumption) ?_
              try simp only [Act.put, List.setIfInBounds_toArray, List.set_cons_zero, List.set_cons_succ]
              refine wpAnyH_take (i := 73) (oi := { dst := some 134, op := Op.load 3 (Operand.tmp 133), type := 3, pos := "law.go:67", after := #[{ on := 72, ground := Ground.data }, { on := 60, ground := Ground.guard }], guard := some (60, true) }) (v := undef) rfl (by kernel_rfl) (by kernel_rfl) (by kernel_rfl) (fun _ _ _ h => h) (Or.inr ⟨by rfl, rfl⟩) (by assumption) ?_
              try simp only [Act.put, List.setIfInBounds_toArray, List.set_cons_zero, List.set_cons_succ]
              refine wpAnyH_take (i := 74) (oi := { dst := some 135, op := Op.binOp BinOp.geq 3 (Operand.tmp 127) (Operand.tmp 134) 3, type := 4, pos := "law.go:67", after := #[{ on := 66, ground := Ground.data }, { on := 73, ground := Ground.data }, { on := 60, ground := Ground.guard }], guard := some (60, true) }) (v := undef) rfl (by kernel_rfl) (by kernel_rfl) (by kernel_rfl) (fun _ _ _ h => h) (Or.inr ⟨by rfl, rfl⟩) (by assumption) ?_
              try simp only [Act.put, List.setIfInBounds_toArray, List.set_cons_zero, List.set_cons_succ]
              refine wpAnyH_take (i := 75) (oi := { dst := some 136, op := Op.pick (Operand.tmp 121) (Operand.tmp 135) (Operand.const (Value.bool false)), type := 4, pos := "law.go:67", after := #[{ on := 60, ground := Ground.data }, { on := 74, ground := Ground.data }, { on := 45, ground := Ground.guard }], guard := some (45, false) }) (v := ?va75) rfl (by kernel_rfl) (by kernel_rfl) (by kernel_rfl) (fun _ _ _ h => h) (Or.inl ⟨by rfl, ?hya75⟩) (by assumption) ?resta75
              case hya75 => (intro w hSw; (try dsimp only at hSw); go_simp; try with_reducible rfl)
              try simp only [Act.put, List.setIfInBounds_toArray, List.set_cons_zero, List.set_cons_succ]
              refine wpAnyH_take (i := 76) (oi := { dst := some 137, op := Op.pick (Operand.tmp 106) (Operand.const (Value.bool true)) (Operand.tmp 136), type := 4, pos := "law.go:67", after := #[{ on := 45, ground := Ground.data }, { on := 75, ground := Ground.data }, { on := 14, ground := Ground.guard }], guard := some (14, true) }) (v := ?va76) rfl (by kernel_rfl) (by kernel_rfl) (by kernel_rfl) (fun _ _ _ h => h) (Or.inl ⟨by rfl, ?hya76⟩) (by assumption) ?resta76
              case hya76 => (intro w hSw; (try dsimp only at hSw); go_simp; try with_reducible rfl)
              try simp only [Act.put, List.setIfInBounds_toArray, List.set_cons_zero, List.set_cons_succ]
              refine wpAnyH_take (i := 77) (oi := { dst := some 138, op := Op.pick (Operand.tmp 75) (Operand.tmp 137) (Operand.const (Value.bool false)), type := 4, pos := "law.go:67", after := #[{ on := 14, ground := Ground.data }, { on := 76, ground := Ground.data }, { on := 8, ground := Ground.guard }], guard := some (8, false) }) (v := ?va77) rfl (by kernel_rfl) (by kernel_rfl) (by kernel_rfl) (fun _ _ _ h => h) (Or.inl ⟨by rfl, ?hya77⟩) (by assumption) ?resta77
              case hya77 => (intro w hSw; (try dsimp only at hSw); go_simp; try with_reducible rfl)
              try simp only [Act.put, List.setIfInBounds_toArray, List.set_cons_zero, List.set_cons_succ]
              refine wpAnyH_take (i := 78) (oi := { dst := some 139, op := Op.pick (Operand.tmp 69) (Operand.const (Value.bool true)) (Operand.tmp 138), type := 4, pos := "law.go:67", after := #[{ on := 8, ground := Ground.data }, { on := 77, ground := Ground.data }], guard := none }) (v := ?va78) rfl (by kernel_rfl) (by kernel_rfl) (by kernel_rfl) (fun _ _ _ h => h) (Or.inl ⟨by rfl, ?hya78⟩) (by assumption) ?resta78
              case hya78 => (intro w hSw; (try dsimp only at hSw); go_simp; try with_reducible rfl)
              try simp only [Act.put, List.setIfInBounds_toArray, List.set_cons_zero, List.set_cons_succ]
              refine wpAnyH_done (by kernel_rfl) ?_ _
              refine NoPanic.normal ?_
              go_wp2_with fail
              go_roundw
              case rel => exact ⟨j + 1, hj1N, by go_num, hREL.out _ hk3⟩
              case measure => simp [intOf]; omega
            · have hLM : Li = Mi := by omega
              have g4 : decide (Di ≤ Ci) = false := decide_eq_false (by omega)
              clear h h' k1 k9 hKi hLi hCi hMi hDi r1 r2 q0 q2 HK HL HC HL2 HC2 HNX HPP HM HD HB F4 F2 F3 HN HMS1 HDG1 HT HT1 HB1 HM1 HB2 HD1 hl2 hgW hs2 hs1 hp y1 hn1' hn2' hn3' hn4' hn5' hn6' hw' hcnt hmx hdl hsb hj hlt hlast z
              subst hLM
              go_wp2_with fail
              go_region_held3 (fun w' => w'.cell? ⟨b1, j * 4, none⟩ = some (.int .i64 Ki) ∧ w'.cell? ⟨b1, j * 4 + 2, none⟩ = some (.int .i64 Li) ∧ w'.cell? ⟨b1, j * 4 + 3, none⟩ = some (.int .i64 Ci) ∧ w'.cell? ⟨b1, (j + 1) * 4 + 2, none⟩ = some (.int .i64 Li) ∧ w'.cell? ⟨b1, (j + 1) * 4 + 3, none⟩ = some (.int .i64 Di)) (first | exact hcells | exact hcells3) (
                (go_at_call 21; refine Calls.mono (HIN.out _) ?_; rintro e w3 ⟨rfl, hb3⟩
                 have hk3 : Below wr.heap.size wr w3 := by first | exact hb3 | exact below_undrew hb3
                 have hcells3 := HPOST.out w3 hk3
                 obtain ⟨n1, n2, n3, n4, n5⟩ := id hcells3))
              go_wp2_with fail
              go_roundw
              case rel => exact ⟨j + 1, hj1N, by go_num, hREL.out _ hk3⟩
              case measure => simp [intOf]; omega
          · have hl1 : decide ((j : Int) + 1 < (N : Int)) = false := decide_eq_false (by omega)
            have HIN := Lib.hid (fun w => inside_any s p (L, C) w hp (by omega) HPP.out)
            have HPOST := Lib.hid (show ∀ w3, Below wr.heap.size wr w3 → w3.cell? ⟨b1, j * 4 + 2, none⟩ = some (.int .i64 (L : Int)) ∧ w3.cell? ⟨b1, j * 4 + 3, none⟩ = some (.int .i64 (C : Int)) from fun w3 hk3 => by
              obtain ⟨b1', e1, q1, m1, m2, m3, m4⟩ := (HM.out.below hk3).cell (i := j) (by rw [HN.out]; exact hlt)
              injection e1 with e1
              injection e1 with e1
              subst e1
              rw [HL.out] at m3
              rw [HC.out] at m4
              exact ⟨m3, m4⟩)
            have hREL := Lib.hid (show ∀ w3, Below wr.heap.size wr w3 → MAt w3 (some ⟨b1, 0, none⟩) MS1 ∧ At w3 gd 28 #[.int .i64 0, .int .i64 0, .int .i64 0] ∧ Below W.heap.size W w3 from fun w3 hk3 => ⟨HM.out.below hk3, HD.out.below hk3 hdl, HB.out.trans (hk3.mono hsb)⟩)
            have hmm : N - (j + 1) < N - j := by omega
            have hj1N : j + 1 ≤ N := by omega
            have hjw : IntKind.i64.wrap ((j : Int) + 1) = (j : Int) + 1 := IntWalk.i64_in _ (by omega)
            simp only at HIN
            generalize hLi : (L : Int) = Li at m3 HPOST HIN
            generalize hCi : (C : Int) = Ci at m4 HPOST HIN
            have hjj : ((j : Int) + 1).toNat = j + 1 := by omega
            have hj1 : (0 : Int) ≤ (j : Int) + 1 := by omega
            have hcells := And.intro m3 m4
            clear m1 hLi hCi q0 HK HL HC HNX HPP HM HD HB F4 F2 F3 HN HMS1 HDG1 HT HT1 HB1 HM1 HB2 HD1 hl2 hgW hs2 hs1 hp y1 hn1' hn2' hn3' hn4' hn5' hn6' hw' hcnt hmx hdl hsb hj hlt hlast z
            go_wp2_with fail
            refine wp_region_noPanic ?_
            refine wp_region_held_drew (S := (fun w' => w'.cell? ⟨b1, j * 4 + 2, none⟩ = some (.int .i64 Li) ∧ w'.cell? ⟨b1, j * 4 + 3, none⟩ = some (.int .i64 Ci))) (by kernel_rfl) hcells (fun hHeld => ?_)
            refine wpAnyH_take (i := 0) (oi := { dst := some 61, op := Op.move (Operand.tmp 0), type := 9, pos := "law.go:67", after := #[], guard := none }) (v := ?vc0) rfl (by kernel_rfl) (by kernel_rfl) (by kernel_rfl) (fun _ _ _ h => h) (Or.inl ⟨by rfl, ?hyc0⟩) (by assumption) ?restc0
            case hyc0 => (intro w hSw; (try dsimp only at hSw); go_simp; try with_reducible rfl)
            try simp only [Act.put, List.setIfInBounds_toArray, List.set_cons_zero, List.set_cons_succ]
            refine wpAnyH_take (i := 1) (oi := { dst := some 62, op := Op.move (Operand.tmp 4), type := 23, pos := "law.go:67", after := #[], guard := none }) (v := ?vc1) rfl (by kernel_rfl) (by kernel_rfl) (by kernel_rfl) (fun _ _ _ h => h) (Or.inl ⟨by rfl, ?hyc1⟩) (by assumption) ?restc1
            case hyc1 => (intro w hSw; (try dsimp only at hSw); go_simp; try with_reducible rfl)
            try simp only [Act.put, List.setIfInBounds_toArray, List.set_cons_zero, List.set_cons_succ]
            refine wpAnyH_take (i := 2) (oi := { dst := some 63, op := Op.move (Operand.tmp 6), type := 3, pos := "law.go:67", after := #[], guard := none }) (v := ?vc2) rfl (by kernel_rfl) (by kernel_rfl) (by kernel_rfl) (fun _ _ _ h => h) (Or.inl ⟨by rfl, ?hyc2⟩) (by assumption) ?restc2
            case hyc2 => (intro w hSw; (try dsimp only at hSw); go_simp; try with_reducible rfl)
            try simp only [Act.put, List.setIfInBounds_toArray, List.set_cons_zero, List.set_cons_succ]
            refine wpAnyH_take (i := 3) (oi := { dst := some 64, op := Op.indexAddr 23 (Operand.tmp 62) (Operand.tmp 63), type := 0, pos := "law.go:67", after := #[{ on := 1, ground := Ground.data }, { on := 2, ground := Ground.data }], guard := none }) (v := ?vc3) rfl (by kernel_rfl) (by kernel_rfl) (by kernel_rfl) (fun _ _ _ h => h) (Or.inl ⟨by rfl, ?hyc3⟩) (by assumption) ?restc3
            case hyc3 => (intro w hSw; (try dsimp only at hSw); go_simp; try with_reducible rfl)
            try simp only [Act.put, List.setIfInBounds_toArray, List.set_cons_zero, List.set_cons_succ]
            refine wpAnyH_take (i := 4) (oi := { dst := some 65, op := Op.fieldAddr 40 (Operand.tmp 64) 2, type := 0, pos := "law.go:67", after := #[{ on := 3, ground := Ground.data }], guard := none }) (v := ?vc4) rfl (by kernel_rfl) (by kernel_rfl) (by kernel_rfl) (fun _ _ _ h => h) (Or.inl ⟨by rfl, ?hyc4⟩) (by assumption) ?restc4
            case hyc4 => (intro w hSw; (try dsimp only at hSw); go_simp; try with_reducible rfl)
            try simp only [Act.put, List.setIfInBounds_toArray, List.set_cons_zero, List.set_cons_succ]
            refine wpAnyH_take (i := 5) (oi := { dst := some 66, op := Op.load 26 (Operand.tmp 65), type := 26, pos := "law.go:67", after := #[{ on := 4, ground := Ground.data }], guard := none }) (v := ?vc5) rfl (by kernel_rfl) (by kernel_rfl) (by kernel_rfl) (fun _ _ _ h => h) (Or.inl ⟨by rfl, ?hyc5⟩) (by assumption) ?restc5
            case hyc5 => (intro w hSw; (try dsimp only at hSw); go_simp; try with_reducible rfl)
            try simp only [Act.put, List.setIfInBounds_toArray, List.set_cons_zero, List.set_cons_succ]
            refine wpAnyH_ready (rs := [6]) (by kernel_rfl) (by simp) ?_
            refine AllReadyH.cons (o := { dst := some 67, op := Op.call { callee := Callee.value (Operand.func 21), args := #[Operand.tmp 61, Operand.tmp 66], argTypes := #[9, 26] }, type := 4, pos := "law.go:67", after := #[{ on := 0, ground := Ground.data }, { on := 5, ground := Ground.data }], guard := none }) rfl (fun K hK => ?_) AllReadyH.nil
            go_simp
            go_at_call 21
            refine Calls.mono (HIN.out _) ?_
            rintro e w3 ⟨rfl, hb3⟩
            have hk3 : Below wr.heap.size wr w3 := by first | exact hb3 | exact below_undrew hb3
            have hcells3 := HPOST.out w3 hk3
            try obtain ⟨n1, n2, n3, n4, n5⟩ := id hcells3
            go_wp2_with fail
            refine hK.out _ _ hcells3 (fun hHeld => ?_)
            clear hK K
            try simp only [Act.put, List.setIfInBounds_toArray, List.set_cons_zero, List.set_cons_succ]
            refine wpAnyH_take (i := 7) (oi := { dst := some 68, op := Op.unOp UnOp.not 4 (Operand.tmp 67), type := 4, pos := "law.go:67", after := #[{ on := 6, ground := Ground.data }], guard := none }) (v := ?vc7) rfl (by kernel_rfl) (by kernel_rfl) (by kernel_rfl) (fun _ _ _ h => h) (Or.inl ⟨by rfl, ?hyc7⟩) (by assumption) ?restc7
            case hyc7 => (intro w hSw; (try dsimp only at hSw); go_simp; try with_reducible rfl)
            try simp only [Act.put, List.setIfInBounds_toArray, List.set_cons_zero, List.set_cons_succ]
            refine wpAnyH_take (i := 8) (oi := { dst := some 69, op := Op.move (Operand.tmp 68), type := 4, pos := "law.go:67", after := #[{ on := 7, ground := Ground.data }, { on := 6, ground := Ground.chain }], guard := none }) (v := ?vc8) rfl (by kernel_rfl) (by kernel_rfl) (by kernel_rfl) (fun _ _ _ h => h) (Or.inl ⟨by rfl, ?hyc8⟩) (by assumption) ?restc8
            case hyc8 => (intro w hSw; (try dsimp only at hSw); go_simp; try with_reducible rfl)
            try simp only [Act.put, List.setIfInBounds_toArray, List.set_cons_zero, List.set_cons_succ]
            refine wpAnyH_take (i := 9) (oi := { dst := some 70, op := Op.move (Operand.tmp 6), type := 3, pos := "law.go:67", after := #[{ on := 8, ground := Ground.guard }], guard := some (8, false) }) (v := ?vc9) rfl (by kernel_rfl) (by kernel_rfl) (by kernel_rfl) (fun _ _ _ h => h) (Or.inl ⟨by rfl, ?hyc9⟩) (by assumption) ?restc9
            case hyc9 => (intro w hSw; (try dsimp only at hSw); go_simp; try with_reducible rfl)
            try simp only [Act.put, List.setIfInBounds_toArray, List.set_cons_zero, List.set_cons_succ]
            refine wpAnyH_take (i := 10) (oi := { dst := some 71, op := Op.binOp BinOp.add 3 (Operand.tmp 70) (Operand.const (Value.int IntKind.i64 1)) 3, type := 3, pos := "law.go:67", after := #[{ on := 9, ground := Ground.data }, { on := 8, ground := Ground.guard }], guard := some (8, false) }) (v := ?vc10) rfl (by kernel_rfl) (by kernel_rfl) (by kernel_rfl) (fun _ _ _ h => h) (Or.inl ⟨by rfl, ?hyc10⟩) (by assumption) ?restc10
            case hyc10 => (intro w hSw; (try dsimp only at hSw); go_simp; try with_reducible rfl)
            try simp only [Act.put, List.setIfInBounds_toArray, List.set_cons_zero, List.set_cons_succ]
            refine wpAnyH_take (i := 11) (oi := { dst := some 72, op := Op.move (Operand.tmp 4), type := 23, pos := "law.go:67", after := #[{ on := 8, ground := Ground.guard }], guard := some (8, false) }) (v := ?vc11) rfl (by kernel_rfl) (by kernel_rfl) (by kernel_rfl) (fun _ _ _ h => h) (Or.inl ⟨by rfl, ?hyc11⟩) (by assumption) ?restc11
            case hyc11 => (intro w hSw; (try dsimp only at hSw); go_simp; try with_reducible rfl)
            try simp only [Act.put, List.setIfInBounds_toArray, List.set_cons_zero, List.set_cons_succ]
            refine wpAnyH_take (i := 12) (oi := { dst := some 73, op := Op.call { callee := Callee.builtin Builtin.len, args := #[Operand.tmp 72], argTypes := #[23] }, type := 3, pos := "law.go:67", after := #[{ on := 11, ground := Ground.data }, { on := 8, ground := Ground.guard }], guard := some (8, false) }) (v := ?vc12) rfl (by kernel_rfl) (by kernel_rfl) (by kernel_rfl) (fun _ _ _ h => h) (Or.inl ⟨by rfl, ?hyc12⟩) (by assumption) ?restc12
            case hyc12 => (intro w hSw; (try dsimp only at hSw); go_simp; try with_reducible rfl)
            try simp only [Act.put, List.setIfInBounds_toArray, List.set_cons_zero, List.set_cons_succ]
            refine wpAnyH_take (i := 13) (oi := { dst := some 74, op := Op.binOp BinOp.lss 3 (Operand.tmp 71) (Operand.tmp 73) 3, type := 4, pos := "law.go:67", after := #[{ on := 10, ground := Ground.data }, { on := 12, ground := Ground.data }, { on := 8, ground := Ground.guard }], guard := some (8, false) }) (v := ?vc13) rfl (by kernel_rfl) (by kernel_rfl) (by kernel_rfl) (fun _ _ _ h => h) (Or.inl ⟨by rfl, ?hyc13⟩) (by assumption) ?restc13
            case hyc13 => (intro w hSw; (try dsimp only at hSw); go_simp; try with_reducible rfl)
            try simp only [Act.put, List.setIfInBounds_toArray, List.set_cons_zero, List.set_cons_succ]
            refine wpAnyH_take (i := 14) (oi := { dst := some 75, op := Op.move (Operand.tmp 74), type := 4, pos := "law.go:67", after := #[{ on := 13, ground := Ground.data }, { on := 8, ground := Ground.chain }, { on := 8, ground := Ground.guard }], guard := some (8, false) }) (v := ?vc14) rfl (by kernel_rfl) (by kernel_rfl) (by kernel_rfl) (fun _ _ _ h => h) (Or.inl ⟨by rfl, ?hyc14⟩) (by assumption) ?restc14
            case hyc14 => (intro w hSw; (try dsimp only at hSw); go_simp; try with_reducible rfl)
            try simp only [Act.put, List.setIfInBounds_toArray, List.set_cons_zero, List.set_cons_succ]
            refine wpAnyH_take (i := 15) (oi := { dst := some 76, op := Op.move (Operand.tmp 4), type := 23, pos := "law.go:67", after := #[{ on := 14, ground := Ground.guard }], guard := some (14, true) }) (v := undef) rfl (by kernel_rfl) (by kernel_rfl) (by kernel_rfl) (fun _ _ _ h => h) (Or.inr ⟨by rfl, rfl⟩) (by assumption) ?_
            try simp only [Act.put, List.setIfInBounds_toArray, List.set_cons_zero, List.set_cons_succ]
            refine wpAnyH_take (i := 16) (oi := { dst := some 77, op := Op.move (Operand.tmp 6), type := 3, pos := "law.go:67", after := #[{ on := 14, ground := Ground.guard }], guard := some (14, true) }) (v := undef) rfl (by kernel_rfl) (by kernel_rfl) (by kernel_rfl) (fun _ _ _ h => h) (Or.inr ⟨by rfl, rfl⟩) (by assumption) ?_
            try simp only [Act.put, List.setIfInBounds_toArray, List.set_cons_zero, List.set_cons_succ]
            refine wpAnyH_take (i := 17) (oi := { dst := some 78, op := Op.indexAddr 23 (Operand.tmp 76) (Operand.tmp 77), type := 0, pos := "law.go:67", after := #[{ on := 15, ground := Ground.data }, { on := 16, ground := Ground.data }, { on := 14, ground := Ground.guard }], guard := some (14, true) }) (v := undef) rfl (by kernel_rfl) (by kernel_rfl) (by kernel_rfl) (fun _ _ _ h => h) (Or.inr ⟨by rfl, rfl⟩) (by assumption) ?_
            try simp only [Act.put, List.setIfInBounds_toArray, List.set_cons_zero, List.set_cons_succ]
            refine wpAnyH_take (i := 18) (oi := { dst := some 79, op := Op.fieldAddr 40 (Operand.tmp 78) 0, type := 0, pos := "law.go:67", after := #[{ on := 17, ground := Ground.data }, { on := 14, ground := Ground.guard }], guard := some (14, true) }) (v := undef) rfl (by kernel_rfl) (by kernel_rfl) (by kernel_rfl) (fun _ _ _ h => h) (Or.inr ⟨by rfl, rfl⟩) (by assumption) ?_
            try simp only [Act.put, List.setIfInBounds_toArray, List.set_cons_zero, List.set_cons_succ]
            refine wpAnyH_take (i := 19) (oi := { dst := some 80, op := Op.load 3 (Operand.tmp 79), type := 3, pos := "law.go:67", after := #[{ on := 18, ground := Ground.data }, { on := 14, ground := Ground.guard }], guard := some (14, true) }) (v := undef) rfl (by kernel_rfl) (by kernel_rfl) (by kernel_rfl) (fun _ _ _ h => h) (Or.inr ⟨by rfl, rfl⟩) (by assumption) ?_
            try simp only [Act.put, List.setIfInBounds_toArray, List.set_cons_zero, List.set_cons_succ]
            refine wpAnyH_take (i := 20) (oi := { dst := some 81, op := Op.binOp BinOp.lss 3 (Operand.tmp 80) (Operand.const (Value.int IntKind.i64 1)) 3, type := 4, pos := "law.go:67", after := #[{ on := 19, ground := Ground.data }, { on := 14, ground := Ground.guard }], guard := some (14, true) }) (v := undef) rfl (by kernel_rfl) (by kernel_rfl) (by kernel_rfl) (fun _ _ _ h => h) (Or.inr ⟨by rfl, rfl⟩) (by assumption) ?_
            try simp only [Act.put, List.setIfInBounds_toArray, List.set_cons_zero, List.set_cons_succ]
            refine wpAnyH_take (i := 21) (oi := { dst := some 82, op := Op.move (Operand.tmp 81), type := 4, pos := "law.go:67", after := #[{ on := 20, ground := Ground.data }, { on := 14, ground := Ground.chain }, { on := 14, ground := Ground.guard }], guard := some (14, true) }) (v := undef) rfl (by kernel_rfl) (by kernel_rfl) (by kernel_rfl) (fun _ _ _ h => h) (Or.inr ⟨by rfl, rfl⟩) (by assumption) ?_
            try simp only [Act.put, List.setIfInBounds_toArray, List.set_cons_zero, List.set_cons_succ]
            refine wpAnyH_take (i := 22) (oi := { dst := some 83, op := Op.move (Operand.tmp 4), type := 23, pos := "law.go:67", after := #[{ on := 21, ground := Ground.guard }], guard := some (21, false) }) (v := undef) rfl (by kernel_rfl) (by kernel_rfl) (by kernel_rfl) (fun _ _ _ h => h) (Or.inr ⟨by rfl, rfl⟩) (by assumption) ?_
            try simp only [Act.put, List.setIfInBounds_toArray, List.set_cons_zero, List.set_cons_succ]
            refine wpAnyH_take (i := 23) (oi := { dst := some 84, op := Op.move (Operand.tmp 6), type := 3, pos := "law.go:67", after := #[{ on := 21, ground := Ground.guard }], guard := some (21, false) }) (v := undef) rfl (by kernel_rfl) (by kernel_rfl) (by kernel_rfl) (fun _ _ _ h => h) (Or.inr ⟨by rfl, rfl⟩) (by assumption) ?_
            try simp only [Act.put, List.setIfInBounds_toArray, List.set_cons_zero, List.set_cons_succ]
            refine wpAnyH_take (i := 24) (oi := { dst := some 85, op := Op.indexAddr 23 (Operand.tmp 83) (Operand.tmp 84), type := 0, pos := "law.go:67", after := #[{ on := 22, ground := Ground.data }, { on := 23, ground := Ground.data }, { on := 21, ground := Ground.guard }], guard := some (21, false) }) (v := undef) rfl (by kernel_rfl) (by kernel_rfl) (by kernel_rfl) (fun _ _ _ h => h) (Or.inr ⟨by rfl, rfl⟩) (by assumption) ?_
            try simp only [Act.put, List.setIfInBounds_toArray, List.set_cons_zero, List.set_cons_succ]
            refine wpAnyH_take (i := 25) (oi := { dst := some 86, op := Op.fieldAddr 40 (Operand.tmp 85) 0, type := 0, pos := "law.go:67", after := #[{ on := 24, ground := Ground.data }, { on := 21, ground := Ground.guard }], guard := some (21, false) }) (v := undef) rfl (by kernel_rfl) (by kernel_rfl) (by kernel_rfl) (fun _ _ _ h => h) (Or.inr ⟨by rfl, rfl⟩) (by assumption) ?_
            try simp only [Act.put, List.setIfInBounds_toArray, List.set_cons_zero, List.set_cons_succ]
            refine wpAnyH_take (i := 26) (oi := { dst := some 87, op := Op.load 3 (Operand.tmp 86), type := 3, pos := "law.go:67", after := #[{ on := 25, ground := Ground.data }, { on := 21, ground := Ground.guard }], guard := some (21, false) }) (v := undef) rfl (by kernel_rfl) (by kernel_rfl) (by kernel_rfl) (fun _ _ _ h => h) (Or.inr ⟨by rfl, rfl⟩) (by assumption) ?_
            try simp only [Act.put, List.setIfInBounds_toArray, List.set_cons_zero, List.set_cons_succ]
            refine wpAnyH_take (i := 27) (oi := { dst := some 88, op := Op.binOp BinOp.gtr 3 (Operand.tmp 87) (Operand.const (Value.int IntKind.i64 9)) 3, type := 4, pos := "law.go:67", after := #[{ on := 26, ground := Ground.data }, { on := 21, ground := Ground.guard }], guard := some (21, false) }) (v := undef) rfl (by kernel_rfl) (by kernel_rfl) (by kernel_rfl) (fun _ _ _ h => h) (Or.inr ⟨by rfl, rfl⟩) (by assumption) ?_
            try simp only [Act.put, List.setIfInBounds_toArray, List.set_cons_zero, List.set_cons_succ]
            refine wpAnyH_take (i := 28) (oi := { dst := some 89, op := Op.pick (Operand.tmp 82) (Operand.const (Value.bool true)) (Operand.tmp 88), type := 4, pos := "law.go:67", after := #[{ on := 21, ground := Ground.data }, { on := 27, ground := Ground.data }, { on := 14, ground := Ground.guard }], guard := some (14, true) }) (v := undef) rfl (by kernel_rfl) (by kernel_rfl) (by kernel_rfl) (fun _ _ _ h => h) (Or.inr ⟨by rfl, rfl⟩) (by assumption) ?_
            try simp only [Act.put, List.setIfInBounds_toArray, List.set_cons_zero, List.set_cons_succ]
            refine wpAnyH_take (i := 29) (oi := { dst := some 90, op := Op.move (Operand.tmp 89), type := 4, pos := "law.go:67", after := #[{ on := 28, ground := Ground.data }, { on := 21, ground := Ground.chain }, { on := 14, ground := Ground.guard }], guard := some (14, true) }) (v := undef) rfl (by kernel_rfl) (by kernel_rfl) (by kernel_rfl) (fun _ _ _ h => h) (Or.inr ⟨by rfl, rfl⟩) (by assumption) ?_
            try simp only [Act.put, List.setIfInBounds_toArray, List.set_cons_zero, List.set_cons_succ]
            refine wpAnyH_take (i := 30) (oi := { dst := some 91, op := Op.move (Operand.tmp 4), type := 23, pos := "law.go:67", after := #[{ on := 29, ground := Ground.guard }], guard := some (29, false) }) (v := undef) rfl (by kernel_rfl) (by kernel_rfl) (by kernel_rfl) (fun _ _ _ h => h) (Or.inr ⟨by rfl, rfl⟩) (by assumption) ?_
            try simp only [Act.put, List.setIfInBounds_toArray, List.set_cons_zero, List.set_cons_succ]
            refine wpAnyH_take (i := 31) (oi := { dst := some 92, op := Op.move (Operand.tmp 6), type := 3, pos := "law.go:67", after := #[{ on := 29, ground := Ground.guard }], guard := some (29, false) }) (v := undef) rfl (by kernel_rfl) (by kernel_rfl) (by kernel_rfl) (fun _ _ _ h => h) (Or.inr ⟨by rfl, rfl⟩) (by assumption) ?_
            try simp only [Act.put, List.setIfInBounds_toArray, List.set_cons_zero, List.set_cons_succ]
            refine wpAnyH_take (i := 32) (oi := { dst := some 93, op := Op.indexAddr 23 (Operand.tmp 91) (Operand.tmp 92), type := 0, pos := "law.go:67", after := #[{ on := 30, ground := Ground.data }, { on := 31, ground := Ground.data }, { on := 29, ground := Ground.guard }], guard := some (29, false) }) (v := undef) rfl (by kernel_rfl) (by kernel_rfl) (by kernel_rfl) (fun _ _ _ h => h) (Or.inr ⟨by rfl, rfl⟩) (by assumption) ?_
            try simp only [Act.put, List.setIfInBounds_toArray, List.set_cons_zero, List.set_cons_succ]
            refine wpAnyH_take (i := 33) (oi := { dst := some 94, op := Op.fieldAddr 40 (Operand.tmp 93) 2, type := 0, pos := "law.go:67", after := #[{ on := 32, ground := Ground.data }, { on := 29, ground := Ground.guard }], guard := some (29, false) }) (v := undef) rfl (by kernel_rfl) (by kernel_rfl) (by kernel_rfl) (fun _ _ _ h => h) (Or.inr ⟨by rfl, rfl⟩) (by assumption) ?_
            try simp only [Act.put, List.setIfInBounds_toArray, List.set_cons_zero, List.set_cons_succ]
            refine wpAnyH_take (i := 34) (oi := { dst := some 95, op := Op.fieldAddr 26 (Operand.tmp 94) 0, type := 0, pos := "law.go:67", after := #[{ on := 33, ground := Ground.data }, { on := 29, ground := Ground.guard }], guard := some (29, false) }) (v := undef) rfl (by kernel_rfl) (by kernel_rfl) (by kernel_rfl) (fun _ _ _ h => h) (Or.inr ⟨by rfl, rfl⟩) (by assumption) ?_
            try simp only [Act.put, List.setIfInBounds_toArray, List.set_cons_zero, List.set_cons_succ]
            refine wpAnyH_take (i := 35) (oi := { dst := some 96, op := Op.load 3 (Operand.tmp 95), type := 3, pos := "law.go:67", after := #[{ on := 34, ground := Ground.data }, { on := 29, ground := Ground.guard }], guard := some (29, false) }) (v := undef) rfl (by kernel_rfl) (by kernel_rfl) (by kernel_rfl) (fun _ _ _ h => h) (Or.inr ⟨by rfl, rfl⟩) (by assumption) ?_
            try simp only [Act.put, List.setIfInBounds_toArray, List.set_cons_zero, List.set_cons_succ]
            refine wpAnyH_take (i := 36) (oi := { dst := some 97, op := Op.move (Operand.tmp 4), type := 23, pos := "law.go:67", after := #[{ on := 29, ground := Ground.guard }], guard := some (29, false) }) (v := undef) rfl (by kernel_rfl) (by kernel_rfl) (by kernel_rfl) (fun _ _ _ h => h) (Or.inr ⟨by rfl, rfl⟩) (by assumption) ?_
            try simp only [Act.put, List.setIfInBounds_toArray, List.set_cons_zero, List.set_cons_succ]
            refine wpAnyH_take (i := 37) (oi := { dst := some 98, op := Op.move (Operand.tmp 6), type := 3, pos := "law.go:67", after := #[{ on := 29, ground := Ground.guard }], guard := some (29, false) }) (v := undef) rfl (by kernel_rfl) (by kernel_rfl) (by kernel_rfl) (fun _ _ _ h => h) (Or.inr ⟨by rfl, rfl⟩) (by assumption) ?_
            try simp only [Act.put, List.setIfInBounds_toArray, List.set_cons_zero, List.set_cons_succ]
            refine wpAnyH_take (i := 38) (oi := { dst := some 99, op := Op.binOp BinOp.add 3 (Operand.tmp 98) (Operand.const (Value.int IntKind.i64 1)) 3, type := 3, pos := "law.go:67", after := #[{ on := 37, ground := Ground.data }, { on := 29, ground := Ground.guard }], guard := some (29, false) }) (v := undef) rfl (by kernel_rfl) (by kernel_rfl) (by kernel_rfl) (fun _ _ _ h => h) (Or.inr ⟨by rfl, rfl⟩) (by assumption) ?_
            try simp only [Act.put, List.setIfInBounds_toArray, List.set_cons_zero, List.set_cons_succ]
            refine wpAnyH_take (i := 39) (oi := { dst := some 100, op := Op.indexAddr 23 (Operand.tmp 97) (Operand.tmp 99), type := 0, pos := "law.go:67", after := #[{ on := 36, ground := Ground.data }, { on := 38, ground := Ground.data }, { on := 29, ground := Ground.guard }], guard := some (29, false) }) (v := undef) rfl (by kernel_rfl) (by kernel_rfl) (by kernel_rfl) (fun _ _ _ h => h) (Or.inr ⟨by rfl, rfl⟩) (by assumption) ?_
            try simp only [Act.put, List.setIfInBounds_toArray, List.set_cons_zero, List.set_cons_succ]
            refine wpAnyH_take (i := 40) (oi := { dst := some 101, op := Op.fieldAddr 40 (Operand.tmp 100) 2, type := 0, pos := "law.go:67", after := #[{ on := 39, ground := Ground.data }, { on := 29, ground := Ground.guard }], guard := some (29, false) }) (v := undef) rfl (by kernel_rfl) (by kernel_rfl) (by kernel_rfl) (fun _ _ _ h => h) (Or.inr ⟨by rfl, rfl⟩) (by assumption) ?_
            try simp only [Act.put, List.setIfInBounds_toArray, List.set_cons_zero, List.set_cons_succ]
            refine wpAnyH_take (i := 41) (oi := { dst := some 102, op := Op.fieldAddr 26 (Operand.tmp 101) 0, type := 0, pos := "law.go:67", after := #[{ on := 40, ground := Ground.data }, { on := 29, ground := Ground.guard }], guard := some (29, false) }) (v := undef) rfl (by kernel_rfl) (by kernel_rfl) (by kernel_rfl) (fun _ _ _ h => h) (Or.inr ⟨by rfl, rfl⟩) (by assumption) ?_
            try simp only [Act.put, List.setIfInBounds_toArray, List.set_cons_zero, List.set_cons_succ]
            refine wpAnyH_take (i := 42) (oi := { dst := some 103, op := Op.load 3 (Operand.tmp 102), type := 3, pos := "law.go:67", after := #[{ on := 41, ground := Ground.data }, { on := 29, ground := Ground.guard }], guard := some (29, false) }) (v := undef) rfl (by kernel_rfl) (by kernel_rfl) (by kernel_rfl) (fun _ _ _ h => h) (Or.inr ⟨by rfl, rfl⟩) (by assumption) ?_
            try simp only [Act.put, List.setIfInBounds_toArray, List.set_cons_zero, List.set_cons_succ]
            refine wpAnyH_take (i := 43) (oi := { dst := some 104, op := Op.binOp BinOp.gtr 3 (Operand.tmp 96) (Operand.tmp 103) 3, type := 4, pos := "law.go:67", after := #[{ on := 35, ground := Ground.data }, { on := 42, ground := Ground.data }, { on := 29, ground := Ground.guard }], guard := some (29, false) }) (v := undef) rfl (by kernel_rfl) (by kernel_rfl) (by kernel_rfl) (fun _ _ _ h => h) (Or.inr ⟨by rfl, rfl⟩) (by assumption) ?_
            try simp only [Act.put, List.setIfInBounds_toArray, List.set_cons_zero, List.set_cons_succ]
            refine wpAnyH_take (i := 44) (oi := { dst := some 105, op := Op.pick (Operand.tmp 90) (Operand.const (Value.bool true)) (Operand.tmp 104), type := 4, pos := "law.go:67", after := #[{ on := 29, ground := Ground.data }, { on := 43, ground := Ground.data }, { on := 14, ground := Ground.guard }], guard := some (14, true) }) (v := undef) rfl (by kernel_rfl) (by kernel_rfl) (by kernel_rfl) (fun _ _ _ h => h) (Or.inr ⟨by rfl, rfl⟩) (by assumption) ?_
            try simp only [Act.put, List.setIfInBounds_toArray, List.set_cons_zero, List.set_cons_succ]
            refine wpAnyH_take (i := 45) (oi := { dst := some 106, op := Op.move (Operand.tmp 105), type := 4, pos := "law.go:67", after := #[{ on := 44, ground := Ground.data }, { on := 29, ground := Ground.chain }, { on := 14, ground := Ground.guard }], guard := some (14, true) }) (v := undef) rfl (by kernel_rfl) (by kernel_rfl) (by kernel_rfl) (fun _ _ _ h => h) (Or.inr ⟨by rfl, rfl⟩) (by assumption) ?_
            try simp only [Act.put, List.setIfInBounds_toArray, List.set_cons_zero, List.set_cons_succ]
            refine wpAnyH_take (i := 46) (oi := { dst := some 107, op := Op.move (Operand.tmp 4), type := 23, pos := "law.go:67", after := #[{ on := 45, ground := Ground.guard }], guard := some (45, false) }) (v := undef) rfl (by kernel_rfl) (by kernel_rfl) (by kernel_rfl) (fun _ _ _ h => h) (Or.inr ⟨by rfl, rfl⟩) (by assumption) ?_
            try simp only [Act.put, List.setIfInBounds_toArray, List.set_cons_zero, List.set_cons_succ]
            refine wpAnyH_take (i := 47) (oi := { dst := some 108, op := Op.move (Operand.tmp 6), type := 3, pos := "law.go:67", after := #[{ on := 45, ground := Ground.guard }], guard := some (45, false) }) (v := undef) rfl (by kernel_rfl) (by kernel_rfl) (by kernel_rfl) (fun _ _ _ h => h) (Or.inr ⟨by rfl, rfl⟩) (by assumption) ?_
            try simp only [Act.put, List.setIfInBounds_toArray, List.set_cons_zero, List.set_cons_succ]
            refine wpAnyH_take (i := 48) (oi := { dst := some 109, op := Op.indexAddr 23 (Operand.tmp 107) (Operand.tmp 108), type := 0, pos := "law.go:67", after := #[{ on := 46, ground := Ground.data }, { on := 47, ground := Ground.data }, { on := 45, ground := Ground.guard }], guard := some (45, false) }) (v := undef) rfl (by kernel_rfl) (by kernel_rfl) (by kernel_rfl) (fun _ _ _ h => h) (Or.inr ⟨by rfl, rfl⟩) (by assumption) ?_
            try simp only [Act.put, List.setIfInBounds_toArray, List.set_cons_zero, List.set_cons_succ]
            refine wpAnyH_take (i := 49) (oi := { dst := some 110, op := Op.fieldAddr 40 (Operand.tmp 109) 2, type := 0, pos := "law.go:67", after := #[{ on := 48, ground := Ground.data }, { on := 45, ground := Ground.guard }], guard := some (45, false) }) (v := undef) rfl (by kernel_rfl) (by kernel_rfl) (by kernel_rfl) (fun _ _ _ h => h) (Or.inr ⟨by rfl, rfl⟩) (by assumption) ?_
            try simp only [Act.put, List.setIfInBounds_toArray, List.set_cons_zero, List.set_cons_succ]
            refine wpAnyH_take (i := 50) (oi := { dst := some 111, op := Op.fieldAddr 26 (Operand.tmp 110) 0, type := 0, pos := "law.go:67", after := #[{ on := 49, ground := Ground.data }, { on := 45, ground := Ground.guard }], guard := some (45, false) }) (v := undef) rfl (by kernel_rfl) (by kernel_rfl) (by kernel_rfl) (fun _ _ _ h => h) (Or.inr ⟨by rfl, rfl⟩) (by assumption) ?_
            try simp only [Act.put, List.setIfInBounds_toArray, List.set_cons_zero, List.set_cons_succ]
            refine wpAnyH_take (i := 51) (oi := { dst := some 112, op := Op.load 3 (Operand.tmp 111), type := 3, pos := "law.go:67", after := #[{ on := 50, ground := Ground.data }, { on := 45, ground := Ground.guard }], guard := some (45, false) }) (v := undef) rfl (by kernel_rfl) (by kernel_rfl) (by kernel_rfl) (fun _ _ _ h => h) (Or.inr ⟨by rfl, rfl⟩) (by assumption) ?_
            try simp only [Act.put, List.setIfInBounds_toArray, List.set_cons_zero, List.set_cons_succ]
            refine wpAnyH_take (i := 52) (oi := { dst := some 113, op := Op.move (Operand.tmp 4), type := 23, pos := "law.go:67", after := #[{ on := 45, ground := Ground.guard }], guard := some (45, false) }) (v := undef) rfl (by kernel_rfl) (by kernel_rfl) (by kernel_rfl) (fun _ _ _ h => h) (Or.inr ⟨by rfl, rfl⟩) (by assumption) ?_
            try simp only [Act.put, List.setIfInBounds_toArray, List.set_cons_zero, List.set_cons_succ]
            refine wpAnyH_take (i := 53) (oi := { dst := some 114, op := Op.move (Operand.tmp 6), type := 3, pos := "law.go:67", after := #[{ on := 45, ground := Ground.guard }], guard := some (45, false) }) (v := undef) rfl (by kernel_rfl) (by kernel_rfl) (by kernel_rfl) (fun _ _ _ h => h) (Or.inr ⟨by rfl, rfl⟩) (by assumption) ?_
            try simp only [Act.put, List.setIfInBounds_toArray, List.set_cons_zero, List.set_cons_succ]
            refine wpAnyH_take (i := 54) (oi := { dst := some 115, op := Op.binOp BinOp.add 3 (Operand.tmp 114) (Operand.const (Value.int IntKind.i64 1)) 3, type := 3, pos := "law.go:67", after := #[{ on := 53, ground := Ground.data }, { on := 45, ground := Ground.guard }], guard := some (45, false) }) (v := undef) rfl (by kernel_rfl) (by kernel_rfl) (by kernel_rfl) (fun _ _ _ h => h) (Or.inr ⟨by rfl, rfl⟩) (by assumption) ?_
            try simp only [Act.put, List.setIfInBounds_toArray, List.set_cons_zero, List.set_cons_succ]
            refine wpAnyH_take (i := 55) (oi := { dst := some 116, op := Op.indexAddr 23 (Operand.tmp 113) (Operand.tmp 115), type := 0, pos := "law.go:67", after := #[{ on := 52, ground := Ground.data }, { on := 54, ground := Ground.data }, { on := 45, ground := Ground.guard }], guard := some (45, false) }) (v := undef) rfl (by kernel_rfl) (by kernel_rfl) (by kernel_rfl) (fun _ _ _ h => h) (Or.inr ⟨by rfl, rfl⟩) (by assumption) ?_
            try simp only [Act.put, List.setIfInBounds_toArray, List.set_cons_zero, List.set_cons_succ]
            refine wpAnyH_take (i := 56) (oi := { dst := some 117, op := Op.fieldAddr 40 (Operand.tmp 116) 2, type := 0, pos := "law.go:67", after := #[{ on := 55, ground := Ground.data }, { on := 45, ground := Ground.guard }], guard := some (45, false) }) (v := undef) rfl (by kernel_rfl) (by kernel_rfl) (by kernel_rfl) (fun _ _ _ h => h) (Or.inr ⟨by rfl, rfl⟩) (by assumption) ?_
            try simp only [Act.put, List.setIfInBounds_toArray, List.set_cons_zero, List.set_cons_succ]
            refine wpAnyH_take (i := 57) (oi := { dst := some 118, op := Op.fieldAddr 26 (Operand.tmp 117) 0, type := 0, pos := "law.go:67", after := #[{ on := 56, ground := Ground.data }, { on := 45, ground := Ground.guard }], guard := some (45, false) }) (v := undef) rfl (by kernel_rfl) (by kernel_rfl) (by kernel_rfl) (fun _ _ _ h => h) (Or.inr ⟨by rfl, rfl⟩) (by assumption) ?_
            try simp only [Act.put, List.setIfInBounds_toArray, List.set_cons_zero, List.set_cons_succ]
            refine wpAnyH_take (i := 58) (oi := { dst := some 119, op := Op.load 3 (Operand.tmp 118), type := 3, pos := "law.go:67", after := #[{ on := 57, ground := Ground.data }, { on := 45, ground := Ground.guard }], guard := some (45, false) }) (v := undef) rfl (by kernel_rfl) (by kernel_rfl) (by kernel_rfl) (fun _ _ _ h => h) (Or.inr ⟨by rfl, rfl⟩) (by assumption) ?_
            try simp only [Act.put, List.setIfInBounds_toArray, List.set_cons_zero, List.set_cons_succ]
            refine wpAnyH_take (i := 59) (oi := { dst := some 120, op := Op.binOp BinOp.eql 3 (Operand.tmp 112) (Operand.tmp 119) 3, type := 4, pos := "law.go:67", after := #[{ on := 51, ground := Ground.data }, { on := 58, ground := Ground.data }, { on := 45, ground := Ground.guard }], guard := some (45, false) }) (v := undef) rfl (by kernel_rfl) (by kernel_rfl) (by kernel_rfl) (fun _ _ _ h => h) (Or.inr ⟨by rfl, rfl⟩) (by assumption) ?_
            try simp only [Act.put, List.setIfInBounds_toArray, List.set_cons_zero, List.set_cons_succ]
            refine wpAnyH_take (i := 60) (oi := { dst := some 121, op := Op.move (Operand.tmp 120), type := 4, pos := "law.go:67", after := #[{ on := 59, ground := Ground.data }, { on := 45, ground := Ground.chain }, { on := 45, ground := Ground.guard }], guard := some (45, false) }) (v := undef) rfl (by kernel_rfl) (by kernel_rfl) (by kernel_rfl) (fun _ _ _ h => h) (Or.inr ⟨by rfl, rfl⟩) (by assumption) ?_
            try simp only [Act.put, List.setIfInBounds_toArray, List.set_cons_zero, List.set_cons_succ]
            refine wpAnyH_take (i := 61) (oi := { dst := some 122, op := Op.move (Operand.tmp 4), type := 23, pos := "law.go:67", after := #[{ on := 60, ground := Ground.guard }], guard := some (60, true) }) (v := undef) rfl (by kernel_rfl) (by kernel_rfl) (by kernel_rfl) (fun _ _ _ h => h) (Or.inr ⟨by rfl, rfl⟩) (by assumption) ?_
            try simp only [Act.put, List.setIfInBounds_toArray, List.set_cons_zero, List.set_cons_succ]
            refine wpAnyH_take (i := 62) (oi := { dst := some 123, op := Op.move (Operand.tmp 6), type := 3, pos := "law.go:67", after := #[{ on := 60, ground := Ground.guard }], guard := some (60, true) }) (v := undef) rfl (by kernel_rfl) (by kernel_rfl) (by kernel_rfl) (fun _ _ _ h => h) (Or.inr ⟨by rfl, rfl⟩) (by assumption) ?_
            try simp only [Act.put, List.setIfInBounds_toArray, List.set_cons_zero, List.set_cons_succ]
            refine wpAnyH_take (i := 63) (oi := { dst := some 124, op := Op.indexAddr 23 (Operand.tmp 122) (Operand.tmp 123), type := 0, pos := "law.go:67", after := #[{ on := 61, ground := Ground.data }, { on := 62, ground := Ground.data }, { on := 60, ground := Ground.guard }], guard := some (60, true) }) (v := undef) rfl (by kernel_rfl) (by kernel_rfl) (by kernel_rfl) (fun _ _ _ h => h) (Or.inr ⟨by rfl, rfl⟩) (by assumption) ?_
            try simp only [Act.put, List.setIfInBounds_toArray, List.set_cons_zero, List.set_cons_succ]
            refine wpAnyH_take (i := 64) (oi := { dst := some 125, op := Op.fieldAddr 40 (Operand.tmp 124) 2, type := 0, pos := "law.go:67", after := #[{ on := 63, ground := Ground.data }, { on := 60, ground := Ground.guard }], guard := some (60, true) }) (v := undef) rfl (by kernel_rfl) (by kernel_rfl) (by kernel_rfl) (fun _ _ _ h => h) (Or.inr ⟨by rfl, rfl⟩) (by assumption) ?_
            try simp only [Act.put, List.setIfInBounds_toArray, List.set_cons_zero, List.set_cons_succ]
            refine wpAnyH_take (i := 65) (oi := { dst := some 126, op := Op.fieldAddr 26 (Operand.tmp 125) 1, type := 0, pos := "law.go:67", after := #[{ on := 64, ground := Ground.data }, { on := 60, ground := Ground.guard }], guard := some (60, true) }) (v := undef) rfl (by kernel_rfl) (by kernel_rfl) (by kernel_rfl) (fun _ _ _ h => h) (Or.inr ⟨by rfl, rfl⟩) (by assumption) ?_
            try simp only [Act.put, List.setIfInBounds_toArray, List.set_cons_zero, List.set_cons_succ]
            refine wpAnyH_take (i := 66) (oi := { dst := some 127, op := Op.load 3 (Operand.tmp 126), type := 3, pos := "law.go:67", after := #[{ on := 65, ground := Ground.data }, { on := 60, ground := Ground.guard }], guard := some (60, true) }) (v := undef) rfl (by kernel_rfl) (by kernel_rfl) (by kernel_rfl) (fun _ _ _ h => h) (Or.inr ⟨by rfl, rfl⟩) (by assumption) ?_
            try simp only [Act.put, List.setIfInBounds_toArray, List.set_cons_zero, List.set_cons_succ]
            refine wpAnyH_take (i := 67) (oi := { dst := some 128, op := Op.move (Operand.tmp 4), type := 23, pos := "law.go:67", after := #[{ on := 60, ground := Ground.guard }], guard := some (60, true) }) (v := undef) rfl (by kernel_rfl) (by kernel_rfl) (by kernel_rfl) (fun _ _ _ h => h) (Or.inr ⟨by rfl, rfl⟩) (by assumption) ?_
            try simp only [Act.put, List.setIfInBounds_toArray, List.set_cons_zero, List.set_cons_succ]
            refine wpAnyH_take (i := 68) (oi := { dst := some 129, op := Op.move (Operand.tmp 6), type := 3, pos := "law.go:67", after := #[{ on := 60, ground := Ground.guard }], guard := some (60, true) }) (v := undef) rfl (by kernel_rfl) (by kernel_rfl) (by kernel_rfl) (fun _ _ _ h => h) (Or.inr ⟨by rfl, rfl⟩) (by assumption) ?_
            try simp only [Act.put, List.setIfInBounds_toArray, List.set_cons_zero, List.set_cons_succ]
            refine wpAnyH_take (i := 69) (oi := { dst := some 130, op := Op.binOp BinOp.add 3 (Operand.tmp 129) (Operand.const (Value.int IntKind.i64 1)) 3, type := 3, pos := "law.go:67", after := #[{ on := 68, ground := Ground.data }, { on := 60, ground := Ground.guard }], guard := some (60, true) }) (v := undef) rfl (by kernel_rfl) (by kernel_rfl) (by kernel_rfl) (fun _ _ _ h => h) (Or.inr ⟨by rfl, rfl⟩) (by assumption) ?_
            try simp only [Act.put, List.setIfInBounds_toArray, List.set_cons_zero, List.set_cons_succ]
            refine wpAnyH_take (i := 70) (oi := { dst := some 131, op := Op.indexAddr 23 (Operand.tmp 128) (Operand.tmp 130), type := 0, pos := "law.go:67", after := #[{ on := 67, ground := Ground.data }, { on := 69, ground := Ground.data }, { on := 60, ground := Ground.guard }], guard := some (60, true) }) (v := undef) rfl (by kernel_rfl) (by kernel_rfl) (by kernel_rfl) (fun _ _ _ h => h) (Or.inr ⟨by rfl, rfl⟩) (by assumption) ?_
            try simp only [Act.put, List.setIfInBounds_toArray, List.set_cons_zero, List.set_cons_succ]
            refine wpAnyH_take (i := 71) (oi := { dst := some 132, op := Op.fieldAddr 40 (Operand.tmp 131) 2, type := 0, pos := "law.go:67", after := #[{ on := 70, ground := Ground.data }, { on := 60, ground := Ground.guard }], guard := some (60, true) }) (v := undef) rfl (by kernel_rfl) (by kernel_rfl) (by kernel_rfl) (fun _ _ _ h => h) (Or.inr ⟨by rfl, rfl⟩) (by assumption) ?_
            try simp only [Act.put, List.setIfInBounds_toArray, List.set_cons_zero, List.set_cons_succ]
            refine wpAnyH_take (i := 72) (oi := { dst := some 133, op := Op.fieldAddr 26 (Operand.tmp 132) 1, type := 0, pos := "law.go:67", after := #[{ on := 71, ground := Ground.data }, { on := 60, ground := Ground.guard }], guard := some (60, true) }) (v := undef) rfl (by kernel_rfl) (by kernel_rfl) (by kernel_rfl) (fun _ _ _ h => h) (Or.inr ⟨by rfl, rfl⟩) (by assumption) ?_
            try simp only [Act.put, List.setIfInBounds_toArray, List.set_cons_zero, List.set_cons_succ]
            refine wpAnyH_take (i := 73) (oi := { dst := some 134, op := Op.load 3 (Operand.tmp 133), type := 3, pos := "law.go:67", after := #[{ on := 72, ground := Ground.data }, { on := 60, ground := Ground.guard }], guard := some (60, true) }) (v := undef) rfl (by kernel_rfl) (by kernel_rfl) (by kernel_rfl) (fun _ _ _ h => h) (Or.inr ⟨by rfl, rfl⟩) (by assumption) ?_
            try simp only [Act.put, List.setIfInBounds_toArray, List.set_cons_zero, List.set_cons_succ]
            refine wpAnyH_take (i := 74) (oi := { dst := some 135, op := Op.binOp BinOp.geq 3 (Operand.tmp 127) (Operand.tmp 134) 3, type := 4, pos := "law.go:67", after := #[{ on := 66, ground := Ground.data }, { on := 73, ground := Ground.data }, { on := 60, ground := Ground.guard }], guard := some (60, true) }) (v := undef) rfl (by kernel_rfl) (by kernel_rfl) (by kernel_rfl) (fun _ _ _ h => h) (Or.inr ⟨by rfl, rfl⟩) (by assumption) ?_
            try simp only [Act.put, List.setIfInBounds_toArray, List.set_cons_zero, List.set_cons_succ]
            refine wpAnyH_take (i := 75) (oi := { dst := some 136, op := Op.pick (Operand.tmp 121) (Operand.tmp 135) (Operand.const (Value.bool false)), type := 4, pos := "law.go:67", after := #[{ on := 60, ground := Ground.data }, { on := 74, ground := Ground.data }, { on := 45, ground := Ground.guard }], guard := some (45, false) }) (v := undef) rfl (by kernel_rfl) (by kernel_rfl) (by kernel_rfl) (fun _ _ _ h => h) (Or.inr ⟨by rfl, rfl⟩) (by assumption) ?_
            try simp only [Act.put, List.setIfInBounds_toArray, List.set_cons_zero, List.set_cons_succ]
            refine wpAnyH_take (i := 76) (oi := { dst := some 137, op := Op.pick (Operand.tmp 106) (Operand.const (Value.bool true)) (Operand.tmp 136), type := 4, pos := "law.go:67", after := #[{ on := 45, ground := Ground.data }, { on := 75, ground := Ground.data }, { on := 14, ground := Ground.guard }], guard := some (14, true) }) (v := undef) rfl (by kernel_rfl) (by kernel_rfl) (by kernel_rfl) (fun _ _ _ h => h) (Or.inr ⟨by rfl, rfl⟩) (by assumption) ?_
            try simp only [Act.put, List.setIfInBounds_toArray, List.set_cons_zero, List.set_cons_succ]
            refine wpAnyH_take (i := 77) (oi := { dst := some 138, op := Op.pick (Operand.tmp 75) (Operand.tmp 137) (Operand.const (Value.bool false)), type := 4, pos := "law.go:67", after := #[{ on := 14, ground := Ground.data }, { on := 76, ground := Ground.data }, { on := 8, ground := Ground.guard }], guard := some (8, false) }) (v := ?vc77) rfl (by kernel_rfl) (by kernel_rfl) (by kernel_rfl) (fun _ _ _ h => h) (Or.inl ⟨by rfl, ?hyc77⟩) (by assumption) ?restc77
            case hyc77 => (intro w hSw; (try dsimp only at hSw); go_simp; try with_reducible rfl)
            try simp only [Act.put, List.setIfInBounds_toArray, List.set_cons_zero, List.set_cons_succ]
            refine wpAnyH_take (i := 78) (oi := { dst := some 139, op := Op.pick (Operand.tmp 69) (Operand.const (Value.bool true)) (Operand.tmp 138), type := 4, pos := "law.go:67", after := #[{ on := 8, ground := Ground.data }, { on := 77, ground := Ground.data }], guard := none }) (v := ?vc78) rfl (by kernel_rfl) (by kernel_rfl) (by kernel_rfl) (fun _ _ _ h => h) (Or.inl ⟨by rfl, ?hyc78⟩) (by assumption) ?restc78
            case hyc78 => (intro w hSw; (try dsimp only at hSw); go_simp; try with_reducible rfl)
            try simp only [Act.put, List.setIfInBounds_toArray, List.set_cons_zero, List.set_cons_succ]
            refine wpAnyH_done (by kernel_rfl) ?_ _
            refine NoPanic.normal ?_
            go_wp2_with fail
            go_roundw
            case rel => exact ⟨j + 1, hj1N, by go_num, hREL.out _ hk3⟩
            case measure => simp [intOf]; omega
        · obtain rfl : N = j := by omega
          have c0 := HD.out.cell 0
          have c1 := HD.out.cell 1
          have c2 := HD.out.cell 2
          simp only [List.getElem?_toArray, List.getElem?_cons_zero, List.getElem?_cons_succ] at c0 c1 c2
          go_wp2_with fail
          go_ret
          exact ⟨rfl, HB.out⟩

end Go.Proofs.YtcchljghlgnkkaaDoor
