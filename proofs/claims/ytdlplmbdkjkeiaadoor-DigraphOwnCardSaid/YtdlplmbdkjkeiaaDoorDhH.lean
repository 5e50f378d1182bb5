import Derived.Test.YtdlplmbdkjkeiaaDoorDhE
import Derived.Deep.RegionWith
namespace Go.Proofs.YtdlplmbdkjkeiaaDoor
set_option maxRecDepth 100000
open Go.RowKit
open BitKit
set_option linter.unusedVariables false
set_option linter.unusedSimpArgs false
structure Turned (w : World) (B n : Nat) (lv : Value) (LV : List Value) (Bl : Nat → Nat) : Prop where
 row : w.ownsRow B 37 1 lv n LV
 each : ∀ x, x < n → LV[x]? = some (.pointer (some ⟨Bl x, 0, none⟩)) ∧ B ≤ Bl x ∧ ∃ S, IsSet w (Bl x) 50 S
 rises : ∀ x y, x < y → y < n → Bl x < Bl y
theorem Turned.turn {w w' : World} {B n x : Nat} {lv : Value} {LV : List Value} {Bl : Nat → Nat} {S : Nat → Bool} (h : Turned w B n lv LV Bl) (hx : x < n) (hs : IsSet w' (Bl x) 50 S) (hg : w.grownBy w' (some (Bl x))) : Turned w' B n lv LV Bl := by
 obtain ⟨_, _, S0, hS0⟩ := h.each x hx
 refine ⟨?_, fun y hy => ⟨(h.each y hy).1, (h.each y hy).2.1, ?_⟩, h.rises⟩
 ·have hsp : Spares [64] w w' := (Spares.refl _ w).turn hS0.at_ (by decide) hg
  exact own_spares h.row hsp (by decide)
 ·by_cases he : y = x
  ·subst he; exact ⟨S, hs⟩
  ·obtain ⟨_, _, T, hT⟩ := h.each y hy
   refine ⟨T, hT.at_.grown hg ?_, hT.le, hT.fit⟩
   intro e
   injection e with e
   rcases Nat.lt_or_ge x y with hlt | hge
   ·have := h.rises x y hlt hy; omega
   ·have := h.rises y x (by omega) hx; omega
set_option maxHeartbeats 2000000 in
theorem own12_law (v : Value) (E : List (List Int)) (v' : Value) (Bs : List (List Int)) (w : World) (hE : RowsL w v E) (hB : RowsL w v' Bs) (hT : Tab w) (hg0 : 0 < w.heap.size) :
  Calls Tryd.prog 8 #[v, v'] w fun e w' => e = .returned (.bool true) ∧ Below w.heap.size w w' := by
 have KE := Lib.hid hE
 have KB := Lib.hid hB
 have KT := Lib.hid hT
 have Kaw := Lib.hid (awake_any w hT hg0)
 obtain ⟨i1, hj0, hy0, hy1, hy2⟩ := info_parts Tryd.infoRow
 obtain ⟨AE, cE, RE, rfl, hRl, _⟩ := hE.ex
 obtain ⟨AB, cB, rfl⟩ := hB.shape
 clear hE hB hT
 go_enter Tryd.func8, Tryd.ntmps8
 go_wp2_with fail
 refine Kaw.out.mono ?_
 rintro e w1 ⟨rfl, hb1⟩
 have KE1 := Lib.hid (KE.out.below hb1)
 have KB1 := Lib.hid (KB.out.below hb1)
 have KT1 := Lib.hid (KT.out.below hb1 hg0)
 have Kb1 := Lib.hid hb1
 have hg1 : 0 < w1.heap.size := Nat.lt_of_lt_of_le hg0 hb1.size
 have Kfew := Lib.hid (few_any (.slice AE E.length cE) (.slice AB Bs.length cB) E Bs w1 KE1.out KB1.out)
 clear hb1 Kaw KE KB
 go_wp2_with fail
 refine Kfew.out.mono ?_
 rintro e w2 ⟨⟨r, rfl, hr⟩, rfl⟩
 cases r
 ·clear hr
  go_wp2_with fail
  go_ret
  exact ⟨rfl, Kb1.out⟩
 ·have hsm := hr rfl
  have h25 : E.length ≤ 25 := hsm.1
  have h25' : Bs.length ≤ 25 := hsm.2.1
  have Ks := Lib.hid (sets_any (.slice AB Bs.length cB) Bs 50 w2 KB1.out (by omega))
  clear hr hsm Kfew
  go_wp2_with fail
  refine Ks.out.mono ?_
  rintro e w3 ⟨A2, c2, Bl, rfl, hBase, _, _, _, hb3⟩
  have KBa := Lib.hid hBase
  have KE3 := Lib.hid (KE1.out.below hb3)
  have KT3 := Lib.hid (KT1.out.below hb3 hg1)
  have hg3 : 0 < w3.heap.size := Nat.lt_of_lt_of_le hg1 hb3.size
  have Kb3 := Lib.hid (Kb1.out.trans (below_le hb3 Kb1.out.size))
  clear hBase hb3 Ks KE1 KB1 Kb1 KT1 hRl
  go_wp2_with fail
  go_loopg [8, 9] Bs.length (fun q t8 t9 wr => ∃ (k : Nat) (OV : List Value), t9 = .int .i64 (k : Int) ∧ k ≤ Bs.length ∧ q = Bs.length - k ∧ Outs wr w3.heap.size k t8 OV (bas 50 Bs) ∧ Below w3.heap.size w3 wr)
  case atStart => exact ⟨0, [], rfl, by omega, by omega, ⟨World.ownsRow_nil _ _ _ _, (fun i hi => absurd hi (by omega))⟩, Below.refl _ _⟩
  case round =>
   obtain ⟨k, OV, rfl, hk, hq, hO, hBe⟩ := hrel
   have KO := Lib.hid hO
   have KBe := Lib.hid hBe
   have Kq := Lib.hid hq
   have hBr : w3.heap.size ≤ wr.heap.size := hBe.size
   obtain ⟨ao, co, rfl, _⟩ := own_slice hO.own
   clear hO hBe hq
   by_cases hlt : k < Bs.length
   ·obtain ⟨b, o, rfl, _, cl⟩ := (KBa.out.below KBe.out).cell k hlt
    have hs := ((KBa.out.below KBe.out).set k hlt).2
    have q1 : (0 : Int) ≤ (k : Int) := by omega
    have q2 : (k : Int) < (Bs.length : Int) := by omega
    have q3 : ((k : Int)).toNat = k := by omega
    have hlist := Lib.hid (list_any (Bl k) (held 50) (bas 50 Bs k) wr hs (KT3.out.below KBe.out hg3) (by omega))
    clear hs
    go_wp2_with fail
    refine hlist.out.mono ?_
    rintro e w4 ⟨u, rfl, hu, hb3⟩
    rw [valsOf_ints] at hu
    have hu' : w4.ownsRow w3.heap.size 3 1 u (all (bas 50 Bs k)).length (vals (all (bas 50 Bs k))) := by
     have h1 := hu.1
     rw [vals_length, Nat.mul_one] at h1
     have h2 : (all (bas 50 Bs k)).length = cnt (bas 50 Bs k) 1024 := h1
     rw [h2]
     exact own_base hu hBr
    obtain ⟨au, cu, rfl, _⟩ := own_slice hu'
    have hsz3 := hb3.size
    have Ku := Lib.hid hu'
    have Kb4 := Lib.hid (KBe.out.trans (below_le hb3 hBr))
    have KO3 := Lib.hid (show Outs w4 w3.heap.size k (.slice ao k co) OV (bas 50 Bs) from ⟨KO.out.own.kept (below_grown hb3) (none_or _), fun i hi => by
     obtain ⟨u, e1, e2⟩ := KO.out.each i hi
     exact ⟨u, e1, e2.kept (below_grown hb3) (none_or _)⟩⟩)
    clear hu hu' hb3 hlist cl
    go_wp2_with (at_builtin; refine wpList_append_own2 _ rfl (.tmp 33) (.tmp 39) 22 rfl w3.heap.size 28 i1 _ 1 24 Tryd.underlying22 hj0 hy0 hy1 hy2 rfl (by decide) (.slice ao k co) k OV rfl (KO3.out.own.alloc _) ⟨w4.heap.size, 0, none⟩ 1 1 [.slice au (all (bas 50 Bs k)).length cu] rfl rfl (cell_one_new _ _ _) (by simp [Value.oneCell']) (by unfold maxLen; omega) (by omega) (by simp; omega) ?_; intro v' w5 hown hgrow hsn)
    obtain ⟨a4, c4, rfl, _⟩ := own_slice hown
    have hkeep : ∀ {x : Value} {m : Nat} {xs : List Value}, w4.ownsRow w3.heap.size 3 1 x m xs → w5.ownsRow w3.heap.size 3 1 x m xs := fun h => (h.alloc _).kept hgrow (ap_or (ap_type h KO3.out.own (by decide)))
    have hBe4 : Below w3.heap.size w3 w5 := (Kb4.out.alloc (by omega) _).grown hgrow (by simp; omega) (fun q hq => (KO3.out.own.lt q hq).1)
    have hO4 : Outs w5 w3.heap.size (k + 1) (.slice a4 (k + 1) c4) (OV ++ [.slice au (all (bas 50 Bs k)).length cu]) (bas 50 Bs) := ⟨hown, fun i hi => by
     have hl : OV.length = k := by have := KO3.out.own.1; omega
     by_cases he : i = k
     ·subst he
      exact ⟨_, by rw [List.getElem?_append_right (by omega), hl]; simp, hkeep Ku.out⟩
     ·obtain ⟨x, e1, e2⟩ := KO3.out.each i (by omega)
      exact ⟨x, by rw [List.getElem?_append_left (by omega)]; exact e1, hkeep e2⟩⟩
    have KO4 := Lib.hid hO4
    have KBe4 := Lib.hid hBe4
    clear hown hgrow hsn hkeep hBe4 hO4
    go_wp2_with fail
    go_roundg (Bs.length - (k + 1))
    case measure => have := Kq.out; omega
    case rel => exact ⟨k + 1, _, by go_num, by omega, rfl, KO4.out, KBe4.out⟩
   ·obtain rfl : k = Bs.length := by omega
    obtain ⟨ws, rfl⟩ : ∃ ws, ws = wr := ⟨wr, rfl⟩
    have hBa := (KBa.out.below KBe.out)
    obtain ⟨AE', cE', RE', he', hRl', hRE'⟩ := (KE3.out.below KBe.out).ex
    simp only [Value.slice.injEq, true_and] at he'
    obtain ⟨rfl, rfl⟩ := he'
    have hBw : Base ws ws.heap.size A2 Bs.length Bl (fun _ => held 50) (bas 50 Bs) := ⟨fun i hi => by
     obtain ⟨b, o, h1, h2, h3⟩ := hBa.cell i hi
     exact ⟨b, o, h1, by omega, h3⟩, fun i hi => ⟨by have := (hBa.set i hi).1; omega, (hBa.set i hi).2⟩⟩
    have Ksolve := Lib.hid (solve_run AE E.length cE RE' (fnL E) Bs.length A2 c2 Bl (fun _ => held 50) (bas 50 Bs) ws hRE' hRl' (fun i hi => by unfold fnL; rw [List.getD, List.getElem?_eq_none hi]; rfl) (by omega) hBw)
    have KBw := Lib.hid hBw
    clear hBa hRl' hRE' hBw
    go_wp2_with fail
    refine Ksolve.out.mono ?_
    rintro e w4 ⟨L, cL, LV, Bl2, Ss, rfl, hSo, hb4⟩
    have KTu := Lib.hid (show Turned w4 ws.heap.size Bs.length (.slice (some ⟨L, 0, none⟩) Bs.length cL) LV Bl2 from ⟨hSo.row, fun x hx => ⟨(hSo.each x hx).1, (hSo.each x hx).2.1, Ss x, (hSo.each x hx).2.2⟩, hSo.rises⟩)
    have Kb4 := Lib.hid hb4
    clear hSo hb4 Ksolve
    go_wp2_with fail
    go_loopg [11] Bs.length (fun q t11 wx => ∃ i : Nat, t11 = .int .i64 (i : Int) ∧ i ≤ Bs.length ∧ q = Bs.length - i ∧ Turned wx ws.heap.size Bs.length (.slice (some ⟨L, 0, none⟩) Bs.length cL) LV Bl2 ∧ Below ws.heap.size ws wx)
    case atStart => exact ⟨0, rfl, by omega, by omega, KTu.out, Kb4.out⟩
    case round =>
     obtain ⟨i, rfl, hi, hq, hTu, hb⟩ := hrel
     have KTu2 := Lib.hid hTu
     have Kb := Lib.hid hb
     have Kq2 := Lib.hid hq
     have hszr := hb.size
     clear hb hq
     by_cases hlt : i < Bs.length
     ·obtain ⟨e1, hBl, S, hS⟩ := hTu.each i hlt
      have cl : wr.cell? ⟨L, i, none⟩ = some (.pointer (some ⟨Bl2 i, 0, none⟩)) := by rw [hTu.row.cellAt i (by omega), e1]
      have q1 : (0 : Int) ≤ (i : Int) := by omega
      have q2 : (i : Int) < (Bs.length : Int) := by omega
      have q3 : ((i : Int)).toNat = i := by omega
      have Kadd := Lib.hid (add_any (Bl2 i) 50 S 49 wr hS)
      have Ke1 := Lib.hid e1
      clear hTu hS e1
      go_wp2_with fail
      refine Kadd.out.mono ?_
      rintro e w5 ⟨rfl, hs5, hg5⟩
      have hT5 := KTu2.out.turn hlt hs5 hg5
      have cl5 : w5.cell? ⟨L, i, none⟩ = some (.pointer (some ⟨Bl2 i, 0, none⟩)) := by rw [hT5.row.cellAt i (by omega), Ke1.out]
      have KT5 := Lib.hid hT5
      have Kb5 := Lib.hid (Kb.out.grown hg5 hszr (fun k hk => by injection hk with hk; omega))
      have Kdrop := Lib.hid (drop_any (Bl2 i) 50 (put 50 S 49) 0 w5 hs5)
      clear hT5 hs5 hg5 cl Kadd
      go_wp2_with fail
      refine Kdrop.out.mono ?_
      rintro e w6 ⟨rfl, hs6, hg6⟩
      have KT6 := Lib.hid (KT5.out.turn hlt hs6 hg6)
      have Kb6 := Lib.hid (Kb5.out.grown hg6 Kb5.out.size (fun k hk => by injection hk with hk; omega))
      clear hs6 hg6 cl5 Kdrop
      go_wp2_with fail
      go_roundg (Bs.length - (i + 1))
      case measure => have := Kq2.out; omega
      case rel => exact ⟨i + 1, by go_num, by omega, rfl, KT6.out, Kb6.out⟩
     ·obtain rfl : i = Bs.length := by omega
      clear hTu
      go_wp2_with fail
      go_loopg [12] Bs.length (fun q t12 wx => ∃ i : Nat, t12 = .int .i64 (i : Int) ∧ i ≤ Bs.length ∧ q = Bs.length - i ∧ Below ws.heap.size ws wx)
      case atStart => exact ⟨0, rfl, by omega, by omega, Kb.out⟩
      case round =>
       obtain ⟨i, rfl, hi2, hq, hb⟩ := hrel
       have Kbb := Lib.hid hb
       have Kq3 := Lib.hid hq
       clear hb hq
       by_cases hlt : i < Bs.length
       ·obtain ⟨b, o, rfl, hbl, hcl⟩ := KBw.out.cell i hlt
        obtain ⟨hsl, hset⟩ := KBw.out.set i hlt
        obtain ⟨ux, eu, hu⟩ := KO.out.each i hlt
        obtain ⟨ab, cb, hva, _, _⟩ := own_pos KO.out.own (by omega)
        simp only [Value.slice.injEq, true_and] at hva
        obtain ⟨rfl, rfl⟩ := hva
        have hob := own_block KO.out.own ab rfl
        have hcw : ws.cell? ⟨ab, i, none⟩ = some ux := by rw [KO.out.own.cellAt i (by omega), eu]
        have cellS := Lib.hid (show ∀ W, Below ws.heap.size ws W → W.cell? ⟨b, o + i, none⟩ = some (.pointer (some ⟨Bl i, 0, none⟩)) from fun W hW => (hW.cell (p := ⟨b, o + i, none⟩) hbl).trans hcl)
        have cellW := Lib.hid (show ∀ W, Below ws.heap.size ws W → W.cell? ⟨ab, i, none⟩ = some ux from fun W hW => (hW.cell (p := ⟨ab, i, none⟩) hob).trans hcw)
        have callL := Lib.hid (show ∀ W, Below ws.heap.size ws W → Calls Tryd.prog 22 #[.pointer (some ⟨Bl i, 0, none⟩)] W fun e w' => ∃ u', e = .returned u' ∧ Row w' u' (all (bas 50 Bs i)) ∧ Below ws.heap.size ws w' from fun W hW => by
         refine (list_any (Bl i) (held 50) (bas 50 Bs i) W (hset.below hW hsl) ((KT3.out.below KBe.out hg3).below hW (by omega)) (by have := hW.size; omega)).mono ?_
         rintro e w' ⟨u', rfl, hu', hbl'⟩
         rw [valsOf_ints] at hu'
         exact ⟨u', rfl, row_own hu' (mem_small _), hW.trans (below_le hbl' hW.size)⟩)
        have callI := Lib.hid (show ∀ (W : World) (u' : Value), Below ws.heap.size ws W → Row W u' (all (bas 50 Bs i)) → Calls Tryd.prog 12 #[u', ux] W fun e w' => e = .returned (.bool true) ∧ Below ws.heap.size ws w' from fun W u' hW hr => by
         have hux := row_own (own_below hu hW (own_block hu)) (mem_small _)
         refine (ints_says u' ux _ _ W hr hux).mono ?_
         rintro e w' ⟨rfl, j, rfl⟩
         exact ⟨by rw [decide_eq_true rfl], below_drewN hW _⟩)
        have callW := Lib.hid (show ∀ W, Below ws.heap.size ws W → Calls Tryd.prog 26 #[.pointer (some ⟨Bl i, 0, none⟩)] W fun e w' => e = .returned (.int .i64 50) ∧ w' = W from fun W hW => width_any (Bl i) (held 50) (bas 50 Bs i) W (hset.below hW hsl))
        have q1 : (0 : Int) ≤ (i : Int) := by omega
        have q2 : (i : Int) < (Bs.length : Int) := by omega
        have q3 : ((i : Int)).toNat = i := by omega
        have hc1 := cellS.out wr Kbb.out
        have hc2 := cellW.out wr Kbb.out
        clear hcl hset hu hcw eu
        go_upto_region 26 with (fail)
        go_cut [94] from 70 to 94 (fun s94 wx => s94 = .bool false ∧ Below ws.heap.size ws wx)
        case first =>
         go_region_with (first | (go_at_call 22; refine (callL.out _ (by first | exact Kbb.out | exact below_drew Kbb.out | exact below_drew (below_drew Kbb.out))).mono ?_; rintro e w7 ⟨u7, rfl, hr7, hB7⟩; have hc3 := cellS.out w7 hB7; have hc4 := cellW.out w7 hB7) | (go_at_call 12; refine (callI.out _ _ (by first | exact hB7 | exact below_drew hB7) (hr7.below (by first | exact Below.refl _ _ | exact below_drew (Below.refl _ _)))).mono ?_; rintro e w8 ⟨rfl, hB8⟩; have hc5 := cellS.out w8 hB8) | (go_at_call 26; refine (callW.out _ (by first | exact hB8 | exact below_drew hB8)).mono ?_; rintro e w9 ⟨rfl, rfl⟩))
         all_goals
          go_wp2_with fail
          go_meet
          case rel => exact ⟨rfl, by first | exact hB8 | exact below_drew hB8⟩
        case rest =>
         obtain ⟨rfl, hB9⟩ := hcut
         go_wp2_with fail
         go_roundg (Bs.length - (i + 1))
         case measure => have := Kq3.out; omega
         case rel => exact ⟨i + 1, by go_num, by omega, rfl, hB9⟩
       ·obtain rfl : i = Bs.length := by omega
        go_wp2_with fail
        go_ret
        exact ⟨rfl, Kb3.out.trans (below_le (KBe.out.trans (below_le Kbb.out KBe.out.size)) Kb3.out.size)⟩
end Go.Proofs.YtdlplmbdkjkeiaaDoor
