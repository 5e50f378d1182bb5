import Derived.Test.YtdlplmbdkjkeiaaDoorDhB
import Derived.Deep.RegionWith
namespace Go.Proofs.YtdlplmbdkjkeiaaDoor
set_option maxRecDepth 100000
open Go.RowKit
open BitKit
set_option linter.unusedVariables false
set_option linter.unusedSimpArgs false
theorem mem_filter_range (S : Nat → Bool) : ∀ n, mem S n = (List.range n).filter S
 | 0 => rfl
 | n + 1 => by
  rw [mem, mem_filter_range S n, List.range_succ, List.filter_append]
  cases hS : S n <;> simp [hS]
theorem all_told {S H : Nat → Bool} {wide : Nat} (hw : wide ≤ 1024) (h : ∀ y, S y = true ↔ y < wide ∧ H y = true) : all S = ints ((List.range wide).filter H) := by
 rw [all, mem_filter_range]
 congr 1
 refine Dg.sorted_ext _ _ (Dg.range_sorted _ _) (Dg.range_sorted _ _) fun y => ?_
 simp only [List.mem_filter, List.mem_range, h y]
 exact ⟨fun ⟨_, h1, h2⟩ => ⟨h1, h2⟩, fun ⟨h1, h2⟩ => ⟨by omega, h1, h2⟩⟩
theorem solved_eq {E Bs : List (List Int)} {wide : Nat} {i : Nat} {S H : Nat → Bool} (hw : wide ≤ 100) (hS : ∀ y, S y = true ↔ y < held wide ∧ Dg.Up (fnL E) Bs.length (bas wide Bs) i y)
  (hH : ∀ y, H y = true ↔ y < wide ∧ ∃ j, j < Bs.length ∧ Dg.R (fnL E) Bs.length i j ∧ (y : Int) ∈ fnL Bs j) (hi : i < Bs.length) : all S = ints ((List.range wide).filter H) := by
 have hh : held (wide : Int) = wide := by unfold held; omega
 refine all_told (by omega) fun y => ?_
 rw [hS y, hH y, hh]
 unfold Dg.Up
 constructor
 ·rintro ⟨h1, j, h2, h3⟩
  rw [bas_iff, hh] at h3
  exact ⟨h1, h1, j, h2.lt hi, h2, h3.2⟩
 ·rintro ⟨h1, _, j, _, h2, h3⟩
  exact ⟨h1, j, h2, by rw [bas_iff, hh]; exact ⟨h1, h3⟩⟩
set_option maxHeartbeats 2000000 in
theorem solves12_law (v : Value) (E : List (List Int)) (v' : Value) (Bs : List (List Int)) (x : Int) (bx : -9223372036854775808 ≤ x ∧ x ≤ 9223372036854775807) (w : World) (hE : RowsL w v E) (hB : RowsL w v' Bs) (hT : Tab w) (hg0 : 0 < w.heap.size) :
  Calls Tryd.prog 3 #[v, v', .int .i64 x] w fun e w' => e = .returned (.bool true) ∧ Below w.heap.size w w' := by
 have KE := Lib.hid hE
 have KB := Lib.hid hB
 have KT := Lib.hid hT
 have Kaw := Lib.hid (awake_any w hT hg0)
 clear hE hB hT
 go_enter Tryd.func3, Tryd.ntmps3
 go_wp2_with fail
 refine Kaw.out.mono ?_
 rintro e w1 ⟨rfl, hb1⟩
 have KE1 := Lib.hid (KE.out.below hb1)
 have KB1 := Lib.hid (KB.out.below hb1)
 have KT1 := Lib.hid (KT.out.below hb1 hg0)
 have Kb1 := Lib.hid hb1
 have hg1 : 0 < w1.heap.size := Nat.lt_of_lt_of_le hg0 hb1.size
 have Kfew := Lib.hid (few_any v v' E Bs w1 KE1.out KB1.out)
 clear hb1 Kaw
 go_wp2_with fail
 refine Kfew.out.mono ?_
 rintro e w2 ⟨⟨r, rfl, hr⟩, rfl⟩
 cases r
 ·clear hr
  go_wp2_with fail
  go_ret
  exact ⟨rfl, Kb1.out⟩
 ·have hsm := hr rfl
  have h25 : E.length ≤ 25 := hsm.1
  have h25' : Bs.length ≤ 25 := hsm.2.1
  clear hr hsm Kfew
  by_cases hx0 : x < 0
  ·go_wp2_with fail
   go_ret
   exact ⟨rfl, Kb1.out⟩
  ·by_cases hx1 : (100 : Int) < x
   ·go_wp2_with fail
    go_ret
    exact ⟨rfl, Kb1.out⟩
   ·obtain ⟨wide, rfl⟩ : ∃ wide : Nat, x = (wide : Int) := ⟨x.toNat, by omega⟩
    have hw100 : wide ≤ 100 := by omega
    have Ks := Lib.hid (solved_any v v' E Bs (wide : Int) w2 KE1.out KB1.out (by omega) KT1.out hg1)
    clear h25
    go_wp2_with fail
    refine Ks.out.mono ?_
    rintro e w3 ⟨u, Ss, rfl, hSs, hrows, hb3⟩
    obtain ⟨Au, cu, RV, rfl, hRl, hRR⟩ := hrows.ex
    have KRR := Lib.hid hRR
    have KRl := Lib.hid (hRl.trans (lists_length _ _))
    have KSs := Lib.hid hSs
    have KE3 := Lib.hid (KE1.out.below hb3)
    have KB3 := Lib.hid (KB1.out.below hb3)
    have Kb3 := Lib.hid (Kb1.out.trans (below_le hb3 Kb1.out.size))
    have hll : (lists Ss Bs.length).length = Bs.length := lists_length _ _
    rw [hll]
    clear hSs hrows hb3 Ks KE1 KB1 Kb1 hll hRR hRl
    go_wp2_with fail
    go_loopg [11] Bs.length (fun q t11 wr => ∃ k : Nat, t11 = .int .i64 (k : Int) ∧ k ≤ Bs.length ∧ q = Bs.length - k ∧ Below w3.heap.size w3 wr)
    case atStart => exact ⟨0, rfl, by omega, by omega, Below.refl _ _⟩
    case round =>
     obtain ⟨k, rfl, hk, hq, hb⟩ := hrel
     have Kb := Lib.hid hb
     have Kq := Lib.hid hq
     clear hb hq
     by_cases hlt : k < Bs.length
     ·have q1 : (0 : Int) ≤ (k : Int) := by omega
      have q2 : (k : Int) < (Bs.length : Int) := by omega
      have q3 : ((k : Int)).toNat = k := by omega
      obtain ⟨rv, hrv⟩ : ∃ rv, RV[k]? = some rv := ⟨_, List.getElem?_eq_getElem (by rw [KRl.out]; exact hlt)⟩
      obtain ⟨b, o, rfl, hbl, hcl⟩ := KRR.out.lies k rv hrv
      have hrow := KRR.out.row k rv hrv
      rw [fnL_get (lists_get Ss hlt)] at hrow
      have celA := Lib.hid (show ∀ W, Below w3.heap.size w3 W → W.cell? ⟨b, o + k, none⟩ = some rv from fun W hW => (hW.cell (p := ⟨b, o + k, none⟩) hbl).trans hcl)
      have callA := Lib.hid (show ∀ W, Below w3.heap.size w3 W → _ from fun W hW => refsolve_any v v' E Bs k wide W (KE3.out.below hW) (KB3.out.below hW) (by omega) hlt hw100)
      have callB := Lib.hid (show ∀ (W : World) (u4 : Value) (H : Nat → Bool), Below w3.heap.size w3 W → Row W u4 (ints ((List.range wide).filter H)) → (∀ y, H y = true ↔ y < wide ∧ ∃ j, j < Bs.length ∧ Dg.R (fnL E) Bs.length k j ∧ (y : Int) ∈ fnL Bs j) → Calls Tryd.prog 12 #[rv, u4] W fun e w' => e = .returned (.bool true) ∧ Below w3.heap.size w3 w' from fun W u4 H hW hr ht => by
       refine (ints_says rv u4 (all (Ss k)) _ W (((hrow.row (Nat.le_refl _)).below hW)) hr).mono ?_
       rintro e w' ⟨rfl, j, rfl⟩
       exact ⟨by rw [decide_eq_true (solved_eq hw100 (KSs.out k hlt) ht hlt)], below_drewN hW _⟩)
      have hc0 := celA.out wr Kb.out
      clear hcl hrow hrv
      go_upto_region 11 with (fail)
      go_cut [52] from 36 to 52 (fun s52 wx => s52 = .bool false ∧ Below w3.heap.size w3 wx)
      case first =>
       go_region_with (first | (go_at_call 13; refine (callA.out _ (by first | exact Kb.out | exact below_drew Kb.out | exact below_drew (below_drew Kb.out))).mono ?_; rintro e w4 ⟨u4, H, hRS⟩; obtain ⟨rfl, hrow4, htl4, hb4⟩ := hRS; have hB4 : Below w3.heap.size w3 w4 := (by first | exact Kb.out.trans (below_le hb4 Kb.out.size) | exact (below_drew Kb.out).trans (below_le hb4 Kb.out.size)); have hc4 := celA.out w4 hB4; clear hb4) | (go_at_call 12; refine (callB.out _ _ H (by first | exact hB4 | exact below_drew hB4) (hrow4.below (by first | exact Below.refl _ _ | exact below_drew (Below.refl _ _))) htl4).mono ?_; rintro e w5 ⟨rfl, hB5⟩))
       all_goals
        go_wp2_with fail
        go_meet
        case rel => exact ⟨rfl, hB5⟩
      case rest =>
       obtain ⟨rfl, hB6⟩ := hcut
       go_wp2_with fail
       go_roundg (Bs.length - (k + 1))
       case measure => have := Kq.out; omega
       case rel => exact ⟨k + 1, by go_num, by omega, rfl, hB6⟩
     ·obtain rfl : k = Bs.length := by omega
      go_wp2_with fail
      go_ret
      exact ⟨rfl, Kb3.out.trans (below_le Kb.out Kb3.out.size)⟩
end Go.Proofs.YtdlplmbdkjkeiaaDoor
