import Derived.Test.YtdlplmbdkjkeiaaDoorDhD
import Derived.Deep.QuietTactic
namespace Go.Proofs.YtdlplmbdkjkeiaaDoor
set_option maxRecDepth 100000
open Go.RowKit
open BitKit
set_option linter.unusedVariables false
set_option linter.unusedSimpArgs false
theorem RowsL.get {w : World} {A : Option Addr} {n c i : Nat} {LL : List (List Int)} {l : List Int} (h : RowsL w (.slice A n c) LL) (hi : LL[i]? = some l) :
  ∃ b o, A = some ⟨b, o, none⟩ ∧ ∃ A' c', w.cell? ⟨b, o + i, none⟩ = some (.slice A' l.length c') ∧ RowIn w w.heap.size (.slice A' l.length c') l := by
 obtain ⟨b, o, c1, A', c', he, hc, hr⟩ := h.cell hi
 simp only [Value.slice.injEq] at he
 exact ⟨b, o, he.1, A', c', hc, hr⟩
theorem mem_mem (S : Nat → Bool) (y n : Nat) : y ∈ mem S n ↔ y < n ∧ S y = true := by rw [mem_filter_range, List.mem_filter, List.mem_range]
theorem in_all {S : Nat → Bool} (h : ∀ y, S y = true → y < 1024) (x : Int) : x ∈ all S ↔ ∃ y : Nat, x = (y : Int) ∧ S y = true := by
 unfold all ints
 rw [List.mem_map]
 constructor
 ·rintro ⟨y, hy, rfl⟩
  exact ⟨y, rfl, ((mem_mem S y 1024).1 hy).2⟩
 ·rintro ⟨y, rfl, hy⟩
  exact ⟨y, (mem_mem S y 1024).2 ⟨h y hy, hy⟩, rfl⟩
def Gets (E Bs : List (List Int)) (wide : Nat) (Ss : Nat → Nat → Bool) : Prop := ∀ i, i < Bs.length → ∀ y, Ss i y = true ↔ y < wide ∧ ∃ j, Dg.R (fnL E) Bs.length i j ∧ (y : Int) ∈ fnL Bs j
theorem gets_of {E Bs : List (List Int)} {wide : Nat} {Ss : Nat → Nat → Bool} (hw : wide ≤ 1000) (h : ∀ i, i < Bs.length → ∀ y, Ss i y = true ↔ y < held wide ∧ Dg.Up (fnL E) Bs.length (bas wide Bs) i y) : Gets E Bs wide Ss := fun i hi y => by
 have hh : held (wide : Int) = wide := by unfold held; omega
 rw [h i hi y, hh]
 unfold Dg.Up
 refine and_congr_right fun hy => exists_congr fun j => and_congr_right fun _ => ?_
 rw [bas_iff, hh]
 exact ⟨fun h => h.2, fun h => ⟨hy, h⟩⟩
theorem Gets.lt {E Bs : List (List Int)} {wide : Nat} {Ss : Nat → Nat → Bool} (h : Gets E Bs wide Ss) (hw : wide ≤ 1000) {i : Nat} (hi : i < Bs.length) : ∀ y, Ss i y = true → y < 1024 := fun y hy => by
 have := ((h i hi y).1 hy).1
 omega
theorem Gets.again {E Bs : List (List Int)} {wide : Nat} {Ss Ts : Nat → Nat → Bool} (hw : wide ≤ 1000) (h : Gets E Bs wide Ss) (h2 : Gets E (lists Ss Bs.length) wide Ts) : lists Ts (lists Ss Bs.length).length = lists Ss Bs.length := by
 have hl : (lists Ss Bs.length).length = Bs.length := lists_length _ _
 rw [hl]
 unfold lists
 refine List.map_congr_left fun i hi => all_of fun y => ?_
 have hi' := List.mem_range.1 hi
 rw [Bool.eq_iff_iff, h2 i (by rw [hl]; exact hi') y, hl]
 have hf : ∀ j, j < Bs.length → ((y : Int) ∈ fnL (lists Ss Bs.length) j ↔ Ss j y = true) := fun j hj => by
  rw [fnL_get (lists_get Ss hj), in_all (h.lt hw hj)]
  constructor
  ·rintro ⟨z, hz, h3⟩
   obtain rfl : y = z := by omega
   exact h3
  ·intro h3; exact ⟨y, rfl, h3⟩
 constructor
 ·rintro ⟨h3, j, h4, h5⟩
  rw [hf j (h4.lt hi')] at h5
  obtain ⟨_, j', h6, h7⟩ := (h j (h4.lt hi') y).1 h5
  exact (h i hi' y).2 ⟨h3, j', h4.trans h6, h7⟩
 ·intro h3
  exact ⟨((h i hi' y).1 h3).1, i, .refl i, (hf i hi').2 h3⟩
set_option maxHeartbeats 2000000 in
theorem closes12_law (v : Value) (E : List (List Int)) (v' : Value) (Bs : List (List Int)) (w : World) (hE : RowsL w v E) (hB : RowsL w v' Bs) (hT : Tab w) (hg0 : 0 < w.heap.size) :
  Calls Tryd.prog 5 #[v, v'] w fun e w' => e = .returned (.bool true) ∧ Below w.heap.size w w' := by
 have KE := Lib.hid hE
 have KB := Lib.hid hB
 have KT := Lib.hid hT
 have Kaw := Lib.hid (awake_any w hT hg0)
 obtain ⟨AE, cE, rfl⟩ := hE.shape
 obtain ⟨AB, cB, rfl⟩ := hB.shape
 clear hE hB hT
 go_enter Tryd.func5, Tryd.ntmps5
 go_wp2_with fail
 refine Kaw.out.mono ?_
 rintro e w1 ⟨rfl, hb1⟩
 have KE1 := Lib.hid (KE.out.below hb1)
 have KB1 := Lib.hid (KB.out.below hb1)
 have KT1 := Lib.hid (KT.out.below hb1 hg0)
 have Kb1 := Lib.hid hb1
 have hg1 : 0 < w1.heap.size := Nat.lt_of_lt_of_le hg0 hb1.size
 have Kfew := Lib.hid (few_any (.slice AE E.length cE) (.slice AB Bs.length cB) E Bs w1 KE1.out KB1.out)
 clear hb1 Kaw KE KB
 go_wp2_with fail
 refine Kfew.out.mono ?_
 rintro e w2 ⟨⟨r, rfl, hr⟩, rfl⟩
 cases r
 ·clear hr
  go_wp2_with fail
  go_ret
  exact ⟨rfl, Kb1.out⟩
 ·have hsm := hr rfl
  have h25 : E.length ≤ 25 := hsm.1
  have h25' : Bs.length ≤ 25 := hsm.2.1
  have hten := hsm.2.2
  have Kten := Lib.hid hten
  have Ks := Lib.hid (solved_any (.slice AE E.length cE) (.slice AB Bs.length cB) E Bs 50 w2 KE1.out KB1.out (by omega) KT1.out hg1)
  clear hr hsm Kfew hten
  go_wp2_with fail
  refine Ks.out.mono ?_
  rintro e w3 ⟨u, Ss, rfl, hSs, hrows, hb3⟩
  obtain ⟨Au, cu, rfl⟩ := hrows.shape
  have hll : (lists Ss Bs.length).length = Bs.length := lists_length _ _
  have KG := Lib.hid (gets_of (E := E) (Bs := Bs) (wide := 50) (by omega) hSs)
  have Krows := Lib.hid hrows
  have KE3 := Lib.hid (KE1.out.below hb3)
  have KB3 := Lib.hid (KB1.out.below hb3)
  have KT3 := Lib.hid (KT1.out.below hb3 hg1)
  have hg3 : 0 < w3.heap.size := Nat.lt_of_lt_of_le hg1 hb3.size
  have Kb3 := Lib.hid (Kb1.out.trans (below_le hb3 Kb1.out.size))
  rw [hll] at Krows ⊢
  have Kll := Lib.hid hll
  clear hSs hrows hb3 Ks KE1 KB1 Kb1 hll KT1 hg1
  go_wp2_with fail
  go_loopg [9] Bs.length (fun q t9 wr => ∃ i : Nat, t9 = .int .i64 (i : Int) ∧ i ≤ Bs.length ∧ q = Bs.length - i ∧ ∃ m, wr = w3.drewN m)
  case atStart => exact ⟨0, rfl, by omega, by omega, 0, rfl⟩
  case round =>
   obtain ⟨i, rfl, hi, hq, m, hwr⟩ := hrel
   have Kwr := Lib.hid hwr
   have Kq := Lib.hid hq
   clear hwr hq
   by_cases hlt : i < Bs.length
   ·obtain ⟨lb, hlb⟩ : ∃ lb, Bs[i]? = some lb := ⟨_, List.getElem?_eq_getElem hlt⟩
    have q1 : (0 : Int) ≤ (i : Int) := by omega
    have q2 : (i : Int) < (Bs.length : Int) := by omega
    have q3 : ((i : Int)).toNat = i := by omega
    have hlbn : lb.length ≤ 9223372036854775807 := by
     obtain ⟨_, _, _, _, _, _, hr⟩ := KB3.out.get hlb
     obtain ⟨_, _, _, _, h⟩ := hr
     exact h.len
    have Klb := Lib.hid hlb
    clear hlb
    go_wp2_with fail
    go_loopg [10] lb.length (fun q t10 wx => ∃ k : Nat, t10 = .int .i64 (k : Int) ∧ k ≤ lb.length ∧ q = lb.length - k ∧ ∃ m, wx = w3.drewN m)
    case atStart => exact ⟨0, rfl, by omega, by omega, m, Kwr.out⟩
    case round =>
     obtain ⟨k, rfl, hk, hq2, m2, hwr2⟩ := hrel
     have hBr : RowsL wr (.slice AB Bs.length cB) Bs := by rw [hwr2]; exact KB3.out.drewN m2
     have hLr : RowsL wr (.slice Au Bs.length cu) (lists Ss Bs.length) := by rw [hwr2]; exact Krows.out.drewN m2
     obtain ⟨b, o, rfl, A1, c1, cb, hrow1⟩ := hBr.get Klb.out
     obtain ⟨b2, o2, rfl, A2, c2, cl, hrow2⟩ := hLr.get (lists_get Ss hlt)
     have Kwr2 := Lib.hid hwr2
     have Kq2 := Lib.hid hq2
     clear hwr2 hq2 hBr hLr
     by_cases hkl : k < lb.length
     ·obtain ⟨b3, o3, rfl, _, cx⟩ := hrow1.cells hkl
      obtain ⟨x, hx⟩ : ∃ x, lb[k]? = some x := ⟨_, List.getElem?_eq_getElem hkl⟩
      rw [show lb.getD k 0 = x by rw [List.getD, hx]; rfl] at cx
      have r1 : (0 : Int) ≤ (k : Int) := by omega
      have r2 : (k : Int) < (lb.length : Int) := by omega
      have r3 : ((k : Int)).toNat = k := by omega
      have Kx := Lib.hid (show x ∈ fnL Bs i by rw [fnL_get Klb.out]; exact List.mem_of_getElem? hx)
      have Kcall := Lib.hid (show ∀ j, Calls Tryd.prog 19 #[.slice A2 (all (Ss i)).length c2, .int .i64 x] (wr.drewN j) (fun e w' => e = .returned (.bool (decide (x ∈ all (Ss i)))) ∧ ∃ k, w' = (wr.drewN j).drewN k) from fun j => by
       obtain ⟨A', c', he, _, hn⟩ := hrow2
       simp only [Value.slice.injEq, true_and] at he
       obtain ⟨rfl, rfl⟩ := he
       exact in_says A2 c2 (all (Ss i)) _ x (wr.drewN j) (nums_drewN hn j))
      clear hx hrow1 hrow2
      by_cases hx0 : 0 ≤ x
      ·have hd0 : decide ((0 : Int) ≤ x) = true := decide_eq_true hx0
       by_cases hx1 : x < 50
       ·have hd1 : decide (x < (50 : Int)) = true := decide_eq_true hx1
        have hin : x ∈ all (Ss i) := by
         rw [in_all (KG.out.lt (by omega) hlt)]
         refine ⟨x.toNat, by omega, (KG.out i hlt _).2 ⟨by omega, i, .refl i, ?_⟩⟩
         rw [show ((x.toNat : Nat) : Int) = x by omega]
         exact Kx.out
        have hc := Kcall.out
        rw [decide_eq_true hin] at hc
        have Kc := Lib.hid hc
        clear hc hin Kcall
        go_wp2_with fail
        go_quiet (exact Calls.quiet_of (Kc.out _))
        go_wp2_with fail
        go_roundg (lb.length - (k + 1))
        case measure => have := Kq2.out; omega
        case rel => exact ⟨k + 1, by go_num, by omega, rfl, _, by rw [Kwr2.out]; exact World.drewN_drewN ..⟩
       ·have hd1 : decide (x < (50 : Int)) = false := decide_eq_false hx1
        go_wp2_with fail
        go_quiet (fail)
        go_wp2_with fail
        go_roundg (lb.length - (k + 1))
        case measure => have := Kq2.out; omega
        case rel => exact ⟨k + 1, by go_num, by omega, rfl, _, by rw [Kwr2.out]; exact World.drewN_drewN ..⟩
      ·have hd0 : decide ((0 : Int) ≤ x) = false := decide_eq_false hx0
       go_wp2_with fail
       go_quiet (fail)
       go_wp2_with fail
       go_roundg (lb.length - (k + 1))
       case measure => have := Kq2.out; omega
       case rel => exact ⟨k + 1, by go_num, by omega, rfl, _, by rw [Kwr2.out]; exact World.drewN_drewN ..⟩
     ·obtain rfl : k = lb.length := by omega
      clear hrow1 hrow2
      by_cases hiE : i < E.length
      ·obtain ⟨le, hle⟩ : ∃ le, E[i]? = some le := ⟨_, List.getElem?_eq_getElem hiE⟩
       have e2 : (i : Int) < (E.length : Int) := by omega
       have Kle := Lib.hid hle
       have hlen : le.length ≤ 9223372036854775807 := by
        obtain ⟨_, _, _, _, _, _, hr⟩ := KE3.out.get hle
        obtain ⟨_, _, _, _, h⟩ := hr
        exact h.len
       clear hle
       go_wp2_with fail
       go_loopg [11] le.length (fun q t11 wx => ∃ k : Nat, t11 = .int .i64 (k : Int) ∧ k ≤ le.length ∧ q = le.length - k ∧ ∃ m, wx = w3.drewN m)
       case atStart => exact ⟨0, rfl, by omega, by omega, m2, Kwr2.out⟩
       case round =>
        obtain ⟨k, rfl, hk, hq3, m3, hwr3⟩ := hrel
        have hEr : RowsL wr (.slice AE E.length cE) E := by rw [hwr3]; exact KE3.out.drewN m3
        have hLr : RowsL wr (.slice (some ⟨b2, o2, none⟩) Bs.length cu) (lists Ss Bs.length) := by rw [hwr3]; exact Krows.out.drewN m3
        obtain ⟨b4, o4, rfl, A4, c4, ce, hrow4⟩ := hEr.get Kle.out
        have Kwr3 := Lib.hid hwr3
        have Kq3 := Lib.hid hq3
        have KLr := Lib.hid hLr
        clear hwr3 hq3 hEr hLr
        by_cases hkl : k < le.length
        ·obtain ⟨b5, o5, rfl, _, cx⟩ := hrow4.cells hkl
         obtain ⟨x, hx⟩ : ∃ x, le[k]? = some x := ⟨_, List.getElem?_eq_getElem hkl⟩
         rw [show le.getD k 0 = x by rw [List.getD, hx]; rfl] at cx
         have r1 : (0 : Int) ≤ (k : Int) := by omega
         have r2 : (k : Int) < (le.length : Int) := by omega
         have r3 : ((k : Int)).toNat = k := by omega
         have Kx := Lib.hid (show x ∈ fnL E i by rw [fnL_get Kle.out]; exact List.mem_of_getElem? hx)
         clear hx hrow4
         by_cases hx0 : 0 ≤ x
         ·have hd0 : decide ((0 : Int) ≤ x) = true := decide_eq_true hx0
          by_cases hx1 : x < (Bs.length : Int)
          ·have hd1 : decide (x < (Bs.length : Int)) = true := decide_eq_true hx1
           obtain ⟨t, rfl⟩ : ∃ t : Nat, x = (t : Int) := ⟨x.toNat, by omega⟩
           have htn : t < Bs.length := by omega
           have t3 : ((t : Int)).toNat = t := by omega
           obtain ⟨b6, o6, e6, A6, c6, ct, hrow6⟩ := KLr.out.get (lists_get Ss htn)
           obtain ⟨rfl, rfl⟩ := same_addr e6
           obtain ⟨b7, o7, e7, A7, c7, ci, hrow7⟩ := KLr.out.get (lists_get Ss hlt)
           obtain ⟨rfl, rfl⟩ := same_addr e7
           have hsub : ∀ y ∈ all (Ss t), y ∈ all (Ss i) := by
            intro y hy
            rw [in_all (KG.out.lt (by omega) htn)] at hy
            obtain ⟨z, rfl, hz⟩ := hy
            rw [in_all (KG.out.lt (by omega) hlt)]
            obtain ⟨h1, j, h2, h3⟩ := (KG.out t htn z).1 hz
            exact ⟨z, rfl, (KG.out i hlt z).2 ⟨h1, j, .step ⟨htn, Kx.out⟩ h2, h3⟩⟩
           have hc := fun j => subset_any _ _ _ _ (wr.drewN j) ((hrow6.drewN j).row (Nat.le_refl _)) ((hrow7.drewN j).row (Nat.le_refl _))
           rw [decide_eq_true hsub] at hc
           have Kc := Lib.hid hc
           clear hc hsub hrow6 hrow7 e6 e7
           go_wp2_with fail
           go_quiet (exact Calls.quiet_of (Kc.out _))
           go_wp2_with fail
           go_roundg (le.length - (k + 1))
           case measure => have := Kq3.out; omega
           case rel => exact ⟨k + 1, by go_num, by omega, rfl, _, by rw [Kwr3.out]; exact World.drewN_drewN ..⟩
          ·have hd1 : decide (x < (Bs.length : Int)) = false := decide_eq_false hx1
           go_wp2_with fail
           go_quiet (fail)
           go_wp2_with fail
           go_roundg (le.length - (k + 1))
           case measure => have := Kq3.out; omega
           case rel => exact ⟨k + 1, by go_num, by omega, rfl, _, by rw [Kwr3.out]; exact World.drewN_drewN ..⟩
         ·have hd0 : decide ((0 : Int) ≤ x) = false := decide_eq_false hx0
          go_wp2_with fail
          go_quiet (fail)
          go_wp2_with fail
          go_roundg (le.length - (k + 1))
          case measure => have := Kq3.out; omega
          case rel => exact ⟨k + 1, by go_num, by omega, rfl, _, by rw [Kwr3.out]; exact World.drewN_drewN ..⟩
        ·obtain rfl : k = le.length := by omega
         clear hrow4
         go_wp2_with fail
         go_roundg (Bs.length - (i + 1))
         case measure => have := Kq.out; omega
         case rel => exact ⟨i + 1, by go_num, by omega, rfl, m3, Kwr3.out⟩
      ·have e2 : ¬ (i : Int) < (E.length : Int) := by omega
       go_wp2_with fail
       go_loopg [11] 1 (fun q t11 wx => t11 = .int .i64 0 ∧ ∃ m, wx = w3.drewN m)
       case atStart => exact ⟨rfl, m2, Kwr2.out⟩
       case round =>
        obtain ⟨rfl, m3, hwr3⟩ := hrel
        have Kwr3 := Lib.hid hwr3
        clear hwr3
        go_wp2_with fail
        go_roundg (Bs.length - (i + 1))
        case measure => have := Kq.out; omega
        case rel => exact ⟨i + 1, by go_num, by omega, rfl, m3, Kwr3.out⟩
   ·obtain rfl : i = Bs.length := by omega
    have hb0 : Below w3.heap.size w3 wr := by rw [Kwr.out]; exact below_drewN (Below.refl _ _) m
    have hLr : RowsL wr (.slice Au (lists Ss Bs.length).length cu) (lists Ss Bs.length) := by rw [Kll.out, Kwr.out]; exact Krows.out.drewN m
    have hs2 := solved_any (.slice AE E.length cE) (.slice Au (lists Ss Bs.length).length cu) E (lists Ss Bs.length) 50 wr (KE3.out.below hb0) hLr (by rw [Kll.out]; omega) (KT3.out.below hb0 hg3) (Nat.lt_of_lt_of_le hg3 hb0.size)
    have KLr := Lib.hid hLr
    have hag : ∀ Ts : Nat → Nat → Bool, Gets E (lists Ss Bs.length) 50 Ts → lists Ts (lists Ss Bs.length).length = lists Ss Bs.length := fun Ts h => KG.out.again (by omega) h
    have Kag := Lib.hid hag
    have Kb4 := Lib.hid (Kb3.out.trans (below_le hb0 Kb3.out.size))
    have Kgo := Lib.hid (fun (Ts : Nat → Nat → Bool) h => gets_of (E := E) (Bs := lists Ss Bs.length) (wide := 50) (Ss := Ts) (by omega) h)
    rw [show (Value.slice Au (lists Ss Bs.length).length cu) = .slice Au Bs.length cu by rw [Kll.out]] at hs2 KLr
    have Ks3 := Lib.hid hs2
    clear hb0 hLr hs2 hag
    go_wp2_with fail
    refine Ks3.out.mono ?_
    rintro e w4 ⟨u2, Ts, rfl, hTs, hrows2, hb4⟩
    have heq := Kag.out Ts (Kgo.out Ts hTs)
    rw [heq] at hrows2
    have hc := lists_any _ _ _ _ _ (KLr.out.below hb4) hrows2
    rw [decide_eq_true rfl] at hc
    have Kc := Lib.hid hc
    have Kb5 := Lib.hid (Kb4.out.trans (below_le hb4 Kb4.out.size))
    clear hTs hrows2 hb4 heq hc Ks3
    go_wp2_with fail
    refine Kc.out.mono ?_
    rintro e w5 ⟨rfl, j5, hw5⟩
    have Kb6 := Lib.hid (show Below w.heap.size w w5 by rw [hw5]; exact below_drewN Kb5.out _)
    clear hw5
    go_wp2_with fail
    go_ret
    exact ⟨rfl, Kb6.out⟩
end Go.Proofs.YtdlplmbdkjkeiaaDoor
