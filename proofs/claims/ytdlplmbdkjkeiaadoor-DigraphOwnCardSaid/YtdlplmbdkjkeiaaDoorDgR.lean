import Derived.Test.YtdlplmbdkjkeiaaDoorDgQ
namespace Go.Proofs.YtdlplmbdkjkeiaaDoor
set_option maxRecDepth 100000
open Go.RowKit
open BitKit
set_option linter.unusedVariables false
set_option linter.unusedSimpArgs false
def Has (E Bs : List (List Int)) (n at_ wide i k : Nat) (H : Nat → Bool) : Prop :=
 ∀ y, H y = true ↔ y < wide ∧ ((∃ j, j < i ∧ Dg.R (fnL E) n at_ j ∧ (y : Int) ∈ fnL Bs j) ∨ (Dg.R (fnL E) n at_ i ∧ (y : Int) ∈ (fnL Bs i).take k))
theorem Has.zero (E Bs : List (List Int)) (n at_ wide : Nat) : Has E Bs n at_ wide 0 0 (fun _ => false) := fun y => by
 constructor
 ·intro h; cases h
 ·rintro ⟨_, ⟨j, hj, _⟩ | ⟨_, h⟩⟩
  ·omega
  ·simp at h
theorem Has.next {E Bs : List (List Int)} {n at_ wide i : Nat} {H : Nat → Bool} (h : Has E Bs n at_ wide i (fnL Bs i).length H) : Has E Bs n at_ wide (i + 1) 0 H := fun y => by
 rw [h y, List.take_length]
 constructor
 ·rintro ⟨h1, ⟨j, hj, h2⟩ | h2⟩
  ·exact ⟨h1, .inl ⟨j, by omega, h2⟩⟩
  ·exact ⟨h1, .inl ⟨i, by omega, h2⟩⟩
 ·rintro ⟨h1, ⟨j, hj, h2⟩ | ⟨_, h2⟩⟩
  ·by_cases he : j = i
   ·subst he; exact ⟨h1, .inr h2⟩
   ·exact ⟨h1, .inl ⟨j, by omega, h2⟩⟩
  ·simp at h2
theorem Has.step {E Bs : List (List Int)} {n at_ wide i k : Nat} {H H' : Nat → Bool} {x : Int} (h : Has E Bs n at_ wide i k H) (hx : (fnL Bs i)[k]? = some x) (hH : ∀ y, H' y = true ↔ H y = true ∨ (y < wide ∧ Dg.R (fnL E) n at_ i ∧ (y : Int) = x)) : Has E Bs n at_ wide i (k + 1) H' := fun y => by
 rw [hH y, h y, List.take_add_one, hx]
 simp only [Option.toList_some, List.mem_append, List.mem_cons, List.not_mem_nil, or_false]
 constructor
 ·rintro (⟨h1, h2 | h2⟩ | ⟨h1, h2, h3⟩)
  ·exact ⟨h1, .inl h2⟩
  ·exact ⟨h1, .inr ⟨h2.1, .inl h2.2⟩⟩
  ·exact ⟨h1, .inr ⟨h2, .inr h3⟩⟩
 ·rintro ⟨h1, h2 | ⟨h2, h3 | h3⟩⟩
  ·exact .inl ⟨h1, .inl h2⟩
  ·exact .inl ⟨h1, .inr ⟨h2, h3⟩⟩
  ·exact .inr ⟨h1, h2, h3⟩
structure RefSolved (w w' : World) (E Bs : List (List Int)) (at_ wide : Nat) (e : Ending) (v : Value) (H : Nat → Bool) : Prop where
 ret : e = .returned v
 row : Row w' v (ints ((List.range wide).filter H))
 tells : ∀ y, H y = true ↔ y < wide ∧ ∃ j, j < Bs.length ∧ Dg.R (fnL E) Bs.length at_ j ∧ (y : Int) ∈ fnL Bs j
 below : Below w.heap.size w w'
set_option maxHeartbeats 16000000 in
theorem refsolve_any (v v' : Value) (E Bs : List (List Int)) (at_ wide : Nat) (w : World) (hE : RowsL w v E) (hB : RowsL w v' Bs) (hn : Bs.length ≤ 1099511627776) (ha : at_ < Bs.length) (hw : wide ≤ 100) :
  Calls Tryd.prog 13 #[v, v', .int .i64 (at_ : Int), .int .i64 (wide : Int)] w fun e w' => ∃ u H, RefSolved w w' E Bs at_ wide e u H := by
 have KB := Lib.hid hB
 have hmk := fun wx => run_make_bools wide (by omega) wx
 obtain ⟨i0, hi, hz0, hz1, hz2⟩ := info_parts Tryd.infoInt
 obtain ⟨A, c, rfl⟩ := hB.shape
 have hreach := Lib.hid (reach_any v E Bs.length at_ w hE hn ha)
 have hmax : (if (0 : Int) < (wide : Int) then (wide : Int) else 0) = (wide : Int) := by
  by_cases h : (0 : Int) < (wide : Int)
  ·rw [if_pos h]
  ·rw [if_neg h]; omega
 have hmaxv : (if (0 : Int) < (wide : Int) then Value.int .i64 (wide : Int) else Value.int .i64 0) = Value.int .i64 (wide : Int) := by
  by_cases h : (0 : Int) < (wide : Int)
  ·rw [if_pos h]
  ·rw [if_neg h, show (wide : Int) = 0 by omega]
 have hmaxv2 : (if 0 < wide then Value.int .i64 (wide : Int) else Value.int .i64 0) = Value.int .i64 (wide : Int) := by
  by_cases h : 0 < wide
  ·rw [if_pos h]
  ·rw [if_neg h, show (wide : Int) = 0 by omega]
 have hmax2 : (if 0 < wide then (wide : Int) else 0) = (wide : Int) := by
  by_cases h : 0 < wide
  ·rw [if_pos h]
  ·rw [if_neg h]; omega
 have hw1 : ¬ (wide : Int) < 0 := by omega
 clear hE hB
 go_enter Tryd.func13, Tryd.ntmps13
 go_wp2_with fail
 refine hreach.out.mono ?_
 rintro e w1 ⟨L, cL, S, rfl, hoR, htl, hb1⟩
 have KR := Lib.hid hoR
 have Ktl := Lib.hid htl
 have Kb1 := Lib.hid hb1
 have hsz1 := hb1.size
 have hLlt := (hoR.lt L rfl).2
 clear hoR htl hb1 hreach
 go_wp2_with fail
 have hrow0 := bls_own (B := w1.heap.size) (n := wide) (fun _ => false) w1 (Nat.le_refl _) (by omega)
 have hb0 : Below w1.heap.size w1 (w1.alloc (.cells (bls wide (fun _ => false)).toArray 4)) := (Below.refl _ _).alloc (Nat.le_refl _) _
 obtain ⟨w2, hw2⟩ : ∃ w2, w2 = w1.alloc (.cells (bls wide (fun _ => false)).toArray 4) := ⟨_, rfl⟩
 rw [← hw2] at hrow0 hb0 ⊢
 obtain ⟨lb, hlb⟩ : ∃ lb, lb = w1.heap.size := ⟨_, rfl⟩
 have hKR2 := own_below KR.out hb0 (fun k hk => by simp [Value.ownBlock] at hk; omega)
 have hBB : Below w.heap.size w w2 := Kb1.out.trans (below_le hb0 hsz1)
 rw [← hlb] at hrow0 ⊢
 have hLb : L < lb := by omega
 have hwb : w.heap.size ≤ lb := by omega
 have Krow0 := Lib.hid hrow0
 have KR2 := Lib.hid hKR2
 have KB0 := Lib.hid hBB
 clear hrow0 hb0 hw2 hlb hKR2 hBB hmk hmax hmax2 hmaxv hmaxv2
 go_loopg [11] Bs.length (fun q t11 wr => ∃ (i : Nat) (H : Nat → Bool), t11 = .int .i64 (i : Int) ∧ i ≤ Bs.length ∧ q = Bs.length - i ∧ wr.ownsRow lb 4 1 (.slice (some ⟨lb, 0, none⟩) wide wide) wide (bls wide H) ∧ wr.ownsRow w.heap.size 4 1 (.slice (some ⟨L, 0, none⟩) Bs.length cL) Bs.length (bls Bs.length S) ∧ Below w.heap.size w wr ∧ Has E Bs Bs.length at_ wide i 0 H)
 case atStart => exact ⟨0, _, rfl, by omega, by omega, Krow0.out, KR2.out, KB0.out, Has.zero _ _ _ _ _⟩
 case round =>
  obtain ⟨i, H, rfl, hik, hq, ho, hr, hb, hh⟩ := hrel
  have Ko := Lib.hid ho
  have Kr := Lib.hid hr
  have Kb := Lib.hid hb
  have Kh := Lib.hid hh
  have Kq := Lib.hid hq
  clear ho hr hb hh hq Krow0 KR2 KB0
  by_cases hlt : i < Bs.length
  ·obtain ⟨l, hl⟩ : ∃ l, Bs[i]? = some l := ⟨_, List.getElem?_eq_getElem hlt⟩
   have hfl := fnL_get hl
   obtain ⟨b, o, c', A', c'', he, hc, hrow⟩ := (KB.out.below Kb.out).cell hl
   simp only [Value.slice.injEq, true_and] at he
   obtain ⟨rfl, rfl⟩ := he
   have q1 : (0 : Int) ≤ (i : Int) := by omega
   have q2 : (i : Int) < (Bs.length : Int) := by omega
   have q3 : ((i : Int)).toNat = i := by omega
   have Kl := Lib.hid hl
   have Kfl := Lib.hid hfl
   have hlbn : l.length ≤ 9223372036854775807 := by obtain ⟨_, _, _, _, h⟩ := hrow; exact h.len
   clear hl hfl hc hrow
   go_wp2_with fail
   go_loopg [12] l.length (fun q t12 wx => ∃ (k : Nat) (H' : Nat → Bool), t12 = .int .i64 (k : Int) ∧ k ≤ l.length ∧ q = l.length - k ∧ wx.ownsRow lb 4 1 (.slice (some ⟨lb, 0, none⟩) wide wide) wide (bls wide H') ∧ wx.ownsRow w.heap.size 4 1 (.slice (some ⟨L, 0, none⟩) Bs.length cL) Bs.length (bls Bs.length S) ∧ Below w.heap.size w wx ∧ Has E Bs Bs.length at_ wide i k H')
   case atStart => exact ⟨0, H, rfl, by omega, by omega, Ko.out, Kr.out, Kb.out, Kh.out⟩
   case round =>
    obtain ⟨k, H2, rfl, hk, hq2, ho2, hr2, hb2, hh2⟩ := hrel
    have Ko2 := Lib.hid ho2
    have Kr2 := Lib.hid hr2
    have Kb2 := Lib.hid hb2
    have Kh2 := Lib.hid hh2
    have Kq2 := Lib.hid hq2
    obtain ⟨b3, o3, c3, A3, c4, he3, hc3, hrow3⟩ := (KB.out.below hb2).cell Kl.out
    simp only [Value.slice.injEq, Option.some.injEq, Addr.mk.injEq, true_and, and_true] at he3
    obtain ⟨⟨rfl, rfl⟩, rfl⟩ := he3
    clear hb2 hh2 hq2 Ko Kr Kb Kh
    by_cases hkl : k < l.length
    ·obtain ⟨b4, o4, rfl, _, cx⟩ := hrow3.cells hkl
     obtain ⟨x, hx⟩ : ∃ x, l[k]? = some x := ⟨_, List.getElem?_eq_getElem hkl⟩
     rw [show l.getD k 0 = x by rw [List.getD, hx]; rfl] at cx
     have ci : wr.cell? ⟨L, i, none⟩ = some (.bool (S i)) := by rw [hr2.cellAt i (by omega), bls_get _ hlt]
     have r1 : (0 : Int) ≤ (k : Int) := by omega
     have r2 : (k : Int) < (l.length : Int) := by omega
     have r3 : ((k : Int)).toNat = k := by omega
     have Kx := Lib.hid (show (fnL Bs i)[k]? = some x by rw [Kfl.out]; exact hx)
     clear hx hrow3 hr2
     by_cases hS : S i = true
     ·rw [hS] at ci
      have KS := Lib.hid ((Ktl.out i).1 hS)
      clear hS
      by_cases hx0 : 0 ≤ x
      ·by_cases hxn : x < (wide : Int)
       ·obtain ⟨t, rfl⟩ : ∃ t : Nat, x = (t : Int) := ⟨x.toNat, by omega⟩
        have htn : t < wide := by omega
        have u3 : ((t : Int)).toNat = t := by omega
        have ct : wr.cell? ⟨lb, t, none⟩ = some (.bool (H2 t)) := by rw [ho2.cellAt t (by omega), bls_get _ htn]
        have zt := ho2.frozenAt t
        clear ho2
        go_wp2_with fail
        go_roundg (l.length - (k + 1))
        case measure => have := Kq2.out; omega
        case rel =>
         have h1 := (Ko2.out.stored t (.bool true)).1
         rw [bls_set] at h1
         refine ⟨k + 1, Dg.upd H2 t true, by go_num, by omega, rfl, h1, ownsRow_setCell_other Kr2.out (by intro e; simp [Value.ownBlock] at e; omega) _, below_set Kb2.out hwb _, Kh2.out.step Kx.out (fun y => ?_)⟩
         by_cases he : y = t
         ·subst he
          rw [Dg.upd_self]
          exact ⟨fun _ => .inr ⟨htn, KS.out, rfl⟩, fun _ => rfl⟩
         ·rw [Dg.upd_other _ _ he]
          exact ⟨.inl, fun h => h.elim id (fun h => absurd (by omega) he)⟩
       ·clear ho2
        go_wp2_with fail
        go_roundg (l.length - (k + 1))
        case measure => have := Kq2.out; omega
        case rel => exact ⟨k + 1, H2, by go_num, by omega, rfl, Ko2.out, Kr2.out, Kb2.out, Kh2.out.step Kx.out (fun y => ⟨.inl, fun h => h.elim id (fun h => absurd h.2.2 (by have := h.1; omega))⟩)⟩
      ·clear ho2
       go_wp2_with fail
       go_roundg (l.length - (k + 1))
       case measure => have := Kq2.out; omega
       case rel => exact ⟨k + 1, H2, by go_num, by omega, rfl, Ko2.out, Kr2.out, Kb2.out, Kh2.out.step Kx.out (fun y => ⟨.inl, fun h => h.elim id (fun h => absurd h.2.2 (by omega))⟩)⟩
     ·have KSf := Lib.hid (fun h => hS ((Ktl.out i).2 h))
      have hSf : S i = false := by simpa using hS
      rw [hSf] at ci
      clear hS hSf ho2
      go_wp2_with fail
      go_roundg (l.length - (k + 1))
      case measure => have := Kq2.out; omega
      case rel => exact ⟨k + 1, H2, by go_num, by omega, rfl, Ko2.out, Kr2.out, Kb2.out, Kh2.out.step Kx.out (fun y => ⟨.inl, fun h => h.elim id (fun h => absurd h.2.1 KSf.out)⟩)⟩
    ·obtain rfl : k = l.length := by omega
     clear ho2 hr2 hrow3
     go_wp2_with fail
     go_roundg (Bs.length - (i + 1))
     case measure => have := Kq.out; omega
     case rel =>
      refine ⟨i + 1, H2, by go_num, by omega, rfl, Ko2.out, Kr2.out, Kb2.out, ?_⟩
      have := Kh2.out
      rw [← Kfl.out] at this
      exact this.next
  ·obtain rfl : i = Bs.length := by omega
   obtain ⟨wo, rfl⟩ : ∃ wo : World, wo = wr := ⟨_, rfl⟩
   have hBr : w.heap.size ≤ wo.heap.size := Kb.out.size
   go_wp2_with fail
   go_loopg [13, 14] wide (fun q t13 t14 wx => ∃ y : Nat, t14 = .int .i64 (y : Int) ∧ y ≤ wide ∧ q = wide - y ∧ wx.ownsRow wo.heap.size 3 1 t13 ((List.range y).filter H).length (valsOf ((List.range y).filter H)) ∧ Below wo.heap.size wo wx)
   case atStart => exact ⟨0, rfl, by omega, by omega, World.ownsRow_nil _ _ _ _, Below.refl _ _⟩
   case round =>
    obtain ⟨y, rfl, hy, hq3, ho3, hb3⟩ := hrel
    have Ko3 := Lib.hid ho3
    have Kb3 := Lib.hid hb3
    have Kq3 := Lib.hid hq3
    obtain ⟨ao, co, rfl, _⟩ := own_slice ho3
    have hsz3 := hb3.size
    have hhas := own_below Ko.out hb3 (fun k hk => (Ko.out.lt k hk).2)
    have hfl : ((List.range y).filter H).length ≤ y := by
     have := List.length_filter_le H (List.range y)
     simpa using this
    obtain ⟨M, hM⟩ : ∃ M, M = (List.range y).filter H := ⟨_, rfl⟩
    rw [← hM] at Ko3 ho3 hfl ⊢
    have KM := Lib.hid hM
    clear hq3 ho3 hb3 hM
    by_cases hlt3 : y < wide
    ·have cy : wr.cell? ⟨lb, y, none⟩ = some (.bool (H y)) := by rw [hhas.cellAt y (by omega), bls_get _ hlt3]
     have q1 : (0 : Int) ≤ (y : Int) := by omega
     have q2 : (y : Int) < (wide : Int) := by omega
     have q3 : ((y : Int)).toNat = y := by omega
     clear hhas
     by_cases hH : H y = true
     ·have KH := Lib.hid hH
      rw [hH] at cy
      clear hH
      go_wp2_with (at_builtin; refine wpList_append_own2 _ rfl (.tmp 81) (.tmp 83) 28 rfl wo.heap.size 3 i0 _ 1 8 Tryd.underlying28 hi hz0 hz1 hz2 rfl (by decide) (.slice ao M.length co) M.length (valsOf M) rfl (Ko3.out.alloc _) ⟨wr.heap.size, 0, none⟩ 1 1 [.int .i64 (y : Int)] rfl rfl (cell_one_new _ _ _) (by simp [Value.oneCell']) (by unfold maxLen; omega) (by omega) (by simp; omega) ?_; intro v' w4 hown hgrow hsn)
      obtain ⟨a4, c4, rfl, _⟩ := own_slice hown
      have hb4 : Below wo.heap.size wo w4 := (Kb3.out.alloc hsz3 _).grown hgrow (by simp; omega) (fun q hq => (Ko3.out.lt q hq).1)
      have Kown := Lib.hid hown
      have Kb4 := Lib.hid hb4
      clear hown hgrow hsn hb4
      go_wp2_with fail
      go_roundg (wide - (y + 1))
      case measure => have := Kq3.out; omega
      case rel =>
       have hM2 : (List.range (y + 1)).filter H = M ++ [y] := by rw [List.range_succ, List.filter_append, KM.out]; simp [KH.out]
       refine ⟨y + 1, by go_num, by omega, rfl, ?_, Kb4.out⟩
       rw [hM2, valsOf_snoc, List.length_append]
       exact Kown.out
     ·have hHf : H y = false := by simpa using hH
      have KH := Lib.hid hHf
      rw [hHf] at cy
      clear hH hHf
      go_wp2_with fail
      go_roundg (wide - (y + 1))
      case measure => have := Kq3.out; omega
      case rel =>
       have hM2 : (List.range (y + 1)).filter H = M := by rw [List.range_succ, List.filter_append, KM.out]; simp [KH.out]
       refine ⟨y + 1, by go_num, by omega, rfl, ?_, Kb3.out⟩
       rw [hM2]
       exact Ko3.out
    ·obtain rfl : y = wide := by omega
     clear hhas
     go_wp2_with fail
     go_ret
     have hMM := KM.out
     clear KM
     subst hMM
     have hrow := Ko3.out
     rw [valsOf_ints] at hrow
     refine ⟨_, H, rfl, row_own hrow (fun x hx => ?_), fun z => ?_, Kb.out.trans (below_le Kb3.out hBr)⟩
     ·simp only [ints, List.mem_map, List.mem_filter, List.mem_range] at hx
      obtain ⟨z, ⟨hz, _⟩, rfl⟩ := hx
      omega
     ·rw [Kh.out z]
      constructor
      ·rintro ⟨h1, ⟨j, h2, h3⟩ | ⟨_, h3⟩⟩
       ·exact ⟨h1, j, h2, h3⟩
       ·simp at h3
      ·rintro ⟨h1, j, h2, h3⟩
       exact ⟨h1, .inl ⟨j, h2, h3⟩⟩
end Go.Proofs.YtdlplmbdkjkeiaaDoor
