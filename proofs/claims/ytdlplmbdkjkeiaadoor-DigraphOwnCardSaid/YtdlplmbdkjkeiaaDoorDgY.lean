import Derived.Test.YtdlplmbdkjkeiaaDoorDgX
import Derived.Test.YtdlplmbdkjkeiaaDoorDgR
namespace Go.Proofs.YtdlplmbdkjkeiaaDoor
set_option maxRecDepth 100000
open Go.RowKit
set_option linter.unusedVariables false
set_option linter.unusedSimpArgs false
def Lp (E : List (List Int)) (i : Nat) : Prop := ∃ t, Dg.E (fnL E) E.length i t ∧ Dg.R (fnL E) E.length t i
def LpTo (E : List (List Int)) (i k : Nat) : Prop := ∃ t : Nat, t < E.length ∧ (t : Int) ∈ (fnL E i).take k ∧ Dg.R (fnL E) E.length t i
theorem LpTo.all (E : List (List Int)) (i : Nat) : LpTo E i (fnL E i).length ↔ Lp E i := by
 unfold LpTo Lp Dg.E
 rw [List.take_length]
 exact ⟨fun ⟨t, h1, h2, h3⟩ => ⟨t, ⟨h1, h2⟩, h3⟩, fun ⟨t, ⟨h1, h2⟩, h3⟩ => ⟨t, h1, h2, h3⟩⟩
theorem LpTo.succ {E : List (List Int)} {i k : Nat} {x : Int} (hx : (fnL E i)[k]? = some x) : LpTo E i (k + 1) ↔ LpTo E i k ∨ ∃ t : Nat, t < E.length ∧ (t : Int) = x ∧ Dg.R (fnL E) E.length t i := by
 unfold LpTo
 rw [List.take_add_one, hx]
 simp only [Option.toList_some, List.mem_append, List.mem_cons, List.not_mem_nil, or_false]
 constructor
 ·rintro ⟨t, h1, h2 | h2, h3⟩
  ·exact .inl ⟨t, h1, h2, h3⟩
  ·exact .inr ⟨t, h1, h2, h3⟩
 ·rintro (⟨t, h1, h2, h3⟩ | ⟨t, h1, h2, h3⟩)
  ·exact ⟨t, h1, .inl h2, h3⟩
  ·exact ⟨t, h1, .inr h2, h3⟩
theorem LpTo.zero (E : List (List Int)) (i : Nat) : ¬ LpTo E i 0 := by rintro ⟨t, _, h, _⟩; simp at h
structure RefLoops (w w' : World) (E : List (List Int)) (v : Value) (M : List Nat) (H : Nat → Bool) : Prop where
 own : w'.ownsRow w.heap.size 3 1 v M.length (valsOf M)
 is : M = (List.range E.length).filter H
 tells : ∀ i, i < E.length → (H i = true ↔ Lp E i)
 below : Below w.heap.size w w'
set_option maxHeartbeats 4000000 in
theorem refloops_any (v : Value) (E : List (List Int)) (w : World) (hE : RowsL w v E) (hn : E.length ≤ 1099511627776) :
  Calls Tryd.prog 18 #[v] w fun e w' => ∃ u M H, e = .returned u ∧ RefLoops w w' E u M H := by
 have KE := Lib.hid hE
 obtain ⟨i0, hi, hz0, hz1, hz2⟩ := info_parts Tryd.infoInt
 obtain ⟨A, c, rfl⟩ := hE.shape
 clear hE
 go_enter Tryd.func18, Tryd.ntmps18
 go_wp2_with fail
 go_loopg [3, 4] E.length (fun q t3 t4 wr => ∃ (i : Nat) (H : Nat → Bool) (M : List Nat), t4 = .int .i64 (i : Int) ∧ i ≤ E.length ∧ q = E.length - i ∧ M = (List.range i).filter H ∧ wr.ownsRow w.heap.size 3 1 t3 M.length (valsOf M) ∧ (∀ y, y < i → (H y = true ↔ Lp E y)) ∧ Below w.heap.size w wr)
 case atStart => exact ⟨0, fun _ => false, [], rfl, by omega, by omega, rfl, World.ownsRow_nil _ _ _ _, (fun y hy => absurd hy (by omega)), Below.refl _ _⟩
 case round =>
  obtain ⟨i, H, M, rfl, hin, hq, hM, hO, hH, hB⟩ := hrel
  have hMle : M.length ≤ i := by
   rw [hM]
   exact Nat.le_trans (List.length_filter_le _ _) (by rw [List.length_range]; exact Nat.le_refl _)
  have KM := Lib.hid hM
  have KO := Lib.hid hO
  have KH := Lib.hid hH
  have KB := Lib.hid hB
  have Kq := Lib.hid hq
  have KMle := Lib.hid hMle
  obtain ⟨ao, co, rfl, _⟩ := own_slice hO
  have hszr := hB.size
  clear hM hO hH hB hq hMle
  by_cases hlt : i < E.length
  ·obtain ⟨l, hl⟩ : ∃ l, E[i]? = some l := ⟨_, List.getElem?_eq_getElem hlt⟩
   have Kl := Lib.hid hl
   have Kfl := Lib.hid (fnL_get hl)
   have q1 : (0 : Int) ≤ (i : Int) := by omega
   have q2 : (i : Int) < (E.length : Int) := by omega
   have q3 : ((i : Int)).toNat = i := by omega
   have hlbn : l.length ≤ 9223372036854775807 := by
    obtain ⟨_, _, _, _, _, _, _, hr⟩ := KE.out.cell hl
    obtain ⟨_, _, _, _, h⟩ := hr
    exact h.len
   clear hl
   go_wp2_with fail
   go_loopg [5, 6] l.length (fun q t5 t6 wx => ∃ (k : Nat) (b : Bool), t5 = .bool b ∧ t6 = .int .i64 (k : Int) ∧ k ≤ l.length ∧ q = l.length - k ∧ (b = true ↔ LpTo E i k) ∧ wx.ownsRow w.heap.size 3 1 (.slice ao M.length co) M.length (valsOf M) ∧ Below w.heap.size w wx)
   case atStart => exact ⟨0, false, rfl, rfl, by omega, by omega, ⟨(fun h => by cases h), fun h => absurd h (LpTo.zero E i)⟩, KO.out, KB.out⟩
   case round =>
    obtain ⟨k, b, rfl, rfl, hk, hq2, hb, hO2, hB2⟩ := hrel
    have Kb := Lib.hid hb
    have KO2 := Lib.hid hO2
    have KB2 := Lib.hid hB2
    have Kq2 := Lib.hid hq2
    have hszx := hB2.size
    obtain ⟨b3, o3, c3, A3, c4, he3, hc3, hrow3⟩ := (KE.out.below hB2).cell Kl.out
    simp only [Value.slice.injEq, true_and] at he3
    obtain ⟨rfl, rfl⟩ := he3
    clear hb hO2 hB2 hq2 KO KB
    by_cases hkl : k < l.length
    ·obtain ⟨b4, o4, rfl, _, cx⟩ := hrow3.cells hkl
     obtain ⟨x, hx⟩ : ∃ x, l[k]? = some x := ⟨_, List.getElem?_eq_getElem hkl⟩
     rw [show l.getD k 0 = x by rw [List.getD, hx]; rfl] at cx
     have r1 : (0 : Int) ≤ (k : Int) := by omega
     have r2 : (k : Int) < (l.length : Int) := by omega
     have r3 : ((k : Int)).toNat = k := by omega
     have Ksucc := Lib.hid (LpTo.succ (E := E) (i := i) (k := k) (x := x) (by rw [Kfl.out]; exact hx))
     clear hx hrow3
     by_cases hx0 : 0 ≤ x
     ·by_cases hxn : x < (E.length : Int)
      ·obtain ⟨t, rfl⟩ : ∃ t : Nat, x = (t : Int) := ⟨x.toNat, by omega⟩
       have htn : t < E.length := by omega
       have hreach := Lib.hid (reach_any (.slice (some ⟨b3, o3, none⟩) E.length c) E E.length t wr (KE.out.below KB2.out) hn htn)
       go_wp2_with fail
       refine hreach.out.mono ?_
       rintro e w3 ⟨L, cL, S, rfl, hoR, htl, hb3⟩
       have ci : w3.cell? ⟨L, i, none⟩ = some (.bool (S i)) := by rw [hoR.cellAt i (by omega), bls_get _ hlt]
       have Ktl := Lib.hid htl
       have KO3 := Lib.hid (KO2.out.kept (below_grown hb3) (none_or _))
       have KB3 := Lib.hid (KB2.out.trans (below_le hb3 hszx))
       have Kstep := Lib.hid (show LpTo E i (k + 1) ↔ LpTo E i k ∨ S i = true by
        rw [Ksucc.out, htl i]
        constructor
        ·rintro (h | ⟨u, _, h2, h3⟩)
         ·exact .inl h
         ·obtain rfl : u = t := by omega
          exact .inr h3
        ·rintro (h | h)
         ·exact .inl h
         ·exact .inr ⟨t, htn, rfl, h⟩)
       clear hoR htl hb3 hreach hc3 cx
       cases b
       ·go_wp2_with fail
        go_roundg (l.length - (k + 1))
        case measure => have := Kq2.out; omega
        case rel =>
         refine ⟨k + 1, S i, rfl, by go_num, by omega, rfl, ?_, KO3.out, KB3.out⟩
         rw [Kstep.out, ← Kb.out]
         simp
       ·go_wp2_with fail
        go_roundg (l.length - (k + 1))
        case measure => have := Kq2.out; omega
        case rel =>
         refine ⟨k + 1, true, rfl, by go_num, by omega, rfl, ?_, KO3.out, KB3.out⟩
         rw [Kstep.out, ← Kb.out]
         simp
      ·have hno : LpTo E i (k + 1) ↔ LpTo E i k := by
        rw [Ksucc.out]
        exact ⟨fun h => h.elim id (fun ⟨u, h1, h2, _⟩ => absurd h2 (by omega)), .inl⟩
       have Kno := Lib.hid hno
       clear hno
       go_wp2_with fail
       go_roundg (l.length - (k + 1))
       case measure => have := Kq2.out; omega
       case rel => exact ⟨k + 1, b, rfl, by go_num, by omega, rfl, by rw [Kno.out]; exact Kb.out, KO2.out, KB2.out⟩
     ·have hno : LpTo E i (k + 1) ↔ LpTo E i k := by
       rw [Ksucc.out]
       exact ⟨fun h => h.elim id (fun ⟨u, h1, h2, _⟩ => absurd h2 (by omega)), .inl⟩
      have Kno := Lib.hid hno
      clear hno
      go_wp2_with fail
      go_roundg (l.length - (k + 1))
      case measure => have := Kq2.out; omega
      case rel => exact ⟨k + 1, b, rfl, by go_num, by omega, rfl, by rw [Kno.out]; exact Kb.out, KO2.out, KB2.out⟩
    ·obtain rfl : k = l.length := by omega
     have hfull : b = true ↔ Lp E i := by
      rw [Kb.out, ← LpTo.all E i, Kfl.out]
     have hMM := KM.out
     have hMx := KMle.out
     have hEb : i ≤ 1099511627776 := by omega
     cases b
     ·have Kf : Go.RowKit.Hid (M = (List.range (i + 1)).filter (Dg.upd H i false)) := Lib.hid (by
       rw [List.range_succ, List.filter_append, hMM]
       simp only [List.filter_cons, Dg.upd_self, List.filter_nil, Bool.false_eq_true, if_false, List.append_nil]
       exact List.filter_congr fun y hy => by rw [Dg.upd_other _ _ (Nat.ne_of_lt (List.mem_range.1 hy))])
      have Kfull := Lib.hid hfull
      clear hrow3 hfull hMM hMx
      go_wp2_with fail
      go_roundg (E.length - (i + 1))
      case measure => have := Kq.out; omega
      case rel =>
       refine ⟨i + 1, Dg.upd H i false, M, by go_num, by omega, rfl, Kf.out, KO2.out, fun y hy => ?_, KB2.out⟩
       by_cases he : y = i
       ·subst he; rw [Dg.upd_self]; simpa using Kfull.out
       ·rw [Dg.upd_other _ _ he]; exact KH.out y (by omega)
     ·have Kf : Go.RowKit.Hid (M ++ [i] = (List.range (i + 1)).filter (Dg.upd H i true)) := Lib.hid (by
       rw [List.range_succ, List.filter_append, hMM]
       simp only [List.filter_cons, Dg.upd_self, List.filter_nil, if_true]
       congr 1
       exact List.filter_congr fun y hy => by rw [Dg.upd_other _ _ (Nat.ne_of_lt (List.mem_range.1 hy))])
      have Kfull := Lib.hid hfull
      clear hrow3 hfull hMM
      go_wp2_with (at_builtin; refine wpList_append_own2 _ rfl (.tmp 52) (.tmp 54) 28 rfl w.heap.size 3 i0 _ 1 8 Tryd.underlying28 hi hz0 hz1 hz2 rfl (by decide) (.slice ao M.length co) M.length (valsOf M) rfl (KO2.out.alloc _) ⟨wr.heap.size, 0, none⟩ 1 1 [.int .i64 (i : Int)] rfl rfl (cell_one_new _ _ _) (by simp [Value.oneCell']) (by unfold maxLen; omega) (by omega) (by simp; omega) ?_; intro v' w4 hown hgrow hsn)
      obtain ⟨a4, c4, rfl, _⟩ := own_slice hown
      have hb4 : Below w.heap.size w w4 := (KB2.out.alloc hszx _).grown hgrow (by simp; omega) (fun q hq => (KO2.out.lt q hq).1)
      have Kown := Lib.hid hown
      have Kb4 := Lib.hid hb4
      clear hown hgrow hsn hb4 hMx
      go_wp2_with fail
      go_roundg (E.length - (i + 1))
      case measure => have := Kq.out; omega
      case rel =>
       refine ⟨i + 1, Dg.upd H i true, M ++ [i], by go_num, by omega, rfl, Kf.out, ?_, fun y hy => ?_, Kb4.out⟩
       ·rw [valsOf_snoc, List.length_append]; exact Kown.out
       ·by_cases he : y = i
        ·subst he; rw [Dg.upd_self]; simpa using Kfull.out
        ·rw [Dg.upd_other _ _ he]; exact KH.out y (by omega)
  ·obtain rfl : i = E.length := by omega
   go_wp2_with fail
   go_ret
   exact ⟨_, M, H, rfl, KO.out, KM.out, KH.out, KB.out⟩
end Go.Proofs.YtdlplmbdkjkeiaaDoor
