import Derived.Test.YtdlplmbdkjkeiaaDoorDgK
import Derived.Test.YtdlplmbdkjkeiaaDoorSetG
import Derived.Deep.Matrix
namespace Go.Proofs.YtdlplmbdkjkeiaaDoor
set_option maxRecDepth 100000
open Go.RowKit Go.ChangeShapes Go.WideShapes Go.ChangeAt
open BitKit
set_option linter.unusedVariables false
set_option linter.unusedSimpArgs false
def fnL (LL : List (List Int)) : Nat → List Int := fun i => LL.getD i []
structure RowsL (w : World) (v : Value) (LL : List (List Int)) : Prop where
 ex : ∃ A c RV, v = .slice A LL.length c ∧ RV.length = LL.length ∧ Rows w w.heap.size A RV (fnL LL)
 len : LL.length ≤ 9223372036854775807
theorem RowsL.below {w w' : World} {v : Value} {LL : List (List Int)} (h : RowsL w v LL) (hb : Below w.heap.size w w') : RowsL w' v LL := by
 obtain ⟨A, c, RV, h1, h2, h3⟩ := h.ex
 exact ⟨⟨A, c, RV, h1, h2, (h3.below hb).wide hb.size⟩, h.len⟩
theorem RowsL.drewN {w : World} {v : Value} {LL : List (List Int)} (h : RowsL w v LL) (k : Nat) : RowsL (w.drewN k) v LL := h.below (below_drewN (Below.refl _ _) k)
theorem RowsL.nil (w : World) (c : Nat) : RowsL w (.slice none 0 c) [] := ⟨⟨none, c, [], rfl, rfl, (fun i rv h => by simp at h), (fun i rv h => by simp at h)⟩, by simp⟩
theorem RowIn.row {w : World} {B : Nat} {v : Value} {l : List Int} (h : RowIn w B v l) (hB : B ≤ w.heap.size) : Row w v l := by
 obtain ⟨A, c, h1, h2, h3⟩ := h
 exact ⟨⟨A, c, h1, h3.upto hB⟩⟩
theorem RowsL.cell {w : World} {v : Value} {LL : List (List Int)} (h : RowsL w v LL) {i : Nat} {l : List Int} (hi : LL[i]? = some l) :
  ∃ b o c A' c', v = .slice (some ⟨b, o, none⟩) LL.length c ∧ w.cell? ⟨b, o + i, none⟩ = some (.slice A' l.length c') ∧ RowIn w w.heap.size (.slice A' l.length c') l := by
 obtain ⟨A, c, RV, rfl, h2, h3⟩ := h.ex
 have hlt := (List.getElem?_eq_some_iff.1 hi).1
 have hrv : RV[i]? = some RV[i] := List.getElem?_eq_getElem (by omega)
 obtain ⟨b, o, rfl, _, hc⟩ := h3.lies i _ hrv
 have hr := h3.row i _ hrv
 have hl : fnL LL i = l := by unfold fnL; rw [List.getD, hi]; rfl
 rw [hl] at hr
 obtain ⟨A', c', e1, e2, e3⟩ := hr
 rw [e1] at hc
 exact ⟨b, o, c, A', c', rfl, hc, A', c', rfl, e2, e3⟩
theorem RowsL.shape {w : World} {v : Value} {LL : List (List Int)} (h : RowsL w v LL) : ∃ A c, v = .slice A LL.length c := by
 obtain ⟨A, c, RV, h1, _⟩ := h.ex
 exact ⟨A, c, h1⟩
theorem RowIn.own {w : World} {B n : Nat} {v : Value} {l : List Int} (h : w.ownsRow B 3 1 v n (vals l)) (hs : Small l) : RowIn w w.heap.size v l := by
 have hl : n = l.length := by have := h.1; simpa [vals_length] using this.symm
 subst hl
 obtain ⟨A, c, h1, h2⟩ := (row_own h hs).shape
 obtain ⟨A', c', h3, h4⟩ := own_slice h
 rw [h1] at h3
 simp only [Value.slice.injEq, true_and] at h3
 obtain ⟨rfl, rfl⟩ := h3
 exact ⟨A, c, h1, h4, h2⟩
theorem RowsL.own {w : World} {B : Nat} {v : Value} {PV : List Value} {LL : List (List Int)} (h : w.ownsRow B 28 1 v PV.length PV) (hl : PV.length = LL.length) (he : ∀ (i : Nat) (l : List Int) (u : Value), LL[i]? = some l → PV[i]? = some u → RowIn w w.heap.size u l) : RowsL w v LL := by
 have hcase := own_shape h
 rcases hcase with ⟨rfl, h0, h1⟩ | ⟨g, cap, rfl, hc, hm, hb, hlt⟩
 ·have : LL = [] := List.eq_nil_of_length_eq_zero (by omega)
  subst this
  exact RowsL.nil w 0
 ·refine ⟨⟨_, cap, PV, by rw [← hl], hl, fun i rv hi => ⟨g, 0, rfl, hlt, ?_⟩, fun i rv hi => ?_⟩, ?_⟩
  ·have hlt' := (List.getElem?_eq_some_iff.1 hi).1
   rw [Nat.zero_add, h.cellAt i (by omega)]; exact hi
  ·have hlt' := (List.getElem?_eq_some_iff.1 hi).1
   have h2 : LL[i]? = some (fnL LL i) := by
    unfold fnL
    rw [List.getD, List.getElem?_eq_getElem (by omega)]; rfl
   exact he i _ rv h2 hi
  ·have := maxLen_le (Nat.le_trans hc hm); omega
section
variable {H : Type} {enc : TypeId × Value → H} {P : Program} {W : World} {base : Nat} {v : Value} {d : DataW H} {p : List MemPlace}
theorem open_rowsl {t e q : TypeId} (ht : P.underlying t = some (.slice e)) (he : P.underlying e = some (.slice q)) (hq : P.underlying q = some (.int .i64)) (ce : P.cellsOf e = 1) (cq : P.cellsOf q = 1)
  (hv : Value.okWide P W .any base t v) (h : DataW.Trod enc P W 0 (fun _ => true) true t v d p) : ∃ LL, RowsL W v LL := by
 obtain ⟨A, n, c, rfl⟩ := okWide_slice ht hv
 obtain ⟨fuel, hf⟩ := h
 rcases Go.Deep.open_int_rows ht he hq ce cq hf with ⟨hcs, _⟩ | ⟨a, len, cap, A', L, C, Z, hcs, hb, hl, hm, _, hx⟩
 ·simp [Value.cells] at hcs
  obtain ⟨rfl, rfl, rfl⟩ := hcs
  exact ⟨[], RowsL.nil W 0⟩
 ·simp [Value.cells] at hcs
  obtain ⟨rfl, rfl, rfl⟩ := hcs
  let LL : List (List Int) := (List.range n).map fun r => (Z r).take (L r)
  have hLL : ∀ i, i < n → fnL LL i = (Z i).take (L i) := fun i hi => by simp [fnL, LL, List.getD, hi]
  have hlen : LL.length = n := by simp [LL]
  refine ⟨LL, ⟨some a, c, (List.range n).map fun r => .slice (A' r) (L r) (C r), by rw [hlen], by simp [LL], fun i rv hi => ?_, fun i rv hi => ?_⟩, by have := maxLen_le (Nat.le_trans hl hm); omega⟩
  ·have hlt : i < n := by have := (List.getElem?_eq_some_iff.1 hi).1; simpa using this
   simp [hlt] at hi
   subst hi
   obtain ⟨h1, _⟩ := hx i (by omega)
   obtain ⟨g00, _⟩ := hx 0 (by omega)
   obtain ⟨ab, ao, rfl, hlt2⟩ := at_zero (a := a) (by simpa [Addr.add] using g00)
   rw [Go.WideShapes.add_plain] at h1
   exact ⟨ab, ao, rfl, hlt2, h1⟩
  ·have hlt : i < n := by have := (List.getElem?_eq_some_iff.1 hi).1; simpa using this
   simp [hlt] at hi
   subst hi
   rw [hLL i hlt]
   obtain ⟨_, h2, h3, h4, h5, h6, h7⟩ := hx i (by omega)
   have hzl : ((Z i).take (L i)).length = L i := by rw [List.length_take]; omega
   refine ⟨A' i, C i, by rw [hzl], by rw [hzl]; exact h2, ?_⟩
   rw [hzl]
   have hget : ∀ j, j < L i → ((Z i).take (L i)).getD j 0 = (Z i).getD j 0 := fun j hj => by
    simp [List.getD, List.getElem?_take, hj]
   refine ⟨fun j hj => ?_, fun j hj => ?_, maxLen_le (Nat.le_trans h2 h3)⟩
   ·rw [hget j hj]
    cases hA : A' i with
    | none => have := h6 hA; omega
    | some a' =>
     obtain ⟨_, h8⟩ := h7 a' hA
     have g00 := h8 0 (by omega)
     have g := h8 j (by omega)
     obtain ⟨ab, ao, rfl, hlt2⟩ := at_zero (a := a') (by simpa [Addr.add] using g00)
     rw [Go.WideShapes.add_plain] at g
     exact ⟨ab, ao, rfl, hlt2, g⟩
   ·rw [hget j hj]
    have hj' : j < (Z i).length := by omega
    have hmem : (Z i).getD j 0 ∈ Z i := by
     rw [List.getD, List.getElem?_eq_getElem hj']; exact List.getElem_mem hj'
    simpa [Lit.wf, IntKind.min, IntKind.max, IntKind.signed, IntKind.bits] using h5 _ hmem
end
def Few (E Bs : List (List Int)) : Prop := E.length ≤ 25 ∧ Bs.length ≤ 25 ∧ (∀ l ∈ E, l.length ≤ 10) ∧ ∀ l ∈ Bs, l.length ≤ 10
def TellsIf (e : Ending) (p : Prop) : Prop := ∃ r, e = .returned (.bool r) ∧ (r = true → p)
def TenTo (LL : List (List Int)) (k : Nat) : Prop := ∀ l ∈ LL.take k, l.length ≤ 10
theorem TenTo.succ {LL : List (List Int)} {k : Nat} {l : List Int} (h : TenTo LL k) (hl : LL[k]? = some l) (h10 : l.length ≤ 10) : TenTo LL (k + 1) := by
 intro x hx
 rw [List.take_add_one, hl] at hx
 simp only [Option.toList_some, List.mem_append, List.mem_cons, List.not_mem_nil, or_false] at hx
 rcases hx with hx | rfl
 ·exact h x hx
 ·exact h10
set_option maxHeartbeats 8000000 in
theorem few_any (v v' : Value) (E Bs : List (List Int)) (w : World) (hE : RowsL w v E) (hB : RowsL w v' Bs) :
  Calls Tryd.prog 10 #[v, v'] w fun e w' => TellsIf e (Few E Bs) ∧ w' = w := by
 have KE := Lib.hid hE
 have KB := Lib.hid hB
 have hEl := hE.len
 have hBl := hB.len
 obtain ⟨A, c, rfl⟩ := hE.shape
 obtain ⟨A2, c2, rfl⟩ := hB.shape
 clear hE hB
 go_enter Tryd.func10, Tryd.ntmps10
 by_cases h1 : (25 : Int) < (E.length : Int)
 ·go_wp2_with fail
  go_ret
  exact ⟨⟨false, rfl, (fun h => by cases h)⟩, rfl⟩
 ·by_cases h2 : (25 : Int) < (Bs.length : Int)
  ·go_wp2_with fail
   go_ret
   exact ⟨⟨false, rfl, (fun h => by cases h)⟩, rfl⟩
  ·go_wp2_with fail
   go_loopw [5] (fun i wr => ∃ k : Nat, k ≤ E.length ∧ i = .int .i64 (k : Int) ∧ TenTo E k ∧ wr = w) (fun i _ => E.length - (intOf i).toNat)
   case atStart => exact ⟨0, by omega, rfl, (fun l hl => by simp at hl), rfl⟩
   case round =>
    obtain ⟨k, hk, rfl, ht, rfl⟩ := hrel
    have KT := Lib.hid ht
    clear ht
    by_cases hlt : k < E.length
    ·obtain ⟨l, hl⟩ : ∃ l, E[k]? = some l := ⟨_, List.getElem?_eq_getElem hlt⟩
     obtain ⟨b, o, c', A', c'', he, hc, _⟩ := KE.out.cell hl
     simp only [Value.slice.injEq, true_and] at he
     obtain ⟨rfl, rfl⟩ := he
     have q1 : (0 : Int) ≤ (k : Int) := by omega
     have q2 : (k : Int) < (E.length : Int) := by omega
     have q3 : ((k : Int)).toNat = k := by omega
     have Kl := Lib.hid hl
     clear hl
     by_cases h10 : (10 : Int) < (l.length : Int)
     ·go_wp2_with fail
      go_ret
      exact ⟨⟨false, rfl, (fun h => by cases h)⟩, rfl⟩
     ·go_wp2_with fail
      go_roundw
      case rel => exact ⟨k + 1, by omega, by go_num, KT.out.succ Kl.out (by omega), trivial⟩
      case measure => simp [intOf]; omega
    ·obtain rfl : k = E.length := by omega
     go_wp2_with fail
     go_loopw [6] (fun i wr' => ∃ k : Nat, k ≤ Bs.length ∧ i = .int .i64 (k : Int) ∧ TenTo Bs k ∧ wr' = wr) (fun i _ => Bs.length - (intOf i).toNat)
     case atStart => exact ⟨0, by omega, rfl, (fun l hl => by simp at hl), rfl⟩
     case round =>
      obtain ⟨j, hj, rfl, ht2, rfl⟩ := hrel
      have KT2 := Lib.hid ht2
      clear ht2
      by_cases hlt2 : j < Bs.length
      ·obtain ⟨l, hl⟩ : ∃ l, Bs[j]? = some l := ⟨_, List.getElem?_eq_getElem hlt2⟩
       obtain ⟨b, o, c', A', c'', he, hc, _⟩ := KB.out.cell hl
       simp only [Value.slice.injEq, true_and] at he
       obtain ⟨rfl, rfl⟩ := he
       have q1 : (0 : Int) ≤ (j : Int) := by omega
       have q2 : (j : Int) < (Bs.length : Int) := by omega
       have q3 : ((j : Int)).toNat = j := by omega
       have Kl := Lib.hid hl
       clear hl
       by_cases h10 : (10 : Int) < (l.length : Int)
       ·go_wp2_with fail
        go_ret
        exact ⟨⟨false, rfl, (fun h => by cases h)⟩, rfl⟩
       ·go_wp2_with fail
        go_roundw
        case rel => exact ⟨j + 1, by omega, by go_num, KT2.out.succ Kl.out (by omega), trivial⟩
        case measure => simp [intOf]; omega
      ·obtain rfl : j = Bs.length := by omega
       go_wp2_with fail
       go_ret
       refine ⟨⟨true, rfl, fun _ => ⟨by omega, by omega, ?_, ?_⟩⟩, rfl⟩
       ·have := KT.out; unfold TenTo at this; rwa [List.take_length] at this
       ·have := KT2.out; unfold TenTo at this; rwa [List.take_length] at this
end Go.Proofs.YtdlplmbdkjkeiaaDoor
