import Derived.Test.YtjcijffhcmbhnaaDoorTbK
namespace Go.Proofs.YtjcijffhcmbhnaaDoor
set_option maxRecDepth 100000
open Go.RowKit
open BitKit
set_option linter.unusedVariables false
set_option linter.unusedSimpArgs false
set_option maxHeartbeats 1000000 in
theorem dense_any (v : Value) (R : List (List Int)) (w : World) (h : RowsL w v R) (hS : Short R) :
  Calls Tryd.prog 17 #[v] w fun e w' => e = .returned (.int .i64 ((Tb.dense R : Nat) : Int)) ∧ Below w.heap.size w w' := by
 have KR := Lib.hid h
 have KS := Lib.hid hS
 have hR25 := hS.1
 obtain ⟨A, c, rfl⟩ := h.shape
 clear h hS
 go_enter Tryd.func17, Tryd.ntmps17
 go_wp2_with fail
 go_loopg [3, 8] R.length (fun q t3 t8 wr => ∃ k d : Nat, t8 = .int .i64 (k : Int) ∧ t3 = .int .i64 (d : Int) ∧ k ≤ R.length ∧ q = R.length - k ∧ d = Tb.dense (R.take k) ∧ d ≤ 25 * k ∧ Below w.heap.size w wr)
 case atStart => exact ⟨0, 0, rfl, rfl, by omega, by omega, rfl, by omega, Below.refl _ _⟩
 case round =>
  obtain ⟨k, d, rfl, rfl, hk, hq, hd, hdl, hb⟩ := hrel
  have Kd := Lib.hid hd
  have Kb := Lib.hid hb
  have Kq := Lib.hid hq
  have hszr := hb.size
  clear hd hb hq
  by_cases hlt : k < R.length
  ·obtain ⟨r, hr⟩ : ∃ r, R[k]? = some r := ⟨_, List.getElem?_eq_getElem hlt⟩
   have hr25 := KS.out.2 r (List.mem_of_getElem? hr)
   obtain ⟨b, o, c', A', c'', he, hc0, hrow0⟩ := KR.out.cell hr
   have hc := (Kb.out.cell (p := ⟨b, o + k, none⟩) (cell_spot hc0).1).trans hc0
   simp only [Value.slice.injEq, true_and] at he
   obtain ⟨rfl, rfl⟩ := he
   have q1 : (0 : Int) ≤ (k : Int) := by omega
   have q2 : (k : Int) < (R.length : Int) := by omega
   have q3 : ((k : Int)).toNat = k := by omega
   have q4 : (d : Int) ≤ 1000 := by omega
   have q5 : (0 : Int) ≤ (d : Int) := by omega
   have Kcol := Lib.hid (columns_any A' c'' w.heap.size r wr (hrow0.below Kb.out) hszr (by omega))
   have hcl := Tb.cols_length r
   have hnz := Tb.nz_le r
   have Ktk := Lib.hid (Tb.take_snoc hr)
   have Kcl := Lib.hid hcl
   clear hr hc0 hrow0 hcl
   go_wp2_with fail
   refine Kcol.out.mono ?_
   rintro e w2 ⟨vc, rfl, hC, hb2⟩
   obtain ⟨ac, cc, rfl⟩ := hC.shape
   have Kb2 := Lib.hid (Kb.out.trans (below_le hb2 hszr))
   rw [ints_length, Kcl.out]
   have q6 : ((Tb.nz r : Nat) : Int) ≤ 25 := by omega
   clear hC hb2
   go_wp2_with fail
   go_roundg (R.length - (k + 1))
   case measure => have := Kq.out; omega
   case rel =>
    refine ⟨k + 1, d + Tb.nz r, by go_num, by go_num, by omega, rfl, ?_, by omega, Kb2.out⟩
    rw [Ktk.out, Tb.dense_snoc, ← Kd.out]
  ·obtain rfl : k = R.length := by omega
   rw [List.take_length] at Kd
   go_wp2_with fail
   go_ret
   exact ⟨by rw [← Kd.out]; rfl, Kb.out⟩
theorem cells_any (v1 bv nv ov : Value) (n c : Nat) (a : Option Addr) (h : nv = .slice a n c) (w : World) :
  Calls Tryd.prog 16 #[.agg #[v1, bv, nv, ov]] w fun e w' => e = .returned (.int .i64 (n : Int)) ∧ Below w.heap.size w w' := by
 subst h
 go_enter Tryd.func16, Tryd.ntmps16
 go_wp2_with fail
 go_ret
 exact ⟨rfl, (Below.refl _ _).alloc (Nat.le_refl _) _⟩
def ShortTo (R : List (List Int)) (k : Nat) : Prop := ∀ l ∈ R.take k, l.length ≤ 25
set_option maxHeartbeats 1000000 in
theorem few_any (v : Value) (R : List (List Int)) (w : World) (h : RowsL w v R) :
  Calls Tryd.prog 9 #[v] w fun e w' => Tells e (Short R) ∧ w' = w := by
 have KR := Lib.hid h
 have hRl := h.len
 obtain ⟨A, c, rfl⟩ := h.shape
 clear h
 go_enter Tryd.func9, Tryd.ntmps9
 by_cases h25 : (25 : Int) < (R.length : Int)
 ·go_wp2_with fail
  go_ret
  exact ⟨Tells.no rfl (fun hs => by have := hs.1; omega), rfl⟩
 ·have h25' : R.length ≤ 25 := by omega
  go_wp2_with fail
  go_loopg [3] R.length (fun q t3 wr => ∃ k : Nat, t3 = .int .i64 (k : Int) ∧ k ≤ R.length ∧ q = R.length - k ∧ ShortTo R k ∧ wr = w)
  case atStart => exact ⟨0, rfl, by omega, by omega, (fun l hl => by simp at hl), rfl⟩
  case round =>
   obtain ⟨k, rfl, hk, hq, hs, hwr⟩ := hrel
   subst hwr
   have Ks := Lib.hid hs
   have Kq := Lib.hid hq
   clear hs hq
   by_cases hlt : k < R.length
   ·obtain ⟨r, hr⟩ : ∃ r, R[k]? = some r := ⟨_, List.getElem?_eq_getElem hlt⟩
    obtain ⟨b, o, c', A', c'', he, hc0, hrow0⟩ := KR.out.cell hr
    simp only [Value.slice.injEq, true_and] at he
    obtain ⟨rfl, rfl⟩ := he
    have q1 : (0 : Int) ≤ (k : Int) := by omega
    have q2 : (k : Int) < (R.length : Int) := by omega
    have q3 : ((k : Int)).toNat = k := by omega
    have Kr := Lib.hid hr
    clear hr hrow0
    by_cases h10 : (25 : Int) < (r.length : Int)
    ·go_wp2_with fail
     go_ret
     exact ⟨Tells.no rfl (fun hs => by have := hs.2 r (List.mem_of_getElem? Kr.out); omega), rfl⟩
    ·go_wp2_with fail
     go_roundg (R.length - (k + 1))
     case measure => have := Kq.out; omega
     case rel =>
      refine ⟨k + 1, by go_num, by omega, rfl, fun l hl => ?_, rfl⟩
      rw [Tb.take_snoc Kr.out] at hl
      rcases List.mem_append.1 hl with h1 | h1
      ·exact Ks.out l h1
      ·rw [List.mem_singleton.1 h1]; omega
   ·obtain rfl : k = R.length := by omega
    go_wp2_with fail
    go_ret
    refine ⟨Tells.yes rfl ⟨h25', ?_⟩, rfl⟩
    have := Ks.out
    unfold ShortTo at this
    rwa [List.take_length] at this
end Go.Proofs.YtjcijffhcmbhnaaDoor
