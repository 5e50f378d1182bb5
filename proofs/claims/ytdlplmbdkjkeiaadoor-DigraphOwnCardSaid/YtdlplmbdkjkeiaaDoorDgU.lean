import Derived.Test.YtdlplmbdkjkeiaaDoorDgZ
namespace Go.Proofs.YtdlplmbdkjkeiaaDoor
set_option maxRecDepth 100000
open Go.RowKit
set_option linter.unusedVariables false
set_option linter.unusedSimpArgs false
theorem ints_says (v v' : Value) (l l' : List Int) (w : World) (h : Row w v l) (h' : Row w v' l') :
  Calls Tryd.prog 12 #[v, v'] w fun e w' => e = .returned (.bool (decide (l = l'))) ∧ ∃ k, w' = w.drewN k :=
 (ints_row v v' l l' w h h').mono fun e w' ⟨⟨r, he, hr⟩, hk⟩ => ⟨by rw [he, show r = decide (l = l') by rw [Bool.eq_iff_iff, hr, decide_eq_true_eq]], hk⟩
set_option maxHeartbeats 1000000 in
theorem lists_any (v v' : Value) (L L' : List (List Int)) (w : World) (h : RowsL w v L) (h' : RowsL w v' L') :
  Calls Tryd.prog 16 #[v, v'] w fun e w' => e = .returned (.bool (decide (L = L'))) ∧ ∃ k, w' = w.drewN k := by
 have KL := Lib.hid h
 have KL' := Lib.hid h'
 have hll := h.len
 have hll' := h'.len
 obtain ⟨A, c, rfl⟩ := h.shape
 obtain ⟨A', c', rfl⟩ := h'.shape
 clear h h'
 go_enter Tryd.func16, Tryd.ntmps16
 by_cases hn : L.length = L'.length
 ·have hnI : ((L.length : Int) != (L'.length : Int)) = false := by simp [hn]
  have Kn := Lib.hid hn
  clear hn
  go_wp2_with fail
  go_loopg [5] L.length (fun q t5 wr => ∃ k : Nat, t5 = .int .i64 (k : Int) ∧ k ≤ L.length ∧ q = L.length - k ∧ (∀ i, i < k → L[i]? = L'[i]?) ∧ ∃ m, wr = w.drewN m)
  case atStart => exact ⟨0, rfl, by omega, by omega, (fun i hi => absurd hi (by omega)), 0, rfl⟩
  case round =>
   obtain ⟨k, rfl, hk, hq, hsame, m, hwr⟩ := hrel
   have hLr : RowsL wr (.slice A L.length c) L := by rw [hwr]; exact KL.out.drewN m
   have hLr' : RowsL wr (.slice A' L'.length c') L' := by rw [hwr]; exact KL'.out.drewN m
   have KLr := Lib.hid hLr
   have KLr' := Lib.hid hLr'
   have Kwr := Lib.hid hwr
   clear hLr hLr' hwr
   have KS := Lib.hid hsame
   have Kq := Lib.hid hq
   clear hsame hq
   by_cases hlt : k < L.length
   ·have hlt' : k < L'.length := by have := Kn.out; omega
    obtain ⟨l, hl⟩ : ∃ l, L[k]? = some l := ⟨_, List.getElem?_eq_getElem hlt⟩
    obtain ⟨l', hl'⟩ : ∃ l', L'[k]? = some l' := ⟨_, List.getElem?_eq_getElem hlt'⟩
    obtain ⟨b, o, c1, A1, c2, he, hc, hrow⟩ := KLr.out.cell hl
    obtain ⟨b', o', c1', A1', c2', he', hc', hrow'⟩ := KLr'.out.cell hl'
    simp only [Value.slice.injEq, true_and] at he he'
    obtain ⟨rfl, rfl⟩ := he
    obtain ⟨rfl, rfl⟩ := he'
    have q1 : (0 : Int) ≤ (k : Int) := by omega
    have q2 : (k : Int) < (L.length : Int) := by omega
    have q2' : (k : Int) < (L'.length : Int) := by omega
    have q3 : ((k : Int)).toNat = k := by omega
    have hcall := fun j => ints_says _ _ l l' (wr.drewN j) ((hrow.drewN j).row (Nat.le_refl _)) ((hrow'.drewN j).row (Nat.le_refl _))
    have Kl := Lib.hid hl
    have Kl' := Lib.hid hl'
    by_cases heq : l = l'
    ·rw [decide_eq_true heq] at hcall
     have Kcall := Lib.hid hcall
     have Keq := Lib.hid heq
     clear hcall hl hl' hrow hrow' heq
     go_wp2_with fail
     go_quiet (exact Calls.quiet_of (Kcall.out _))
     go_wp2_with fail
     go_roundg (L.length - (k + 1))
     case measure => have := Kq.out; omega
     case rel =>
      refine ⟨k + 1, by go_num, by omega, rfl, fun i hi => ?_, _, by rw [Kwr.out]; exact World.drewN_drewN ..⟩
      by_cases he : i = k
      ·subst he; rw [Kl.out, Kl'.out, Keq.out]
      ·exact KS.out i (by omega)
    ·rw [decide_eq_false heq] at hcall
     have Kcall := Lib.hid hcall
     have Keq := Lib.hid heq
     clear hcall hl hl' hrow hrow' heq
     go_wp2_with fail
     go_quiet (exact Calls.quiet_of (Kcall.out _))
     go_wp2_with fail
     go_ret
     refine ⟨?_, _, by rw [Kwr.out]; exact World.drewN_drewN ..⟩
     have hne : ¬ L = L' := by
      intro e
      have h1 := Kl.out
      rw [e, Kl'.out] at h1
      injection h1 with h1
      exact Keq.out h1.symm
     rw [decide_eq_false hne]
     try rfl
   ·obtain rfl : k = L.length := by omega
    go_wp2_with fail
    go_ret
    refine ⟨?_, m, Kwr.out⟩
    have heq : L = L' := by
     apply List.ext_getElem?
     intro i
     by_cases hi : i < L.length
     ·exact KS.out i hi
     ·rw [List.getElem?_eq_none (by omega), List.getElem?_eq_none (by have := Kn.out; omega)]
    rw [decide_eq_true heq]
    try rfl
 ·have hnI : ((L.length : Int) != (L'.length : Int)) = true := by simp; omega
  have Kn := Lib.hid hn
  clear hn
  go_wp2_with fail
  go_ret
  refine ⟨?_, 0, rfl⟩
  rw [decide_eq_false (fun e => Kn.out (by rw [e]))]
  try rfl
theorem in_says (A : Option Addr) (c : Nat) (l : List Int) (B : Nat) (x : Int) (w : World) (O : Nums w B A l.length (fun i => l.getD i 0)) :
  Calls Tryd.prog 19 #[.slice A l.length c, .int .i64 x] w fun e w' => e = .returned (.bool (decide (x ∈ l))) ∧ ∃ k, w' = w.drewN k :=
 (in_any A l.length c _ B x w O).mono fun e w' ⟨⟨r, he, hr⟩, hk⟩ => ⟨by
  have h1 : InTo (fun i => l.getD i 0) x l.length ↔ x ∈ l := by
   unfold InTo
   rw [List.mem_iff_getElem?]
   constructor
   ·rintro ⟨i, hi, h⟩
    exact ⟨i, by rw [List.getElem?_eq_getElem hi, ← h]; simp [List.getD, hi]⟩
   ·rintro ⟨i, h⟩
    have hi := (List.getElem?_eq_some_iff.1 h).1
    exact ⟨i, hi, by simp [List.getD, h]⟩
  rw [he, show r = decide (x ∈ l) by rw [Bool.eq_iff_iff, hr, decide_eq_true_eq, h1]], hk⟩
set_option maxHeartbeats 1000000 in
theorem subset_any (v v' : Value) (l l' : List Int) (w : World) (h : Row w v l) (h' : Row w v' l') :
  Calls Tryd.prog 20 #[v, v'] w fun e w' => e = .returned (.bool (decide (∀ x ∈ l, x ∈ l'))) ∧ ∃ k, w' = w.drewN k := by
 obtain ⟨A, c, rfl, hN⟩ := h.shape
 obtain ⟨A', c', rfl, hN'⟩ := h'.shape
 have KN := Lib.hid hN
 have KN' := Lib.hid hN'
 have hll := hN.len
 have hll' := hN'.len
 clear h h' hN hN'
 go_enter Tryd.func20, Tryd.ntmps20
 go_wp2_with fail
 go_loopg [5] l.length (fun q t5 wr => ∃ k : Nat, t5 = .int .i64 (k : Int) ∧ k ≤ l.length ∧ q = l.length - k ∧ (∀ x ∈ l.take k, x ∈ l') ∧ ∃ m, wr = w.drewN m)
 case atStart => exact ⟨0, rfl, by omega, by omega, (fun x hx => by simp at hx), 0, rfl⟩
 case round =>
  obtain ⟨k, rfl, hk, hq, hsame, m, hwr⟩ := hrel
  have KS := Lib.hid hsame
  have Kq := Lib.hid hq
  have hNr : Nums wr w.heap.size A l.length (fun i => l.getD i 0) := by rw [hwr]; exact nums_drewN KN.out m
  have hNr' : Nums wr w.heap.size A' l'.length (fun i => l'.getD i 0) := by rw [hwr]; exact nums_drewN KN'.out m
  have Kwr := Lib.hid hwr
  clear hsame hq hwr
  by_cases hlt : k < l.length
  ·obtain ⟨x, hx⟩ : ∃ x, l[k]? = some x := ⟨_, List.getElem?_eq_getElem hlt⟩
   obtain ⟨b, o, rfl, _, cx⟩ := hNr.each k hlt
   rw [show l.getD k 0 = x by rw [List.getD, hx]; rfl] at cx
   have q1 : (0 : Int) ≤ (k : Int) := by omega
   have q2 : (k : Int) < (l.length : Int) := by omega
   have q3 : ((k : Int)).toNat = k := by omega
   have hcall := in_says A' c' l' _ x wr hNr'
   have Ktk := Lib.hid (show l.take (k + 1) = l.take k ++ [x] by rw [List.take_add_one, hx]; rfl)
   have Kxl := Lib.hid (List.mem_of_getElem? hx)
   clear hNr hNr' hx
   by_cases hin : x ∈ l'
   ·rw [decide_eq_true hin] at hcall
    have Kcall := Lib.hid hcall
    have Kin := Lib.hid hin
    clear hcall hin
    go_wp2_with fail
    refine Kcall.out.mono ?_
    rintro e w1 ⟨rfl, j, hw1⟩
    have Kw1 := Lib.hid hw1
    clear hw1
    go_wp2_with fail
    go_roundg (l.length - (k + 1))
    case measure => have := Kq.out; omega
    case rel =>
     refine ⟨k + 1, by go_num, by omega, rfl, fun y hy => ?_, _, by rw [Kw1.out, Kwr.out]; exact World.drewN_drewN ..⟩
     rw [Ktk.out] at hy
     simp only [List.mem_append, List.mem_cons, List.not_mem_nil, or_false] at hy
     rcases hy with hy | rfl
     ·exact KS.out y hy
     ·exact Kin.out
   ·rw [decide_eq_false hin] at hcall
    have Kcall := Lib.hid hcall
    have Kin := Lib.hid hin
    clear hcall hin
    go_wp2_with fail
    refine Kcall.out.mono ?_
    rintro e w1 ⟨rfl, j, hw1⟩
    have Kw1 := Lib.hid hw1
    clear hw1
    go_wp2_with fail
    go_ret
    refine ⟨?_, _, by rw [Kw1.out, Kwr.out]; exact World.drewN_drewN ..⟩
    rw [decide_eq_false (fun h => Kin.out (h x Kxl.out))]
    try rfl
  ·obtain rfl : k = l.length := by omega
   clear hNr hNr'
   go_wp2_with fail
   go_ret
   refine ⟨?_, m, Kwr.out⟩
   have h1 := KS.out
   rw [List.take_length] at h1
   rw [decide_eq_true h1]
   try rfl
end Go.Proofs.YtdlplmbdkjkeiaaDoor
