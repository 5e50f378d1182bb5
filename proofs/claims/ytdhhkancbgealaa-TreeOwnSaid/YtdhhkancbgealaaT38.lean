import Derived.Test.YtdhhkancbgealaaT37
namespace Go.Proofs.Ytdhhkancbgealaa
open Go.RowKit Go.Shelf
open Lx
set_option linter.unusedVariables false
set_option linter.unusedSimpArgs false
set_option maxRecDepth 100000
theorem show_pos {P : Nm.Plan} {L : List Tr.Nd} {i : Int} (h : Tr.has L i = true) : Tr.show_ P L i = (Tr.Evs L i).flatMap (Tr.showEv P L i) := by unfold Tr.show_; rw [if_pos h]
theorem show_neg {P : Nm.Plan} {L : List Tr.Nd} {i : Int} (h : Tr.has L i = false) : Tr.show_ P L i = [] := by unfold Tr.show_; rw [h]; rfl
set_option maxHeartbeats 8000000 in
theorem tshow_any (pv : Value) (P : Nm.Plan) (i : Int) (w : World) (B tg g mb : Nat) (l m : Int) (S : List Sl) (h : TreeIs w B tg g mb l m S) (hp : PlanR w pv P) (hD : Tr.Down (nds S)) (hN : (Tr.Bel (nds S) i).length ≤ 400000) (hTm : P.terms.length ≤ 1000000) (hVr : P.vars.length ≤ 1000000) (hz : ∀ s, (Nm.nameAt P.terms P.vars s).length ≤ 1000) :
  Calls Try.prog 28 #[.pointer (some ⟨tg, 0, none⟩), pv, .int .i64 i] w fun e w' => e = .returned (.string (str (Tr.show_ P (nds S) i))) ∧ Below w.heap.size w w' := by
 obtain ⟨P1, c1, P2, c2, P3, c3, P4, c4, P5, c5, P6, c6, hpv, _⟩ := hp.ex
 subst hpv
 obtain ⟨W1, hW1⟩ : ∃ W, w.alloc (.cells #[.pointer (some ⟨tg, 0, none⟩)] 30) = W := ⟨_, rfl⟩
 obtain ⟨W2, hW2⟩ : ∃ W, W1.alloc (.cells #[.slice P1 P.terms.length c1, .slice P2 P.vars.length c2, .slice P3 P.rules.length c3, .slice P4 P.levels.length c4, .slice P5 P.assocs.length c5, .slice P6 P.acts.length c6] 38) = W := ⟨_, rfl⟩
 obtain ⟨W3, hW3⟩ : ∃ W, W2.alloc (.cells #[.int .i64 i] 3) = W := ⟨_, rfl⟩
 obtain ⟨W, hW⟩ : ∃ W, W3.alloc (.cells #[.pointer none, .slice none 0 0] 101) = W := ⟨_, rfl⟩
 have z1 : W1.heap.size = w.heap.size + 1 := by rw [← hW1]; simp
 have z2 : W2.heap.size = w.heap.size + 2 := by rw [← hW2]; simp [z1]
 have z3 : W3.heap.size = w.heap.size + 3 := by rw [← hW3]; simp [z2]
 have hsz : W.heap.size = w.heap.size + 4 := by rw [← hW]; simp [z3]
 have hb : Below w.heap.size w W := by
  rw [← hW]
  refine Below.alloc ?_ (by omega) _
  rw [← hW3]
  refine Below.alloc ?_ (by omega) _
  rw [← hW2]
  refine Below.alloc ?_ (by omega) _
  rw [← hW1]
  exact (Below.refl w.heap.size w).alloc (Nat.le_refl _) _
 have hT : At W w.heap.size 30 #[.pointer (some ⟨tg, 0, none⟩)] := by
  rw [← hW, ← hW3, ← hW2, ← hW1]; exact (((At.new w _ _).alloc _).alloc _).alloc _
 have hP : At W (w.heap.size + 1) 38 #[.slice P1 P.terms.length c1, .slice P2 P.vars.length c2, .slice P3 P.rules.length c3, .slice P4 P.levels.length c4, .slice P5 P.assocs.length c5, .slice P6 P.acts.length c6] := by
  have : At W2 W1.heap.size 38 #[.slice P1 P.terms.length c1, .slice P2 P.vars.length c2, .slice P3 P.rules.length c3, .slice P4 P.levels.length c4, .slice P5 P.assocs.length c5, .slice P6 P.acts.length c6] := by rw [← hW2]; exact At.new _ _ _
  rw [z1] at this
  rw [← hW, ← hW3]; exact (this.alloc _).alloc _
 have hI : At W (w.heap.size + 2) 3 #[.int .i64 i] := by
  have : At W3 W2.heap.size 3 #[.int .i64 i] := by rw [← hW3]; exact At.new _ _ _
  rw [z2] at this
  rw [← hW]; exact this.alloc _
 have hbb : At W (w.heap.size + 3) 101 #[.pointer none, .slice none 0 0] := by
  have : At W W3.heap.size 101 #[.pointer none, .slice none 0 0] := by rw [← hW]; exact At.new _ _ _
  rw [z3] at this
  exact this
 have hTr := h.below hb
 have hRW := hp.below hb
 rw [← hW3, ← hW2, ← hW1] at hW
 have HW := Lib.hid hW
 have t0 := hT.cell 0
 have i0 := hI.cell 0
 simp at t0 i0
 have htl := hT.lt
 have hil := hI.lt
 cases hh : Tr.has (nds S) i with
 | false =>
  have HWK := Lib.hid (walk_no i W B tg g mb l m S (.func (.func 50) #[] #[.pointer (some ⟨w.heap.size, 0, none⟩), .pointer (some ⟨w.heap.size + 2, 0, none⟩), .pointer (some ⟨w.heap.size + 3, 0, none⟩), .pointer (some ⟨w.heap.size + 1, 0, none⟩)]) (.func (.func 54) #[] #[.pointer (some ⟨w.heap.size, 0, none⟩), .pointer (some ⟨w.heap.size + 3, 0, none⟩)]) hTr hh)
  have HBB := Lib.hid hbb
  have HB := Lib.hid hb
  rw [show_neg hh]
  generalize P.terms.length = m1 at HW
  generalize P.vars.length = m2 at HW
  generalize P.rules.length = m3 at HW
  generalize P.levels.length = m4 at HW
  generalize P.assocs.length = m5 at HW
  generalize P.acts.length = m6 at HW
  clear h hp hD hN hTm hVr hz hW hb z1 z2 z3 hW1 hW2 hW3 hT hP hI hbb hTr hRW hh
  go_enter Try.func28, Try.ntmps28
  go_wp2_with fail
  rw [HW.out]
  go_wp2_with fail
  refine HWK.out.mono ?_
  rintro e w1 ⟨rfl, hb1⟩
  have HBL := Lib.hid (show Sb.Bld w1 w.heap.size (w.heap.size + 3) [] from ⟨⟨_, _, HBB.out.below hb1 HBB.out.lt, .inl rfl, World.ownsRow_nil _ _ _ _⟩, by omega⟩)
  have HBW := Lib.hid (HB.out.trans (hb1.mono HB.out.size))
  clear hb1 HWK
  go_wp2_with fail
  refine (Sb.string_all w.heap.size (w.heap.size + 3) [] w1 HBL.out (by simp)).mono ?_
  rintro e w2 ⟨rfl, hb2⟩
  have HBW2 := Lib.hid (HBW.out.trans hb2)
  clear hb2
  go_wp2_with fail
  go_ret
  exact ⟨rfl, HBW2.out⟩
 | true =>
  have hel := Tr.Evs_len (nds S) i
  have hok := shJ_ok hTr hbb hT hI hP hRW hTm hVr hz (Tr.Evs (nds S) i) (by omega)
  have hJ0 : ShJ P (nds S) i W (w.heap.size + 3) [] [w.heap.size + 3] W := ⟨⟨.slice none 0 0, ⟨⟨_, hbb, .inl rfl⟩, World.ownsRow_nil _ _ _ _⟩, rfl⟩, Keeps.refl _ _⟩
  have HWK := Lib.hid (walk_any i W W.heap.size B tg g mb l m S 50 54 _ _ (ShJ P (nds S) i W (w.heap.size + 3)) [w.heap.size + 3] hok hJ0 (Nat.le_refl _) hD hN hh)
  have HB := Lib.hid hb
  rw [show_pos hh]
  have hXl := showEvs_len hz (L := nds S) (i := i) (Tr.Evs (nds S) i)
  obtain ⟨X, hX⟩ : ∃ X, (Tr.Evs (nds S) i).flatMap (Tr.showEv P (nds S) i) = X := ⟨_, rfl⟩
  rw [hX] at hXl ⊢
  have HX := Lib.hid hX
  have HXL := Lib.hid (show X.length ≤ 1000000000 by omega)
  generalize P.terms.length = m1 at HW
  generalize P.vars.length = m2 at HW
  generalize P.rules.length = m3 at HW
  generalize P.levels.length = m4 at HW
  generalize P.assocs.length = m5 at HW
  generalize P.acts.length = m6 at HW
  clear h hp hD hN hTm hVr hz hW hb z1 z2 z3 hW1 hW2 hW3 hT hP hI hbb hTr hRW hh hel hok hJ0 hXl hX
  go_enter Try.func28, Try.ntmps28
  go_wp2_with fail
  rw [HW.out]
  go_wp2_with fail
  refine HWK.out.mono ?_
  rintro e w1 ⟨rfl, F', hJ⟩
  obtain ⟨v, h1, _⟩ := hJ.ex
  rw [HX.out] at h1
  obtain ⟨p, q1, q2⟩ := h1.ex
  have HBL := Lib.hid (show Sb.Bld w1 w.heap.size (w.heap.size + 3) X from ⟨⟨_, _, q1, q2, own_base h1.row (by omega)⟩, by omega⟩)
  have HBW := Lib.hid (HB.out.trans (hJ.keeps.below (fun x hx => by simp at hx; omega) (by omega)))
  clear hJ h1 q1 q2 HWK
  go_wp2_with fail
  refine (Sb.string_all w.heap.size (w.heap.size + 3) X w1 HBL.out HXL.out).mono ?_
  rintro e w2 ⟨rfl, hb2⟩
  have HBW2 := Lib.hid (HBW.out.trans hb2)
  clear hb2
  go_wp2_with fail
  go_ret
  exact ⟨rfl, HBW2.out⟩
end Go.Proofs.Ytdhhkancbgealaa
