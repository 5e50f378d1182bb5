import Derived.Test.YtdhhkancbgealaaGreatT27
import Derived.Test.YtdhhkancbgealaaGreatT12
import Derived.Deep.RegionWith
import Derived.Deep.LoopGhost
section
namespace Go.Proofs.YtdhhkancbgealaaGreat
open Go.RowKit Go.Shelf
open Lx
set_option linter.unusedVariables false
set_option linter.unusedSimpArgs false
set_option maxRecDepth 100000
theorem show_pos {P : Nm.Plan} {L : List Tr.Nd} {i : Int} (h : Tr.has L i = true) : Tr.show_ P L i = (Tr.Evs L i).flatMap (Tr.showEv P L i) := by unfold Tr.show_; rw [if_pos h]
theorem show_neg {P : Nm.Plan} {L : List Tr.Nd} {i : Int} (h : Tr.has L i = false) : Tr.show_ P L i = [] := by unfold Tr.show_; rw [h]; rfl
set_option maxHeartbeats 8000000 in
theorem tshow_any (pv : Value) (P : Nm.Plan) (i : Int) (w : World) (B tg g mb : Nat) (l m : Int) (S : List Sl) (h : TreeIs w B tg g mb l m S) (hp : PlanR w pv P) (hD : Tr.Down (nds S)) (hN : (Tr.Bel (nds S) i).length ≤ 400000) (hTm : P.terms.length ≤ 1000000) (hVr : P.vars.length ≤ 1000000) (hz : ∀ s, (Nm.nameAt P.terms P.vars s).length ≤ 1000) :
  Calls Tryz.prog 33 #[.pointer (some ⟨tg, 0, none⟩), pv, .int .i64 i] w fun e w' => e = .returned (.string (str (Tr.show_ P (nds S) i))) ∧ Below w.heap.size w w' := by
 obtain ⟨P1, c1, P2, c2, P3, c3, P4, c4, P5, c5, P6, c6, hpv, _⟩ := hp.ex
 subst hpv
 obtain ⟨W1, hW1⟩ : ∃ W, w.alloc (.cells #[.pointer (some ⟨tg, 0, none⟩)] 38) = W := ⟨_, rfl⟩
 obtain ⟨W2, hW2⟩ : ∃ W, W1.alloc (.cells #[.slice P1 P.terms.length c1, .slice P2 P.vars.length c2, .slice P3 P.rules.length c3, .slice P4 P.levels.length c4, .slice P5 P.assocs.length c5, .slice P6 P.acts.length c6] 34) = W := ⟨_, rfl⟩
 obtain ⟨W3, hW3⟩ : ∃ W, W2.alloc (.cells #[.int .i64 i] 3) = W := ⟨_, rfl⟩
 obtain ⟨W, hW⟩ : ∃ W, W3.alloc (.cells #[.pointer none, .slice none 0 0] 104) = W := ⟨_, rfl⟩
 have z1 : W1.heap.size = w.heap.size + 1 := by rw [← hW1]; simp
 have z2 : W2.heap.size = w.heap.size + 2 := by rw [← hW2]; simp [z1]
 have z3 : W3.heap.size = w.heap.size + 3 := by rw [← hW3]; simp [z2]
 have hsz : W.heap.size = w.heap.size + 4 := by rw [← hW]; simp [z3]
 have hb : Below w.heap.size w W := by
  rw [← hW]
  refine Below.alloc ?_ (by omega) _
  rw [← hW3]
  refine Below.alloc ?_ (by omega) _
  rw [← hW2]
  refine Below.alloc ?_ (by omega) _
  rw [← hW1]
  exact (Below.refl w.heap.size w).alloc (Nat.le_refl _) _
 have hT : At W w.heap.size 38 #[.pointer (some ⟨tg, 0, none⟩)] := by
  rw [← hW, ← hW3, ← hW2, ← hW1]; exact (((At.new w _ _).alloc _).alloc _).alloc _
 have hP : At W (w.heap.size + 1) 34 #[.slice P1 P.terms.length c1, .slice P2 P.vars.length c2, .slice P3 P.rules.length c3, .slice P4 P.levels.length c4, .slice P5 P.assocs.length c5, .slice P6 P.acts.length c6] := by
  have : At W2 W1.heap.size 34 #[.slice P1 P.terms.length c1, .slice P2 P.vars.length c2, .slice P3 P.rules.length c3, .slice P4 P.levels.length c4, .slice P5 P.assocs.length c5, .slice P6 P.acts.length c6] := by rw [← hW2]; exact At.new _ _ _
  rw [z1] at this
  rw [← hW, ← hW3]; exact (this.alloc _).alloc _
 have hI : At W (w.heap.size + 2) 3 #[.int .i64 i] := by
  have : At W3 W2.heap.size 3 #[.int .i64 i] := by rw [← hW3]; exact At.new _ _ _
  rw [z2] at this
  rw [← hW]; exact this.alloc _
 have hbb : At W (w.heap.size + 3) 104 #[.pointer none, .slice none 0 0] := by
  have : At W W3.heap.size 104 #[.pointer none, .slice none 0 0] := by rw [← hW]; exact At.new _ _ _
  rw [z3] at this
  exact this
 have hTr := h.below hb
 have hRW := hp.below hb
 rw [← hW3, ← hW2, ← hW1] at hW
 have HW := Lib.hid hW
 have t0 := hT.cell 0
 have i0 := hI.cell 0
 simp at t0 i0
 have htl := hT.lt
 have hil := hI.lt
 cases hh : Tr.has (nds S) i with
 | false =>
  have HWK := Lib.hid (walk_no i W B tg g mb l m S (.func (.func 55) #[] #[.pointer (some ⟨w.heap.size, 0, none⟩), .pointer (some ⟨w.heap.size + 2, 0, none⟩), .pointer (some ⟨w.heap.size + 3, 0, none⟩), .pointer (some ⟨w.heap.size + 1, 0, none⟩)]) (.func (.func 59) #[] #[.pointer (some ⟨w.heap.size, 0, none⟩), .pointer (some ⟨w.heap.size + 3, 0, none⟩)]) hTr hh)
  have HBB := Lib.hid hbb
  have HB := Lib.hid hb
  rw [show_neg hh]
  generalize P.terms.length = m1 at HW
  generalize P.vars.length = m2 at HW
  generalize P.rules.length = m3 at HW
  generalize P.levels.length = m4 at HW
  generalize P.assocs.length = m5 at HW
  generalize P.acts.length = m6 at HW
  clear h hp hD hN hTm hVr hz hW hb z1 z2 z3 hW1 hW2 hW3 hT hP hI hbb hTr hRW hh
  go_enter Tryz.func33, Tryz.ntmps33
  go_wp2_with fail
  rw [HW.out]
  go_wp2_with fail
  refine HWK.out.mono ?_
  rintro e w1 ⟨rfl, hb1⟩
  have HBL := Lib.hid (show Sb.Bld w1 w.heap.size (w.heap.size + 3) [] from ⟨⟨_, _, HBB.out.below hb1 HBB.out.lt, .inl rfl, World.ownsRow_nil _ _ _ _⟩, by omega⟩)
  have HBW := Lib.hid (HB.out.trans (hb1.mono HB.out.size))
  clear hb1 HWK
  go_wp2_with fail
  refine (Sb.string_all w.heap.size (w.heap.size + 3) [] w1 HBL.out (by simp)).mono ?_
  rintro e w2 ⟨rfl, hb2⟩
  have HBW2 := Lib.hid (HBW.out.trans hb2)
  clear hb2
  go_wp2_with fail
  go_ret
  exact ⟨rfl, HBW2.out⟩
 | true =>
  have hel := Tr.Evs_len (nds S) i
  have hok := shJ_ok hTr hbb hT hI hP hRW hTm hVr hz (Tr.Evs (nds S) i) (by omega)
  have hJ0 : ShJ P (nds S) i W (w.heap.size + 3) [] [w.heap.size + 3] W := ⟨⟨.slice none 0 0, ⟨⟨_, hbb, .inl rfl⟩, World.ownsRow_nil _ _ _ _⟩, rfl⟩, Keeps.refl _ _⟩
  have HWK := Lib.hid (walk_any i W W.heap.size B tg g mb l m S 55 59 _ _ (ShJ P (nds S) i W (w.heap.size + 3)) [w.heap.size + 3] hok hJ0 (Nat.le_refl _) hD hN hh)
  have HB := Lib.hid hb
  rw [show_pos hh]
  have hXl := showEvs_len hz (L := nds S) (i := i) (Tr.Evs (nds S) i)
  obtain ⟨X, hX⟩ : ∃ X, (Tr.Evs (nds S) i).flatMap (Tr.showEv P (nds S) i) = X := ⟨_, rfl⟩
  rw [hX] at hXl ⊢
  have HX := Lib.hid hX
  have HXL := Lib.hid (show X.length ≤ 1000000000 by omega)
  generalize P.terms.length = m1 at HW
  generalize P.vars.length = m2 at HW
  generalize P.rules.length = m3 at HW
  generalize P.levels.length = m4 at HW
  generalize P.assocs.length = m5 at HW
  generalize P.acts.length = m6 at HW
  clear h hp hD hN hTm hVr hz hW hb z1 z2 z3 hW1 hW2 hW3 hT hP hI hbb hTr hRW hh hel hok hJ0 hXl hX
  go_enter Tryz.func33, Tryz.ntmps33
  go_wp2_with fail
  rw [HW.out]
  go_wp2_with fail
  refine HWK.out.mono ?_
  rintro e w1 ⟨rfl, F', hJ⟩
  obtain ⟨v, h1, _⟩ := hJ.ex
  rw [HX.out] at h1
  obtain ⟨p, q1, q2⟩ := h1.ex
  have HBL := Lib.hid (show Sb.Bld w1 w.heap.size (w.heap.size + 3) X from ⟨⟨_, _, q1, q2, own_base h1.row (by omega)⟩, by omega⟩)
  have HBW := Lib.hid (HB.out.trans (hJ.keeps.below (fun x hx => by simp at hx; omega) (by omega)))
  clear hJ h1 q1 q2 HWK
  go_wp2_with fail
  refine (Sb.string_all w.heap.size (w.heap.size + 3) X w1 HBL.out HXL.out).mono ?_
  rintro e w2 ⟨rfl, hb2⟩
  have HBW2 := Lib.hid (HBW.out.trans hb2)
  clear hb2
  go_wp2_with fail
  go_ret
  exact ⟨rfl, HBW2.out⟩
end Go.Proofs.YtdhhkancbgealaaGreat
end
section
namespace Go.Proofs.YtdhhkancbgealaaGreat
open Go.RowKit
open Lx
set_option linter.unusedVariables false
set_option linter.unusedSimpArgs false
set_option maxRecDepth 100000
theorem takeT_any {α : Type} {l : List α} {j : Nat} {x : α} (h : l[j]? = some x) (f : α → Bool) : (l.take (j + 1)).any f = ((l.take j).any f || f x) := by
 rw [List.take_add_one, h]; simp [List.any_append]
theorem cl_at {w : World} {A : Option Addr} {l : List Int} {j : Nat} {x : Int} (h : Cl w w.heap.size A (vals l)) (hj : l[j]? = some x) : ∃ b o, A = some ⟨b, o, none⟩ ∧ b < w.heap.size ∧ w.cell? ⟨b, o + j, none⟩ = some (.int .i64 x) := by
 obtain ⟨b, o, e, hlt, hc⟩ := h.ex (by intro e; have := vals_get hj; rw [e] at this; simp at this)
 exact ⟨b, o, e, hlt, hc j _ (vals_get hj)⟩
theorem lie_at {w : World} {t : TypeId} {A : Option Addr} {l : List Int} {j : Nat} {x : Int} (h : Lie w t A (vals l)) (hj : l[j]? = some x) : ∃ b o, A = some ⟨b, o, none⟩ ∧ b < w.heap.size ∧ w.cell? ⟨b, o + j, none⟩ = some (.int .i64 x) := by
 obtain ⟨b, o, e, hlt, hc⟩ := h.cell (by intro e; have := vals_get hj; rw [e] at this; simp at this)
 exact ⟨b, o, e, hlt, hc j _ (vals_get hj)⟩
set_option maxHeartbeats 4000000 in
theorem twrong_any (A : Option Addr) (n c : Nat) (ks : List Int) (w : World) (B tg g mb : Nat) (l m : Int) (S : List Sl) (h : TreeIs w B tg g mb l m S) (hl : ks.length = n) (hL : Cl w w.heap.size A (vals ks)) (hn : n ≤ 1000000) :
  Calls Tryz.prog 63 #[.pointer (some ⟨tg, 0, none⟩), .slice A n c] w fun e w' => e = .returned (.int .i64 (Tr.wrong (nds S) ks)) ∧ Below w.heap.size w w' := by
 have HL := Lib.hid hL
 have HLEN := Lib.hid hl
 have HHAS := Lib.hid (fun (i : Int) (w' : World) (hb : Below w.heap.size w w') => thas_any i w' B tg g mb l m S (h.below hb))
 have HAT := Lib.hid (fun (i : Int) (w' : World) (hb : Below w.heap.size w w') => tat_parts i w' B tg g mb l m S (h.below hb))
 have HTW := Lib.hid (fun (w' : World) (hb : Below w.heap.size w w') => twiceC_any A n c ks w' hl (hL.up hb) hn)
 obtain ⟨L, hLn⟩ : ∃ L, nds S = L := ⟨_, rfl⟩
 rw [hLn] at HHAS HAT ⊢
 obtain ⟨W0, hW0⟩ : ∃ x, Tr.wrong L ks = x := ⟨_, rfl⟩
 rw [hW0]
 have HW0 := Lib.hid hW0
 have hfd := nfield_under
 clear h hL hl hLn hW0
 go_enter Tryz.func63, Tryz.ntmps63
 go_wp2_with fail
 go_loopw [5, 10] (fun tk i wr => ∃ j : Nat, j ≤ n ∧ i = .int .i64 (j : Int) ∧ tk = .bool ((ks.take j).any fun k => (Tr.at_ L k).under) ∧ (ks.take j).any (fun k => !Tr.has L k) = false ∧ Below w.heap.size w wr) (fun _ i _ => n - (intOf i).toNat)
 case atStart => exact ⟨0, by omega, rfl, rfl, rfl, Below.refl _ _⟩
 case round =>
  obtain ⟨j, hj, rfl, rfl, hh, hb⟩ := hrel
  have HB := Lib.hid hb
  have HH := Lib.hid hh
  obtain ⟨TK, hTK⟩ : ∃ TK, ((ks.take j).any fun k => (Tr.at_ L k).under) = TK := ⟨_, rfl⟩
  rw [hTK]
  have HTK := Lib.hid hTK
  clear hb hh hTK
  by_cases hlt : j < n
  ·obtain ⟨x, hx⟩ : ∃ x, ks[j]? = some x := ⟨_, List.getElem?_eq_getElem (by rw [HLEN.out]; exact hlt)⟩
   obtain ⟨b, o, rfl, hbl, hc⟩ := cl_at (HL.out.up HB.out) hx
   have HX := Lib.hid hx
   have hji : (j : Int) < (n : Int) := by omega
   have hj0 : (0 : Int) ≤ (j : Int) := by omega
   clear hx
   have HC1 := Lib.hid (HHAS.out x wr HB.out)
   have HTA := Lib.hid (takeT_any HX.out fun k => !Tr.has L k)
   have HTU := Lib.hid (takeT_any HX.out fun k => (Tr.at_ L k).under)
   cases hx1 : Tr.has L x with
   | false =>
    rw [hx1] at HC1
    have hw2 : W0 = 2 := by
     rw [← HW0.out]
     unfold Tr.wrong
     rw [if_pos]
     exact List.any_eq_true.2 ⟨x, List.mem_of_getElem? HX.out, by rw [hx1]; rfl⟩
    subst hw2
    clear hx1
    go_wp2_with fail
    refine HC1.out.mono ?_
    rintro e w1 ⟨rfl, hb1⟩
    have HB1 := Lib.hid (HB.out.trans (hb1.mono HB.out.size))
    clear hb1
    go_wp2_with fail
    go_ret
    exact ⟨rfl, HB1.out⟩
   | true =>
    rw [hx1] at HC1
    have HX1 := Lib.hid hx1
    clear hx1
    go_wp2_with fail
    refine HC1.out.mono ?_
    rintro e w1 ⟨rfl, hb1⟩
    have HB1 := Lib.hid (HB.out.trans (hb1.mono HB.out.size))
    have HC2 := Lib.hid (HAT.out x w1 HB1.out)
    clear hb1
    cases TK with
    | true =>
     go_wp2_with fail
     go_roundw
     case rel => exact ⟨j + 1, by omega, by go_num, by rw [HTU.out, HTK.out]; rfl, by rw [HTA.out, HH.out, HX1.out]; rfl, HB1.out⟩
     case measure => simp [intOf]; omega
    | false =>
     go_wp2_with fail
     refine HC2.out.mono ?_
     rintro e w2 ⟨rfl, hb2⟩
     have HB2 := Lib.hid (HB1.out.trans (hb2.mono HB1.out.size))
     clear hb2
     go_wp2_with fail
     go_roundw
     case rel => exact ⟨j + 1, by omega, by go_num, by rw [HTU.out, HTK.out]; rfl, by rw [HTA.out, HH.out, HX1.out]; rfl, HB2.out⟩
     case measure => simp [intOf]; omega
  ·obtain rfl : j = n := by omega
   have hall : ks.take j = ks := List.take_of_length_le (by rw [HLEN.out]; exact Nat.le_refl _)
   rw [hall] at HH HTK
   have HC3 := Lib.hid (HTW.out wr HB.out)
   have hW : W0 = if (TK || decide (¬ ks.Nodup)) = true then 15 else 0 := by
    rw [← HW0.out, ← HTK.out]
    unfold Tr.wrong
    rw [HH.out]; rfl
   clear hall hlt
   cases TK with
   | true =>
    obtain rfl : W0 = 15 := hW
    go_wp2_with fail
    go_ret
    exact ⟨rfl, HB.out⟩
   | false =>
    by_cases hnd : ks.Nodup
    ·have hd : decide (¬ ks.Nodup) = false := by simp [hnd]
     rw [hd] at hW HC3
     obtain rfl : W0 = 0 := hW
     clear hd hnd
     go_wp2_with fail
     refine HC3.out.mono ?_
     rintro e w2 ⟨rfl, hb2⟩
     have HB2 := Lib.hid (HB.out.trans (hb2.mono HB.out.size))
     clear hb2
     go_wp2_with fail
     go_ret
     exact ⟨rfl, HB2.out⟩
    ·have hd : decide (¬ ks.Nodup) = true := by simp [hnd]
     rw [hd] at hW HC3
     obtain rfl : W0 = 15 := hW
     clear hd hnd
     go_wp2_with fail
     refine HC3.out.mono ?_
     rintro e w2 ⟨rfl, hb2⟩
     have HB2 := Lib.hid (HB.out.trans (hb2.mono HB.out.size))
     clear hb2
     go_wp2_with fail
     go_ret
     exact ⟨rfl, HB2.out⟩
structure Done (w w' : World) (B tg g mb : Nat) (l : Int) (L : List Tr.Nd) : Prop where
 tree : ∃ m S, TreeIs w' B tg g mb l m S ∧ nds S = L
 spares : Spares [128, 139, 87] w w'
 below : Below B w w'
theorem keeps_spares3 {w w' : World} {B g mb : Nat} {v : Value} {S : List Sl} {c : Array Value} (h : ArN w B g mb v S) (hM : At w mb 87 c) (hk : Keeps (g :: mb :: v.ownBlock.toList) w w') :
  Spares [128, 139, 87] w w' :=
 hk.spares (fun k hk cs t ht => by
  simp only [List.mem_cons, Option.mem_toList] at hk
  rcases hk with rfl | rfl | hk
  ·rw [h.at_.type ht]; simp
  ·rw [hM.type ht]; simp
  ·rw [own_type h.own (by simpa using hk) ht]; simp)
theorem nds_append (S : List Sl) (s : Sl) : nds (S ++ [s]) = nds S ++ [s.x] := by simp [nds]
theorem keeps_below3 {w w' : World} {B g mb : Nat} {v : Value} {S : List Sl} (h : ArN w B g mb v S) (hg : B ≤ g) (hm : B ≤ mb) (hB : B ≤ w.heap.size) (hk : Keeps (g :: mb :: v.ownBlock.toList) w w') : Below B w w' :=
 hk.below (fun x hx => by
  simp only [List.mem_cons, Option.mem_toList] at hx
  rcases hx with rfl | rfl | hx
  ·exact hg
  ·exact hm
  ·exact (h.own.lt x (by simpa using hx)).1) hB
def putAns (l : Int) (S : List Sl) (s : Sl) : Int × Int × List Sl := if l - costS S < 1 + (s.x.kids.length : Int) then (0, 5, S) else ((S.length : Int), 0, S ++ [s])
theorem tput_any (s : Sl) (w : World) (B tg g mb : Nat) (l m : Int) (S : List Sl) (h : TreeIs w B tg g mb l m S) (hB : B ≤ w.heap.size) (hk : Lie w 3 s.A (vals s.x.kids)) (hn : s.x.kids.length ≤ 1000000) :
  Calls Tryz.prog 62 #[.pointer (some ⟨g, 0, none⟩), .agg s.nd.toArray, .int .i64 (1 + (s.x.kids.length : Int))] w fun e w' => e = .returned (.tuple #[.int .i64 (putAns l S s).1, .int .i64 (putAns l S s).2.1]) ∧
   (∃ m', TreeIs w' B tg g mb l m' (putAns l S s).2.2) ∧ Spares [128, 139, 87] w w' ∧ Below B w w' := by
 obtain ⟨v, h1, h2⟩ := h.ex
 by_cases hq : l - costS S < 1 + (s.x.kids.length : Int)
 ·have e : putAns l S s = (0, 5, S) := by unfold putAns; rw [if_pos hq]
  rw [e]
  refine (putN_no s w B g mb v S l m h2 h.meter h.room (by omega) hB hq).mono ?_
  rintro e w' ⟨rfl, hA, hM, hK⟩
  have hK3 : Keeps (g :: mb :: v.ownBlock.toList) w w' := hK.mono (fun x hx => .inl (by simp at hx; simp [hx]))
  have hS := keeps_spares3 h2 h.meter hK3
  exact ⟨rfl, ⟨m, ⟨v, h1.spares hS (by decide), hA⟩, h.low, hM, fun q hq => (h.kids q hq).stay (stay_spares hS (by decide)), h.room, h.len⟩, hS, keeps_below3 h2 h.low.2.1 h.low.2.2 hB hK3⟩
 ·have e : putAns l S s = ((S.length : Int), 0, S ++ [s]) := by unfold putAns; rw [if_neg hq]
  rw [e]
  refine (putN_yes s w B g mb v S l m h2 h.meter h.room (by omega) hB (by omega)).mono ?_
  rintro e w' ⟨rfl, v', m', hA, hM, hK⟩
  have hS := keeps_spares3 h2 h.meter hK
  have hco : costS (S ++ [s]) = costS S + (1 + (s.x.kids.length : Int)) := by unfold costS; rw [nds_append, Tr.cost_append, Tr.cost_one]
  refine ⟨rfl, ⟨m', ⟨v', h1.spares hS (by decide), hA⟩, h.low, hM, fun q hq => ?_, ⟨by rw [hco]; omega, h.room.2⟩, fun q hq => ?_⟩, hS, keeps_below3 h2 h.low.2.1 h.low.2.2 hB hK⟩
  ·rcases List.mem_append.1 hq with hq | hq
   ·exact (h.kids q hq).stay (stay_spares hS (by decide))
   ·obtain rfl : q = s := by simpa using hq
    exact hk.stay (stay_spares hS (by decide))
  ·rcases List.mem_append.1 hq with hq | hq
   ·exact h.len q hq
   ·obtain rfl : q = s := by simpa using hq
    exact hn
def leafSl (x : Tr.Tok) : Sl := ⟨Tr.leafOf x, none, 0⟩
theorem putAns_leaf (l : Int) (S : List Sl) (x : Tr.Tok) : (putAns l S (leafSl x)).1 = (Tr.leaf l (nds S) x).n ∧ (putAns l S (leafSl x)).2.1 = (Tr.leaf l (nds S) x).e ∧ nds (putAns l S (leafSl x)).2.2 = (Tr.leaf l (nds S) x).L := by
 unfold putAns Tr.leaf
 show _ ∧ _ ∧ _
 have e : (1 + ((leafSl x).x.kids.length : Int)) = 1 := rfl
 rw [e]
 by_cases h : l - costS S < 1
 ·rw [if_pos h, if_pos (show l - Tr.cost (nds S) < 1 from h)]; exact ⟨rfl, rfl, rfl⟩
 ·rw [if_neg h, if_neg (show ¬ l - Tr.cost (nds S) < 1 from h), nds_len, nds_append]; exact ⟨rfl, rfl, rfl⟩
set_option maxHeartbeats 4000000 in
theorem tleafP_any (x : Tr.Tok) (w : World) (B tg g mb : Nat) (l m : Int) (S : List Sl) (h : TreeIs w B tg g mb l m S) (hB : B ≤ w.heap.size) :
  Calls Tryz.prog 36 #[.pointer (some ⟨tg, 0, none⟩), .agg #[.int .i64 x.t, .int .i64 x.a, .int .i64 x.b]] w fun e w' => e = .returned (.tuple #[.int .i64 (Tr.leaf l (nds S) x).n, .int .i64 (Tr.leaf l (nds S) x).e]) ∧ Done w w' B tg g mb l (Tr.leaf l (nds S) x).L := by
 obtain ⟨W, hW⟩ : ∃ W, w.alloc (.cells #[.int .i64 x.t, .int .i64 x.a, .int .i64 x.b] 50) = W := ⟨_, rfl⟩
 have hbW : Below w.heap.size w W := by rw [← hW]; exact (Below.refl w.heap.size w).alloc (Nat.le_refl _) _
 have hR : At W w.heap.size 50 #[.int .i64 x.t, .int .i64 x.a, .int .i64 x.b] := by rw [← hW]; exact At.new _ _ _
 obtain ⟨v, h1, h2⟩ := h.ex
 have c0 := (h1.below hbW h1.lt).cell 0
 have r0 := hR.cell 0
 have r1 := hR.cell 1
 have r2 := hR.cell 2
 simp at c0 r0 r1 r2
 obtain ⟨e1, e2, e3⟩ := putAns_leaf l S x
 have hbs := hbW.size
 have hput := tput_any (leafSl x) W.drew B tg g mb l m S (h.below hbW).drew (by show B ≤ W.heap.size; omega) (Lie.nil _ _ _) (Nat.zero_le _)
 rw [show (leafSl x).nd = [.bool true, .bool false, .int .i64 (-1), .int .i64 x.t, .int .i64 x.t, .int .i64 x.a, .int .i64 x.b, .slice none 0 0] from rfl, show (1 + ((leafSl x).x.kids.length : Int)) = 1 from rfl, e1, e2] at hput
 have hbd : Below B w W.drew := by rw [← hW]; exact below_drew ((Below.refl B w).alloc hB _)
 have hsd : Spares [128, 139, 87] w W.drew := by rw [← hW]; exact ((Spares.refl _ w).alloc _).drewN 1
 have hput2 : Calls Tryz.prog 62 #[.pointer (some ⟨g, 0, none⟩), .agg #[.bool true, .bool false, .int .i64 (-1), .int .i64 x.t, .int .i64 x.t, .int .i64 x.a, .int .i64 x.b, .slice none 0 0], .int .i64 1] W.drew fun e w' => e = .returned (.tuple #[.int .i64 (Tr.leaf l (nds S) x).n, .int .i64 (Tr.leaf l (nds S) x).e]) ∧ Done w w' B tg g mb l (Tr.leaf l (nds S) x).L := hput.mono (by
  rintro e w' ⟨q1, ⟨m', q2⟩, q3, q4⟩
  exact ⟨q1, ⟨⟨m', _, q2, e3⟩, hsd.trans q3, hbd.trans q4⟩⟩)
 have HPUT := Lib.hid hput2
 have HBW := Lib.hid hbW
 have hwW := Lib.hid hW
 clear h h1 h2 hR hbW hput hput2 e1 e2 e3 hbd hsd
 go_enter Tryz.func36, Tryz.ntmps36
 go_wp2_with fail
 go_region_with (go_at_call 62; refine HPUT.out.mono ?_; rintro e w' ⟨rfl, hR⟩; have HR := Lib.hid hR; clear hR)
 all_goals
  go_wp2
  go_ret2
  exact ⟨rfl, HR.out⟩
end Go.Proofs.YtdhhkancbgealaaGreat
end
