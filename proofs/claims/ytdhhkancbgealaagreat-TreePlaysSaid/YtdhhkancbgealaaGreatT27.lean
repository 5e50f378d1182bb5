import Derived.Test.YtdhhkancbgealaaGreatT25
import Derived.Test.YtdhhkancbgealaaGreatT26
import Derived.Test.YtdhhkancbgealaaGreatT07
namespace Go.Proofs.YtdhhkancbgealaaGreat
open Go.RowKit Go.Shelf
open Lx
set_option linter.unusedVariables false
set_option linter.unusedSimpArgs false
set_option maxRecDepth 100000
namespace Tr
def showEv (P : Nm.Plan) (L : List Nd) (i : Int) (e : Int × Bool) : List UInt8 :=
 if e.2 = true then (if e.1 = i then [] else [32]) ++ ((if (at_ L e.1).leaf = true then [] else [40]) ++ Nm.nameAt P.terms P.vars (at_ L e.1).sym)
 else if (at_ L e.1).leaf = true then [] else [41]
def show_ (P : Nm.Plan) (L : List Nd) (i : Int) : List UInt8 := if has L i = true then (Evs L i).flatMap (showEv P L i) else []
end Tr
theorem Sb.BldV.below_ {w w' : World} {B b : Nat} {v : Value} {l : List UInt8} (h : Sb.BldV w B b v l) (hb : Below w.heap.size w w') : Sb.BldV w' B b v l := by
 obtain ⟨p, h1, h2⟩ := h.ex
 exact ⟨⟨p, h1.below hb h1.lt, h2⟩, own_below h.row hb (fun k hk => (h.row.lt k hk).2)⟩
structure Wr (B bb : Nat) (w : World) (v : Value) (w' : World) (v' : Value) (X : List UInt8) (M : Nat) : Prop where
 bld : Sb.BldV w' B bb v' X
 keeps : Keeps (bb :: v.ownBlock.toList) w w'
 son : SameOrNew w v v'
 len : X.length ≤ 900000000 + M
structure BldL (w : World) (B bb : Nat) (v : Value) (X : List UInt8) : Prop where
 b : Sb.BldV w B bb v X
 len : X.length ≤ 900000000
theorem BldL.lt {w : World} {B b : Nat} {v : Value} {l : List UInt8} (h : BldL w B b v l) : b < w.heap.size := h.b.lt
theorem BldL.row {w : World} {B b : Nat} {v : Value} {l : List UInt8} (h : BldL w B b v l) : w.ownsRow B 5 1 v l.length (Sb.bcells l) := h.b.row
theorem BldL.start {w w' : World} {B b : Nat} {v : Value} {l : List UInt8} (h : BldL w B b v l) (hb : Below w.heap.size w w') : Wr B b w' v w' v l 0 :=
 ⟨h.b.below_ hb, Keeps.refl _ _, fun k hk => .inl hk, by have := h.len; omega⟩
theorem Wr.below {B bb : Nat} {w w1 w2 : World} {v v1 : Value} {X : List UInt8} {M : Nat} (h : Wr B bb w v w1 v1 X M) (hb : Below w1.heap.size w1 w2) : Wr B bb w v w2 v1 X M :=
 ⟨h.bld.below_ hb, h.keeps.trans' (keeps_of_below hb []) (fun x hx => absurd hx (by simp)), h.son, h.len⟩
theorem Wr.write {B bb : Nat} {w w1 w2 : World} {v v1 v2 : Value} {X Y : List UInt8} {M : Nat} (h : Wr B bb w v w1 v1 X M) (hB : Sb.BldV w2 B bb v2 (X ++ Y)) (hK : Keeps (bb :: v1.ownBlock.toList) w1 w2) (hS : SameOrNew w1 v1 v2) (n : Nat) (hl : Y.length ≤ n) : Wr B bb w v w2 v2 (X ++ Y) (M + n) :=
 ⟨hB, h.keeps.trans' hK (fun x hx => by
  rcases List.mem_cons.1 hx with rfl | hx
  ·exact .inl (by simp)
  ·rcases h.son x (by simpa using hx) with h1 | h1
   ·exact .inl (by simp [h1])
   ·exact .inr h1), fun k hk => by
  rcases hS k hk with h1 | h1
  ·exact h.son k h1
  ·exact .inr (Nat.le_trans h.keeps.size h1), by rw [List.length_append]; have := h.len; omega⟩
theorem Wr.done {B bb : Nat} {W w w' : World} {v v' : Value} {X : List UInt8} {M : Nat} (h : Wr B bb w v w' v' X M) (hb : Below W.heap.size W w) : Sb.BldV w' B bb v' X ∧ Keeps (bb :: v.ownBlock.toList) W w' ∧ SameOrNew W v v' :=
 ⟨h.bld, (keeps_of_below hb _).trans h.keeps, fun k hk => by
  rcases h.son k hk with h1 | h1
  ·exact .inl h1
  ·exact .inr (Nat.le_trans hb.size h1)⟩
set_option maxHeartbeats 8000000 in
theorem show1_any (k i : Int) (P1 P2 P3 P4 P5 P6 : Option Addr) (n1 n2 n3 n4 n5 n6 c1 c2 c3 c4 c5 c6 : Nat) (P : Nm.Plan) (bt bi bb bp : Nat) (v : Value) (X : List UInt8) (W : World) (B BT tg g mb : Nat) (l m : Int) (S : List Sl) (h : TreeIs W BT tg g mb l m S)
  (hT : At W bt 38 #[.pointer (some ⟨tg, 0, none⟩)]) (hI : At W bi 3 #[.int .i64 i]) (hP : At W bp 34 #[.slice P1 n1 c1, .slice P2 n2 c2, .slice P3 n3 c3, .slice P4 n4 c4, .slice P5 n5 c5, .slice P6 n6 c6]) (hB : BldL W B bb v X)
  (hAP : ∀ x ∈ bb :: v.ownBlock.toList, x ≠ bi ∧ x ≠ bp) (hBB : B ≤ W.heap.size) (hz : (Nm.nameAt P.terms P.vars (Tr.at_ (nds S) k).sym).length ≤ 1000)
  (hname : ∀ w', Keeps (bb :: v.ownBlock.toList) W w' → Calls Tryz.prog 58 #[.agg #[.slice P1 n1 c1, .slice P2 n2 c2, .slice P3 n3 c3, .slice P4 n4 c4, .slice P5 n5 c5, .slice P6 n6 c6], .int .i64 (Tr.at_ (nds S) k).sym] w' fun e w'' => e = .returned (.string (str (Nm.nameAt P.terms P.vars (Tr.at_ (nds S) k).sym))) ∧ Below w'.heap.size w' w'') :
  Calls Tryz.prog 55 #[.int .i64 k, .pointer (some ⟨bt, 0, none⟩), .pointer (some ⟨bi, 0, none⟩), .pointer (some ⟨bb, 0, none⟩), .pointer (some ⟨bp, 0, none⟩)] W fun e w' => e = .returned (.tuple #[]) ∧
   ∃ v', Sb.BldV w' B bb v' (X ++ Tr.showEv P (nds S) i (k, true)) ∧ Keeps (bb :: v.ownBlock.toList) W w' ∧ SameOrNew W v v' := by
 have t0 := hT.cell 0
 simp at t0
 have hat := tat_parts k W BT tg g mb l m S h
 obtain ⟨EV, hEV⟩ : ∃ EV, Tr.showEv P (nds S) i (k, true) = EV := ⟨_, rfl⟩
 rw [hEV]
 have hev : EV = (if k = i then [] else [32]) ++ ((if (Tr.at_ (nds S) k).leaf = true then [] else [40]) ++ Nm.nameAt P.terms P.vars (Tr.at_ (nds S) k).sym) := by rw [← hEV]; unfold Tr.showEv; rw [if_pos rfl]
 obtain ⟨⟨y0, y1, y2, y3, ⟨y4, y5, y6⟩, y7⟩, hY⟩ : ∃ y, Tr.at_ (nds S) k = y := ⟨_, rfl⟩
 rw [hY] at hat hz hname hev
 dsimp only at hat hz hname hev
 obtain ⟨NM, hNM⟩ : ∃ x, Nm.nameAt P.terms P.vars y3 = x := ⟨_, rfl⟩
 rw [hNM] at hz hname hev
 generalize y7.length = yn at hat
 generalize (slAt S k).A = ya at hat
 generalize (slAt S k).c = yc at hat
 have HAT := Lib.hid hat
 have HNAME := Lib.hid hname
 have HI := Lib.hid hI
 have HP := Lib.hid hP
 have HB := Lib.hid hB
 have HAP := Lib.hid hAP
 have HBB := Lib.hid hBB
 have hzN : NM.length ≤ 1000 := hz
 clear h hT hI hP hB hAP hBB hz hname hat hEV hY hNM
 by_cases hki : k = i
 ·have hne : (k == i) = true := by simpa using hki
  rw [if_pos hki] at hev
  clear hki
  cases y0 with
  | true =>
   have HEV := Lib.hid hev
   clear hev
   go_enter Tryz.func55, Tryz.ntmps55
   go_wp2_with fail
   refine HAT.out.mono ?_
   rintro e w1 ⟨rfl, hb1⟩
   obtain ⟨W2, hW2⟩ : ∃ Y, w1.alloc (.cells #[.bool true, .bool y1, .int .i64 y2, .int .i64 y3, .int .i64 y4, .int .i64 y5, .int .i64 y6, .slice ya yn yc] 91) = Y := ⟨_, rfl⟩
   have hb2 : Below W.heap.size W W2 := by rw [← hW2]; exact hb1.alloc hb1.size _
   have hN2 : At W2 w1.heap.size 91 #[.bool true, .bool y1, .int .i64 y2, .int .i64 y3, .int .i64 y4, .int .i64 y5, .int .i64 y6, .slice ya yn yc] := by rw [← hW2]; exact At.new _ _ _
   have hs1 := hb1.size
   have hI1 := HI.out.below hb1 HI.out.lt
   have j0 := hI1.cell 0
   have hil := hI1.lt
   simp only [List.getElem?_toArray, List.getElem?_cons_zero] at j0
   have hP1 := HP.out.below hb1 HP.out.lt
   have pj0 := hP1.cell 0
   have pj1 := hP1.cell 1
   have pj2 := hP1.cell 2
   have pj3 := hP1.cell 3
   have pj4 := hP1.cell 4
   have pj5 := hP1.cell 5
   have hpl1 := hP1.lt
   simp only [List.getElem?_toArray, List.getElem?_cons_zero, List.getElem?_cons_succ] at pj0 pj1 pj2 pj3 pj4 pj5
   clear hI1 hP1
   have hbl := HB.out.lt
   have HI2 := Lib.hid (HI.out.below hb2 HI.out.lt)
   have HP2 := Lib.hid (HP.out.below hb2 HP.out.lt)
   have S0 := Lib.hid (HB.out.start hb2)
   have HW2 := Lib.hid hW2
   have HNV := Lib.hid (show ∀ x ∈ bb :: v.ownBlock.toList, x ≠ w1.heap.size from fun x hx => by
    rcases List.mem_cons.1 hx with rfl | hx
    ·omega
    ·have := (HB.out.row.lt x (by simpa using hx)).2; omega)
   have hs02 := hb2.size
   have HN := Lib.hid hN2
   have HBW := Lib.hid hb2
   clear hb1 hb2 hN2 hW2
   have hN' := HN.out.keeps S0.out.keeps (fun hm => HNV.out _ hm rfl)
   have hI' := HI2.out.keeps S0.out.keeps (fun hm => (HAP.out _ hm).1 rfl)
   have hP' := HP2.out.keeps S0.out.keeps (fun hm => (HAP.out _ hm).2 rfl)
   have r3 := hN'.cell 3
   have r0 := hN'.cell 0
   have i0 := hI'.cell 0
   have p0 := hP'.cell 0
   have p1 := hP'.cell 1
   have p2 := hP'.cell 2
   have p3 := hP'.cell 3
   have p4 := hP'.cell 4
   have p5 := hP'.cell 5
   simp only [List.getElem?_toArray, List.getElem?_cons_zero, List.getElem?_cons_succ] at r0 r3 i0 p0 p1 p2 p3 p4 p5
   clear hN' hI' hP'
   go_wp2_with fail
   rw [HW2.out]
   refine (HNAME.out W2 ((keeps_of_below HBW.out _).trans S0.out.keeps)).mono ?_
   rintro e w8 ⟨rfl, hb8⟩
   have S8 := Lib.hid (S0.out.below hb8)
   clear hb8
   go_wp2_with fail
   refine (Sb.wstrV B bb _ _ (str NM) w8 S8.out.bld (by have := S8.out.len; omega) (by rw [← bl_length, bl_str]; omega) (Nat.le_trans HBB.out (Nat.le_trans hs02 S8.out.keeps.size))).mono ?_
   rintro e w9 ⟨rfl, v9, hB9, hK9, hS9⟩
   have S9 := Lib.hid (S8.out.write hB9 hK9 hS9 2000 (by rw [bl_str]; omega))
   clear hB9 hK9 hS9
   go_wp2_with fail
   go_end0
   refine ⟨rfl, v9, ?_⟩
   have R := S9.out.done HBW.out
   rw [bl_str] at R
   rw [HEV.out]
   simpa [List.append_assoc] using R
  | false =>
   have HEV := Lib.hid hev
   clear hev
   go_enter Tryz.func55, Tryz.ntmps55
   go_wp2_with fail
   refine HAT.out.mono ?_
   rintro e w1 ⟨rfl, hb1⟩
   obtain ⟨W2, hW2⟩ : ∃ Y, w1.alloc (.cells #[.bool false, .bool y1, .int .i64 y2, .int .i64 y3, .int .i64 y4, .int .i64 y5, .int .i64 y6, .slice ya yn yc] 91) = Y := ⟨_, rfl⟩
   have hb2 : Below W.heap.size W W2 := by rw [← hW2]; exact hb1.alloc hb1.size _
   have hN2 : At W2 w1.heap.size 91 #[.bool false, .bool y1, .int .i64 y2, .int .i64 y3, .int .i64 y4, .int .i64 y5, .int .i64 y6, .slice ya yn yc] := by rw [← hW2]; exact At.new _ _ _
   have hs1 := hb1.size
   have hI1 := HI.out.below hb1 HI.out.lt
   have j0 := hI1.cell 0
   have hil := hI1.lt
   simp only [List.getElem?_toArray, List.getElem?_cons_zero] at j0
   have hP1 := HP.out.below hb1 HP.out.lt
   have pj0 := hP1.cell 0
   have pj1 := hP1.cell 1
   have pj2 := hP1.cell 2
   have pj3 := hP1.cell 3
   have pj4 := hP1.cell 4
   have pj5 := hP1.cell 5
   have hpl1 := hP1.lt
   simp only [List.getElem?_toArray, List.getElem?_cons_zero, List.getElem?_cons_succ] at pj0 pj1 pj2 pj3 pj4 pj5
   clear hI1 hP1
   have hbl := HB.out.lt
   have HI2 := Lib.hid (HI.out.below hb2 HI.out.lt)
   have HP2 := Lib.hid (HP.out.below hb2 HP.out.lt)
   have S0 := Lib.hid (HB.out.start hb2)
   have HW2 := Lib.hid hW2
   have HNV := Lib.hid (show ∀ x ∈ bb :: v.ownBlock.toList, x ≠ w1.heap.size from fun x hx => by
    rcases List.mem_cons.1 hx with rfl | hx
    ·omega
    ·have := (HB.out.row.lt x (by simpa using hx)).2; omega)
   have hs02 := hb2.size
   have HN := Lib.hid hN2
   have HBW := Lib.hid hb2
   clear hb1 hb2 hN2 hW2
   have hN' := HN.out.keeps S0.out.keeps (fun hm => HNV.out _ hm rfl)
   have hI' := HI2.out.keeps S0.out.keeps (fun hm => (HAP.out _ hm).1 rfl)
   have hP' := HP2.out.keeps S0.out.keeps (fun hm => (HAP.out _ hm).2 rfl)
   have r3 := hN'.cell 3
   have r0 := hN'.cell 0
   have i0 := hI'.cell 0
   have p0 := hP'.cell 0
   have p1 := hP'.cell 1
   have p2 := hP'.cell 2
   have p3 := hP'.cell 3
   have p4 := hP'.cell 4
   have p5 := hP'.cell 5
   simp only [List.getElem?_toArray, List.getElem?_cons_zero, List.getElem?_cons_succ] at r0 r3 i0 p0 p1 p2 p3 p4 p5
   clear hN' hI' hP'
   go_wp2_with fail
   rw [HW2.out]
   refine (Sb.wbyteV B bb _ _ 40 W2 S0.out.bld (by have := S0.out.len; omega) (Nat.le_trans HBB.out (Nat.le_trans hs02 S0.out.keeps.size))).mono ?_
   rintro e w3 ⟨rfl, v1, hB1, hK1, hS1⟩
   have S1 := Lib.hid (S0.out.write hB1 hK1 hS1 10 (by simp))
   clear hB1 hK1 hS1 r0 r3 i0 p0 p1 p2 p3 p4 p5
   have hN' := HN.out.keeps S1.out.keeps (fun hm => HNV.out _ hm rfl)
   have hI' := HI2.out.keeps S1.out.keeps (fun hm => (HAP.out _ hm).1 rfl)
   have hP' := HP2.out.keeps S1.out.keeps (fun hm => (HAP.out _ hm).2 rfl)
   have r3 := hN'.cell 3
   have r0 := hN'.cell 0
   have i0 := hI'.cell 0
   have p0 := hP'.cell 0
   have p1 := hP'.cell 1
   have p2 := hP'.cell 2
   have p3 := hP'.cell 3
   have p4 := hP'.cell 4
   have p5 := hP'.cell 5
   simp only [List.getElem?_toArray, List.getElem?_cons_zero, List.getElem?_cons_succ] at r0 r3 i0 p0 p1 p2 p3 p4 p5
   clear hN' hI' hP'
   go_wp2_with fail
   refine (HNAME.out w3 ((keeps_of_below HBW.out _).trans S1.out.keeps)).mono ?_
   rintro e w8 ⟨rfl, hb8⟩
   have S8 := Lib.hid (S1.out.below hb8)
   clear hb8
   go_wp2_with fail
   refine (Sb.wstrV B bb _ _ (str NM) w8 S8.out.bld (by have := S8.out.len; omega) (by rw [← bl_length, bl_str]; omega) (Nat.le_trans HBB.out (Nat.le_trans hs02 S8.out.keeps.size))).mono ?_
   rintro e w9 ⟨rfl, v9, hB9, hK9, hS9⟩
   have S9 := Lib.hid (S8.out.write hB9 hK9 hS9 2000 (by rw [bl_str]; omega))
   clear hB9 hK9 hS9
   go_wp2_with fail
   go_end0
   refine ⟨rfl, v9, ?_⟩
   have R := S9.out.done HBW.out
   rw [bl_str] at R
   rw [HEV.out]
   simpa [List.append_assoc] using R
 ·have hne : (k == i) = false := by simpa using hki
  rw [if_neg hki] at hev
  cases y0 with
  | true =>
   have HEV := Lib.hid hev
   clear hev
   go_enter Tryz.func55, Tryz.ntmps55
   go_wp2_with fail
   refine HAT.out.mono ?_
   rintro e w1 ⟨rfl, hb1⟩
   obtain ⟨W2, hW2⟩ : ∃ Y, w1.alloc (.cells #[.bool true, .bool y1, .int .i64 y2, .int .i64 y3, .int .i64 y4, .int .i64 y5, .int .i64 y6, .slice ya yn yc] 91) = Y := ⟨_, rfl⟩
   have hb2 : Below W.heap.size W W2 := by rw [← hW2]; exact hb1.alloc hb1.size _
   have hN2 : At W2 w1.heap.size 91 #[.bool true, .bool y1, .int .i64 y2, .int .i64 y3, .int .i64 y4, .int .i64 y5, .int .i64 y6, .slice ya yn yc] := by rw [← hW2]; exact At.new _ _ _
   have hs1 := hb1.size
   have hI1 := HI.out.below hb1 HI.out.lt
   have j0 := hI1.cell 0
   have hil := hI1.lt
   simp only [List.getElem?_toArray, List.getElem?_cons_zero] at j0
   have hP1 := HP.out.below hb1 HP.out.lt
   have pj0 := hP1.cell 0
   have pj1 := hP1.cell 1
   have pj2 := hP1.cell 2
   have pj3 := hP1.cell 3
   have pj4 := hP1.cell 4
   have pj5 := hP1.cell 5
   have hpl1 := hP1.lt
   simp only [List.getElem?_toArray, List.getElem?_cons_zero, List.getElem?_cons_succ] at pj0 pj1 pj2 pj3 pj4 pj5
   clear hI1 hP1
   have hbl := HB.out.lt
   have HI2 := Lib.hid (HI.out.below hb2 HI.out.lt)
   have HP2 := Lib.hid (HP.out.below hb2 HP.out.lt)
   have S0 := Lib.hid (HB.out.start hb2)
   have HW2 := Lib.hid hW2
   have HNV := Lib.hid (show ∀ x ∈ bb :: v.ownBlock.toList, x ≠ w1.heap.size from fun x hx => by
    rcases List.mem_cons.1 hx with rfl | hx
    ·omega
    ·have := (HB.out.row.lt x (by simpa using hx)).2; omega)
   have hs02 := hb2.size
   have HN := Lib.hid hN2
   have HBW := Lib.hid hb2
   clear hb1 hb2 hN2 hW2
   have hN' := HN.out.keeps S0.out.keeps (fun hm => HNV.out _ hm rfl)
   have hI' := HI2.out.keeps S0.out.keeps (fun hm => (HAP.out _ hm).1 rfl)
   have hP' := HP2.out.keeps S0.out.keeps (fun hm => (HAP.out _ hm).2 rfl)
   have r3 := hN'.cell 3
   have r0 := hN'.cell 0
   have i0 := hI'.cell 0
   have p0 := hP'.cell 0
   have p1 := hP'.cell 1
   have p2 := hP'.cell 2
   have p3 := hP'.cell 3
   have p4 := hP'.cell 4
   have p5 := hP'.cell 5
   simp only [List.getElem?_toArray, List.getElem?_cons_zero, List.getElem?_cons_succ] at r0 r3 i0 p0 p1 p2 p3 p4 p5
   clear hN' hI' hP'
   go_wp2_with fail
   rw [HW2.out]
   refine (Sb.wbyteV B bb _ _ 32 W2 S0.out.bld (by have := S0.out.len; omega) (Nat.le_trans HBB.out (Nat.le_trans hs02 S0.out.keeps.size))).mono ?_
   rintro e w3 ⟨rfl, v1, hB1, hK1, hS1⟩
   have S1 := Lib.hid (S0.out.write hB1 hK1 hS1 10 (by simp))
   clear hB1 hK1 hS1 r0 r3 i0 p0 p1 p2 p3 p4 p5
   have hN' := HN.out.keeps S1.out.keeps (fun hm => HNV.out _ hm rfl)
   have hI' := HI2.out.keeps S1.out.keeps (fun hm => (HAP.out _ hm).1 rfl)
   have hP' := HP2.out.keeps S1.out.keeps (fun hm => (HAP.out _ hm).2 rfl)
   have r3 := hN'.cell 3
   have r0 := hN'.cell 0
   have i0 := hI'.cell 0
   have p0 := hP'.cell 0
   have p1 := hP'.cell 1
   have p2 := hP'.cell 2
   have p3 := hP'.cell 3
   have p4 := hP'.cell 4
   have p5 := hP'.cell 5
   simp only [List.getElem?_toArray, List.getElem?_cons_zero, List.getElem?_cons_succ] at r0 r3 i0 p0 p1 p2 p3 p4 p5
   clear hN' hI' hP'
   go_wp2_with fail
   refine (HNAME.out w3 ((keeps_of_below HBW.out _).trans S1.out.keeps)).mono ?_
   rintro e w8 ⟨rfl, hb8⟩
   have S8 := Lib.hid (S1.out.below hb8)
   clear hb8
   go_wp2_with fail
   refine (Sb.wstrV B bb _ _ (str NM) w8 S8.out.bld (by have := S8.out.len; omega) (by rw [← bl_length, bl_str]; omega) (Nat.le_trans HBB.out (Nat.le_trans hs02 S8.out.keeps.size))).mono ?_
   rintro e w9 ⟨rfl, v9, hB9, hK9, hS9⟩
   have S9 := Lib.hid (S8.out.write hB9 hK9 hS9 2000 (by rw [bl_str]; omega))
   clear hB9 hK9 hS9
   go_wp2_with fail
   go_end0
   refine ⟨rfl, v9, ?_⟩
   have R := S9.out.done HBW.out
   rw [bl_str] at R
   rw [HEV.out]
   simpa [List.append_assoc] using R
  | false =>
   have HEV := Lib.hid hev
   clear hev
   go_enter Tryz.func55, Tryz.ntmps55
   go_wp2_with fail
   refine HAT.out.mono ?_
   rintro e w1 ⟨rfl, hb1⟩
   obtain ⟨W2, hW2⟩ : ∃ Y, w1.alloc (.cells #[.bool false, .bool y1, .int .i64 y2, .int .i64 y3, .int .i64 y4, .int .i64 y5, .int .i64 y6, .slice ya yn yc] 91) = Y := ⟨_, rfl⟩
   have hb2 : Below W.heap.size W W2 := by rw [← hW2]; exact hb1.alloc hb1.size _
   have hN2 : At W2 w1.heap.size 91 #[.bool false, .bool y1, .int .i64 y2, .int .i64 y3, .int .i64 y4, .int .i64 y5, .int .i64 y6, .slice ya yn yc] := by rw [← hW2]; exact At.new _ _ _
   have hs1 := hb1.size
   have hI1 := HI.out.below hb1 HI.out.lt
   have j0 := hI1.cell 0
   have hil := hI1.lt
   simp only [List.getElem?_toArray, List.getElem?_cons_zero] at j0
   have hP1 := HP.out.below hb1 HP.out.lt
   have pj0 := hP1.cell 0
   have pj1 := hP1.cell 1
   have pj2 := hP1.cell 2
   have pj3 := hP1.cell 3
   have pj4 := hP1.cell 4
   have pj5 := hP1.cell 5
   have hpl1 := hP1.lt
   simp only [List.getElem?_toArray, List.getElem?_cons_zero, List.getElem?_cons_succ] at pj0 pj1 pj2 pj3 pj4 pj5
   clear hI1 hP1
   have hbl := HB.out.lt
   have HI2 := Lib.hid (HI.out.below hb2 HI.out.lt)
   have HP2 := Lib.hid (HP.out.below hb2 HP.out.lt)
   have S0 := Lib.hid (HB.out.start hb2)
   have HW2 := Lib.hid hW2
   have HNV := Lib.hid (show ∀ x ∈ bb :: v.ownBlock.toList, x ≠ w1.heap.size from fun x hx => by
    rcases List.mem_cons.1 hx with rfl | hx
    ·omega
    ·have := (HB.out.row.lt x (by simpa using hx)).2; omega)
   have hs02 := hb2.size
   have HN := Lib.hid hN2
   have HBW := Lib.hid hb2
   clear hb1 hb2 hN2 hW2
   have hN' := HN.out.keeps S0.out.keeps (fun hm => HNV.out _ hm rfl)
   have hI' := HI2.out.keeps S0.out.keeps (fun hm => (HAP.out _ hm).1 rfl)
   have hP' := HP2.out.keeps S0.out.keeps (fun hm => (HAP.out _ hm).2 rfl)
   have r3 := hN'.cell 3
   have r0 := hN'.cell 0
   have i0 := hI'.cell 0
   have p0 := hP'.cell 0
   have p1 := hP'.cell 1
   have p2 := hP'.cell 2
   have p3 := hP'.cell 3
   have p4 := hP'.cell 4
   have p5 := hP'.cell 5
   simp only [List.getElem?_toArray, List.getElem?_cons_zero, List.getElem?_cons_succ] at r0 r3 i0 p0 p1 p2 p3 p4 p5
   clear hN' hI' hP'
   go_wp2_with fail
   rw [HW2.out]
   refine (Sb.wbyteV B bb _ _ 32 W2 S0.out.bld (by have := S0.out.len; omega) (Nat.le_trans HBB.out (Nat.le_trans hs02 S0.out.keeps.size))).mono ?_
   rintro e w3 ⟨rfl, v1, hB1, hK1, hS1⟩
   have S1 := Lib.hid (S0.out.write hB1 hK1 hS1 10 (by simp))
   clear hB1 hK1 hS1 r0 r3 i0 p0 p1 p2 p3 p4 p5
   have hN' := HN.out.keeps S1.out.keeps (fun hm => HNV.out _ hm rfl)
   have hI' := HI2.out.keeps S1.out.keeps (fun hm => (HAP.out _ hm).1 rfl)
   have hP' := HP2.out.keeps S1.out.keeps (fun hm => (HAP.out _ hm).2 rfl)
   have r3 := hN'.cell 3
   have r0 := hN'.cell 0
   have i0 := hI'.cell 0
   have p0 := hP'.cell 0
   have p1 := hP'.cell 1
   have p2 := hP'.cell 2
   have p3 := hP'.cell 3
   have p4 := hP'.cell 4
   have p5 := hP'.cell 5
   simp only [List.getElem?_toArray, List.getElem?_cons_zero, List.getElem?_cons_succ] at r0 r3 i0 p0 p1 p2 p3 p4 p5
   clear hN' hI' hP'
   go_wp2_with fail
   refine (Sb.wbyteV B bb _ _ 40 w3 S1.out.bld (by have := S1.out.len; omega) (Nat.le_trans HBB.out (Nat.le_trans hs02 S1.out.keeps.size))).mono ?_
   rintro e w4 ⟨rfl, v2, hB2, hK2, hS2⟩
   have S2 := Lib.hid (S1.out.write hB2 hK2 hS2 10 (by simp))
   clear hB2 hK2 hS2 r0 r3 i0 p0 p1 p2 p3 p4 p5
   have hN' := HN.out.keeps S2.out.keeps (fun hm => HNV.out _ hm rfl)
   have hI' := HI2.out.keeps S2.out.keeps (fun hm => (HAP.out _ hm).1 rfl)
   have hP' := HP2.out.keeps S2.out.keeps (fun hm => (HAP.out _ hm).2 rfl)
   have r3 := hN'.cell 3
   have r0 := hN'.cell 0
   have i0 := hI'.cell 0
   have p0 := hP'.cell 0
   have p1 := hP'.cell 1
   have p2 := hP'.cell 2
   have p3 := hP'.cell 3
   have p4 := hP'.cell 4
   have p5 := hP'.cell 5
   simp only [List.getElem?_toArray, List.getElem?_cons_zero, List.getElem?_cons_succ] at r0 r3 i0 p0 p1 p2 p3 p4 p5
   clear hN' hI' hP'
   go_wp2_with fail
   refine (HNAME.out w4 ((keeps_of_below HBW.out _).trans S2.out.keeps)).mono ?_
   rintro e w8 ⟨rfl, hb8⟩
   have S8 := Lib.hid (S2.out.below hb8)
   clear hb8
   go_wp2_with fail
   refine (Sb.wstrV B bb _ _ (str NM) w8 S8.out.bld (by have := S8.out.len; omega) (by rw [← bl_length, bl_str]; omega) (Nat.le_trans HBB.out (Nat.le_trans hs02 S8.out.keeps.size))).mono ?_
   rintro e w9 ⟨rfl, v9, hB9, hK9, hS9⟩
   have S9 := Lib.hid (S8.out.write hB9 hK9 hS9 2000 (by rw [bl_str]; omega))
   clear hB9 hK9 hS9
   go_wp2_with fail
   go_end0
   refine ⟨rfl, v9, ?_⟩
   have R := S9.out.done HBW.out
   rw [bl_str] at R
   rw [HEV.out]
   simpa [List.append_assoc] using R
set_option maxHeartbeats 8000000 in
theorem show2_any (k i : Int) (P : Nm.Plan) (bt bb : Nat) (v : Value) (X : List UInt8) (W : World) (B BT tg g mb : Nat) (l m : Int) (S : List Sl) (h : TreeIs W BT tg g mb l m S)
  (hT : At W bt 38 #[.pointer (some ⟨tg, 0, none⟩)]) (hB : BldL W B bb v X) (hBB : B ≤ W.heap.size) :
  Calls Tryz.prog 59 #[.int .i64 k, .pointer (some ⟨bt, 0, none⟩), .pointer (some ⟨bb, 0, none⟩)] W fun e w' => e = .returned (.tuple #[]) ∧
   ∃ v', Sb.BldV w' B bb v' (X ++ Tr.showEv P (nds S) i (k, false)) ∧ Keeps (bb :: v.ownBlock.toList) W w' ∧ SameOrNew W v v' := by
 have t0 := hT.cell 0
 simp at t0
 have hlf := tleaf_any k W BT tg g mb l m S h
 obtain ⟨EV, hEV⟩ : ∃ EV, Tr.showEv P (nds S) i (k, false) = EV := ⟨_, rfl⟩
 rw [hEV]
 have hev : EV = if (Tr.at_ (nds S) k).leaf = true then [] else [41] := by rw [← hEV]; unfold Tr.showEv; rw [if_neg (by simp)]
 generalize (Tr.at_ (nds S) k).leaf = LF at hlf hev
 have HLF := Lib.hid hlf
 have HB := Lib.hid hB
 have HBB := Lib.hid hBB
 clear h hT hB hBB hlf hEV
 cases LF with
 | true =>
  have HEV := Lib.hid hev
  clear hev
  go_enter Tryz.func59, Tryz.ntmps59
  go_wp2_with fail
  refine HLF.out.mono ?_
  rintro e w1 ⟨rfl, hb1⟩
  have S0 := Lib.hid (HB.out.start hb1)
  have HBW := Lib.hid hb1
  have hs02 := hb1.size
  clear hb1
  go_wp2_with fail
  go_end0
  refine ⟨rfl, v, ?_⟩
  have R := S0.out.done HBW.out
  rw [HEV.out]
  simpa using R
 | false =>
  have HEV := Lib.hid hev
  clear hev
  go_enter Tryz.func59, Tryz.ntmps59
  go_wp2_with fail
  refine HLF.out.mono ?_
  rintro e w1 ⟨rfl, hb1⟩
  have S0 := Lib.hid (HB.out.start hb1)
  have HBW := Lib.hid hb1
  have hs02 := hb1.size
  clear hb1
  go_wp2_with fail
  refine (Sb.wbyteV B bb _ _ 41 w1 S0.out.bld (by have := S0.out.len; omega) (Nat.le_trans HBB.out hs02)).mono ?_
  rintro e w2 ⟨rfl, v1, hB1, hK1, hS1⟩
  have S1 := Lib.hid (S0.out.write hB1 hK1 hS1 10 (by simp))
  clear hB1 hK1 hS1
  go_wp2_with fail
  go_end0
  refine ⟨rfl, v1, ?_⟩
  have R := S1.out.done HBW.out
  rw [HEV.out]
  simpa using R
structure ShJ (P : Nm.Plan) (L : List Tr.Nd) (i : Int) (w : World) (bb : Nat) (pre : List (Int × Bool)) (F : List Nat) (W : World) : Prop where
 ex : ∃ v, Sb.BldV W w.heap.size bb v (pre.flatMap (Tr.showEv P L i)) ∧ F = bb :: v.ownBlock.toList
 keeps : Keeps [bb] w W
theorem showEv_len {P : Nm.Plan} {L : List Tr.Nd} {i : Int} (hz : ∀ s, (Nm.nameAt P.terms P.vars s).length ≤ 1000) (e : Int × Bool) : (Tr.showEv P L i e).length ≤ 1002 := by
 have := hz (Tr.at_ L e.1).sym
 unfold Tr.showEv
 split
 ·simp only [List.length_append]
  split <;> split <;> simp <;> omega
 ·split <;> simp
theorem showEvs_len {P : Nm.Plan} {L : List Tr.Nd} {i : Int} (hz : ∀ s, (Nm.nameAt P.terms P.vars s).length ≤ 1000) (E : List (Int × Bool)) : (E.flatMap (Tr.showEv P L i)).length ≤ E.length * 1002 := by
 induction E with
 | nil => simp
 | cons e E ih =>
  rw [List.flatMap_cons, List.length_append, List.length_cons]
  have := showEv_len hz (L := L) (i := i) e
  omega
theorem shJ_ok {w : World} {B tg g mb bb bt bi bp : Nat} {l m : Int} {S : List Sl} {P : Nm.Plan} {i : Int} {P1 P2 P3 P4 P5 P6 : Option Addr} {n1 n2 n3 n4 n5 n6 c1 c2 c3 c4 c5 c6 : Nat} (h : TreeIs w B tg g mb l m S)
  (hbb : At w bb 104 #[.pointer none, .slice none 0 0]) (hT : At w bt 38 #[.pointer (some ⟨tg, 0, none⟩)]) (hI : At w bi 3 #[.int .i64 i]) (hP : At w bp 34 #[.slice P1 n1 c1, .slice P2 n2 c2, .slice P3 n3 c3, .slice P4 n4 c4, .slice P5 n5 c5, .slice P6 n6 c6])
  (hR : PlanR w (.agg #[.slice P1 n1 c1, .slice P2 n2 c2, .slice P3 n3 c3, .slice P4 n4 c4, .slice P5 n5 c5, .slice P6 n6 c6]) P) (hTm : P.terms.length ≤ 1000000) (hVr : P.vars.length ≤ 1000000) (hz : ∀ s, (Nm.nameAt P.terms P.vars s).length ≤ 1000) (E : List (Int × Bool)) (hE : E.length ≤ 800000) :
  WalkOk w.heap.size B tg g mb l m S 55 59 #[.pointer (some ⟨bt, 0, none⟩), .pointer (some ⟨bi, 0, none⟩), .pointer (some ⟨bb, 0, none⟩), .pointer (some ⟨bp, 0, none⟩)] #[.pointer (some ⟨bt, 0, none⟩), .pointer (some ⟨bb, 0, none⟩)] E (ShJ P (nds S) i w bb) where
 entE := enters_of Tryz.func55 (by kernel_rfl) rfl
 entL := enters_of Tryz.func59 (by kernel_rfl) rfl
 tree := fun pre F W hJ => keeps_tree h hbb (by decide) hJ.keeps
 keep := fun pre F W W' T hJ hk hT' => by
  obtain ⟨v, h1, h3⟩ := hJ.ex
  subst h3
  exact ⟨⟨v, h1.keeps hk (fun x hx => ⟨fun e => (hT' x hx).2 (by simp [e]), fun e => (hT' x hx).2 (by simp [e])⟩), rfl⟩, hJ.keeps.trans' hk (fun x hx => .inr (hT' x hx).1)⟩
 own := fun pre F W W' row hJ hg hr => by
  obtain ⟨v, h1, h3⟩ := hJ.ex
  obtain ⟨p, q1, q2⟩ := h1.ex
  refine ⟨⟨v, ⟨⟨p, q1.grown hg (at_rowT q1 hr), q2⟩, h1.row.1, ?_⟩, h3⟩, hJ.keeps.grown hg (fun k hk => .inr (hr k hk).1)⟩
  rcases h1.row.2 with hn | ⟨b, cap, cur, rfl, hb, hgg, rest⟩
  ·exact .inl hn
  ·refine .inr ⟨b, cap, cur, rfl, hb, ?_, rest⟩
   rw [hg.block b (Array.getElem?_eq_some_iff.1 hgg).1 (fun e => by
    obtain ⟨_, o, q1, q2⟩ := hr b e.symm
    rw [hgg] at q1; cases q1; cases q2)]
   exact hgg
 foot := fun pre F W hJ x hx => by
  obtain ⟨v, h1, h3⟩ := hJ.ex
  subst h3
  rcases List.mem_cons.1 hx with rfl | hx
  ·obtain ⟨p, q1, q2⟩ := h1.ex
   unfold At at q1; exact ⟨_, _, _, q1⟩
  ·exact own_cells h1.row x (by simpa using hx)
 enter := fun pre F W k hJ hp => by
  obtain ⟨v, h1, h3⟩ := hJ.ex
  subst h3
  have hpl : pre.length ≤ 800000 := by have := hp.length_le; simp at this; omega
  have hb1 : bb ≠ bi := fun e => by have := hI; rw [← e] at this; unfold At at this hbb; rw [hbb] at this; simp at this
  have hb2 : bb ≠ bp := fun e => by have := hP; rw [← e] at this; unfold At at this hbb; rw [hbb] at this; simp at this
  have hb3 : bb ≠ bt := fun e => by have := hT; rw [← e] at this; unfold At at this hbb; rw [hbb] at this; simp at this
  have hlow : ∀ x ∈ bb :: v.ownBlock.toList, x ≠ bi ∧ x ≠ bp := fun x hx => by
   rcases List.mem_cons.1 hx with rfl | hx
   ·exact ⟨hb1, hb2⟩
   ·have h5 := (h1.row.lt x (by simpa using hx)).1
    have := hI.lt; have := hP.lt
    exact ⟨by omega, by omega⟩
  have hsp : Spares [104] w W := hJ.keeps.spares (fun q hq cs t hh => by
   simp at hq; subst hq
   rw [hbb.type hh]; simp)
  have hRW := hR.spares hsp (by decide) (by decide) (by decide)
  refine (show1_any k i P1 P2 P3 P4 P5 P6 n1 n2 n3 n4 n5 n6 c1 c2 c3 c4 c5 c6 P bt bi bb bp v _ W w.heap.size B tg g mb l m S (keeps_tree h hbb (by decide) hJ.keeps) (hT.keeps hJ.keeps (by simpa using fun e => hb3 e.symm)) (hI.keeps hJ.keeps (by simpa using fun e => hb1 e.symm)) (hP.keeps hJ.keeps (by simpa using fun e => hb2 e.symm)) ⟨h1, ?_⟩ hlow hJ.keeps.size (hz _) (fun w' hk => ?_)).mono ?_
  ·have := showEvs_len hz (L := nds S) (i := i) pre
   omega
  ·have hsp2 : Spares [104, 5] W w' := hk.spares (fun q hq cs t hh => by
    rcases List.mem_cons.1 hq with rfl | hq
    ·obtain ⟨p, q1, _⟩ := h1.ex
     rw [q1.type hh]; simp
    ·rw [own_type h1.row (by simpa using hq) hh]; simp)
   have hRw := hRW.spares hsp2 (by decide) (by decide) (by decide)
   exact name8_any _ P.terms P.vars _ w'.heap.size w' hRw.sym (Nat.le_refl _) hTm hVr
  ·rintro e W' ⟨rfl, v', q1, q2, q3⟩
   refine ⟨rfl, bb :: v'.ownBlock.toList, ⟨⟨v', by rw [List.flatMap_append]; simpa using q1, rfl⟩, hJ.keeps.trans' q2 (fun x hx => ?_)⟩, q2, fun x hx => ?_⟩
   ·rcases List.mem_cons.1 hx with rfl | hx
    ·exact .inl (by simp)
    ·exact .inr (h1.row.lt x (by simpa using hx)).1
   ·rcases List.mem_cons.1 hx with rfl | hx
    ·exact .inl (by simp)
    ·rcases q3 x (by simpa using hx) with h | h
     ·exact .inl (by simp [h])
     ·exact .inr h
 leave := fun pre F W k hJ hp => by
  obtain ⟨v, h1, h3⟩ := hJ.ex
  subst h3
  have hpl : pre.length ≤ 800000 := by have := hp.length_le; simp at this; omega
  have hb3 : bb ≠ bt := fun e => by have := hT; rw [← e] at this; unfold At at this hbb; rw [hbb] at this; simp at this
  refine (show2_any k i P bt bb v _ W w.heap.size B tg g mb l m S (keeps_tree h hbb (by decide) hJ.keeps) (hT.keeps hJ.keeps (by simpa using fun e => hb3 e.symm)) ⟨h1, ?_⟩ hJ.keeps.size).mono ?_
  ·have := showEvs_len hz (L := nds S) (i := i) pre
   omega
  ·rintro e W' ⟨rfl, v', q1, q2, q3⟩
   refine ⟨rfl, bb :: v'.ownBlock.toList, ⟨⟨v', by rw [List.flatMap_append]; simpa using q1, rfl⟩, hJ.keeps.trans' q2 (fun x hx => ?_)⟩, q2, fun x hx => ?_⟩
   ·rcases List.mem_cons.1 hx with rfl | hx
    ·exact .inl (by simp)
    ·exact .inr (h1.row.lt x (by simpa using hx)).1
   ·rcases List.mem_cons.1 hx with rfl | hx
    ·exact .inl (by simp)
    ·rcases q3 x (by simpa using hx) with h | h
     ·exact .inl (by simp [h])
     ·exact .inr h
end Go.Proofs.YtdhhkancbgealaaGreat
