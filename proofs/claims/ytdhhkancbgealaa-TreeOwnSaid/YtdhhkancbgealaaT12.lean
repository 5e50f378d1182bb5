import Derived.Test.YtdhhkancbgealaaT11
import Derived.Test.YtdhhkancbgealaaT09
import Derived.Shelf.Strings.OnBuilder
section
namespace Go.Proofs.Ytdhhkancbgealaa
open Go.RowKit
open Lx
set_option linter.unusedVariables false
set_option linter.unusedSimpArgs false
set_option maxRecDepth 100000
structure SymC (w : World) (B : Nat) (v : Value) (T V : List Rd.Name) : Prop where
 ex : ∃ A1 c1 A2 c2 A3 n3 c3 A4 n4 c4 A5 n5 c5 A6 n6 c6, v = .agg #[.slice A1 T.length c1, .slice A2 V.length c2, .slice A3 n3 c3, .slice A4 n4 c4, .slice A5 n5 c5, .slice A6 n6 c6] ∧ Cl w B A1 (namesV T) ∧ Cl w B A2 (namesV V)
theorem SymC.below {w w' : World} {B : Nat} {v : Value} {T V : List Rd.Name} (h : SymC w B v T V) (hb : Below B w w') : SymC w' B v T V := by
 obtain ⟨A1, c1, A2, c2, A3, n3, c3, A4, n4, c4, A5, n5, c5, A6, n6, c6, e, h1, h2⟩ := h.ex
 exact ⟨A1, c1, A2, c2, A3, n3, c3, A4, n4, c4, A5, n5, c5, A6, n6, c6, e, h1.below hb, h2.below hb⟩
set_option maxHeartbeats 1000000 in
theorem rsym_any (v : Value) (T V : List Rd.Name) (n : Rd.Name) (B : Nat) (w : World) (h : SymC w B v T V) (hB : B ≤ w.heap.size) (hT : T.length ≤ 1000000) (hV : V.length ≤ 1000000) :
  Calls Try.prog 61 #[v, .string (str n)] w fun e w' => e = .returned (.int .i64 (Nm.sym T V n)) ∧ Below w.heap.size w w' := by
 obtain ⟨A1, c1, A2, c2, A3, n3, c3, A4, n4, c4, A5, n5, c5, A6, n6, c6, rfl, h1, h2⟩ := h.ex
 have hb := (Below.refl w.heap.size w).alloc (Nat.le_refl _) (.cells #[.slice A1 T.length c1, .slice A2 V.length c2, .slice A3 n3 c3, .slice A4 n4 c4, .slice A5 n5 c5, .slice A6 n6 c6] 38)
 have hat := At.new w 38 #[.slice A1 T.length c1, .slice A2 V.length c2, .slice A3 n3 c3, .slice A4 n4 c4, .slice A5 n5 c5, .slice A6 n6 c6]
 have HF1 := Lib.hid (show ∀ w', Below w.heap.size w w' → Calls Try.prog 59 #[.slice A1 T.length c1, .string (str n)] w' fun e w'' => e = .returned (.int .i64 (Nm.place T n)) ∧ Below w'.heap.size w' w'' from fun w' hw' => (rplace_any T n A1 c1 B w' (h1.below (hw'.mono hB)) (by omega)).mono fun e w'' ⟨h1, m, h2⟩ => ⟨h1, h2 ▸ below_drewN (Below.refl _ _) m⟩)
 have HF2 := Lib.hid (show ∀ w', Below w.heap.size w w' → Calls Try.prog 59 #[.slice A2 V.length c2, .string (str n)] w' fun e w'' => e = .returned (.int .i64 (Nm.place V n)) ∧ Below w'.heap.size w' w'' from fun w' hw' => (rplace_any V n A2 c2 B w' (h2.below (hw'.mono hB)) (by omega)).mono fun e w'' ⟨h1, m, h2⟩ => ⟨h1, h2 ▸ below_drewN (Below.refl _ _) m⟩)
 have r1 : -1 ≤ Nm.place T n := Nm.find_ge _
 have r2 : Nm.place T n < (T.length : Int) := Nm.find_lt _
 have r3 : -1 ≤ Nm.place V n := Nm.find_ge _
 have r4 : Nm.place V n < (V.length : Int) := Nm.find_lt _
 unfold Nm.sym
 generalize Nm.place T n = a at HF1 r1 r2 ⊢
 generalize Nm.place V n = b at HF2 r3 r4 ⊢
 generalize T.length = NT at HF1 hb hat hT r2 ⊢
 generalize V.length = NV at HF2 hb hat hV r4 ⊢
 generalize str n = S at HF1 HF2 ⊢
 have HB := Lib.hid hb
 have HAT := Lib.hid hat
 clear h h1 h2 hb hat
 by_cases ha : 0 ≤ a
 ·rw [if_pos ha]
  go_enter Try.func61, Try.ntmps61
  go_wp2_with fail
  refine (HF1.out _ HB.out).mono ?_
  rintro e w2 ⟨rfl, hb2⟩
  have HB2 := Lib.hid (HB.out.trans (hb2.mono HB.out.size))
  clear hb2
  go_wp2_with fail
  go_ret
  exact ⟨rfl, HB2.out⟩
 ·rw [if_neg ha]
  by_cases hbb : 0 ≤ b
  ·rw [if_pos hbb]
   go_enter Try.func61, Try.ntmps61
   go_wp2_with fail
   refine (HF1.out _ HB.out).mono ?_
   rintro e w2 ⟨rfl, hb2⟩
   have hat2 := HAT.out.below hb2 HAT.out.lt
   have HAT2 := Lib.hid hat2
   have HB2 := Lib.hid (HB.out.trans (hb2.mono HB.out.size))
   have x0 := hat2.cell 0
   have x1 := hat2.cell 1
   simp only [List.getElem?_toArray, List.getElem?_cons_zero, List.getElem?_cons_succ] at x0 x1
   clear hb2 hat2
   go_wp2_with fail
   refine (HF2.out _ HB2.out).mono ?_
   rintro e w3 ⟨rfl, hb3⟩
   have hat3 := HAT2.out.below hb3 HAT2.out.lt
   have HB3 := Lib.hid (HB2.out.trans (hb3.mono HB2.out.size))
   have y0 := hat3.cell 0
   simp only [List.getElem?_toArray, List.getElem?_cons_zero, List.getElem?_cons_succ] at y0
   clear hb3 hat3 x0 x1
   go_wp2_with fail
   go_ret
   exact ⟨by go_num, HB3.out⟩
  ·rw [if_neg hbb]
   go_enter Try.func61, Try.ntmps61
   go_wp2_with fail
   refine (HF1.out _ HB.out).mono ?_
   rintro e w2 ⟨rfl, hb2⟩
   have hat2 := HAT.out.below hb2 HAT.out.lt
   have HB2 := Lib.hid (HB.out.trans (hb2.mono HB.out.size))
   have x0 := hat2.cell 0
   have x1 := hat2.cell 1
   simp only [List.getElem?_toArray, List.getElem?_cons_zero, List.getElem?_cons_succ] at x0 x1
   clear hb2 hat2
   go_wp2_with fail
   refine (HF2.out _ HB2.out).mono ?_
   rintro e w3 ⟨rfl, hb3⟩
   have HB3 := Lib.hid (HB2.out.trans (hb3.mono HB2.out.size))
   clear hb3 x0 x1
   go_wp2_with fail
   go_ret
   exact ⟨rfl, HB3.out⟩
theorem accept_any (v : Value) (T V : List Rd.Name) (B : Nat) (w : World) (h : SymC w B v T V) (hT : T.length ≤ 1000000) (hV : V.length ≤ 1000000) :
  Calls Try.prog 72 #[v] w fun e w' => e = .returned (.int .i64 ((T.length : Int) + (V.length : Int))) ∧ Below w.heap.size w w' := by
 obtain ⟨A1, c1, A2, c2, A3, n3, c3, A4, n4, c4, A5, n5, c5, A6, n6, c6, rfl, h1, h2⟩ := h.ex
 have HB := Lib.hid ((Below.refl w.heap.size w).alloc (Nat.le_refl _) (.cells #[.slice A1 T.length c1, .slice A2 V.length c2, .slice A3 n3 c3, .slice A4 n4 c4, .slice A5 n5 c5, .slice A6 n6 c6] 38))
 generalize T.length = NT at HB hT ⊢
 generalize V.length = NV at HB hV ⊢
 clear h h1 h2
 go_enter Try.func72, Try.ntmps72
 go_wp2_with fail
 go_ret
 exact ⟨by go_num, HB.out⟩
theorem term_any (v : Value) (T V : List Rd.Name) (i : Int) (B : Nat) (w : World) (h : SymC w B v T V) (hT : T.length ≤ 1000000) :
  Calls Try.prog 73 #[v, .int .i64 i] w fun e w' => e = .returned (.bool (decide (0 ≤ i ∧ i < (T.length : Int)))) ∧ Below w.heap.size w w' := by
 obtain ⟨A1, c1, A2, c2, A3, n3, c3, A4, n4, c4, A5, n5, c5, A6, n6, c6, rfl, h1, h2⟩ := h.ex
 have HB := Lib.hid ((Below.refl w.heap.size w).alloc (Nat.le_refl _) (.cells #[.slice A1 T.length c1, .slice A2 V.length c2, .slice A3 n3 c3, .slice A4 n4 c4, .slice A5 n5 c5, .slice A6 n6 c6] 38))
 generalize T.length = NT at HB hT ⊢
 generalize V.length = NV at HB ⊢
 clear h h1 h2
 by_cases h0 : 0 ≤ i
 ·by_cases hl : i < (NT : Int)
  ·rw [decide_eq_true ⟨h0, hl⟩]
   go_enter Try.func73, Try.ntmps73
   go_wp2_with fail
   go_ret
   exact ⟨rfl, HB.out⟩
  ·rw [decide_eq_false (fun h => hl h.2)]
   go_enter Try.func73, Try.ntmps73
   go_wp2_with fail
   go_ret
   exact ⟨rfl, HB.out⟩
 ·rw [decide_eq_false (fun h => h0 h.1)]
  go_enter Try.func73, Try.ntmps73
  go_wp2_with fail
  go_ret
  exact ⟨rfl, HB.out⟩
theorem cl_get {w : World} {B : Nat} {A : Option Addr} {l : List Rd.Name} (h : Cl w B A (namesV l)) {k : Nat} {x : Rd.Name} (hk : l[k]? = some x) : ∃ b o, A = some ⟨b, o, none⟩ ∧ b < B ∧ w.cell? ⟨b, o + k, none⟩ = some (.string (str x)) := by
 obtain ⟨b, o, h1, h2, h3⟩ := h.ex (fun e => by
  have h1 := namesV_get hk
  rw [e] at h1; simp at h1)
 exact ⟨b, o, h1, h2, h3 _ _ (namesV_get hk)⟩
theorem getD_get {l : List Rd.Name} {k : Nat} (h : k < l.length) : l[k]? = some (l.getD k []) := by simp [List.getD, List.getElem?_eq_getElem h]
end Go.Proofs.Ytdhhkancbgealaa
end
section
namespace Go.Proofs.Ytdhhkancbgealaa
open Go.RowKit
open Lx
set_option linter.unusedVariables false
set_option linter.unusedSimpArgs false
set_option maxRecDepth 100000
set_option maxHeartbeats 16000000 in
theorem name8_any (v : Value) (T V : List Rd.Name) (i : Int) (B : Nat) (w : World) (h : SymC w B v T V) (hB : B ≤ w.heap.size) (hT : T.length ≤ 1000000) (hV : V.length ≤ 1000000) :
  Calls Try.prog 53 #[v, .int .i64 i] w fun e w' => e = .returned (.string (str (Nm.nameAt T V i))) ∧ Below w.heap.size w w' := by
 have hsym := h
 obtain ⟨A1, c1, A2, c2, A3, n3, c3, A4, n4, c4, A5, n5, c5, A6, n6, c6, rfl, h1, h2⟩ := h.ex
 have hb := (Below.refl w.heap.size w).alloc (Nat.le_refl _) (.cells #[.slice A1 T.length c1, .slice A2 V.length c2, .slice A3 n3 c3, .slice A4 n4 c4, .slice A5 n5 c5, .slice A6 n6 c6] 38)
 have hat := At.new w 38 #[.slice A1 T.length c1, .slice A2 V.length c2, .slice A3 n3 c3, .slice A4 n4 c4, .slice A5 n5 c5, .slice A6 n6 c6]
 have HAC := Lib.hid (fun w' (hw' : Below w.heap.size w w') => accept_any _ T V B w' (hsym.below (hw'.mono hB)) hT hV)
 have HTE := Lib.hid (fun w' (hw' : Below w.heap.size w w') => term_any _ T V i B w' (hsym.below (hw'.mono hB)) hT)
 have HC1 := Lib.hid h1
 have HC2 := Lib.hid h2
 have HNE := Lib.hid (show Nm.nameAt T V i = if i < 0 ∨ (T.length : Int) + (V.length : Int) < i then [] else if i = (T.length : Int) + (V.length : Int) then Nm.accN else if i < (T.length : Int) then T.getD i.toNat [] else V.getD (i - (T.length : Int)).toNat [] from rfl)
 have HG1 := Lib.hid (fun k (hk : k < T.length) => getD_get hk)
 have HG2 := Lib.hid (fun k (hk : k < V.length) => getD_get hk)
 obtain ⟨R, hR⟩ : ∃ R, str (Nm.nameAt T V i) = R := ⟨_, rfl⟩
 have HR := Lib.hid hR
 rw [hR]
 generalize T.length = NT at HAC HTE hb hat hT HNE HG1 ⊢
 generalize V.length = NV at HAC HTE hb hat hV HNE HG2 ⊢
 have HB := Lib.hid hb
 have HAT := Lib.hid hat
 clear h h1 h2 hb hat hR hsym
 by_cases h0 : i < 0
 ·have hr : R = ⟨#[]⟩ := by rw [← HR.out, HNE.out, if_pos (.inl h0)]; rfl
  subst hr
  go_enter Try.func53, Try.ntmps53
  go_wp2_with fail
  go_ret
  exact ⟨rfl, HB.out⟩
 ·go_enter Try.func53, Try.ntmps53
  go_wp2_with fail
  refine (HAC.out _ HB.out).mono ?_
  rintro e w2 ⟨rfl, hb2⟩
  have hat2 := HAT.out.below hb2 HAT.out.lt
  have HAT2 := Lib.hid hat2
  have HB2 := Lib.hid (HB.out.trans (hb2.mono HB.out.size))
  have x0 := hat2.cell 0
  have x1 := hat2.cell 1
  have x2 := hat2.cell 2
  have x3 := hat2.cell 3
  have x4 := hat2.cell 4
  have x5 := hat2.cell 5
  simp only [List.getElem?_toArray, List.getElem?_cons_zero, List.getElem?_cons_succ] at x0 x1 x2 x3 x4 x5
  clear hb2 hat2
  by_cases hhi : (NT : Int) + (NV : Int) < i
  ·have hr : R = ⟨#[]⟩ := by rw [← HR.out, HNE.out, if_pos (.inr hhi)]; rfl
   subst hr
   clear x0 x1 x2 x3 x4 x5
   go_wp2_with fail
   go_ret
   exact ⟨rfl, HB2.out⟩
  ·have HNO := Lib.hid (show ¬ (i < 0 ∨ (NT : Int) + (NV : Int) < i) by omega)
   go_wp2_with fail
   refine (HAC.out _ HB2.out).mono ?_
   rintro e w3 ⟨rfl, hb3⟩
   have hat3 := HAT2.out.below hb3 HAT2.out.lt
   have HAT3 := Lib.hid hat3
   have HB3 := Lib.hid (HB2.out.trans (hb3.mono HB2.out.size))
   have y0 := hat3.cell 0
   have y1 := hat3.cell 1
   have y2 := hat3.cell 2
   have y3 := hat3.cell 3
   have y4 := hat3.cell 4
   have y5 := hat3.cell 5
   simp only [List.getElem?_toArray, List.getElem?_cons_zero, List.getElem?_cons_succ] at y0 y1 y2 y3 y4 y5
   clear hb3 hat3 x0 x1 x2 x3 x4 x5
   by_cases hac : i = (NT : Int) + (NV : Int)
   ·have HRR := Lib.hid (show R = str Nm.accN by rw [← HR.out, HNE.out, if_neg HNO.out, if_pos hac])
    have e1 : (i == (NT : Int) + (NV : Int)) = true := beq_iff_eq.2 hac
    clear hac y0 y1 y2 y3 y4 y5
    go_wp2_with fail
    go_ret
    exact ⟨by rw [HRR.out]; rfl, HB3.out⟩
   ·have e1 : (i == (NT : Int) + (NV : Int)) = false := beq_eq_false_iff_ne.2 hac
    have HAN := Lib.hid hac
    clear hac
    go_wp2_with fail
    clear e1
    by_cases ht : i < (NT : Int)
    ·have hd : decide (0 ≤ i ∧ i < (NT : Int)) = true := decide_eq_true ⟨by omega, ht⟩
     rw [hd] at HTE
     refine (HTE.out _ HB3.out).mono ?_
     rintro e w4 ⟨rfl, hb4⟩
     have hat4 := HAT3.out.below hb4 HAT3.out.lt
     have HB4 := Lib.hid (HB3.out.trans (hb4.mono HB3.out.size))
     have z0 := hat4.cell 0
     simp only [List.getElem?_toArray, List.getElem?_cons_zero] at z0
     obtain ⟨k, hk⟩ : ∃ k : Nat, i = (k : Int) := ⟨i.toNat, by omega⟩
     have hg := HG1.out k (by omega)
     obtain ⟨X, hX⟩ : ∃ X, T.getD k [] = X := ⟨_, rfl⟩
     rw [hX] at hg
     obtain ⟨b, o, rfl, hbb, z9⟩ := cl_get (HC1.out.below (HB4.out.mono hB)) hg
     have HRR := Lib.hid (show R = str X by rw [← HR.out, HNE.out, if_neg HNO.out, if_neg HAN.out, if_pos ht, hk, Int.toNat_natCast, hX])
     have hk0 : (0 : Int) ≤ (k : Int) := by omega
     generalize str X = XX at z9 HRR
     subst hk
     clear hb4 hat4 y0 y1 y2 y3 y4 y5 hg hX hd hhi h0
     go_wp2_with fail
     go_ret
     exact ⟨by rw [HRR.out]; rfl, HB4.out⟩
    ·have hd : decide (0 ≤ i ∧ i < (NT : Int)) = false := decide_eq_false (fun h => ht h.2)
     rw [hd] at HTE
     refine (HTE.out _ HB3.out).mono ?_
     rintro e w4 ⟨rfl, hb4⟩
     have hat4 := HAT3.out.below hb4 HAT3.out.lt
     have HB4 := Lib.hid (HB3.out.trans (hb4.mono HB3.out.size))
     have z0 := hat4.cell 0
     have z1 := hat4.cell 1
     simp only [List.getElem?_toArray, List.getElem?_cons_zero, List.getElem?_cons_succ] at z0 z1
     obtain ⟨k, hk⟩ : ∃ k : Nat, i - (NT : Int) = (k : Int) := ⟨(i - (NT : Int)).toNat, by omega⟩
     have hg := HG2.out k (by have := HAN.out; omega)
     obtain ⟨X, hX⟩ : ∃ X, V.getD k [] = X := ⟨_, rfl⟩
     rw [hX] at hg
     obtain ⟨b, o, rfl, hbb, z9⟩ := cl_get (HC2.out.below (HB4.out.mono hB)) hg
     have HRR := Lib.hid (show R = str X by rw [← HR.out, HNE.out, if_neg HNO.out, if_neg HAN.out, if_neg ht, hk, Int.toNat_natCast, hX])
     have hk0 : (0 : Int) ≤ (k : Int) := by omega
     have hk1 : (k : Int) < (NV : Int) := by have := HAN.out; omega
     have hw : wrap64 (i - (NT : Int)) = (k : Int) := by rw [hk]; unfold wrap64; omega
     generalize str X = XX at z9 HRR
     clear hb4 hat4 y0 y1 y2 y3 y4 y5 hg hX hd hhi h0 ht
     go_wp2_with fail
     go_ret
     exact ⟨by rw [HRR.out]; rfl, HB4.out⟩
end Go.Proofs.Ytdhhkancbgealaa
end
section
namespace Go.Proofs.Ytdhhkancbgealaa
open Go.RowKit
open Lx
set_option linter.unusedVariables false
set_option linter.unusedSimpArgs false
set_option maxRecDepth 100000
end Go.Proofs.Ytdhhkancbgealaa
namespace Go.Proofs.Ytdhhkancbgealaa
open Go.RowKit
open Lx
set_option linter.unusedVariables false
set_option linter.unusedSimpArgs false
set_option maxRecDepth 100000
theorem own_built (w : World) (cs : List Value) (e : TypeId) (h : cs.length ≤ maxLen) : (w.alloc (.cells cs.toArray e)).ownsRow w.heap.size e 1 (.slice (some ⟨w.heap.size, 0, none⟩) cs.length cs.length) cs.length cs :=
 ⟨(Nat.mul_one _).symm, .inr ⟨w.heap.size, cs.length, cs.toArray, rfl, Nat.le_refl _, At.new w e cs.toArray, Nat.le_refl _, h, by simp, by simp⟩⟩
end Go.Proofs.Ytdhhkancbgealaa
end
