import Derived.Test.YtdhhkancbgealaaGreatT36
import Derived.Test.YtdhhkancbgealaaGreatT37
import Derived.Test.YtdhhkancbgealaaGreatT39
import Derived.Test.YtdhhkancbgealaaGreatT40
import Derived.Test.YtdhhkancbgealaaGreatT41
namespace Go.Proofs.YtdhhkancbgealaaGreat
open Go.RowKit Go.Shelf
open Lx
set_option linter.unusedVariables false
set_option linter.unusedSimpArgs false
set_option maxRecDepth 100000
theorem PlanR.shape {w : World} {v : Value} {P : Nm.Plan} (h : PlanR w v P) : ∃ P1 n1 c1 P2 n2 c2 P3 n3 c3 P4 n4 c4 P5 n5 c5 P6 n6 c6, v = .agg #[.slice P1 n1 c1, .slice P2 n2 c2, .slice P3 n3 c3, .slice P4 n4 c4, .slice P5 n5 c5, .slice P6 n6 c6] := by
 obtain ⟨A1, c1, A2, c2, A3, c3, A4, c4, A5, c5, A6, c6, e, _⟩ := h.ex
 exact ⟨A1, _, c1, A2, _, c2, A3, _, c3, A4, _, c4, A5, _, c5, A6, _, c6, e⟩
structure TellD (w : World) (rt : Nat) (pv : Value) (P : Nm.Plan) (L : List Tr.Nd) : Prop where
 at_ : ∀ i : Int, ∃ A c, Lie w 3 A (vals (Tr.at_ L i).kids) ∧ ∀ w', Below w.heap.size w w' → Calls Tryz.prog 19 #[.pointer (some ⟨rt, 0, none⟩), .int .i64 i] w' fun e w'' => e = .returned (.agg #[.bool (Tr.at_ L i).leaf, .int .i64 (Tr.at_ L i).rule, .int .i64 (Tr.at_ L i).sym, .int .i64 (Tr.at_ L i).tok.t, .int .i64 (Tr.at_ L i).tok.a, .int .i64 (Tr.at_ L i).tok.b, .slice A (Tr.at_ L i).kids.length c, .bool (Tr.at_ L i).under]) ∧ Below w'.heap.size w' w''
 below : ∀ (i : Int) w', Below w.heap.size w w' → Calls Tryz.prog 27 #[.pointer (some ⟨rt, 0, none⟩), .int .i64 i] w' fun e w'' => ∃ A c, e = .returned (.slice A (Tr.below L i).length c) ∧ w''.ownsRow w'.heap.size 3 1 (.slice A (Tr.below L i).length c) (Tr.below L i).length (vals (Tr.below L i)) ∧ Below w'.heap.size w' w''
 yield : ∀ (i : Int) w', Below w.heap.size w w' → Calls Tryz.prog 30 #[.pointer (some ⟨rt, 0, none⟩), .int .i64 i] w' fun e w'' => ∃ A c, e = .returned (.slice A (Tr.yield L i).length c) ∧ w''.ownsRow w'.heap.size 50 3 (.slice A (Tr.yield L i).length c) (Tr.yield L i).length (toksC (Tr.yield L i)) ∧ Below w'.heap.size w' w''
 right : ∀ (i : Int) w', Below w.heap.size w w' → Calls Tryz.prog 32 #[.pointer (some ⟨rt, 0, none⟩), pv, .int .i64 i] w' fun e w'' => e = .returned (.bool (Tr.right P L i)) ∧ Below w'.heap.size w' w''
 show_ : ∀ (i : Int) w', Below w.heap.size w w' → Calls Tryz.prog 34 #[.pointer (some ⟨rt, 0, none⟩), pv, .int .i64 i] w' fun e w'' => e = .returned (.string (str (Tr.show_ P L i))) ∧ Below w'.heap.size w' w''
theorem slAt_kids {w : World} {S : List Sl} (h : ∀ s ∈ S, Lie w 3 s.A (vals s.x.kids)) (i : Int) : Lie w 3 (slAt S i).A (vals (slAt S i).x.kids) := by
 cases hh : Tr.has (nds S) i with
 | true =>
  obtain ⟨s, h1, h2, _⟩ := slAt_mem hh
  rw [h2]; exact h s (List.mem_of_getElem? h1)
 | false => rw [slAt_out hh]; exact Lie.nil _ _ _
theorem Duo.tellD {w : World} {B tg g mb rt rm : Nat} {l : Int} {L M : List Tr.Nd} {pv : Value} {P : Nm.Plan} (h : Duo w B tg g mb rt rm l L M) (hp : PlanR w pv P) (hs : PlanS P) (hg : Tr.Good M) (hl : M.length ≤ 41) : TellD w rt pv P M := by
 obtain ⟨m, v, S, h1, rfl⟩ := h.ref
 refine ⟨fun i => ⟨(slAt S i).A, (slAt S i).c, ?_, fun w' hw => ?_⟩, fun i w' hw => rbelow_any i w' B rt rm l m v S (h1.below hw) hg (by omega), fun i w' hw => ryield_any i w' B rt rm l m v S (h1.below hw) hg (by omega), fun i w' hw => rright_any pv P i w' B rt rm l m v S (h1.below hw) (hp.below hw) hg (by omega) hs.right, fun i w' hw => rshow_any pv P i w' B rt rm l m v S (h1.below hw) (hp.below hw) hg (by omega) hs.b⟩
 ·rw [← slAt_x]; exact slAt_kids h1.kids i
 ·rw [← slAt_x]; exact rat_any i w' B rt rm l m v S (h1.below hw)
structure TellS (w : World) (tg : Nat) (pv : Value) (P : Nm.Plan) (L : List Tr.Nd) : Prop where
 leaf : ∀ (i : Int) w', Below w.heap.size w w' → Calls Tryz.prog 23 #[.pointer (some ⟨tg, 0, none⟩), .int .i64 i] w' fun e w'' => e = .returned (.bool (Tr.at_ L i).leaf) ∧ Below w'.heap.size w' w''
 show_ : ∀ (i : Int) w', Below w.heap.size w w' → Calls Tryz.prog 33 #[.pointer (some ⟨tg, 0, none⟩), pv, .int .i64 i] w' fun e w'' => e = .returned (.string (str (Tr.show_ P L i))) ∧ Below w'.heap.size w' w''
theorem Duo.tellS {w : World} {B tg g mb rt rm : Nat} {l : Int} {L M : List Tr.Nd} {pv : Value} {P : Nm.Plan} (h : Duo w B tg g mb rt rm l L M) (hp : PlanR w pv P) (hb : PlanB P) (hg : Tr.Good L) (hl : L.length ≤ 41) : TellS w tg pv P L := by
 obtain ⟨m, S, h1, rfl⟩ := h.tree
 have hbl := fun i => hg.bel_len i
 exact ⟨fun i w' hw => tleaf_any i w' B tg g mb l m S (h1.below hw), fun i w' hw => tshow_any pv P i w' B tg g mb l m S (h1.below hw) (hp.below hw) hg.down (by have := hbl i; omega) hb.terms hb.vars (small_names hb.tnames hb.vnames)⟩
theorem Tr.yield_len41 {L : List Tr.Nd} (hg : Tr.Good L) (i : Int) : (Tr.yield L i).length ≤ L.length + 1 := by
 have h1 := hg.below_len i
 have h2 : ∀ l : List Int, (l.flatMap (Tr.tokOf L)).length ≤ l.length := fun l => by
  induction l with
  | nil => exact Nat.le_refl _
  | cons k l ih =>
   rw [List.flatMap_cons, List.length_append, List.length_cons]
   have : (Tr.tokOf L k).length ≤ 1 := by unfold Tr.tokOf; split <;> simp
   omega
 have := h2 (Tr.below L i)
 unfold Tr.yield
 omega
set_option maxHeartbeats 16000000 in
theorem plays18_law (v : Value) (s : Sm.S) (lim : Int) (hlim : -9223372036854775808 ≤ lim ∧ lim ≤ 9223372036854775807) (vo : Value) (os : List Tr.Op) (at_ : Int) (hat_ : -9223372036854775808 ≤ at_ ∧ at_ ≤ 9223372036854775807) (W : World) (hgs : SmallC W W.heap.size v s ∧ SmSz s) (hos : OpsC W W.heap.size vo os ∧ (∀ o ∈ os, opIn o) ∧ os.length ≤ reachBytes) :
  Calls Tryz.prog 3 #[v, .int .i64 lim, vo, .int .i64 at_] W fun e w' => e = .returned (.bool true) ∧ Below W.heap.size W w' := by
 obtain ⟨hg, hs⟩ := hgs
 obtain ⟨ho, hin, hlen⟩ := hos
 have hrb : reachBytes = 140737488351232 := rfl
 have HFEW := Lib.hid (show ∀ w', Below W.heap.size W w' → Calls Tryz.prog 7 #[v, .int .i64 20, .int .i64 8] w' fun e w'' => e = .returned (.bool (Sm.few s 20 8)) ∧ Below w'.heap.size w' w'' from fun w' hw' => sfew_any v s 20 8 W.heap.size w' (hg.below hw') hw'.size hs (by decide) (by decide))
 have HPLN := Lib.hid (fun (hl5 : Sm.nl s ≤ 5) (h20 : s.lefts.length ≤ 20) (h8 : ∀ l ∈ s.rights, l.length ≤ 8) (w' : World) (hw' : Below W.heap.size W w') => splan_any v s W.heap.size w' (hg.below hw') hw'.size hs hl5 h20 h8)
 have HF18 := Lib.hid (fun (w' : World) (hw' : Below W.heap.size W w') => few18_any vo os W.heap.size w' (ho.below hw') hw'.size (by omega) (fun o h => by have := (hin o h).2.2.2.2.2.2.2; omega))
 obtain ⟨AO, cO, ql, rfl, _⟩ := id ho
 have HO := Lib.hid ho
 have HIN := Lib.hid hin
 obtain ⟨x1, x2, E1, m1, f1, E2, m2, f2, E3, m3, f3, E4, m4, f4, E5, m5, f5, rfl⟩ := small_form hg
 have HAT0 := Lib.hid (At.new W 25 #[.int .u8 x1, .int .u8 x2, .slice E1 m1 f1, .slice E2 m2 f2, .slice E3 m3 f3, .slice E4 m4 f4, .slice E5 m5 f5])
 have HB0 := Lib.hid ((Below.refl W.heap.size W).alloc (Nat.le_refl _) (.cells #[.int .u8 x1, .int .u8 x2, .slice E1 m1 f1, .slice E2 m2 f2, .slice E3 m3 f3, .slice E4 m4 f4, .slice E5 m5 f5] 25))
 obtain ⟨on, hon⟩ : ∃ n, os.length = n := ⟨_, rfl⟩
 rw [hon] at HF18 HO ⊢
 have HON := Lib.hid hon
 clear hg hs ho hin hlen hon hrb
 go_enter Tryz.func3, Tryz.ntmps3
 go_wp2_with fail
 refine (awake18_any _).mono ?_
 rintro e w1 ⟨rfl, hb1⟩
 have HAT1 := Lib.hid (HAT0.out.below hb1 HAT0.out.lt)
 have HB1 := Lib.hid (HB0.out.trans (hb1.mono HB0.out.size))
 have ht1 := HAT1.out.lt
 clear hb1
 have x0 := HAT1.out.cell 0
 have x1' := HAT1.out.cell 1
 have x2' := HAT1.out.cell 2
 have x3 := HAT1.out.cell 3
 have x4 := HAT1.out.cell 4
 have x5 := HAT1.out.cell 5
 have x6 := HAT1.out.cell 6
 simp only [List.getElem?_toArray, List.getElem?_cons_zero, List.getElem?_cons_succ] at x0 x1' x2' x3 x4 x5 x6
 go_wp2_with fail
 refine (HFEW.out w1 HB1.out).mono ?_
 rintro e w2 ⟨rfl, hb2⟩
 have HAT2 := Lib.hid (HAT1.out.below hb2 ht1)
 have HB2 := Lib.hid (HB1.out.trans (hb2.mono HB1.out.size))
 clear hb2 x0 x1' x2' x3 x4 x5 x6 ht1 HAT1
 go_wp2_with fail
 refine (HF18.out w2 HB2.out).mono ?_
 rintro e w3 ⟨rfl, hb3⟩
 have HAT3 := Lib.hid (HAT2.out.below hb3 HAT2.out.lt)
 have HB3 := Lib.hid (HB2.out.trans (hb3.mono HB2.out.size))
 clear hb3 HAT2 HB2 HB1
 cases hfew : Sm.few s 20 8 with
 | false =>
  go_wp2_with fail
  go_ret
  exact ⟨rfl, HB3.out⟩
 | true =>
 cases hf18 : Tr.few os with
 | false =>
  go_wp2_with fail
  go_ret
  exact ⟨rfl, HB3.out⟩
 | true =>
 obtain ⟨h20, hl5, h8⟩ := few_partsT hfew
 have HPL := Lib.hid (HPLN.out hl5 h20 h8 w3 HB3.out)
 have HPS := Lib.hid (small_plan h20 h8)
 obtain ⟨PP, hPP⟩ : ∃ P, Nm.plan (Sm.gram s) = P := ⟨_, rfl⟩
 rw [hPP] at HPL HPS
 have HF := Lib.hid hf18
 have ht3 := HAT3.out.lt
 have x0 := HAT3.out.cell 0
 have x1' := HAT3.out.cell 1
 have x2' := HAT3.out.cell 2
 have x3 := HAT3.out.cell 3
 have x4 := HAT3.out.cell 4
 have x5 := HAT3.out.cell 5
 have x6 := HAT3.out.cell 6
 simp only [List.getElem?_toArray, List.getElem?_cons_zero, List.getElem?_cons_succ] at x0 x1' x2' x3 x4 x5 x6
 clear hfew hf18 h20 hl5 h8 HPLN HFEW HF18 HB0 HAT0 hPP
 go_wp2_with fail
 refine HPL.out.mono ?_
 rintro e w4 ⟨⟨pv, rfl, hpl⟩, hb4⟩
 have HB4 := Lib.hid (HB3.out.trans (hb4.mono HB3.out.size))
 have HPR := Lib.hid hpl.planR
 clear hpl hb4 HPL x0 x1' x2' x3 x4 x5 x6 ht3
 obtain ⟨P1, n1, c1, P2, n2, c2, P3, n3, c3, P4, n4, c4, P5, n5, c5, P6, n6, c6, rfl⟩ := HPR.out.shape
 obtain ⟨W1, hW1⟩ : ∃ W, w4.alloc (.cells #[.slice P1 n1 c1, .slice P2 n2 c2, .slice P3 n3 c3, .slice P4 n4 c4, .slice P5 n5 c5, .slice P6 n6 c6] 34) = W := ⟨_, rfl⟩
 have a1 : At W1 w4.heap.size 34 #[.slice P1 n1 c1, .slice P2 n2 c2, .slice P3 n3 c3, .slice P4 n4 c4, .slice P5 n5 c5, .slice P6 n6 c6] := by rw [← hW1]; exact At.new _ _ _
 have hb1 : Below w4.heap.size w4 W1 := by rw [← hW1]; exact (Below.refl w4.heap.size w4).alloc (Nat.le_refl _) _
 have hs1 : W1.heap.size = w4.heap.size + 1 := by rw [← hW1]; simp
 have HW1 := Lib.hid hW1
 have HS1 := Lib.hid hs1
 have HP1 := Lib.hid (HPR.out.below hb1)
 have HA1 := Lib.hid a1
 have HB1 := Lib.hid hb1
 have HFW := Lib.hid (Tr.few_of HF.out).2
 have h40 := (Tr.few_of HF.out).1
 rw [HON.out] at h40
 obtain ⟨lm, hlm⟩ : ∃ x, hld lim = x := ⟨_, rfl⟩
 have hlr := hld_range lim
 rw [hlm] at hlr
 have HLM := Lib.hid hlm
 have HB0 := Lib.hid HB4.out.size
 clear hW1 a1 hb1 hs1 hlm
 go_wp2_with fail
 rw [HW1.out]
 refine (new_any lim _).mono ?_
 rintro e w5 ⟨rfl, hw5⟩
 rw [HLM.out] at hw5
 have hM : At w5 W1.heap.size 87 #[.int .i64 lm, .int .i64 0, .int .i64 0] := by
  rw [← hw5]; exact At.new _ _ _
 have hb5 : Below W1.heap.size W1 w5 := by rw [← hw5]; exact (Below.refl _ _).alloc (Nat.le_refl _) _
 have HNW := Lib.hid (tnew_any W1.heap.size W1.heap.size lm 0 w5 hM hlr hb5.size (Nat.le_refl _))
 have HB5 := Lib.hid hb5
 clear hw5 hM hb5
 go_wp2_with fail
 refine HNW.out.mono ?_
 rintro e w6 ⟨tg, g, rfl, hT, htg, hb6⟩
 have HT6 := Lib.hid hT
 have HB6 := Lib.hid (HB5.out.trans (hb6.mono HB5.out.size))
 clear hT htg hb6 HNW HB5
 go_wp2_with fail
 refine (Held_any lim _).mono ?_
 rw [HLM.out]
 rintro e _ ⟨rfl, rfl⟩
 obtain ⟨W0, hW0⟩ : ∃ W, (w6.alloc (.cells #[.int .i64 lm, .int .i64 0, .int .i64 0] 44)).alloc (.cells #[.pointer (some ⟨w6.heap.size, 0, none⟩), .slice none 0 0] 47) = W := ⟨_, rfl⟩
 have hb4 : Below w6.heap.size w6 W0 := by rw [← hW0]; exact ((Below.refl _ _).alloc (Nat.le_refl _) _).alloc (by simp) _
 have hb10 : Below W1.heap.size W1 W0 := HB6.out.trans (hb4.mono HB6.out.size)
 obtain ⟨mb, hmb⟩ : ∃ mb, mb = W1.heap.size := ⟨_, rfl⟩
 have hDU : Duo W0 W1.heap.size tg g mb (w6.heap.size + 1) w6.heap.size lm [] [] := by
  rw [hmb]
  refine ⟨⟨0, [], HT6.out.below hb4, rfl⟩, ⟨0, .slice none 0 0, [], ⟨?_, World.ownsRow_nil _ _ _ _, ⟨Nat.le_succ_of_le HB6.out.size, HB6.out.size⟩, ?_, fun s hs => absurd hs (by simp), ⟨by rw [costS_nil]; omega, hlr.2⟩, fun s hs => absurd hs (by simp)⟩, rfl⟩, hb10.size⟩
  ·have := At.new (w6.alloc (.cells #[.int .i64 lm, .int .i64 0, .int .i64 0] 44)) 47 #[.pointer (some ⟨w6.heap.size, 0, none⟩), .slice none 0 0]
   rw [hW0, World.size_alloc] at this
   exact this
  ·have := (At.new w6 44 #[.int .i64 lm, .int .i64 0, .int .i64 0]).alloc (.cells #[.pointer (some ⟨w6.heap.size, 0, none⟩), .slice none 0 0] 47)
   rw [hW0] at this
   exact this
 have HDU0 := Lib.hid hDU
 have hb14 : Below w4.heap.size W1 W0 := hb10.mono (by have := HS1.out; omega)
 have HPR0 := Lib.hid (HP1.out.below hb10)
 have HO0 := Lib.hid ((HO.out.below HB4.out).below (((HB1.out.trans hb14)).mono HB0.out))
 have HA0 := Lib.hid (HA1.out.below hb10 (by have := HS1.out; omega))
 have HBW := Lib.hid (HB4.out.trans ((HB1.out.trans hb14).mono HB0.out))
 have HW0 := Lib.hid hW0
 obtain ⟨B0, hB0⟩ : ∃ B0, W.heap.size = B0 := ⟨_, rfl⟩
 rw [hB0] at HO0 HB0
 have HBZ := Lib.hid hB0
 have hB0W : B0 ≤ W0.heap.size := by have := hb10.size; have := HB0.out; have := HS1.out; omega
 have hB0B : B0 ≤ W1.heap.size := by have := HB0.out; have := HS1.out; omega
 have hpB : w4.heap.size < W1.heap.size := by have := HS1.out; omega
 have p0 := HA0.out.cell 0
 have p1 := HA0.out.cell 1
 have p2 := HA0.out.cell 2
 have p3 := HA0.out.cell 3
 have p4 := HA0.out.cell 4
 have p5 := HA0.out.cell 5
 simp only [List.getElem?_toArray, List.getElem?_cons_zero, List.getElem?_cons_succ] at p0 p1 p2 p3 p4 p5
 obtain ⟨rt, hrt⟩ : ∃ rt, w6.heap.size + 1 = rt := ⟨_, rfl⟩
 obtain ⟨rm, hrm⟩ : ∃ rm, w6.heap.size = rm := ⟨_, rfl⟩
 rw [hrt, hrm] at HDU0
 have HRT := Lib.hid hrt
 have HRM := Lib.hid hrm
 have HMB := Lib.hid hmb.symm
 have HMW := Lib.hid (show W1.heap.size = mb from hmb.symm)
 obtain ⟨B, hB⟩ : ∃ B, W1.heap.size = B := ⟨_, rfl⟩
 rw [hB] at HDU0 hB0B hpB HMB
 obtain ⟨pb, hpb⟩ : ∃ pb, w4.heap.size = pb := ⟨_, rfl⟩
 rw [hpb] at p0 p1 p2 p3 p4 p5 hpB
 have HPB := Lib.hid hpb
 have HBB := Lib.hid hB
 have HPR := HPR0
 have HO := HO0
 clear hW0 hb4 hb10 hDU hb14 hrt hrm hmb hB hpb hB0 HP1 HA1 HPR0 HO0 HT6 HB6 HB0 HAT3 HB3 HF HA0
 go_wp2_with fail
 rw [HW0.out, HRT.out, HPB.out, HMW.out]
 go_loopw [16] (fun i wr => ∃ j : Nat, j ≤ on ∧ i = .int .i64 (j : Int) ∧ Duo wr B tg g mb rt rm lm (Tr.run PP lm [] (os.take j)) (Tr.run PP lm [] (os.take j)) ∧ Spares both18 W0 wr ∧ Below B W0 wr) (fun i _ => on - (intOf i).toNat)
 case atStart => exact ⟨0, by omega, rfl, HDU0.out, Spares.refl _ _, Below.refl _ _⟩
 case round =>
  obtain ⟨j, hj, rfl, hdu, hsp, hblw⟩ := hrel
  obtain ⟨LL, hLL⟩ : ∃ x, Tr.run PP lm [] (os.take j) = x := ⟨_, rfl⟩
  rw [hLL] at hdu
  have HLL := Lib.hid hLL
  have HDU := Lib.hid hdu
  have HSP := Lib.hid hsp
  have HBL := Lib.hid hblw
  clear hdu hsp hblw hLL
  by_cases hlt : j < on
  case pos =>
   have hji : (j : Int) < (on : Int) := by omega
   have hj0 : (0 : Int) ≤ (j : Int) := by omega
   obtain ⟨o, ho⟩ : ∃ o, os[j]? = some o := ⟨_, List.getElem?_eq_getElem (by rw [HON.out]; exact hlt)⟩
   obtain ⟨b, q, rfl, hbl, A', c', ⟨A2, c2', hv, hcap, hcl⟩, hcells⟩ := HO.out.at_ ho
   injection hv with hv1 _ hv2
   subst hv1 hv2
   have HSTEP := Lib.hid (show Tr.run PP lm [] (os.take (j + 1)) = Tr.step lm LL (Tr.told PP LL o) by rw [take_snocT ho, Tr.run_snoc, HLL.out])
   have hom := List.mem_of_getElem? ho
   have hten := (HFW.out o hom)
   have hKO : KOk W0 B0 A' o.ks := .inl ⟨hcl, hB0W⟩
   have y0 := hcells 0 _ rfl
   have y1 := hcells 1 _ rfl
   have y2 := hcells 2 _ rfl
   have y3 := hcells 3 _ rfl
   have y4 := hcells 4 _ rfl
   have y5 := hcells 5 _ rfl
   have y6 := hcells 6 _ rfl
   simp only [Nat.add_zero] at y0
   rw [← Nat.add_assoc] at y1 y2 y3 y4 y5 y6
   have hbB : b < B := Nat.lt_of_lt_of_le hbl hB0B
   have hTL : (Tr.told PP LL o).ks.length ≤ 1000000 := Tr.told_small HPS.out _ o hten
   have HTL := Lib.hid hTL
   have HTO := Lib.hid (show Calls Tryz.prog 14 #[.agg #[.slice P1 n1 c1, .slice P2 n2 c2, .slice P3 n3 c3, .slice P4 n4 c4, .slice P5 n5 c5, .slice P6 n6 c6], .pointer (some ⟨rt, 0, none⟩), .agg #[.int .i64 o.d, .int .i64 o.r, .int .i64 o.s, .int .i64 o.x.t, .int .i64 o.x.a, .int .i64 o.x.b, .slice A' o.ks.length c']] wr.drew fun e w' => ∃ A5 c5', e = .returned (.agg (opC (Tr.told PP LL o, .slice A5 (Tr.told PP LL o).ks.length c5')).toArray) ∧ KOk w' B0 A5 (Tr.told PP LL o).ks ∧ (Tr.told PP LL o).ks.length ≤ c5' ∧ Below wr.drew.heap.size wr.drew w' from by
    obtain ⟨m5, v5, S5, k5, k6⟩ := HDU.out.ref
    have hw : Below wr.heap.size wr wr.drew := below_drew (Below.refl _ _)
    have := told_any (.agg #[.slice P1 n1 c1, .slice P2 n2 c2, .slice P3 n3 c3, .slice P4 n4 c4, .slice P5 n5 c5, .slice P6 n6 c6]) PP o A' c' wr.drew B0 B rt rm lm m5 v5 S5 ((HPR.out.spares HSP.out (by decide) (by decide) (by decide)).below hw) HPS.out (k5.below hw) (HIN.out o hom).2.1 ((hKO.step HSP.out (by decide) (HBL.out.mono hB0B)).below hw) hcap
    rw [k6] at this
    exact this)
   obtain ⟨kn, hkn⟩ : ∃ kn, o.ks.length = kn := ⟨_, rfl⟩
   rw [hkn] at y6 HTO
   clear ho hcells hcl hcap hom hten hKO hTL hkn hbl
   go_wp2_with fail
   have hz0 : Below B W0 wr.drew := below_drew HBL.out
   refine Zed.begin_ (fun w' => Below B W0 w') [] (by kernel_rfl) ?_
   refine Zd.pureD (i := 0) (d := some 59) (v := ?vm0) rfl rfl (by kernel_rfl) (by kernel_rfl) (by kernel_rfl) (by kernel_rfl) (by kernel_rfl) (fun _ _ _ h => h) (Or.inl ⟨by kernel_rfl, ?hym0⟩) (.inr hz0) ?restm0
   case hym0 => (intro w _; go_simp; try with_reducible rfl)
   try simp only [Act.put, List.setIfInBounds_toArray, List.set_cons_zero, List.set_cons_succ]
   refine Zd.pureD (i := 1) (d := some 60) (v := ?vm1) rfl rfl (by kernel_rfl) (by kernel_rfl) (by kernel_rfl) (by kernel_rfl) (by kernel_rfl) (fun _ _ _ h => h) (Or.inl ⟨by kernel_rfl, ?hym1⟩) (.inr hz0) ?restm1
   case hym1 => (intro w _; go_simp; try with_reducible rfl)
   try simp only [Act.put, List.setIfInBounds_toArray, List.set_cons_zero, List.set_cons_succ]
   refine Zd.takeD (i := 2) (d := some 61) (v := ?vm2) rfl rfl (by kernel_rfl) (by kernel_rfl) (by kernel_rfl) (by kernel_rfl) (by kernel_rfl) (fun _ _ _ h => h) (Or.inl ⟨by kernel_rfl, ?hym2⟩) hz0 ?restm2
   case hym2 => (intro w hSw; (try dsimp only at hSw); have k0 := (hSw.cell (p := ⟨pb, 0, none⟩) hpB).trans p0; have k1 := (hSw.cell (p := ⟨pb, 1, none⟩) hpB).trans p1; have k2 := (hSw.cell (p := ⟨pb, 2, none⟩) hpB).trans p2; have k3 := (hSw.cell (p := ⟨pb, 3, none⟩) hpB).trans p3; have k4 := (hSw.cell (p := ⟨pb, 4, none⟩) hpB).trans p4; have k5 := (hSw.cell (p := ⟨pb, 5, none⟩) hpB).trans p5; go_simp; try with_reducible rfl)
   try simp only [Act.put, List.setIfInBounds_toArray, List.set_cons_zero, List.set_cons_succ]
   refine Zd.pureD (i := 3) (d := some 62) (v := ?vm3) rfl rfl (by kernel_rfl) (by kernel_rfl) (by kernel_rfl) (by kernel_rfl) (by kernel_rfl) (fun _ _ _ h => h) (Or.inl ⟨by kernel_rfl, ?hym3⟩) (.inr hz0) ?restm3
   case hym3 => (intro w _; go_simp; try with_reducible rfl)
   try simp only [Act.put, List.setIfInBounds_toArray, List.set_cons_zero, List.set_cons_succ]
   refine Zd.pureD (i := 4) (d := some 63) (v := ?vm4) rfl rfl (by kernel_rfl) (by kernel_rfl) (by kernel_rfl) (by kernel_rfl) (by kernel_rfl) (fun _ _ _ h => h) (Or.inl ⟨by kernel_rfl, ?hym4⟩) (.inr hz0) ?restm4
   case hym4 => (intro w _; go_simp; try with_reducible rfl)
   try simp only [Act.put, List.setIfInBounds_toArray, List.set_cons_zero, List.set_cons_succ]
   refine Zd.pureD (i := 5) (d := some 64) (v := ?vm5) rfl rfl (by kernel_rfl) (by kernel_rfl) (by kernel_rfl) (by kernel_rfl) (by kernel_rfl) (fun _ _ _ h => h) (Or.inl ⟨by kernel_rfl, ?hym5⟩) (.inr hz0) ?restm5
   case hym5 => (intro w _; go_simp; try with_reducible rfl)
   try simp only [Act.put, List.setIfInBounds_toArray, List.set_cons_zero, List.set_cons_succ]
   refine Zd.pureD (i := 6) (d := some 65) (v := ?vm6) rfl rfl (by kernel_rfl) (by kernel_rfl) (by kernel_rfl) (by kernel_rfl) (by kernel_rfl) (fun _ _ _ h => h) (Or.inl ⟨by kernel_rfl, ?hym6⟩) (.inr hz0) ?restm6
   case hym6 => (intro w _; go_simp; try with_reducible rfl)
   try simp only [Act.put, List.setIfInBounds_toArray, List.set_cons_zero, List.set_cons_succ]
   refine Zd.takeD (i := 7) (d := some 66) (v := ?vm7) rfl rfl (by kernel_rfl) (by kernel_rfl) (by kernel_rfl) (by kernel_rfl) (by kernel_rfl) (fun _ _ _ h => h) (Or.inl ⟨by kernel_rfl, ?hym7⟩) hz0 ?restm7
   case hym7 => (intro w hSw; (try dsimp only at hSw); have k0 := (hSw.cell (p := ⟨b, q + j * 7, none⟩) hbB).trans y0; have k1 := (hSw.cell (p := ⟨b, q + j * 7 + 1, none⟩) hbB).trans y1; have k2 := (hSw.cell (p := ⟨b, q + j * 7 + 2, none⟩) hbB).trans y2; have k3 := (hSw.cell (p := ⟨b, q + j * 7 + 3, none⟩) hbB).trans y3; have k4 := (hSw.cell (p := ⟨b, q + j * 7 + 4, none⟩) hbB).trans y4; have k5 := (hSw.cell (p := ⟨b, q + j * 7 + 5, none⟩) hbB).trans y5; have k6 := (hSw.cell (p := ⟨b, q + j * 7 + 6, none⟩) hbB).trans y6; go_simp; try with_reducible rfl)
   try simp only [Act.put, List.setIfInBounds_toArray, List.set_cons_zero, List.set_cons_succ]
   refine Zd.call (i := 8) (d := some 67) (by kernel_rfl) rfl rfl (by kernel_rfl) (by kernel_rfl) HTO.out ?_
   rintro e w2 ⟨A5, c5', rfl, hk5, hc5, hb5⟩
   have HB5 := Lib.hid ((below_drew (Below.refl wr.heap.size wr)).trans (hb5.mono (by simp)))
   have HK5 := Lib.hid hk5
   have hz1 := hz0.trans (hb5.mono (Nat.le_trans HDU.out.size (by simp)))
   have HDO := Lib.hid (done_any (Tr.told PP LL o) A5 c5' w2 B0 B tg g mb rt rm lm LL (HDU.out.below HB5.out) hk5 hB0B hc5 (HTL.out))
   clear hk5 hc5 hb5 HTO
   refine ⟨_, rfl, hz1, ?_⟩
   try simp only [Act.put, List.setIfInBounds_toArray, List.set_cons_zero, List.set_cons_succ]
   refine Zd.call (i := 9) (d := some 68) (by kernel_rfl) rfl rfl (by kernel_rfl) (by kernel_rfl) HDO.out ?_
   rintro e w3 ⟨rfl, hdu, hsp, hbl3⟩
   have hz2 := hz1.trans hbl3
   have HDN := Lib.hid hdu
   have HSPN := Lib.hid (HSP.out.trans ((spares_belowT HB5.out both18).trans hsp))
   have HBLN := Lib.hid hz2
   clear hdu hsp hbl3 HDO
   refine ⟨_, rfl, hz2, ?_⟩
   try simp only [Act.put, List.setIfInBounds_toArray, List.set_cons_zero, List.set_cons_succ]
   refine Zd.pureD (i := 10) (d := some 17) (v := ?vm10) rfl rfl (by kernel_rfl) (by kernel_rfl) (by kernel_rfl) (by kernel_rfl) (by kernel_rfl) (fun _ _ _ h => h) (Or.inl ⟨by kernel_rfl, ?hym10⟩) (.inr hz2) ?restm10
   case hym10 => (intro w _; go_simp; try with_reducible rfl)
   try simp only [Act.put, List.setIfInBounds_toArray, List.set_cons_zero, List.set_cons_succ]
   refine Zed.all (by kernel_rfl) ?_ _
   clear hz0 hz1 hz2
   obtain ⟨LN, hLN⟩ : ∃ x, Tr.step lm LL (Tr.told PP LL o) = x := ⟨_, rfl⟩
   rw [hLN] at HDN HSTEP
   obtain ⟨mm, S, hT, hS⟩ := HDN.out.tree
   obtain ⟨mr, vr, S2, hR, hS2⟩ := HDN.out.ref
   obtain ⟨n, hn⟩ : ∃ n, LN.length = n := ⟨_, rfl⟩
   have HLE := Lib.hid (tlen_any w3 B tg g mb lm mm S hT)
   rw [hS, hn] at HLE
   have HCE := Lib.hid (tcells_any w3 B tg g mb lm mm S hT)
   rw [hS] at HCE
   obtain ⟨ao, cap, rfl⟩ := own_form hR.own
   have hn2 : S2.length = n := by rw [← hn, ← hS2, nds_len]
   have hco : costS S = Tr.cost LN := by unfold costS; rw [hS]
   have hco2 : costS S2 = Tr.cost LN := by unfold costS; rw [hS2]
   obtain ⟨C, hC⟩ : ∃ C, Tr.cost LN = C := ⟨_, rfl⟩
   rw [hC] at HCE hco hco2
   obtain ⟨GW, hGW⟩ := Qt.class_of w3.heap.size w3 (Nat.le_refl _)
   obtain ⟨xw, hxw⟩ := hGW.onto w3 (Below.refl _ _)
   have HGW := Lib.hid hGW
   have HXW := Lib.hid hxw
   have d0 := hR.at_.cell 0
   have d1 := hR.at_.cell 1
   have d2 := hR.meter.cell 1
   simp only [List.getElem?_toArray, List.getElem?_cons_zero, List.getElem?_cons_succ] at d0 d1 d2
   rw [hn2] at d1
   rw [hco2] at d2
   have g0 := Qt.cell hGW hR.at_.lt d0
   have g1 := Qt.cell hGW hR.at_.lt d1
   have g2 := Qt.cell hGW hR.meter.lt d2
   have K1 := Lib.hid (calls_atT hGW (fun x => by
    have := rcells_any (GW x) B rt rm lm mr _ S2 (hR.below (hGW.below x))
    rw [hS2, hC] at this
    exact this))
   have K2 := Lib.hid (calls_atT hGW (fun x => by
    have hm := (hT.below (hGW.below x)).meter
    rw [hco] at hm
    exact (used_any mb lm C mm (GW x) hm).mono (by rintro e w' ⟨rfl, rfl⟩; exact ⟨rfl, Below.refl _ _⟩)))
   clear hLN hT hS hn hR hS2 hn2 hco hco2 hC hGW hxw d0 d1 d2
   go_wp2_with fail
   refine HLE.out.mono ?_
   rintro e w4' ⟨rfl, rfl⟩
   clear HLE
   go_wp2_with fail
   refine HCE.out.mono ?_
   rintro e w4' ⟨rfl, rfl⟩
   clear HCE
   go_wp2_with fail
   rw [HXW.out]
   refine Qt.start HGW.out (by kernel_rfl) (by kernel_rfl) ?_
   repeat (go_big_quiet_step (first | with_reducible exact K1.out _ | with_reducible exact K2.out _))
   refine wpQuiet_nil ?_
   intro _ hw'
   obtain ⟨y, hw''⟩ := hw'
   subst hw''
   have HBY := Lib.hid (HGW.out.below y)
   go_wp2_with fail
   go_roundw
   case rel => exact ⟨j + 1, by omega, by go_num, by rw [HSTEP.out]; exact HDN.out.below HBY.out, HSPN.out.trans (spares_belowT HBY.out both18), HBLN.out.trans (HBY.out.mono HDN.out.size)⟩
   case measure => simp [intOf]; omega
  case neg =>
  obtain rfl : on = j := by omega
  obtain ⟨w8, rfl⟩ : ∃ z, z = wr := ⟨_, rfl⟩
  rw [List.take_of_length_le (by rw [HON.out]; exact Nat.le_refl _)] at HLL
  have hgd : Tr.Good LL := by rw [← HLL.out]; exact Tr.run_good _ _ _ _ Tr.good_nil
  have hll : LL.length ≤ 40 := by
   have h1 := Tr.run_len PP lm os []
   rw [HLL.out, HON.out] at h1
   simp at h1; omega
  have htk : ToksIn LL := by rw [← HLL.out]; exact toks_run HIN.out
  have hpr : PlanR w8 (.agg #[.slice P1 n1 c1, .slice P2 n2 c2, .slice P3 n3 c3, .slice P4 n4 c4, .slice P5 n5 c5, .slice P6 n6 c6]) PP := HPR.out.spares HSP.out (by decide) (by decide) (by decide)
  have HTL := Lib.hid (HDU.out.tell hgd hll)
  have HTY := Lib.hid (HDU.out.tellY hgd hll)
  have HTR := Lib.hid (HDU.out.tellR hpr HPS.out.b hgd (by omega))
  have HTD := Lib.hid (HDU.out.tellD hpr HPS.out hgd (by omega))
  have HTS := Lib.hid (HDU.out.tellS hpr HPS.out.b hgd (by omega))
  have HTK := Lib.hid htk
  have HGD := Lib.hid hgd
  obtain ⟨mr, vr, S2, hR, hS2⟩ := HDU.out.ref
  obtain ⟨ao, cap, rfl⟩ := own_form hR.own
  obtain ⟨L, rfl⟩ : ∃ z, z = LL := ⟨_, rfl⟩
  obtain ⟨n, hn⟩ : ∃ n, L.length = n := ⟨_, rfl⟩
  have HN := Lib.hid hn
  have hn40 : n ≤ 40 := by rw [← hn]; exact hll
  have hn2 : S2.length = n := by rw [← hn, ← hS2, nds_len]
  have c1' := hR.at_.cell 1
  simp only [List.getElem?_toArray, List.getElem?_cons_zero, List.getElem?_cons_succ] at c1'
  rw [hn2] at c1'
  have rtl := hR.at_.lt
  have P0 := (HBL.out.cell (p := ⟨pb, 0, none⟩) hpB).trans p0
  have P1' := (HBL.out.cell (p := ⟨pb, 1, none⟩) hpB).trans p1
  have P2' := (HBL.out.cell (p := ⟨pb, 2, none⟩) hpB).trans p2
  have P3' := (HBL.out.cell (p := ⟨pb, 3, none⟩) hpB).trans p3
  have P4' := (HBL.out.cell (p := ⟨pb, 4, none⟩) hpB).trans p4
  have P5' := (HBL.out.cell (p := ⟨pb, 5, none⟩) hpB).trans p5
  have hpbl : pb < w8.heap.size := Nat.lt_of_lt_of_le hpB HDU.out.size
  clear p0 p1 p2 p3 p4 p5
  have p0 := P0
  have p1 := P1'
  have p2 := P2'
  have p3 := P3'
  have p4 := P4'
  have p5 := P5'
  clear P0 P1' P2' P3' P4' P5'
  have HBWW := Lib.hid (HBW.out.trans (HBL.out.mono (by rw [HBZ.out]; exact hB0B)))
  clear hgd hll htk hpr hR hS2 hn hn2 hlt
  have hw1 : IntKind.i64.wrap ((n : Int) + 1) = (n : Int) + 1 := by rw [IntKind.wrap_i64]; omega
  go_wp2_with fail
  go_loopw [20] (fun i wr => ∃ j : Nat, j ≤ n + 3 ∧ i = .int .i64 ((j : Int) - 1) ∧ Below w8.heap.size w8 wr) (fun i _ => ((n : Int) + 2 - intOf i).toNat)
  case atStart => exact ⟨0, by omega, rfl, Below.refl _ _⟩
  case round =>
   obtain ⟨j, hj, rfl, hb⟩ := hrel
   have HB := Lib.hid hb
   have d1 := (hb.cell (p := ⟨rt, 1, none⟩) rtl).trans c1'
   have hrw : rt < wr.heap.size := Nat.lt_of_lt_of_le rtl hb.size
   have hwj : IntKind.i64.wrap ((j : Int) - 1 + 1) = (j : Int) - 1 + 1 := by rw [IntKind.wrap_i64]; omega
   clear hb
   by_cases hlt : j < n + 3
   case neg =>
    have hgt : ¬ (j : Int) - 1 ≤ (n : Int) + 1 := by omega
    go_wp2_with fail
    go_ret
    exact ⟨rfl, HBWW.out.trans (HB.out.mono HBWW.out.size)⟩
   case pos =>
    have hle : (j : Int) - 1 ≤ (n : Int) + 1 := by omega
    by_cases hnj : (n : Int) < (j : Int) - 1
    ·obtain ⟨XA, xc, hxl, hxat⟩ := HTD.out.at_ (at_)
     have hky : (Tr.kidsOf L (at_)).length ≤ n := by have := HGD.out.kids_lenR (at_); rw [HN.out] at this; exact this
     unfold Tr.kidsOf at hky
     have htin := HTK.out (at_)
     have HSY := HTR.out.sym (at_)
     have HRU := HTR.out.rule (at_)
     have HTO := HTY.out.tok (at_)
     have HLE := HTS.out.leaf (at_)
     have HKI := HTL.out.kids (at_)
     obtain ⟨⟨lf, un, ru, sy, ⟨t0, t1, t2⟩, ks⟩, hnd⟩ : ∃ x, Tr.at_ L (at_) = x := ⟨_, rfl⟩
     rw [hnd] at hxl hxat hky htin HSY HRU HTO HLE HKI
     dsimp only at hxl hxat hky htin HSY HRU HTO HLE HKI
     obtain ⟨kn, hkn⟩ : ∃ kn, ks.length = kn := ⟨_, rfl⟩
     rw [hkn] at hxat hky HKI
     have hnq := neq_toksT _ _ htin htin
     dsimp only at hnq
     rw [decide_eq_true rfl] at hnq
     have HKN := Lib.hid hkn
     have HXL := Lib.hid hxl
     have HSYM := Lib.hid HSY
     have HRUL := Lib.hid HRU
     have HTOK := Lib.hid HTO
     have HLEA := Lib.hid HLE
     have HKID := Lib.hid HKI
     have HXAT := Lib.hid hxat
     have hlb := HGD.out.below_len (at_)
     have hly := Tr.yield_len41 HGD.out (at_)
     rw [HN.out] at hlb hly
     have HBE := HTL.out.below (at_)
     have HRBE := HTD.out.below (at_)
     have HYI := HTY.out.yield (at_)
     have HRYI := HTD.out.yield (at_)
     have HYS := Lib.hid (yield_in HTK.out (at_))
     have HRI := HTR.out.right (at_)
     have HRRI := HTD.out.right (at_)
     have HSH := HTS.out.show_ (at_)
     have HRSH := HTD.out.show_ (at_)
     obtain ⟨BL, hBL⟩ : ∃ x, Tr.below L (at_) = x := ⟨_, rfl⟩
     obtain ⟨bn, hbn⟩ : ∃ x, BL.length = x := ⟨_, rfl⟩
     rw [hBL, hbn] at HBE HRBE hlb
     obtain ⟨YL, hYL⟩ : ∃ x, Tr.yield L (at_) = x := ⟨_, rfl⟩
     obtain ⟨yn, hyn⟩ : ∃ x, YL.length = x := ⟨_, rfl⟩
     rw [hYL, hyn] at HYI HRYI hly
     rw [hYL] at HYS
     obtain ⟨RV, hRV⟩ : ∃ x, Tr.right PP L (at_) = x := ⟨_, rfl⟩
     rw [hRV] at HRI HRRI
     obtain ⟨SS, hSS⟩ : ∃ x, str (Tr.show_ PP L (at_)) = x := ⟨_, rfl⟩
     rw [hSS] at HSH HRSH
     have HBN := Lib.hid hbn
     have HYN := Lib.hid hyn
     have HBEL := Lib.hid HBE
     have HRBEL := Lib.hid HRBE
     have HYIE := Lib.hid HYI
     have HRYIE := Lib.hid HRYI
     have HRIG := Lib.hid HRI
     have HRRIG := Lib.hid HRRI
     have HSHO := Lib.hid HSH
     have HRSHO := Lib.hid HRSH
     clear hnd hkn hxl hxat htin HSY HRU HTO HLE HKI HBE HRBE HYI HRYI HRI HRRI HSH HRSH hBL hbn hYL hyn hRV hSS
     go_wp2_with fail
     refine (HXAT.out wr HB.out).mono ?_
     rintro e ua ⟨rfl, hba⟩
     obtain ⟨u0, hu0⟩ : ∃ z, ua.alloc (.cells #[.bool lf, .int .i64 ru, .int .i64 sy, .int .i64 t0, .int .i64 t1, .int .i64 t2, .slice XA kn xc, .bool un] 56) = z := ⟨_, rfl⟩
     obtain ⟨xb, hxb⟩ : ∃ z, ua.heap.size = z := ⟨_, rfl⟩
     have HX0 := Lib.hid (show At u0 xb 56 #[.bool lf, .int .i64 ru, .int .i64 sy, .int .i64 t0, .int .i64 t1, .int .i64 t2, .slice XA kn xc, .bool un] by rw [← hu0, ← hxb]; exact At.new _ _ _)
     have HB0 := Lib.hid (show Below w8.heap.size w8 u0 by rw [← hu0]; exact (HB.out.trans (hba.mono HB.out.size)).alloc (Nat.le_trans HB.out.size hba.size) _)
     have HU0 := Lib.hid hu0
     have HXB := Lib.hid hxb
     clear hba hu0 hxb HXAT
     go_wp2_with fail
     rw [HU0.out, HXB.out]
     have hz0 : Below w8.heap.size w8 u0.drew ∧ At u0.drew xb 56 #[.bool lf, .int .i64 ru, .int .i64 sy, .int .i64 t0, .int .i64 t1, .int .i64 t2, .slice XA kn xc, .bool un] := ⟨below_drew HB0.out, HX0.out.drew⟩
     refine Zed.begin_ (fun w' => Below w8.heap.size w8 w' ∧ At w' xb 56 #[.bool lf, .int .i64 ru, .int .i64 sy, .int .i64 t0, .int .i64 t1, .int .i64 t2, .slice XA kn xc, .bool un]) [] (by as_aux_lemma => kernel_rfl) ?_
     refine Zd.pureD (i := 0) (d := some 124) (v := ?vy0) rfl rfl (by as_aux_lemma => kernel_rfl) (by as_aux_lemma => kernel_rfl) (by as_aux_lemma => kernel_rfl) (by as_aux_lemma => kernel_rfl) (by as_aux_lemma => kernel_rfl) (fun _ _ _ h => h) (Or.inl ⟨by as_aux_lemma => kernel_rfl, ?hyy0⟩) (.inr hz0) ?resty0
     case hyy0 => (intro w _; go_simp; try with_reducible rfl)
     try simp only [Act.put, List.setIfInBounds_toArray, List.set_cons_zero, List.set_cons_succ]
     refine Zd.pureD (i := 1) (d := some 125) (v := ?vy1) rfl rfl (by as_aux_lemma => kernel_rfl) (by as_aux_lemma => kernel_rfl) (by as_aux_lemma => kernel_rfl) (by as_aux_lemma => kernel_rfl) (by as_aux_lemma => kernel_rfl) (fun _ _ _ h => h) (Or.inl ⟨by as_aux_lemma => kernel_rfl, ?hyy1⟩) (.inr hz0) ?resty1
     case hyy1 => (intro w _; go_simp; try with_reducible rfl)
     try simp only [Act.put, List.setIfInBounds_toArray, List.set_cons_zero, List.set_cons_succ]
     refine Zd.pureD (i := 3) (d := some 127) (v := ?vy3) rfl rfl (by as_aux_lemma => kernel_rfl) (by as_aux_lemma => kernel_rfl) (by as_aux_lemma => kernel_rfl) (by as_aux_lemma => kernel_rfl) (by as_aux_lemma => kernel_rfl) (fun _ _ _ h => h) (Or.inl ⟨by as_aux_lemma => kernel_rfl, ?hyy3⟩) (.inr hz0) ?resty3
     case hyy3 => (intro w _; go_simp; try with_reducible rfl)
     try simp only [Act.put, List.setIfInBounds_toArray, List.set_cons_zero, List.set_cons_succ]
     refine Zd.takeD (i := 4) (d := some 128) (v := ?vy4) rfl rfl (by as_aux_lemma => kernel_rfl) (by as_aux_lemma => kernel_rfl) (by as_aux_lemma => kernel_rfl) (by as_aux_lemma => kernel_rfl) (by as_aux_lemma => kernel_rfl) (fun _ _ _ h => h) (Or.inl ⟨by as_aux_lemma => kernel_rfl, ?hyy4⟩) hz0 ?resty4
     case hyy4 => (intro w hSw; (try dsimp only at hSw); obtain ⟨hSb, hSx⟩ := hSw; have r0 := hSx.cell 0; have r1 := hSx.cell 1; have r2 := hSx.cell 2; have r3 := hSx.cell 3; have r4 := hSx.cell 4; have r5 := hSx.cell 5; have r6 := hSx.cell 6; simp only [List.getElem?_toArray, List.getElem?_cons_zero, List.getElem?_cons_succ] at r0 r1 r2 r3 r4 r5 r6; go_simp; try with_reducible rfl)
     try simp only [Act.put, List.setIfInBounds_toArray, List.set_cons_zero, List.set_cons_succ]
     refine Zd.call (i := 2) (d := some 126) (by as_aux_lemma => kernel_rfl) rfl rfl (by as_aux_lemma => kernel_rfl) (by as_aux_lemma => kernel_rfl) (HSYM.out u0.drew hz0.1) ?_
     rintro e u1 ⟨rfl, hb⟩
     have hz1 : Below w8.heap.size w8 u1 ∧ At u1 xb 56 #[.bool lf, .int .i64 ru, .int .i64 sy, .int .i64 t0, .int .i64 t1, .int .i64 t2, .slice XA kn xc, .bool un] := ⟨hz0.1.trans (hb.mono hz0.1.size), hz0.2.below hb hz0.2.lt⟩
     clear hb hz0
     refine ⟨_, rfl, hz1, ?_⟩
     try simp only [Act.put, List.setIfInBounds_toArray, List.set_cons_zero, List.set_cons_succ]
     refine Zd.pureD (i := 5) (d := some 129) (v := ?vy5) rfl rfl (by as_aux_lemma => kernel_rfl) (by as_aux_lemma => kernel_rfl) (by as_aux_lemma => kernel_rfl) (by as_aux_lemma => kernel_rfl) (by as_aux_lemma => kernel_rfl) (fun _ _ _ h => h) (Or.inl ⟨by as_aux_lemma => kernel_rfl, ?hyy5⟩) (.inr hz1) ?resty5
     case hyy5 => (intro w _; go_simp; try with_reducible rfl)
     try simp only [Act.put, List.setIfInBounds_toArray, List.set_cons_zero, List.set_cons_succ]
     refine Zd.pureD (i := 6) (d := some 130) (v := ?vy6) rfl rfl (by as_aux_lemma => kernel_rfl) (by as_aux_lemma => kernel_rfl) (by as_aux_lemma => kernel_rfl) (by as_aux_lemma => kernel_rfl) (by as_aux_lemma => kernel_rfl) (fun _ _ _ h => h) (Or.inl ⟨by as_aux_lemma => kernel_rfl, ?hyy6⟩) (.inr hz1) ?resty6
     case hyy6 => (intro w _; go_simp; try with_reducible rfl)
     try simp only [Act.put, List.setIfInBounds_toArray, List.set_cons_zero, List.set_cons_succ]
     refine Zd.pureD (i := 7) (d := some 131) (v := ?vy7) rfl rfl (by as_aux_lemma => kernel_rfl) (by as_aux_lemma => kernel_rfl) (by as_aux_lemma => kernel_rfl) (by as_aux_lemma => kernel_rfl) (by as_aux_lemma => kernel_rfl) (fun _ _ _ h => h) (Or.inl ⟨by as_aux_lemma => kernel_rfl, ?hyy7⟩) (.inr hz1) ?resty7
     case hyy7 => (intro w _; go_simp; try with_reducible rfl)
     try simp only [Act.put, List.setIfInBounds_toArray, List.set_cons_zero, List.set_cons_succ]
     refine Zd.pureD (i := 8) (d := some 132) (v := ?vy8) rfl rfl (by as_aux_lemma => kernel_rfl) (by as_aux_lemma => kernel_rfl) (by as_aux_lemma => kernel_rfl) (by as_aux_lemma => kernel_rfl) (by as_aux_lemma => kernel_rfl) (fun _ _ _ h => h) (Or.inl ⟨by as_aux_lemma => kernel_rfl, ?hyy8⟩) (.inr hz1) ?resty8
     case hyy8 => (intro w _; go_simp; try with_reducible rfl)
     try simp only [Act.put, List.setIfInBounds_toArray, List.set_cons_zero, List.set_cons_succ]
     refine Zd.pureD (i := 10) (d := some 134) (v := ?vy10) rfl rfl (by as_aux_lemma => kernel_rfl) (by as_aux_lemma => kernel_rfl) (by as_aux_lemma => kernel_rfl) (by as_aux_lemma => kernel_rfl) (by as_aux_lemma => kernel_rfl) (fun _ _ _ h => h) (Or.inl ⟨by as_aux_lemma => kernel_rfl, ?hyy10⟩) (.inr hz1) ?resty10
     case hyy10 => (intro w _; go_simp; try with_reducible rfl)
     try simp only [Act.put, List.setIfInBounds_toArray, List.set_cons_zero, List.set_cons_succ]
     refine Zd.takeD (i := 11) (d := some 135) (v := ?vy11) rfl rfl (by as_aux_lemma => kernel_rfl) (by as_aux_lemma => kernel_rfl) (by as_aux_lemma => kernel_rfl) (by as_aux_lemma => kernel_rfl) (by as_aux_lemma => kernel_rfl) (fun _ _ _ h => h) (Or.inl ⟨by as_aux_lemma => kernel_rfl, ?hyy11⟩) hz1 ?resty11
     case hyy11 => (intro w hSw; (try dsimp only at hSw); obtain ⟨hSb, hSx⟩ := hSw; have r0 := hSx.cell 0; have r1 := hSx.cell 1; have r2 := hSx.cell 2; have r3 := hSx.cell 3; have r4 := hSx.cell 4; have r5 := hSx.cell 5; have r6 := hSx.cell 6; simp only [List.getElem?_toArray, List.getElem?_cons_zero, List.getElem?_cons_succ] at r0 r1 r2 r3 r4 r5 r6; go_simp; try with_reducible rfl)
     try simp only [Act.put, List.setIfInBounds_toArray, List.set_cons_zero, List.set_cons_succ]
     refine Zd.call (i := 9) (d := some 133) (by as_aux_lemma => kernel_rfl) rfl rfl (by as_aux_lemma => kernel_rfl) (by as_aux_lemma => kernel_rfl) (HRUL.out u1 hz1.1) ?_
     rintro e u2 ⟨rfl, hb⟩
     have hz2 : Below w8.heap.size w8 u2 ∧ At u2 xb 56 #[.bool lf, .int .i64 ru, .int .i64 sy, .int .i64 t0, .int .i64 t1, .int .i64 t2, .slice XA kn xc, .bool un] := ⟨hz1.1.trans (hb.mono hz1.1.size), hz1.2.below hb hz1.2.lt⟩
     clear hb hz1
     refine ⟨_, rfl, hz2, ?_⟩
     try simp only [Act.put, List.setIfInBounds_toArray, List.set_cons_zero, List.set_cons_succ]
     refine Zd.pureD (i := 12) (d := some 136) (v := ?vy12) rfl rfl (by as_aux_lemma => kernel_rfl) (by as_aux_lemma => kernel_rfl) (by as_aux_lemma => kernel_rfl) (by as_aux_lemma => kernel_rfl) (by as_aux_lemma => kernel_rfl) (fun _ _ _ h => h) (Or.inl ⟨by as_aux_lemma => kernel_rfl, ?hyy12⟩) (.inr hz2) ?resty12
     case hyy12 => (intro w _; go_simp; try with_reducible rfl)
     try simp only [Act.put, List.setIfInBounds_toArray, List.set_cons_zero, List.set_cons_succ]
     refine Zd.pureD (i := 13) (d := some 137) (v := ?vy13) rfl rfl (by as_aux_lemma => kernel_rfl) (by as_aux_lemma => kernel_rfl) (by as_aux_lemma => kernel_rfl) (by as_aux_lemma => kernel_rfl) (by as_aux_lemma => kernel_rfl) (fun _ _ _ h => h) (Or.inl ⟨by as_aux_lemma => kernel_rfl, ?hyy13⟩) (.inr hz2) ?resty13
     case hyy13 => (intro w _; go_simp; try with_reducible rfl)
     try simp only [Act.put, List.setIfInBounds_toArray, List.set_cons_zero, List.set_cons_succ]
     refine Zd.pureD (i := 14) (d := some 138) (v := ?vy14) rfl rfl (by as_aux_lemma => kernel_rfl) (by as_aux_lemma => kernel_rfl) (by as_aux_lemma => kernel_rfl) (by as_aux_lemma => kernel_rfl) (by as_aux_lemma => kernel_rfl) (fun _ _ _ h => h) (Or.inl ⟨by as_aux_lemma => kernel_rfl, ?hyy14⟩) (.inr hz2) ?resty14
     case hyy14 => (intro w _; go_simp; try with_reducible rfl)
     try simp only [Act.put, List.setIfInBounds_toArray, List.set_cons_zero, List.set_cons_succ]
     refine Zd.pureD (i := 15) (d := some 139) (v := ?vy15) rfl rfl (by as_aux_lemma => kernel_rfl) (by as_aux_lemma => kernel_rfl) (by as_aux_lemma => kernel_rfl) (by as_aux_lemma => kernel_rfl) (by as_aux_lemma => kernel_rfl) (fun _ _ _ h => h) (Or.inl ⟨by as_aux_lemma => kernel_rfl, ?hyy15⟩) (.inr hz2) ?resty15
     case hyy15 => (intro w _; go_simp; try with_reducible rfl)
     try simp only [Act.put, List.setIfInBounds_toArray, List.set_cons_zero, List.set_cons_succ]
     refine Zd.pureD (i := 16) (d := some 140) (v := ?vy16) rfl rfl (by as_aux_lemma => kernel_rfl) (by as_aux_lemma => kernel_rfl) (by as_aux_lemma => kernel_rfl) (by as_aux_lemma => kernel_rfl) (by as_aux_lemma => kernel_rfl) (fun _ _ _ h => h) (Or.inl ⟨by as_aux_lemma => kernel_rfl, ?hyy16⟩) (.inr hz2) ?resty16
     case hyy16 => (intro w _; go_simp; try with_reducible rfl)
     try simp only [Act.put, List.setIfInBounds_toArray, List.set_cons_zero, List.set_cons_succ]
     refine Zd.pureD (i := 18) (d := some 142) (v := ?vy18) rfl rfl (by as_aux_lemma => kernel_rfl) (by as_aux_lemma => kernel_rfl) (by as_aux_lemma => kernel_rfl) (by as_aux_lemma => kernel_rfl) (by as_aux_lemma => kernel_rfl) (fun _ _ _ h => h) (Or.inl ⟨by as_aux_lemma => kernel_rfl, ?hyy18⟩) (.inr hz2) ?resty18
     case hyy18 => (intro w _; go_simp; try with_reducible rfl)
     try simp only [Act.put, List.setIfInBounds_toArray, List.set_cons_zero, List.set_cons_succ]
     refine Zd.takeD (i := 19) (d := some 143) (v := ?vy19) rfl rfl (by as_aux_lemma => kernel_rfl) (by as_aux_lemma => kernel_rfl) (by as_aux_lemma => kernel_rfl) (by as_aux_lemma => kernel_rfl) (by as_aux_lemma => kernel_rfl) (fun _ _ _ h => h) (Or.inl ⟨by as_aux_lemma => kernel_rfl, ?hyy19⟩) hz2 ?resty19
     case hyy19 => (intro w hSw; (try dsimp only at hSw); obtain ⟨hSb, hSx⟩ := hSw; have r0 := hSx.cell 0; have r1 := hSx.cell 1; have r2 := hSx.cell 2; have r3 := hSx.cell 3; have r4 := hSx.cell 4; have r5 := hSx.cell 5; have r6 := hSx.cell 6; simp only [List.getElem?_toArray, List.getElem?_cons_zero, List.getElem?_cons_succ] at r0 r1 r2 r3 r4 r5 r6; go_simp; try with_reducible rfl)
     try simp only [Act.put, List.setIfInBounds_toArray, List.set_cons_zero, List.set_cons_succ]
     refine Zd.call (i := 17) (d := some 141) (by as_aux_lemma => kernel_rfl) rfl rfl (by as_aux_lemma => kernel_rfl) (by as_aux_lemma => kernel_rfl) (HTOK.out u2 hz2.1) ?_
     rintro e u3 ⟨rfl, hb⟩
     have hz3 : Below w8.heap.size w8 u3 ∧ At u3 xb 56 #[.bool lf, .int .i64 ru, .int .i64 sy, .int .i64 t0, .int .i64 t1, .int .i64 t2, .slice XA kn xc, .bool un] := ⟨hz2.1.trans (hb.mono hz2.1.size), hz2.2.below hb hz2.2.lt⟩
     clear hb hz2
     refine ⟨_, rfl, hz3, ?_⟩
     try simp only [Act.put, List.setIfInBounds_toArray, List.set_cons_zero, List.set_cons_succ]
     refine Zd.pureD (i := 20) (d := some 144) (v := ?vy20) rfl rfl (by as_aux_lemma => kernel_rfl) (by as_aux_lemma => kernel_rfl) (by as_aux_lemma => kernel_rfl) (by as_aux_lemma => kernel_rfl) (by as_aux_lemma => kernel_rfl) (fun _ _ _ h => h) (Or.inl ⟨by as_aux_lemma => kernel_rfl, ?hyy20⟩) (.inr hz3) ?resty20
     case hyy20 => (intro w _; go_simp; try with_reducible rfl)
     try simp only [Act.put, List.setIfInBounds_toArray, List.set_cons_zero, List.set_cons_succ]
     refine Zd.pureD (i := 21) (d := some 145) (v := ?vy21) rfl rfl (by as_aux_lemma => kernel_rfl) (by as_aux_lemma => kernel_rfl) (by as_aux_lemma => kernel_rfl) (by as_aux_lemma => kernel_rfl) (by as_aux_lemma => kernel_rfl) (fun _ _ _ h => h) (Or.inl ⟨by as_aux_lemma => kernel_rfl, ?hyy21⟩) (.inr hz3) ?resty21
     case hyy21 => (intro w _; go_simp; try with_reducible rfl)
     try simp only [Act.put, List.setIfInBounds_toArray, List.set_cons_zero, List.set_cons_succ]
     refine Zd.pureD (i := 22) (d := some 146) (v := ?vy22) rfl rfl (by as_aux_lemma => kernel_rfl) (by as_aux_lemma => kernel_rfl) (by as_aux_lemma => kernel_rfl) (by as_aux_lemma => kernel_rfl) (by as_aux_lemma => kernel_rfl) (fun _ _ _ h => h) (Or.inl ⟨by as_aux_lemma => kernel_rfl, ?hyy22⟩) (.inr hz3) ?resty22
     case hyy22 => (intro w _; go_simp; try with_reducible rfl)
     try simp only [Act.put, List.setIfInBounds_toArray, List.set_cons_zero, List.set_cons_succ]
     refine Zd.pureD (i := 23) (d := some 147) (v := ?vy23) rfl rfl (by as_aux_lemma => kernel_rfl) (by as_aux_lemma => kernel_rfl) (by as_aux_lemma => kernel_rfl) (by as_aux_lemma => kernel_rfl) (by as_aux_lemma => kernel_rfl) (fun _ _ _ h => h) (Or.inl ⟨by as_aux_lemma => kernel_rfl, ?hyy23⟩) (.inr hz3) ?resty23
     case hyy23 => (intro w _; go_simp; try with_reducible rfl)
     try simp only [Act.put, List.setIfInBounds_toArray, List.set_cons_zero, List.set_cons_succ]
     refine Zd.pureD (i := 24) (d := some 148) (v := ?vy24) rfl rfl (by as_aux_lemma => kernel_rfl) (by as_aux_lemma => kernel_rfl) (by as_aux_lemma => kernel_rfl) (by as_aux_lemma => kernel_rfl) (by as_aux_lemma => kernel_rfl) (fun _ _ _ h => h) (Or.inl ⟨by as_aux_lemma => kernel_rfl, ?hyy24⟩) (.inr hz3) ?resty24
     case hyy24 => (intro w _; go_simp; try with_reducible rfl)
     try simp only [Act.put, List.setIfInBounds_toArray, List.set_cons_zero, List.set_cons_succ]
     refine Zd.pureD (i := 26) (d := some 150) (v := ?vy26) rfl rfl (by as_aux_lemma => kernel_rfl) (by as_aux_lemma => kernel_rfl) (by as_aux_lemma => kernel_rfl) (by as_aux_lemma => kernel_rfl) (by as_aux_lemma => kernel_rfl) (fun _ _ _ h => h) (Or.inl ⟨by as_aux_lemma => kernel_rfl, ?hyy26⟩) (.inr hz3) ?resty26
     case hyy26 => (intro w _; go_simp; try with_reducible rfl)
     try simp only [Act.put, List.setIfInBounds_toArray, List.set_cons_zero, List.set_cons_succ]
     refine Zd.takeD (i := 27) (d := some 151) (v := ?vy27) rfl rfl (by as_aux_lemma => kernel_rfl) (by as_aux_lemma => kernel_rfl) (by as_aux_lemma => kernel_rfl) (by as_aux_lemma => kernel_rfl) (by as_aux_lemma => kernel_rfl) (fun _ _ _ h => h) (Or.inl ⟨by as_aux_lemma => kernel_rfl, ?hyy27⟩) hz3 ?resty27
     case hyy27 => (intro w hSw; (try dsimp only at hSw); obtain ⟨hSb, hSx⟩ := hSw; have r0 := hSx.cell 0; have r1 := hSx.cell 1; have r2 := hSx.cell 2; have r3 := hSx.cell 3; have r4 := hSx.cell 4; have r5 := hSx.cell 5; have r6 := hSx.cell 6; simp only [List.getElem?_toArray, List.getElem?_cons_zero, List.getElem?_cons_succ] at r0 r1 r2 r3 r4 r5 r6; go_simp; try with_reducible rfl)
     try simp only [Act.put, List.setIfInBounds_toArray, List.set_cons_zero, List.set_cons_succ]
     refine Zd.call (i := 25) (d := some 149) (by as_aux_lemma => kernel_rfl) rfl rfl (by as_aux_lemma => kernel_rfl) (by as_aux_lemma => kernel_rfl) (HLEA.out u3 hz3.1) ?_
     rintro e u4 ⟨rfl, hb⟩
     have hz4 : Below w8.heap.size w8 u4 ∧ At u4 xb 56 #[.bool lf, .int .i64 ru, .int .i64 sy, .int .i64 t0, .int .i64 t1, .int .i64 t2, .slice XA kn xc, .bool un] := ⟨hz3.1.trans (hb.mono hz3.1.size), hz3.2.below hb hz3.2.lt⟩
     clear hb hz3
     refine ⟨_, rfl, hz4, ?_⟩
     try simp only [Act.put, List.setIfInBounds_toArray, List.set_cons_zero, List.set_cons_succ]
     refine Zd.pureD (i := 28) (d := some 152) (v := ?vy28) rfl rfl (by as_aux_lemma => kernel_rfl) (by as_aux_lemma => kernel_rfl) (by as_aux_lemma => kernel_rfl) (by as_aux_lemma => kernel_rfl) (by as_aux_lemma => kernel_rfl) (fun _ _ _ h => h) (Or.inl ⟨by as_aux_lemma => kernel_rfl, ?hyy28⟩) (.inr hz4) ?resty28
     case hyy28 => (intro w _; go_simp; try with_reducible rfl)
     try simp only [Act.put, List.setIfInBounds_toArray, List.set_cons_zero, List.set_cons_succ]
     refine Zd.pureD (i := 29) (d := some 153) (v := ?vy29) rfl rfl (by as_aux_lemma => kernel_rfl) (by as_aux_lemma => kernel_rfl) (by as_aux_lemma => kernel_rfl) (by as_aux_lemma => kernel_rfl) (by as_aux_lemma => kernel_rfl) (fun _ _ _ h => h) (Or.inl ⟨by as_aux_lemma => kernel_rfl, ?hyy29⟩) (.inr hz4) ?resty29
     case hyy29 => (intro w _; go_simp; try with_reducible rfl)
     try simp only [Act.put, List.setIfInBounds_toArray, List.set_cons_zero, List.set_cons_succ]
     refine Zd.pureD (i := 30) (d := some 154) (v := ?vy30) rfl rfl (by as_aux_lemma => kernel_rfl) (by as_aux_lemma => kernel_rfl) (by as_aux_lemma => kernel_rfl) (by as_aux_lemma => kernel_rfl) (by as_aux_lemma => kernel_rfl) (fun _ _ _ h => h) (Or.inl ⟨by as_aux_lemma => kernel_rfl, ?hyy30⟩) (.inr hz4) ?resty30
     case hyy30 => (intro w _; go_simp; try with_reducible rfl)
     try simp only [Act.put, List.setIfInBounds_toArray, List.set_cons_zero, List.set_cons_succ]
     refine Zd.pureD (i := 31) (d := some 155) (v := ?vy31) rfl rfl (by as_aux_lemma => kernel_rfl) (by as_aux_lemma => kernel_rfl) (by as_aux_lemma => kernel_rfl) (by as_aux_lemma => kernel_rfl) (by as_aux_lemma => kernel_rfl) (fun _ _ _ h => h) (Or.inl ⟨by as_aux_lemma => kernel_rfl, ?hyy31⟩) (.inr hz4) ?resty31
     case hyy31 => (intro w _; go_simp; try with_reducible rfl)
     try simp only [Act.put, List.setIfInBounds_toArray, List.set_cons_zero, List.set_cons_succ]
     refine Zd.pureD (i := 32) (d := some 156) (v := ?vy32) rfl rfl (by as_aux_lemma => kernel_rfl) (by as_aux_lemma => kernel_rfl) (by as_aux_lemma => kernel_rfl) (by as_aux_lemma => kernel_rfl) (by as_aux_lemma => kernel_rfl) (fun _ _ _ h => h) (Or.inl ⟨by as_aux_lemma => kernel_rfl, ?hyy32⟩) (.inr hz4) ?resty32
     case hyy32 => (intro w _; go_simp; try with_reducible rfl)
     try simp only [Act.put, List.setIfInBounds_toArray, List.set_cons_zero, List.set_cons_succ]
     refine Zd.pureD (i := 34) (d := some 158) (v := ?vy34) rfl rfl (by as_aux_lemma => kernel_rfl) (by as_aux_lemma => kernel_rfl) (by as_aux_lemma => kernel_rfl) (by as_aux_lemma => kernel_rfl) (by as_aux_lemma => kernel_rfl) (fun _ _ _ h => h) (Or.inl ⟨by as_aux_lemma => kernel_rfl, ?hyy34⟩) (.inr hz4) ?resty34
     case hyy34 => (intro w _; go_simp; try with_reducible rfl)
     try simp only [Act.put, List.setIfInBounds_toArray, List.set_cons_zero, List.set_cons_succ]
     refine Zd.takeD (i := 35) (d := some 159) (v := ?vy35) rfl rfl (by as_aux_lemma => kernel_rfl) (by as_aux_lemma => kernel_rfl) (by as_aux_lemma => kernel_rfl) (by as_aux_lemma => kernel_rfl) (by as_aux_lemma => kernel_rfl) (fun _ _ _ h => h) (Or.inl ⟨by as_aux_lemma => kernel_rfl, ?hyy35⟩) hz4 ?resty35
     case hyy35 => (intro w hSw; (try dsimp only at hSw); obtain ⟨hSb, hSx⟩ := hSw; have r0 := hSx.cell 0; have r1 := hSx.cell 1; have r2 := hSx.cell 2; have r3 := hSx.cell 3; have r4 := hSx.cell 4; have r5 := hSx.cell 5; have r6 := hSx.cell 6; simp only [List.getElem?_toArray, List.getElem?_cons_zero, List.getElem?_cons_succ] at r0 r1 r2 r3 r4 r5 r6; go_simp; try with_reducible rfl)
     try simp only [Act.put, List.setIfInBounds_toArray, List.set_cons_zero, List.set_cons_succ]
     refine Zd.call (i := 33) (d := some 157) (by as_aux_lemma => kernel_rfl) rfl rfl (by as_aux_lemma => kernel_rfl) (by as_aux_lemma => kernel_rfl) (HKID.out u4 hz4.1) ?_
     rintro e u5 ⟨KA, kc, rfl, ho, hb⟩
     have hz5 : Below w8.heap.size w8 u5 ∧ At u5 xb 56 #[.bool lf, .int .i64 ru, .int .i64 sy, .int .i64 t0, .int .i64 t1, .int .i64 t2, .slice XA kn xc, .bool un] := ⟨hz4.1.trans (hb.mono hz4.1.size), hz4.2.below hb hz4.2.lt⟩
     have HLK := Lib.hid (Lie.own ho)
     clear ho HKID
     have HIN := Lib.hid (intsL_any KA XA kn kn kc xc ks ks u5 HKN.out HKN.out HLK.out (HXL.out.below hz5.1) (by omega))
     rw [decide_eq_true rfl] at HIN
     clear hb hz4
     refine ⟨_, rfl, hz5, ?_⟩
     try simp only [Act.put, List.setIfInBounds_toArray, List.set_cons_zero, List.set_cons_succ]
     refine Zd.call (i := 36) (d := some 160) (by as_aux_lemma => kernel_rfl) rfl rfl (by as_aux_lemma => kernel_rfl) (by as_aux_lemma => kernel_rfl) (HIN.out) ?_
     rintro e u6 ⟨rfl, hb⟩
     have hz6 : Below w8.heap.size w8 u6 ∧ At u6 xb 56 #[.bool lf, .int .i64 ru, .int .i64 sy, .int .i64 t0, .int .i64 t1, .int .i64 t2, .slice XA kn xc, .bool un] := ⟨hz5.1.trans (hb.mono hz5.1.size), hz5.2.below hb hz5.2.lt⟩
     clear HIN HLK
     clear hb hz5
     refine ⟨_, rfl, hz6, ?_⟩
     try simp only [Act.put, List.setIfInBounds_toArray, List.set_cons_zero, List.set_cons_succ]
     refine Zd.pureD (i := 37) (d := some 161) (v := ?vy37) rfl rfl (by as_aux_lemma => kernel_rfl) (by as_aux_lemma => kernel_rfl) (by as_aux_lemma => kernel_rfl) (by as_aux_lemma => kernel_rfl) (by as_aux_lemma => kernel_rfl) (fun _ _ _ h => h) (Or.inl ⟨by as_aux_lemma => kernel_rfl, ?hyy37⟩) (.inr hz6) ?resty37
     case hyy37 => (intro w _; go_simp; try with_reducible rfl)
     try simp only [Act.put, List.setIfInBounds_toArray, List.set_cons_zero, List.set_cons_succ]
     refine Zd.pureD (i := 38) (d := some 162) (v := ?vy38) rfl rfl (by as_aux_lemma => kernel_rfl) (by as_aux_lemma => kernel_rfl) (by as_aux_lemma => kernel_rfl) (by as_aux_lemma => kernel_rfl) (by as_aux_lemma => kernel_rfl) (fun _ _ _ h => h) (Or.inl ⟨by as_aux_lemma => kernel_rfl, ?hyy38⟩) (.inr hz6) ?resty38
     case hyy38 => (intro w _; go_simp; try with_reducible rfl)
     try simp only [Act.put, List.setIfInBounds_toArray, List.set_cons_zero, List.set_cons_succ]
     refine Zd.pureD (i := 39) (d := some 163) (v := ?vy39) rfl rfl (by as_aux_lemma => kernel_rfl) (by as_aux_lemma => kernel_rfl) (by as_aux_lemma => kernel_rfl) (by as_aux_lemma => kernel_rfl) (by as_aux_lemma => kernel_rfl) (fun _ _ _ h => h) (Or.inl ⟨by as_aux_lemma => kernel_rfl, ?hyy39⟩) (.inr hz6) ?resty39
     case hyy39 => (intro w _; go_simp; try with_reducible rfl)
     try simp only [Act.put, List.setIfInBounds_toArray, List.set_cons_zero, List.set_cons_succ]
     refine Zd.pureD (i := 40) (d := some 164) (v := ?vy40) rfl rfl (by as_aux_lemma => kernel_rfl) (by as_aux_lemma => kernel_rfl) (by as_aux_lemma => kernel_rfl) (by as_aux_lemma => kernel_rfl) (by as_aux_lemma => kernel_rfl) (fun _ _ _ h => h) (Or.inl ⟨by as_aux_lemma => kernel_rfl, ?hyy40⟩) (.inr hz6) ?resty40
     case hyy40 => (intro w _; go_simp; try with_reducible rfl)
     try simp only [Act.put, List.setIfInBounds_toArray, List.set_cons_zero, List.set_cons_succ]
     refine Zd.pureD (i := 41) (d := some 165) (v := ?vy41) rfl rfl (by as_aux_lemma => kernel_rfl) (by as_aux_lemma => kernel_rfl) (by as_aux_lemma => kernel_rfl) (by as_aux_lemma => kernel_rfl) (by as_aux_lemma => kernel_rfl) (fun _ _ _ h => h) (Or.inl ⟨by as_aux_lemma => kernel_rfl, ?hyy41⟩) (.inr hz6) ?resty41
     case hyy41 => (intro w _; go_simp; try with_reducible rfl)
     try simp only [Act.put, List.setIfInBounds_toArray, List.set_cons_zero, List.set_cons_succ]
     refine Zd.pureD (i := 43) (d := some 167) (v := ?vy43) rfl rfl (by as_aux_lemma => kernel_rfl) (by as_aux_lemma => kernel_rfl) (by as_aux_lemma => kernel_rfl) (by as_aux_lemma => kernel_rfl) (by as_aux_lemma => kernel_rfl) (fun _ _ _ h => h) (Or.inl ⟨by as_aux_lemma => kernel_rfl, ?hyy43⟩) (.inr hz6) ?resty43
     case hyy43 => (intro w _; go_simp; try with_reducible rfl)
     try simp only [Act.put, List.setIfInBounds_toArray, List.set_cons_zero, List.set_cons_succ]
     refine Zd.pureD (i := 44) (d := some 168) (v := ?vy44) rfl rfl (by as_aux_lemma => kernel_rfl) (by as_aux_lemma => kernel_rfl) (by as_aux_lemma => kernel_rfl) (by as_aux_lemma => kernel_rfl) (by as_aux_lemma => kernel_rfl) (fun _ _ _ h => h) (Or.inl ⟨by as_aux_lemma => kernel_rfl, ?hyy44⟩) (.inr hz6) ?resty44
     case hyy44 => (intro w _; go_simp; try with_reducible rfl)
     try simp only [Act.put, List.setIfInBounds_toArray, List.set_cons_zero, List.set_cons_succ]
     refine Zd.call (i := 42) (d := some 166) (by as_aux_lemma => kernel_rfl) rfl rfl (by as_aux_lemma => kernel_rfl) (by as_aux_lemma => kernel_rfl) (HBEL.out u6 hz6.1) ?_
     rintro e u7 ⟨BA, bc, rfl, ho, hb⟩
     have hz7 : Below w8.heap.size w8 u7 ∧ At u7 xb 56 #[.bool lf, .int .i64 ru, .int .i64 sy, .int .i64 t0, .int .i64 t1, .int .i64 t2, .slice XA kn xc, .bool un] := ⟨hz6.1.trans (hb.mono hz6.1.size), hz6.2.below hb hz6.2.lt⟩
     have HLB := Lib.hid (Lie.own ho)
     clear ho
     clear hb hz6
     refine ⟨_, rfl, hz7, ?_⟩
     try simp only [Act.put, List.setIfInBounds_toArray, List.set_cons_zero, List.set_cons_succ]
     refine Zd.call (i := 45) (d := some 169) (by as_aux_lemma => kernel_rfl) rfl rfl (by as_aux_lemma => kernel_rfl) (by as_aux_lemma => kernel_rfl) (HRBEL.out u7 hz7.1) ?_
     rintro e u8 ⟨CA, cc, rfl, ho, hb⟩
     have hz8 : Below w8.heap.size w8 u8 ∧ At u8 xb 56 #[.bool lf, .int .i64 ru, .int .i64 sy, .int .i64 t0, .int .i64 t1, .int .i64 t2, .slice XA kn xc, .bool un] := ⟨hz7.1.trans (hb.mono hz7.1.size), hz7.2.below hb hz7.2.lt⟩
     have HLC := Lib.hid (Lie.own ho)
     have HLB2 := Lib.hid (HLB.out.below hb)
     clear ho HLB
     have HIN := Lib.hid (intsL_any BA CA bn bn bc cc BL BL u8 HBN.out HBN.out HLB2.out HLC.out (by omega))
     rw [decide_eq_true rfl] at HIN
     clear hb hz7
     refine ⟨_, rfl, hz8, ?_⟩
     try simp only [Act.put, List.setIfInBounds_toArray, List.set_cons_zero, List.set_cons_succ]
     refine Zd.call (i := 46) (d := some 170) (by as_aux_lemma => kernel_rfl) rfl rfl (by as_aux_lemma => kernel_rfl) (by as_aux_lemma => kernel_rfl) (HIN.out) ?_
     rintro e u9 ⟨rfl, hb⟩
     have hz9 : Below w8.heap.size w8 u9 ∧ At u9 xb 56 #[.bool lf, .int .i64 ru, .int .i64 sy, .int .i64 t0, .int .i64 t1, .int .i64 t2, .slice XA kn xc, .bool un] := ⟨hz8.1.trans (hb.mono hz8.1.size), hz8.2.below hb hz8.2.lt⟩
     clear HIN HLB2 HLC
     clear hb hz8
     refine ⟨_, rfl, hz9, ?_⟩
     try simp only [Act.put, List.setIfInBounds_toArray, List.set_cons_zero, List.set_cons_succ]
     refine Zd.pureD (i := 47) (d := some 171) (v := ?vy47) rfl rfl (by as_aux_lemma => kernel_rfl) (by as_aux_lemma => kernel_rfl) (by as_aux_lemma => kernel_rfl) (by as_aux_lemma => kernel_rfl) (by as_aux_lemma => kernel_rfl) (fun _ _ _ h => h) (Or.inl ⟨by as_aux_lemma => kernel_rfl, ?hyy47⟩) (.inr hz9) ?resty47
     case hyy47 => (intro w _; go_simp; try with_reducible rfl)
     try simp only [Act.put, List.setIfInBounds_toArray, List.set_cons_zero, List.set_cons_succ]
     refine Zd.pureD (i := 48) (d := some 172) (v := ?vy48) rfl rfl (by as_aux_lemma => kernel_rfl) (by as_aux_lemma => kernel_rfl) (by as_aux_lemma => kernel_rfl) (by as_aux_lemma => kernel_rfl) (by as_aux_lemma => kernel_rfl) (fun _ _ _ h => h) (Or.inl ⟨by as_aux_lemma => kernel_rfl, ?hyy48⟩) (.inr hz9) ?resty48
     case hyy48 => (intro w _; go_simp; try with_reducible rfl)
     try simp only [Act.put, List.setIfInBounds_toArray, List.set_cons_zero, List.set_cons_succ]
     refine Zd.pureD (i := 49) (d := some 173) (v := ?vy49) rfl rfl (by as_aux_lemma => kernel_rfl) (by as_aux_lemma => kernel_rfl) (by as_aux_lemma => kernel_rfl) (by as_aux_lemma => kernel_rfl) (by as_aux_lemma => kernel_rfl) (fun _ _ _ h => h) (Or.inl ⟨by as_aux_lemma => kernel_rfl, ?hyy49⟩) (.inr hz9) ?resty49
     case hyy49 => (intro w _; go_simp; try with_reducible rfl)
     try simp only [Act.put, List.setIfInBounds_toArray, List.set_cons_zero, List.set_cons_succ]
     refine Zd.pureD (i := 50) (d := some 174) (v := ?vy50) rfl rfl (by as_aux_lemma => kernel_rfl) (by as_aux_lemma => kernel_rfl) (by as_aux_lemma => kernel_rfl) (by as_aux_lemma => kernel_rfl) (by as_aux_lemma => kernel_rfl) (fun _ _ _ h => h) (Or.inl ⟨by as_aux_lemma => kernel_rfl, ?hyy50⟩) (.inr hz9) ?resty50
     case hyy50 => (intro w _; go_simp; try with_reducible rfl)
     try simp only [Act.put, List.setIfInBounds_toArray, List.set_cons_zero, List.set_cons_succ]
     refine Zd.pureD (i := 51) (d := some 175) (v := ?vy51) rfl rfl (by as_aux_lemma => kernel_rfl) (by as_aux_lemma => kernel_rfl) (by as_aux_lemma => kernel_rfl) (by as_aux_lemma => kernel_rfl) (by as_aux_lemma => kernel_rfl) (fun _ _ _ h => h) (Or.inl ⟨by as_aux_lemma => kernel_rfl, ?hyy51⟩) (.inr hz9) ?resty51
     case hyy51 => (intro w _; go_simp; try with_reducible rfl)
     try simp only [Act.put, List.setIfInBounds_toArray, List.set_cons_zero, List.set_cons_succ]
     refine Zd.pureD (i := 53) (d := some 177) (v := ?vy53) rfl rfl (by as_aux_lemma => kernel_rfl) (by as_aux_lemma => kernel_rfl) (by as_aux_lemma => kernel_rfl) (by as_aux_lemma => kernel_rfl) (by as_aux_lemma => kernel_rfl) (fun _ _ _ h => h) (Or.inl ⟨by as_aux_lemma => kernel_rfl, ?hyy53⟩) (.inr hz9) ?resty53
     case hyy53 => (intro w _; go_simp; try with_reducible rfl)
     try simp only [Act.put, List.setIfInBounds_toArray, List.set_cons_zero, List.set_cons_succ]
     refine Zd.pureD (i := 54) (d := some 178) (v := ?vy54) rfl rfl (by as_aux_lemma => kernel_rfl) (by as_aux_lemma => kernel_rfl) (by as_aux_lemma => kernel_rfl) (by as_aux_lemma => kernel_rfl) (by as_aux_lemma => kernel_rfl) (fun _ _ _ h => h) (Or.inl ⟨by as_aux_lemma => kernel_rfl, ?hyy54⟩) (.inr hz9) ?resty54
     case hyy54 => (intro w _; go_simp; try with_reducible rfl)
     try simp only [Act.put, List.setIfInBounds_toArray, List.set_cons_zero, List.set_cons_succ]
     refine Zd.call (i := 52) (d := some 176) (by as_aux_lemma => kernel_rfl) rfl rfl (by as_aux_lemma => kernel_rfl) (by as_aux_lemma => kernel_rfl) (HYIE.out u9 hz9.1) ?_
     rintro e u10 ⟨YA, yc, rfl, ho, hb⟩
     have hz10 : Below w8.heap.size w8 u10 ∧ At u10 xb 56 #[.bool lf, .int .i64 ru, .int .i64 sy, .int .i64 t0, .int .i64 t1, .int .i64 t2, .slice XA kn xc, .bool un] := ⟨hz9.1.trans (hb.mono hz9.1.size), hz9.2.below hb hz9.2.lt⟩
     have HLY := Lib.hid (Lie.own ho)
     clear ho
     clear hb hz9
     refine ⟨_, rfl, hz10, ?_⟩
     try simp only [Act.put, List.setIfInBounds_toArray, List.set_cons_zero, List.set_cons_succ]
     refine Zd.call (i := 55) (d := some 179) (by as_aux_lemma => kernel_rfl) rfl rfl (by as_aux_lemma => kernel_rfl) (by as_aux_lemma => kernel_rfl) (HRYIE.out u10 hz10.1) ?_
     rintro e u11 ⟨ZA, zc, rfl, ho, hb⟩
     have hz11 : Below w8.heap.size w8 u11 ∧ At u11 xb 56 #[.bool lf, .int .i64 ru, .int .i64 sy, .int .i64 t0, .int .i64 t1, .int .i64 t2, .slice XA kn xc, .bool un] := ⟨hz10.1.trans (hb.mono hz10.1.size), hz10.2.below hb hz10.2.lt⟩
     have HLZ := Lib.hid (Lie.own ho)
     have HLY2 := Lib.hid (HLY.out.below hb)
     clear ho HLY
     have HTS2 := Lib.hid (toks_any YA ZA yn yn yc zc YL YL u11 HYN.out HYN.out HLY2.out HLZ.out (by omega) HYS.out HYS.out)
     rw [decide_eq_true rfl] at HTS2
     clear hb hz10
     refine ⟨_, rfl, hz11, ?_⟩
     try simp only [Act.put, List.setIfInBounds_toArray, List.set_cons_zero, List.set_cons_succ]
     refine Zd.call (i := 56) (d := some 180) (by as_aux_lemma => kernel_rfl) rfl rfl (by as_aux_lemma => kernel_rfl) (by as_aux_lemma => kernel_rfl) (HTS2.out) ?_
     rintro e u12 ⟨rfl, hb⟩
     have hz12 : Below w8.heap.size w8 u12 ∧ At u12 xb 56 #[.bool lf, .int .i64 ru, .int .i64 sy, .int .i64 t0, .int .i64 t1, .int .i64 t2, .slice XA kn xc, .bool un] := ⟨hz11.1.trans (hb.mono hz11.1.size), hz11.2.below hb hz11.2.lt⟩
     clear HTS2 HLY2 HLZ
     clear hb hz11
     refine ⟨_, rfl, hz12, ?_⟩
     try simp only [Act.put, List.setIfInBounds_toArray, List.set_cons_zero, List.set_cons_succ]
     refine Zd.pureD (i := 57) (d := some 181) (v := ?vy57) rfl rfl (by as_aux_lemma => kernel_rfl) (by as_aux_lemma => kernel_rfl) (by as_aux_lemma => kernel_rfl) (by as_aux_lemma => kernel_rfl) (by as_aux_lemma => kernel_rfl) (fun _ _ _ h => h) (Or.inl ⟨by as_aux_lemma => kernel_rfl, ?hyy57⟩) (.inr hz12) ?resty57
     case hyy57 => (intro w _; go_simp; try with_reducible rfl)
     try simp only [Act.put, List.setIfInBounds_toArray, List.set_cons_zero, List.set_cons_succ]
     refine Zd.pureD (i := 58) (d := some 182) (v := ?vy58) rfl rfl (by as_aux_lemma => kernel_rfl) (by as_aux_lemma => kernel_rfl) (by as_aux_lemma => kernel_rfl) (by as_aux_lemma => kernel_rfl) (by as_aux_lemma => kernel_rfl) (fun _ _ _ h => h) (Or.inl ⟨by as_aux_lemma => kernel_rfl, ?hyy58⟩) (.inr hz12) ?resty58
     case hyy58 => (intro w _; go_simp; try with_reducible rfl)
     try simp only [Act.put, List.setIfInBounds_toArray, List.set_cons_zero, List.set_cons_succ]
     refine Zd.pureD (i := 59) (d := some 183) (v := ?vy59) rfl rfl (by as_aux_lemma => kernel_rfl) (by as_aux_lemma => kernel_rfl) (by as_aux_lemma => kernel_rfl) (by as_aux_lemma => kernel_rfl) (by as_aux_lemma => kernel_rfl) (fun _ _ _ h => h) (Or.inl ⟨by as_aux_lemma => kernel_rfl, ?hyy59⟩) (.inr hz12) ?resty59
     case hyy59 => (intro w _; go_simp; try with_reducible rfl)
     try simp only [Act.put, List.setIfInBounds_toArray, List.set_cons_zero, List.set_cons_succ]
     refine Zd.pureD (i := 60) (d := some 184) (v := ?vy60) rfl rfl (by as_aux_lemma => kernel_rfl) (by as_aux_lemma => kernel_rfl) (by as_aux_lemma => kernel_rfl) (by as_aux_lemma => kernel_rfl) (by as_aux_lemma => kernel_rfl) (fun _ _ _ h => h) (Or.inl ⟨by as_aux_lemma => kernel_rfl, ?hyy60⟩) (.inr hz12) ?resty60
     case hyy60 => (intro w _; go_simp; try with_reducible rfl)
     try simp only [Act.put, List.setIfInBounds_toArray, List.set_cons_zero, List.set_cons_succ]
     refine Zd.takeD (i := 61) (d := some 185) (v := ?vy61) rfl rfl (by as_aux_lemma => kernel_rfl) (by as_aux_lemma => kernel_rfl) (by as_aux_lemma => kernel_rfl) (by as_aux_lemma => kernel_rfl) (by as_aux_lemma => kernel_rfl) (fun _ _ _ h => h) (Or.inl ⟨by as_aux_lemma => kernel_rfl, ?hyy61⟩) hz12 ?resty61
     case hyy61 => (intro w hSw; (try dsimp only at hSw); obtain ⟨hSb, hSx⟩ := hSw; have q0 := (hSb.cell (p := ⟨pb, 0, none⟩) hpbl).trans p0; have q1 := (hSb.cell (p := ⟨pb, 1, none⟩) hpbl).trans p1; have q2 := (hSb.cell (p := ⟨pb, 2, none⟩) hpbl).trans p2; have q3 := (hSb.cell (p := ⟨pb, 3, none⟩) hpbl).trans p3; have q4 := (hSb.cell (p := ⟨pb, 4, none⟩) hpbl).trans p4; have q5 := (hSb.cell (p := ⟨pb, 5, none⟩) hpbl).trans p5; go_simp; try with_reducible rfl)
     try simp only [Act.put, List.setIfInBounds_toArray, List.set_cons_zero, List.set_cons_succ]
     refine Zd.pureD (i := 62) (d := some 186) (v := ?vy62) rfl rfl (by as_aux_lemma => kernel_rfl) (by as_aux_lemma => kernel_rfl) (by as_aux_lemma => kernel_rfl) (by as_aux_lemma => kernel_rfl) (by as_aux_lemma => kernel_rfl) (fun _ _ _ h => h) (Or.inl ⟨by as_aux_lemma => kernel_rfl, ?hyy62⟩) (.inr hz12) ?resty62
     case hyy62 => (intro w _; go_simp; try with_reducible rfl)
     try simp only [Act.put, List.setIfInBounds_toArray, List.set_cons_zero, List.set_cons_succ]
     refine Zd.pureD (i := 64) (d := some 188) (v := ?vy64) rfl rfl (by as_aux_lemma => kernel_rfl) (by as_aux_lemma => kernel_rfl) (by as_aux_lemma => kernel_rfl) (by as_aux_lemma => kernel_rfl) (by as_aux_lemma => kernel_rfl) (fun _ _ _ h => h) (Or.inl ⟨by as_aux_lemma => kernel_rfl, ?hyy64⟩) (.inr hz12) ?resty64
     case hyy64 => (intro w _; go_simp; try with_reducible rfl)
     try simp only [Act.put, List.setIfInBounds_toArray, List.set_cons_zero, List.set_cons_succ]
     refine Zd.takeD (i := 65) (d := some 189) (v := ?vy65) rfl rfl (by as_aux_lemma => kernel_rfl) (by as_aux_lemma => kernel_rfl) (by as_aux_lemma => kernel_rfl) (by as_aux_lemma => kernel_rfl) (by as_aux_lemma => kernel_rfl) (fun _ _ _ h => h) (Or.inl ⟨by as_aux_lemma => kernel_rfl, ?hyy65⟩) hz12 ?resty65
     case hyy65 => (intro w hSw; (try dsimp only at hSw); obtain ⟨hSb, hSx⟩ := hSw; have q0 := (hSb.cell (p := ⟨pb, 0, none⟩) hpbl).trans p0; have q1 := (hSb.cell (p := ⟨pb, 1, none⟩) hpbl).trans p1; have q2 := (hSb.cell (p := ⟨pb, 2, none⟩) hpbl).trans p2; have q3 := (hSb.cell (p := ⟨pb, 3, none⟩) hpbl).trans p3; have q4 := (hSb.cell (p := ⟨pb, 4, none⟩) hpbl).trans p4; have q5 := (hSb.cell (p := ⟨pb, 5, none⟩) hpbl).trans p5; go_simp; try with_reducible rfl)
     try simp only [Act.put, List.setIfInBounds_toArray, List.set_cons_zero, List.set_cons_succ]
     refine Zd.pureD (i := 66) (d := some 190) (v := ?vy66) rfl rfl (by as_aux_lemma => kernel_rfl) (by as_aux_lemma => kernel_rfl) (by as_aux_lemma => kernel_rfl) (by as_aux_lemma => kernel_rfl) (by as_aux_lemma => kernel_rfl) (fun _ _ _ h => h) (Or.inl ⟨by as_aux_lemma => kernel_rfl, ?hyy66⟩) (.inr hz12) ?resty66
     case hyy66 => (intro w _; go_simp; try with_reducible rfl)
     try simp only [Act.put, List.setIfInBounds_toArray, List.set_cons_zero, List.set_cons_succ]
     refine Zd.call (i := 63) (d := some 187) (by as_aux_lemma => kernel_rfl) rfl rfl (by as_aux_lemma => kernel_rfl) (by as_aux_lemma => kernel_rfl) (HRIG.out u12 hz12.1) ?_
     rintro e u13 ⟨rfl, hb⟩
     have hz13 : Below w8.heap.size w8 u13 ∧ At u13 xb 56 #[.bool lf, .int .i64 ru, .int .i64 sy, .int .i64 t0, .int .i64 t1, .int .i64 t2, .slice XA kn xc, .bool un] := ⟨hz12.1.trans (hb.mono hz12.1.size), hz12.2.below hb hz12.2.lt⟩
     clear hb hz12
     refine ⟨_, rfl, hz13, ?_⟩
     try simp only [Act.put, List.setIfInBounds_toArray, List.set_cons_zero, List.set_cons_succ]
     refine Zd.call (i := 67) (d := some 191) (by as_aux_lemma => kernel_rfl) rfl rfl (by as_aux_lemma => kernel_rfl) (by as_aux_lemma => kernel_rfl) (HRRIG.out u13 hz13.1) ?_
     rintro e u14 ⟨rfl, hb⟩
     have hz14 : Below w8.heap.size w8 u14 ∧ At u14 xb 56 #[.bool lf, .int .i64 ru, .int .i64 sy, .int .i64 t0, .int .i64 t1, .int .i64 t2, .slice XA kn xc, .bool un] := ⟨hz13.1.trans (hb.mono hz13.1.size), hz13.2.below hb hz13.2.lt⟩
     clear hb hz13
     refine ⟨_, rfl, hz14, ?_⟩
     try simp only [Act.put, List.setIfInBounds_toArray, List.set_cons_zero, List.set_cons_succ]
     refine Zd.pureD (i := 68) (d := some 192) (v := ?vy68) rfl rfl (by as_aux_lemma => kernel_rfl) (by as_aux_lemma => kernel_rfl) (by as_aux_lemma => kernel_rfl) (by as_aux_lemma => kernel_rfl) (by as_aux_lemma => kernel_rfl) (fun _ _ _ h => h) (Or.inl ⟨by as_aux_lemma => kernel_rfl, ?hyy68⟩) (.inr hz14) ?resty68
     case hyy68 => (intro w _; go_simp; try with_reducible rfl)
     try simp only [Act.put, List.setIfInBounds_toArray, List.set_cons_zero, List.set_cons_succ]
     refine Zd.pureD (i := 69) (d := some 193) (v := ?vy69) rfl rfl (by as_aux_lemma => kernel_rfl) (by as_aux_lemma => kernel_rfl) (by as_aux_lemma => kernel_rfl) (by as_aux_lemma => kernel_rfl) (by as_aux_lemma => kernel_rfl) (fun _ _ _ h => h) (Or.inl ⟨by as_aux_lemma => kernel_rfl, ?hyy69⟩) (.inr hz14) ?resty69
     case hyy69 => (intro w _; go_simp; try with_reducible rfl)
     try simp only [Act.put, List.setIfInBounds_toArray, List.set_cons_zero, List.set_cons_succ]
     refine Zd.pureD (i := 70) (d := some 194) (v := ?vy70) rfl rfl (by as_aux_lemma => kernel_rfl) (by as_aux_lemma => kernel_rfl) (by as_aux_lemma => kernel_rfl) (by as_aux_lemma => kernel_rfl) (by as_aux_lemma => kernel_rfl) (fun _ _ _ h => h) (Or.inl ⟨by as_aux_lemma => kernel_rfl, ?hyy70⟩) (.inr hz14) ?resty70
     case hyy70 => (intro w _; go_simp; try with_reducible rfl)
     try simp only [Act.put, List.setIfInBounds_toArray, List.set_cons_zero, List.set_cons_succ]
     refine Zd.pureD (i := 71) (d := some 195) (v := ?vy71) rfl rfl (by as_aux_lemma => kernel_rfl) (by as_aux_lemma => kernel_rfl) (by as_aux_lemma => kernel_rfl) (by as_aux_lemma => kernel_rfl) (by as_aux_lemma => kernel_rfl) (fun _ _ _ h => h) (Or.inl ⟨by as_aux_lemma => kernel_rfl, ?hyy71⟩) (.inr hz14) ?resty71
     case hyy71 => (intro w _; go_simp; try with_reducible rfl)
     try simp only [Act.put, List.setIfInBounds_toArray, List.set_cons_zero, List.set_cons_succ]
     refine Zd.takeD (i := 72) (d := some 196) (v := ?vy72) rfl rfl (by as_aux_lemma => kernel_rfl) (by as_aux_lemma => kernel_rfl) (by as_aux_lemma => kernel_rfl) (by as_aux_lemma => kernel_rfl) (by as_aux_lemma => kernel_rfl) (fun _ _ _ h => h) (Or.inl ⟨by as_aux_lemma => kernel_rfl, ?hyy72⟩) hz14 ?resty72
     case hyy72 => (intro w hSw; (try dsimp only at hSw); obtain ⟨hSb, hSx⟩ := hSw; have q0 := (hSb.cell (p := ⟨pb, 0, none⟩) hpbl).trans p0; have q1 := (hSb.cell (p := ⟨pb, 1, none⟩) hpbl).trans p1; have q2 := (hSb.cell (p := ⟨pb, 2, none⟩) hpbl).trans p2; have q3 := (hSb.cell (p := ⟨pb, 3, none⟩) hpbl).trans p3; have q4 := (hSb.cell (p := ⟨pb, 4, none⟩) hpbl).trans p4; have q5 := (hSb.cell (p := ⟨pb, 5, none⟩) hpbl).trans p5; go_simp; try with_reducible rfl)
     try simp only [Act.put, List.setIfInBounds_toArray, List.set_cons_zero, List.set_cons_succ]
     refine Zd.pureD (i := 73) (d := some 197) (v := ?vy73) rfl rfl (by as_aux_lemma => kernel_rfl) (by as_aux_lemma => kernel_rfl) (by as_aux_lemma => kernel_rfl) (by as_aux_lemma => kernel_rfl) (by as_aux_lemma => kernel_rfl) (fun _ _ _ h => h) (Or.inl ⟨by as_aux_lemma => kernel_rfl, ?hyy73⟩) (.inr hz14) ?resty73
     case hyy73 => (intro w _; go_simp; try with_reducible rfl)
     try simp only [Act.put, List.setIfInBounds_toArray, List.set_cons_zero, List.set_cons_succ]
     refine Zd.pureD (i := 75) (d := some 199) (v := ?vy75) rfl rfl (by as_aux_lemma => kernel_rfl) (by as_aux_lemma => kernel_rfl) (by as_aux_lemma => kernel_rfl) (by as_aux_lemma => kernel_rfl) (by as_aux_lemma => kernel_rfl) (fun _ _ _ h => h) (Or.inl ⟨by as_aux_lemma => kernel_rfl, ?hyy75⟩) (.inr hz14) ?resty75
     case hyy75 => (intro w _; go_simp; try with_reducible rfl)
     try simp only [Act.put, List.setIfInBounds_toArray, List.set_cons_zero, List.set_cons_succ]
     refine Zd.takeD (i := 76) (d := some 200) (v := ?vy76) rfl rfl (by as_aux_lemma => kernel_rfl) (by as_aux_lemma => kernel_rfl) (by as_aux_lemma => kernel_rfl) (by as_aux_lemma => kernel_rfl) (by as_aux_lemma => kernel_rfl) (fun _ _ _ h => h) (Or.inl ⟨by as_aux_lemma => kernel_rfl, ?hyy76⟩) hz14 ?resty76
     case hyy76 => (intro w hSw; (try dsimp only at hSw); obtain ⟨hSb, hSx⟩ := hSw; have q0 := (hSb.cell (p := ⟨pb, 0, none⟩) hpbl).trans p0; have q1 := (hSb.cell (p := ⟨pb, 1, none⟩) hpbl).trans p1; have q2 := (hSb.cell (p := ⟨pb, 2, none⟩) hpbl).trans p2; have q3 := (hSb.cell (p := ⟨pb, 3, none⟩) hpbl).trans p3; have q4 := (hSb.cell (p := ⟨pb, 4, none⟩) hpbl).trans p4; have q5 := (hSb.cell (p := ⟨pb, 5, none⟩) hpbl).trans p5; go_simp; try with_reducible rfl)
     try simp only [Act.put, List.setIfInBounds_toArray, List.set_cons_zero, List.set_cons_succ]
     refine Zd.pureD (i := 77) (d := some 201) (v := ?vy77) rfl rfl (by as_aux_lemma => kernel_rfl) (by as_aux_lemma => kernel_rfl) (by as_aux_lemma => kernel_rfl) (by as_aux_lemma => kernel_rfl) (by as_aux_lemma => kernel_rfl) (fun _ _ _ h => h) (Or.inl ⟨by as_aux_lemma => kernel_rfl, ?hyy77⟩) (.inr hz14) ?resty77
     case hyy77 => (intro w _; go_simp; try with_reducible rfl)
     try simp only [Act.put, List.setIfInBounds_toArray, List.set_cons_zero, List.set_cons_succ]
     refine Zd.call (i := 74) (d := some 198) (by as_aux_lemma => kernel_rfl) rfl rfl (by as_aux_lemma => kernel_rfl) (by as_aux_lemma => kernel_rfl) (HSHO.out u14 hz14.1) ?_
     rintro e u15 ⟨rfl, hb⟩
     have hz15 : Below w8.heap.size w8 u15 ∧ At u15 xb 56 #[.bool lf, .int .i64 ru, .int .i64 sy, .int .i64 t0, .int .i64 t1, .int .i64 t2, .slice XA kn xc, .bool un] := ⟨hz14.1.trans (hb.mono hz14.1.size), hz14.2.below hb hz14.2.lt⟩
     clear hb hz14
     refine ⟨_, rfl, hz15, ?_⟩
     try simp only [Act.put, List.setIfInBounds_toArray, List.set_cons_zero, List.set_cons_succ]
     refine Zd.call (i := 78) (d := some 202) (by as_aux_lemma => kernel_rfl) rfl rfl (by as_aux_lemma => kernel_rfl) (by as_aux_lemma => kernel_rfl) (HRSHO.out u15 hz15.1) ?_
     rintro e u16 ⟨rfl, hb⟩
     have hz16 : Below w8.heap.size w8 u16 ∧ At u16 xb 56 #[.bool lf, .int .i64 ru, .int .i64 sy, .int .i64 t0, .int .i64 t1, .int .i64 t2, .slice XA kn xc, .bool un] := ⟨hz15.1.trans (hb.mono hz15.1.size), hz15.2.below hb hz15.2.lt⟩
     clear hb hz15
     refine ⟨_, rfl, hz16, ?_⟩
     try simp only [Act.put, List.setIfInBounds_toArray, List.set_cons_zero, List.set_cons_succ]
     refine Zd.pureD (i := 79) (d := some 203) (v := ?vy79) rfl rfl (by as_aux_lemma => kernel_rfl) (by as_aux_lemma => kernel_rfl) (by as_aux_lemma => kernel_rfl) (by as_aux_lemma => kernel_rfl) (by as_aux_lemma => kernel_rfl) (fun _ _ _ h => h) (Or.inl ⟨by as_aux_lemma => kernel_rfl, ?hyy79⟩) (.inr hz16) ?resty79
     case hyy79 => (intro w _; go_simp; try with_reducible rfl)
     try simp only [Act.put, List.setIfInBounds_toArray, List.set_cons_zero, List.set_cons_succ]
     refine Zd.pureD (i := 80) (d := some 204) (v := ?vy80) rfl rfl (by as_aux_lemma => kernel_rfl) (by as_aux_lemma => kernel_rfl) (by as_aux_lemma => kernel_rfl) (by as_aux_lemma => kernel_rfl) (by as_aux_lemma => kernel_rfl) (fun _ _ _ h => h) (Or.inl ⟨by as_aux_lemma => kernel_rfl, ?hyy80⟩) (.inr hz16) ?resty80
     case hyy80 => (intro w _; go_simp; try with_reducible rfl)
     try simp only [Act.put, List.setIfInBounds_toArray, List.set_cons_zero, List.set_cons_succ]
     refine Zed.all (by as_aux_lemma => kernel_rfl) ?_ _
     have HBZ9 := Lib.hid hz16.1
     clear hz16
     go_wp2_with fail
     go_roundw
     case rel => exact ⟨j + 1, by omega, by go_num, HBZ9.out⟩
     case measure => simp [intOf]; omega
    ·obtain ⟨XA, xc, hxl, hxat⟩ := HTD.out.at_ ((j : Int) - 1)
     have hky : (Tr.kidsOf L ((j : Int) - 1)).length ≤ n := by have := HGD.out.kids_lenR ((j : Int) - 1); rw [HN.out] at this; exact this
     unfold Tr.kidsOf at hky
     have htin := HTK.out ((j : Int) - 1)
     have HSY := HTR.out.sym ((j : Int) - 1)
     have HRU := HTR.out.rule ((j : Int) - 1)
     have HTO := HTY.out.tok ((j : Int) - 1)
     have HLE := HTS.out.leaf ((j : Int) - 1)
     have HKI := HTL.out.kids ((j : Int) - 1)
     obtain ⟨⟨lf, un, ru, sy, ⟨t0, t1, t2⟩, ks⟩, hnd⟩ : ∃ x, Tr.at_ L ((j : Int) - 1) = x := ⟨_, rfl⟩
     rw [hnd] at hxl hxat hky htin HSY HRU HTO HLE HKI
     dsimp only at hxl hxat hky htin HSY HRU HTO HLE HKI
     obtain ⟨kn, hkn⟩ : ∃ kn, ks.length = kn := ⟨_, rfl⟩
     rw [hkn] at hxat hky HKI
     have hnq := neq_toksT _ _ htin htin
     dsimp only at hnq
     rw [decide_eq_true rfl] at hnq
     have HKN := Lib.hid hkn
     have HXL := Lib.hid hxl
     have HSYM := Lib.hid HSY
     have HRUL := Lib.hid HRU
     have HTOK := Lib.hid HTO
     have HLEA := Lib.hid HLE
     have HKID := Lib.hid HKI
     have HXAT := Lib.hid hxat
     have hlb := HGD.out.below_len ((j : Int) - 1)
     have hly := Tr.yield_len41 HGD.out ((j : Int) - 1)
     rw [HN.out] at hlb hly
     have HBE := HTL.out.below ((j : Int) - 1)
     have HRBE := HTD.out.below ((j : Int) - 1)
     have HYI := HTY.out.yield ((j : Int) - 1)
     have HRYI := HTD.out.yield ((j : Int) - 1)
     have HYS := Lib.hid (yield_in HTK.out ((j : Int) - 1))
     have HRI := HTR.out.right ((j : Int) - 1)
     have HRRI := HTD.out.right ((j : Int) - 1)
     have HSH := HTS.out.show_ ((j : Int) - 1)
     have HRSH := HTD.out.show_ ((j : Int) - 1)
     obtain ⟨BL, hBL⟩ : ∃ x, Tr.below L ((j : Int) - 1) = x := ⟨_, rfl⟩
     obtain ⟨bn, hbn⟩ : ∃ x, BL.length = x := ⟨_, rfl⟩
     rw [hBL, hbn] at HBE HRBE hlb
     obtain ⟨YL, hYL⟩ : ∃ x, Tr.yield L ((j : Int) - 1) = x := ⟨_, rfl⟩
     obtain ⟨yn, hyn⟩ : ∃ x, YL.length = x := ⟨_, rfl⟩
     rw [hYL, hyn] at HYI HRYI hly
     rw [hYL] at HYS
     obtain ⟨RV, hRV⟩ : ∃ x, Tr.right PP L ((j : Int) - 1) = x := ⟨_, rfl⟩
     rw [hRV] at HRI HRRI
     obtain ⟨SS, hSS⟩ : ∃ x, str (Tr.show_ PP L ((j : Int) - 1)) = x := ⟨_, rfl⟩
     rw [hSS] at HSH HRSH
     have HBN := Lib.hid hbn
     have HYN := Lib.hid hyn
     have HBEL := Lib.hid HBE
     have HRBEL := Lib.hid HRBE
     have HYIE := Lib.hid HYI
     have HRYIE := Lib.hid HRYI
     have HRIG := Lib.hid HRI
     have HRRIG := Lib.hid HRRI
     have HSHO := Lib.hid HSH
     have HRSHO := Lib.hid HRSH
     clear hnd hkn hxl hxat htin HSY HRU HTO HLE HKI HBE HRBE HYI HRYI HRI HRRI HSH HRSH hBL hbn hYL hyn hRV hSS
     go_wp2_with fail
     refine (HXAT.out wr HB.out).mono ?_
     rintro e ua ⟨rfl, hba⟩
     obtain ⟨u0, hu0⟩ : ∃ z, ua.alloc (.cells #[.bool lf, .int .i64 ru, .int .i64 sy, .int .i64 t0, .int .i64 t1, .int .i64 t2, .slice XA kn xc, .bool un] 56) = z := ⟨_, rfl⟩
     obtain ⟨xb, hxb⟩ : ∃ z, ua.heap.size = z := ⟨_, rfl⟩
     have HX0 := Lib.hid (show At u0 xb 56 #[.bool lf, .int .i64 ru, .int .i64 sy, .int .i64 t0, .int .i64 t1, .int .i64 t2, .slice XA kn xc, .bool un] by rw [← hu0, ← hxb]; exact At.new _ _ _)
     have HB0 := Lib.hid (show Below w8.heap.size w8 u0 by rw [← hu0]; exact (HB.out.trans (hba.mono HB.out.size)).alloc (Nat.le_trans HB.out.size hba.size) _)
     have HU0 := Lib.hid hu0
     have HXB := Lib.hid hxb
     clear hba hu0 hxb HXAT
     go_wp2_with fail
     rw [HU0.out, HXB.out]
     have hz0 : Below w8.heap.size w8 u0.drew ∧ At u0.drew xb 56 #[.bool lf, .int .i64 ru, .int .i64 sy, .int .i64 t0, .int .i64 t1, .int .i64 t2, .slice XA kn xc, .bool un] := ⟨below_drew HB0.out, HX0.out.drew⟩
     refine Zed.begin_ (fun w' => Below w8.heap.size w8 w' ∧ At w' xb 56 #[.bool lf, .int .i64 ru, .int .i64 sy, .int .i64 t0, .int .i64 t1, .int .i64 t2, .slice XA kn xc, .bool un]) [] (by as_aux_lemma => kernel_rfl) ?_
     refine Zd.pureD (i := 0) (d := some 124) (v := ?vz0) rfl rfl (by as_aux_lemma => kernel_rfl) (by as_aux_lemma => kernel_rfl) (by as_aux_lemma => kernel_rfl) (by as_aux_lemma => kernel_rfl) (by as_aux_lemma => kernel_rfl) (fun _ _ _ h => h) (Or.inl ⟨by as_aux_lemma => kernel_rfl, ?hyz0⟩) (.inr hz0) ?restz0
     case hyz0 => (intro w _; go_simp; try with_reducible rfl)
     try simp only [Act.put, List.setIfInBounds_toArray, List.set_cons_zero, List.set_cons_succ]
     refine Zd.pureD (i := 1) (d := some 125) (v := ?vz1) rfl rfl (by as_aux_lemma => kernel_rfl) (by as_aux_lemma => kernel_rfl) (by as_aux_lemma => kernel_rfl) (by as_aux_lemma => kernel_rfl) (by as_aux_lemma => kernel_rfl) (fun _ _ _ h => h) (Or.inl ⟨by as_aux_lemma => kernel_rfl, ?hyz1⟩) (.inr hz0) ?restz1
     case hyz1 => (intro w _; go_simp; try with_reducible rfl)
     try simp only [Act.put, List.setIfInBounds_toArray, List.set_cons_zero, List.set_cons_succ]
     refine Zd.pureD (i := 3) (d := some 127) (v := ?vz3) rfl rfl (by as_aux_lemma => kernel_rfl) (by as_aux_lemma => kernel_rfl) (by as_aux_lemma => kernel_rfl) (by as_aux_lemma => kernel_rfl) (by as_aux_lemma => kernel_rfl) (fun _ _ _ h => h) (Or.inl ⟨by as_aux_lemma => kernel_rfl, ?hyz3⟩) (.inr hz0) ?restz3
     case hyz3 => (intro w _; go_simp; try with_reducible rfl)
     try simp only [Act.put, List.setIfInBounds_toArray, List.set_cons_zero, List.set_cons_succ]
     refine Zd.takeD (i := 4) (d := some 128) (v := ?vz4) rfl rfl (by as_aux_lemma => kernel_rfl) (by as_aux_lemma => kernel_rfl) (by as_aux_lemma => kernel_rfl) (by as_aux_lemma => kernel_rfl) (by as_aux_lemma => kernel_rfl) (fun _ _ _ h => h) (Or.inl ⟨by as_aux_lemma => kernel_rfl, ?hyz4⟩) hz0 ?restz4
     case hyz4 => (intro w hSw; (try dsimp only at hSw); obtain ⟨hSb, hSx⟩ := hSw; have r0 := hSx.cell 0; have r1 := hSx.cell 1; have r2 := hSx.cell 2; have r3 := hSx.cell 3; have r4 := hSx.cell 4; have r5 := hSx.cell 5; have r6 := hSx.cell 6; simp only [List.getElem?_toArray, List.getElem?_cons_zero, List.getElem?_cons_succ] at r0 r1 r2 r3 r4 r5 r6; go_simp; try with_reducible rfl)
     try simp only [Act.put, List.setIfInBounds_toArray, List.set_cons_zero, List.set_cons_succ]
     refine Zd.call (i := 2) (d := some 126) (by as_aux_lemma => kernel_rfl) rfl rfl (by as_aux_lemma => kernel_rfl) (by as_aux_lemma => kernel_rfl) (HSYM.out u0.drew hz0.1) ?_
     rintro e u1 ⟨rfl, hb⟩
     have hz1 : Below w8.heap.size w8 u1 ∧ At u1 xb 56 #[.bool lf, .int .i64 ru, .int .i64 sy, .int .i64 t0, .int .i64 t1, .int .i64 t2, .slice XA kn xc, .bool un] := ⟨hz0.1.trans (hb.mono hz0.1.size), hz0.2.below hb hz0.2.lt⟩
     clear hb hz0
     refine ⟨_, rfl, hz1, ?_⟩
     try simp only [Act.put, List.setIfInBounds_toArray, List.set_cons_zero, List.set_cons_succ]
     refine Zd.pureD (i := 5) (d := some 129) (v := ?vz5) rfl rfl (by as_aux_lemma => kernel_rfl) (by as_aux_lemma => kernel_rfl) (by as_aux_lemma => kernel_rfl) (by as_aux_lemma => kernel_rfl) (by as_aux_lemma => kernel_rfl) (fun _ _ _ h => h) (Or.inl ⟨by as_aux_lemma => kernel_rfl, ?hyz5⟩) (.inr hz1) ?restz5
     case hyz5 => (intro w _; go_simp; try with_reducible rfl)
     try simp only [Act.put, List.setIfInBounds_toArray, List.set_cons_zero, List.set_cons_succ]
     refine Zd.pureD (i := 6) (d := some 130) (v := ?vz6) rfl rfl (by as_aux_lemma => kernel_rfl) (by as_aux_lemma => kernel_rfl) (by as_aux_lemma => kernel_rfl) (by as_aux_lemma => kernel_rfl) (by as_aux_lemma => kernel_rfl) (fun _ _ _ h => h) (Or.inl ⟨by as_aux_lemma => kernel_rfl, ?hyz6⟩) (.inr hz1) ?restz6
     case hyz6 => (intro w _; go_simp; try with_reducible rfl)
     try simp only [Act.put, List.setIfInBounds_toArray, List.set_cons_zero, List.set_cons_succ]
     refine Zd.pureD (i := 7) (d := some 131) (v := ?vz7) rfl rfl (by as_aux_lemma => kernel_rfl) (by as_aux_lemma => kernel_rfl) (by as_aux_lemma => kernel_rfl) (by as_aux_lemma => kernel_rfl) (by as_aux_lemma => kernel_rfl) (fun _ _ _ h => h) (Or.inl ⟨by as_aux_lemma => kernel_rfl, ?hyz7⟩) (.inr hz1) ?restz7
     case hyz7 => (intro w _; go_simp; try with_reducible rfl)
     try simp only [Act.put, List.setIfInBounds_toArray, List.set_cons_zero, List.set_cons_succ]
     refine Zd.pureD (i := 8) (d := some 132) (v := ?vz8) rfl rfl (by as_aux_lemma => kernel_rfl) (by as_aux_lemma => kernel_rfl) (by as_aux_lemma => kernel_rfl) (by as_aux_lemma => kernel_rfl) (by as_aux_lemma => kernel_rfl) (fun _ _ _ h => h) (Or.inl ⟨by as_aux_lemma => kernel_rfl, ?hyz8⟩) (.inr hz1) ?restz8
     case hyz8 => (intro w _; go_simp; try with_reducible rfl)
     try simp only [Act.put, List.setIfInBounds_toArray, List.set_cons_zero, List.set_cons_succ]
     refine Zd.pureD (i := 10) (d := some 134) (v := ?vz10) rfl rfl (by as_aux_lemma => kernel_rfl) (by as_aux_lemma => kernel_rfl) (by as_aux_lemma => kernel_rfl) (by as_aux_lemma => kernel_rfl) (by as_aux_lemma => kernel_rfl) (fun _ _ _ h => h) (Or.inl ⟨by as_aux_lemma => kernel_rfl, ?hyz10⟩) (.inr hz1) ?restz10
     case hyz10 => (intro w _; go_simp; try with_reducible rfl)
     try simp only [Act.put, List.setIfInBounds_toArray, List.set_cons_zero, List.set_cons_succ]
     refine Zd.takeD (i := 11) (d := some 135) (v := ?vz11) rfl rfl (by as_aux_lemma => kernel_rfl) (by as_aux_lemma => kernel_rfl) (by as_aux_lemma => kernel_rfl) (by as_aux_lemma => kernel_rfl) (by as_aux_lemma => kernel_rfl) (fun _ _ _ h => h) (Or.inl ⟨by as_aux_lemma => kernel_rfl, ?hyz11⟩) hz1 ?restz11
     case hyz11 => (intro w hSw; (try dsimp only at hSw); obtain ⟨hSb, hSx⟩ := hSw; have r0 := hSx.cell 0; have r1 := hSx.cell 1; have r2 := hSx.cell 2; have r3 := hSx.cell 3; have r4 := hSx.cell 4; have r5 := hSx.cell 5; have r6 := hSx.cell 6; simp only [List.getElem?_toArray, List.getElem?_cons_zero, List.getElem?_cons_succ] at r0 r1 r2 r3 r4 r5 r6; go_simp; try with_reducible rfl)
     try simp only [Act.put, List.setIfInBounds_toArray, List.set_cons_zero, List.set_cons_succ]
     refine Zd.call (i := 9) (d := some 133) (by as_aux_lemma => kernel_rfl) rfl rfl (by as_aux_lemma => kernel_rfl) (by as_aux_lemma => kernel_rfl) (HRUL.out u1 hz1.1) ?_
     rintro e u2 ⟨rfl, hb⟩
     have hz2 : Below w8.heap.size w8 u2 ∧ At u2 xb 56 #[.bool lf, .int .i64 ru, .int .i64 sy, .int .i64 t0, .int .i64 t1, .int .i64 t2, .slice XA kn xc, .bool un] := ⟨hz1.1.trans (hb.mono hz1.1.size), hz1.2.below hb hz1.2.lt⟩
     clear hb hz1
     refine ⟨_, rfl, hz2, ?_⟩
     try simp only [Act.put, List.setIfInBounds_toArray, List.set_cons_zero, List.set_cons_succ]
     refine Zd.pureD (i := 12) (d := some 136) (v := ?vz12) rfl rfl (by as_aux_lemma => kernel_rfl) (by as_aux_lemma => kernel_rfl) (by as_aux_lemma => kernel_rfl) (by as_aux_lemma => kernel_rfl) (by as_aux_lemma => kernel_rfl) (fun _ _ _ h => h) (Or.inl ⟨by as_aux_lemma => kernel_rfl, ?hyz12⟩) (.inr hz2) ?restz12
     case hyz12 => (intro w _; go_simp; try with_reducible rfl)
     try simp only [Act.put, List.setIfInBounds_toArray, List.set_cons_zero, List.set_cons_succ]
     refine Zd.pureD (i := 13) (d := some 137) (v := ?vz13) rfl rfl (by as_aux_lemma => kernel_rfl) (by as_aux_lemma => kernel_rfl) (by as_aux_lemma => kernel_rfl) (by as_aux_lemma => kernel_rfl) (by as_aux_lemma => kernel_rfl) (fun _ _ _ h => h) (Or.inl ⟨by as_aux_lemma => kernel_rfl, ?hyz13⟩) (.inr hz2) ?restz13
     case hyz13 => (intro w _; go_simp; try with_reducible rfl)
     try simp only [Act.put, List.setIfInBounds_toArray, List.set_cons_zero, List.set_cons_succ]
     refine Zd.pureD (i := 14) (d := some 138) (v := ?vz14) rfl rfl (by as_aux_lemma => kernel_rfl) (by as_aux_lemma => kernel_rfl) (by as_aux_lemma => kernel_rfl) (by as_aux_lemma => kernel_rfl) (by as_aux_lemma => kernel_rfl) (fun _ _ _ h => h) (Or.inl ⟨by as_aux_lemma => kernel_rfl, ?hyz14⟩) (.inr hz2) ?restz14
     case hyz14 => (intro w _; go_simp; try with_reducible rfl)
     try simp only [Act.put, List.setIfInBounds_toArray, List.set_cons_zero, List.set_cons_succ]
     refine Zd.pureD (i := 15) (d := some 139) (v := ?vz15) rfl rfl (by as_aux_lemma => kernel_rfl) (by as_aux_lemma => kernel_rfl) (by as_aux_lemma => kernel_rfl) (by as_aux_lemma => kernel_rfl) (by as_aux_lemma => kernel_rfl) (fun _ _ _ h => h) (Or.inl ⟨by as_aux_lemma => kernel_rfl, ?hyz15⟩) (.inr hz2) ?restz15
     case hyz15 => (intro w _; go_simp; try with_reducible rfl)
     try simp only [Act.put, List.setIfInBounds_toArray, List.set_cons_zero, List.set_cons_succ]
     refine Zd.pureD (i := 16) (d := some 140) (v := ?vz16) rfl rfl (by as_aux_lemma => kernel_rfl) (by as_aux_lemma => kernel_rfl) (by as_aux_lemma => kernel_rfl) (by as_aux_lemma => kernel_rfl) (by as_aux_lemma => kernel_rfl) (fun _ _ _ h => h) (Or.inl ⟨by as_aux_lemma => kernel_rfl, ?hyz16⟩) (.inr hz2) ?restz16
     case hyz16 => (intro w _; go_simp; try with_reducible rfl)
     try simp only [Act.put, List.setIfInBounds_toArray, List.set_cons_zero, List.set_cons_succ]
     refine Zd.pureD (i := 18) (d := some 142) (v := ?vz18) rfl rfl (by as_aux_lemma => kernel_rfl) (by as_aux_lemma => kernel_rfl) (by as_aux_lemma => kernel_rfl) (by as_aux_lemma => kernel_rfl) (by as_aux_lemma => kernel_rfl) (fun _ _ _ h => h) (Or.inl ⟨by as_aux_lemma => kernel_rfl, ?hyz18⟩) (.inr hz2) ?restz18
     case hyz18 => (intro w _; go_simp; try with_reducible rfl)
     try simp only [Act.put, List.setIfInBounds_toArray, List.set_cons_zero, List.set_cons_succ]
     refine Zd.takeD (i := 19) (d := some 143) (v := ?vz19) rfl rfl (by as_aux_lemma => kernel_rfl) (by as_aux_lemma => kernel_rfl) (by as_aux_lemma => kernel_rfl) (by as_aux_lemma => kernel_rfl) (by as_aux_lemma => kernel_rfl) (fun _ _ _ h => h) (Or.inl ⟨by as_aux_lemma => kernel_rfl, ?hyz19⟩) hz2 ?restz19
     case hyz19 => (intro w hSw; (try dsimp only at hSw); obtain ⟨hSb, hSx⟩ := hSw; have r0 := hSx.cell 0; have r1 := hSx.cell 1; have r2 := hSx.cell 2; have r3 := hSx.cell 3; have r4 := hSx.cell 4; have r5 := hSx.cell 5; have r6 := hSx.cell 6; simp only [List.getElem?_toArray, List.getElem?_cons_zero, List.getElem?_cons_succ] at r0 r1 r2 r3 r4 r5 r6; go_simp; try with_reducible rfl)
     try simp only [Act.put, List.setIfInBounds_toArray, List.set_cons_zero, List.set_cons_succ]
     refine Zd.call (i := 17) (d := some 141) (by as_aux_lemma => kernel_rfl) rfl rfl (by as_aux_lemma => kernel_rfl) (by as_aux_lemma => kernel_rfl) (HTOK.out u2 hz2.1) ?_
     rintro e u3 ⟨rfl, hb⟩
     have hz3 : Below w8.heap.size w8 u3 ∧ At u3 xb 56 #[.bool lf, .int .i64 ru, .int .i64 sy, .int .i64 t0, .int .i64 t1, .int .i64 t2, .slice XA kn xc, .bool un] := ⟨hz2.1.trans (hb.mono hz2.1.size), hz2.2.below hb hz2.2.lt⟩
     clear hb hz2
     refine ⟨_, rfl, hz3, ?_⟩
     try simp only [Act.put, List.setIfInBounds_toArray, List.set_cons_zero, List.set_cons_succ]
     refine Zd.pureD (i := 20) (d := some 144) (v := ?vz20) rfl rfl (by as_aux_lemma => kernel_rfl) (by as_aux_lemma => kernel_rfl) (by as_aux_lemma => kernel_rfl) (by as_aux_lemma => kernel_rfl) (by as_aux_lemma => kernel_rfl) (fun _ _ _ h => h) (Or.inl ⟨by as_aux_lemma => kernel_rfl, ?hyz20⟩) (.inr hz3) ?restz20
     case hyz20 => (intro w _; go_simp; try with_reducible rfl)
     try simp only [Act.put, List.setIfInBounds_toArray, List.set_cons_zero, List.set_cons_succ]
     refine Zd.pureD (i := 21) (d := some 145) (v := ?vz21) rfl rfl (by as_aux_lemma => kernel_rfl) (by as_aux_lemma => kernel_rfl) (by as_aux_lemma => kernel_rfl) (by as_aux_lemma => kernel_rfl) (by as_aux_lemma => kernel_rfl) (fun _ _ _ h => h) (Or.inl ⟨by as_aux_lemma => kernel_rfl, ?hyz21⟩) (.inr hz3) ?restz21
     case hyz21 => (intro w _; go_simp; try with_reducible rfl)
     try simp only [Act.put, List.setIfInBounds_toArray, List.set_cons_zero, List.set_cons_succ]
     refine Zd.pureD (i := 22) (d := some 146) (v := ?vz22) rfl rfl (by as_aux_lemma => kernel_rfl) (by as_aux_lemma => kernel_rfl) (by as_aux_lemma => kernel_rfl) (by as_aux_lemma => kernel_rfl) (by as_aux_lemma => kernel_rfl) (fun _ _ _ h => h) (Or.inl ⟨by as_aux_lemma => kernel_rfl, ?hyz22⟩) (.inr hz3) ?restz22
     case hyz22 => (intro w _; go_simp; try with_reducible rfl)
     try simp only [Act.put, List.setIfInBounds_toArray, List.set_cons_zero, List.set_cons_succ]
     refine Zd.pureD (i := 23) (d := some 147) (v := ?vz23) rfl rfl (by as_aux_lemma => kernel_rfl) (by as_aux_lemma => kernel_rfl) (by as_aux_lemma => kernel_rfl) (by as_aux_lemma => kernel_rfl) (by as_aux_lemma => kernel_rfl) (fun _ _ _ h => h) (Or.inl ⟨by as_aux_lemma => kernel_rfl, ?hyz23⟩) (.inr hz3) ?restz23
     case hyz23 => (intro w _; go_simp; try with_reducible rfl)
     try simp only [Act.put, List.setIfInBounds_toArray, List.set_cons_zero, List.set_cons_succ]
     refine Zd.pureD (i := 24) (d := some 148) (v := ?vz24) rfl rfl (by as_aux_lemma => kernel_rfl) (by as_aux_lemma => kernel_rfl) (by as_aux_lemma => kernel_rfl) (by as_aux_lemma => kernel_rfl) (by as_aux_lemma => kernel_rfl) (fun _ _ _ h => h) (Or.inl ⟨by as_aux_lemma => kernel_rfl, ?hyz24⟩) (.inr hz3) ?restz24
     case hyz24 => (intro w _; go_simp; try with_reducible rfl)
     try simp only [Act.put, List.setIfInBounds_toArray, List.set_cons_zero, List.set_cons_succ]
     refine Zd.pureD (i := 26) (d := some 150) (v := ?vz26) rfl rfl (by as_aux_lemma => kernel_rfl) (by as_aux_lemma => kernel_rfl) (by as_aux_lemma => kernel_rfl) (by as_aux_lemma => kernel_rfl) (by as_aux_lemma => kernel_rfl) (fun _ _ _ h => h) (Or.inl ⟨by as_aux_lemma => kernel_rfl, ?hyz26⟩) (.inr hz3) ?restz26
     case hyz26 => (intro w _; go_simp; try with_reducible rfl)
     try simp only [Act.put, List.setIfInBounds_toArray, List.set_cons_zero, List.set_cons_succ]
     refine Zd.takeD (i := 27) (d := some 151) (v := ?vz27) rfl rfl (by as_aux_lemma => kernel_rfl) (by as_aux_lemma => kernel_rfl) (by as_aux_lemma => kernel_rfl) (by as_aux_lemma => kernel_rfl) (by as_aux_lemma => kernel_rfl) (fun _ _ _ h => h) (Or.inl ⟨by as_aux_lemma => kernel_rfl, ?hyz27⟩) hz3 ?restz27
     case hyz27 => (intro w hSw; (try dsimp only at hSw); obtain ⟨hSb, hSx⟩ := hSw; have r0 := hSx.cell 0; have r1 := hSx.cell 1; have r2 := hSx.cell 2; have r3 := hSx.cell 3; have r4 := hSx.cell 4; have r5 := hSx.cell 5; have r6 := hSx.cell 6; simp only [List.getElem?_toArray, List.getElem?_cons_zero, List.getElem?_cons_succ] at r0 r1 r2 r3 r4 r5 r6; go_simp; try with_reducible rfl)
     try simp only [Act.put, List.setIfInBounds_toArray, List.set_cons_zero, List.set_cons_succ]
     refine Zd.call (i := 25) (d := some 149) (by as_aux_lemma => kernel_rfl) rfl rfl (by as_aux_lemma => kernel_rfl) (by as_aux_lemma => kernel_rfl) (HLEA.out u3 hz3.1) ?_
     rintro e u4 ⟨rfl, hb⟩
     have hz4 : Below w8.heap.size w8 u4 ∧ At u4 xb 56 #[.bool lf, .int .i64 ru, .int .i64 sy, .int .i64 t0, .int .i64 t1, .int .i64 t2, .slice XA kn xc, .bool un] := ⟨hz3.1.trans (hb.mono hz3.1.size), hz3.2.below hb hz3.2.lt⟩
     clear hb hz3
     refine ⟨_, rfl, hz4, ?_⟩
     try simp only [Act.put, List.setIfInBounds_toArray, List.set_cons_zero, List.set_cons_succ]
     refine Zd.pureD (i := 28) (d := some 152) (v := ?vz28) rfl rfl (by as_aux_lemma => kernel_rfl) (by as_aux_lemma => kernel_rfl) (by as_aux_lemma => kernel_rfl) (by as_aux_lemma => kernel_rfl) (by as_aux_lemma => kernel_rfl) (fun _ _ _ h => h) (Or.inl ⟨by as_aux_lemma => kernel_rfl, ?hyz28⟩) (.inr hz4) ?restz28
     case hyz28 => (intro w _; go_simp; try with_reducible rfl)
     try simp only [Act.put, List.setIfInBounds_toArray, List.set_cons_zero, List.set_cons_succ]
     refine Zd.pureD (i := 29) (d := some 153) (v := ?vz29) rfl rfl (by as_aux_lemma => kernel_rfl) (by as_aux_lemma => kernel_rfl) (by as_aux_lemma => kernel_rfl) (by as_aux_lemma => kernel_rfl) (by as_aux_lemma => kernel_rfl) (fun _ _ _ h => h) (Or.inl ⟨by as_aux_lemma => kernel_rfl, ?hyz29⟩) (.inr hz4) ?restz29
     case hyz29 => (intro w _; go_simp; try with_reducible rfl)
     try simp only [Act.put, List.setIfInBounds_toArray, List.set_cons_zero, List.set_cons_succ]
     refine Zd.pureD (i := 30) (d := some 154) (v := ?vz30) rfl rfl (by as_aux_lemma => kernel_rfl) (by as_aux_lemma => kernel_rfl) (by as_aux_lemma => kernel_rfl) (by as_aux_lemma => kernel_rfl) (by as_aux_lemma => kernel_rfl) (fun _ _ _ h => h) (Or.inl ⟨by as_aux_lemma => kernel_rfl, ?hyz30⟩) (.inr hz4) ?restz30
     case hyz30 => (intro w _; go_simp; try with_reducible rfl)
     try simp only [Act.put, List.setIfInBounds_toArray, List.set_cons_zero, List.set_cons_succ]
     refine Zd.pureD (i := 31) (d := some 155) (v := ?vz31) rfl rfl (by as_aux_lemma => kernel_rfl) (by as_aux_lemma => kernel_rfl) (by as_aux_lemma => kernel_rfl) (by as_aux_lemma => kernel_rfl) (by as_aux_lemma => kernel_rfl) (fun _ _ _ h => h) (Or.inl ⟨by as_aux_lemma => kernel_rfl, ?hyz31⟩) (.inr hz4) ?restz31
     case hyz31 => (intro w _; go_simp; try with_reducible rfl)
     try simp only [Act.put, List.setIfInBounds_toArray, List.set_cons_zero, List.set_cons_succ]
     refine Zd.pureD (i := 32) (d := some 156) (v := ?vz32) rfl rfl (by as_aux_lemma => kernel_rfl) (by as_aux_lemma => kernel_rfl) (by as_aux_lemma => kernel_rfl) (by as_aux_lemma => kernel_rfl) (by as_aux_lemma => kernel_rfl) (fun _ _ _ h => h) (Or.inl ⟨by as_aux_lemma => kernel_rfl, ?hyz32⟩) (.inr hz4) ?restz32
     case hyz32 => (intro w _; go_simp; try with_reducible rfl)
     try simp only [Act.put, List.setIfInBounds_toArray, List.set_cons_zero, List.set_cons_succ]
     refine Zd.pureD (i := 34) (d := some 158) (v := ?vz34) rfl rfl (by as_aux_lemma => kernel_rfl) (by as_aux_lemma => kernel_rfl) (by as_aux_lemma => kernel_rfl) (by as_aux_lemma => kernel_rfl) (by as_aux_lemma => kernel_rfl) (fun _ _ _ h => h) (Or.inl ⟨by as_aux_lemma => kernel_rfl, ?hyz34⟩) (.inr hz4) ?restz34
     case hyz34 => (intro w _; go_simp; try with_reducible rfl)
     try simp only [Act.put, List.setIfInBounds_toArray, List.set_cons_zero, List.set_cons_succ]
     refine Zd.takeD (i := 35) (d := some 159) (v := ?vz35) rfl rfl (by as_aux_lemma => kernel_rfl) (by as_aux_lemma => kernel_rfl) (by as_aux_lemma => kernel_rfl) (by as_aux_lemma => kernel_rfl) (by as_aux_lemma => kernel_rfl) (fun _ _ _ h => h) (Or.inl ⟨by as_aux_lemma => kernel_rfl, ?hyz35⟩) hz4 ?restz35
     case hyz35 => (intro w hSw; (try dsimp only at hSw); obtain ⟨hSb, hSx⟩ := hSw; have r0 := hSx.cell 0; have r1 := hSx.cell 1; have r2 := hSx.cell 2; have r3 := hSx.cell 3; have r4 := hSx.cell 4; have r5 := hSx.cell 5; have r6 := hSx.cell 6; simp only [List.getElem?_toArray, List.getElem?_cons_zero, List.getElem?_cons_succ] at r0 r1 r2 r3 r4 r5 r6; go_simp; try with_reducible rfl)
     try simp only [Act.put, List.setIfInBounds_toArray, List.set_cons_zero, List.set_cons_succ]
     refine Zd.call (i := 33) (d := some 157) (by as_aux_lemma => kernel_rfl) rfl rfl (by as_aux_lemma => kernel_rfl) (by as_aux_lemma => kernel_rfl) (HKID.out u4 hz4.1) ?_
     rintro e u5 ⟨KA, kc, rfl, ho, hb⟩
     have hz5 : Below w8.heap.size w8 u5 ∧ At u5 xb 56 #[.bool lf, .int .i64 ru, .int .i64 sy, .int .i64 t0, .int .i64 t1, .int .i64 t2, .slice XA kn xc, .bool un] := ⟨hz4.1.trans (hb.mono hz4.1.size), hz4.2.below hb hz4.2.lt⟩
     have HLK := Lib.hid (Lie.own ho)
     clear ho HKID
     have HIN := Lib.hid (intsL_any KA XA kn kn kc xc ks ks u5 HKN.out HKN.out HLK.out (HXL.out.below hz5.1) (by omega))
     rw [decide_eq_true rfl] at HIN
     clear hb hz4
     refine ⟨_, rfl, hz5, ?_⟩
     try simp only [Act.put, List.setIfInBounds_toArray, List.set_cons_zero, List.set_cons_succ]
     refine Zd.call (i := 36) (d := some 160) (by as_aux_lemma => kernel_rfl) rfl rfl (by as_aux_lemma => kernel_rfl) (by as_aux_lemma => kernel_rfl) (HIN.out) ?_
     rintro e u6 ⟨rfl, hb⟩
     have hz6 : Below w8.heap.size w8 u6 ∧ At u6 xb 56 #[.bool lf, .int .i64 ru, .int .i64 sy, .int .i64 t0, .int .i64 t1, .int .i64 t2, .slice XA kn xc, .bool un] := ⟨hz5.1.trans (hb.mono hz5.1.size), hz5.2.below hb hz5.2.lt⟩
     clear HIN HLK
     clear hb hz5
     refine ⟨_, rfl, hz6, ?_⟩
     try simp only [Act.put, List.setIfInBounds_toArray, List.set_cons_zero, List.set_cons_succ]
     refine Zd.pureD (i := 37) (d := some 161) (v := ?vz37) rfl rfl (by as_aux_lemma => kernel_rfl) (by as_aux_lemma => kernel_rfl) (by as_aux_lemma => kernel_rfl) (by as_aux_lemma => kernel_rfl) (by as_aux_lemma => kernel_rfl) (fun _ _ _ h => h) (Or.inl ⟨by as_aux_lemma => kernel_rfl, ?hyz37⟩) (.inr hz6) ?restz37
     case hyz37 => (intro w _; go_simp; try with_reducible rfl)
     try simp only [Act.put, List.setIfInBounds_toArray, List.set_cons_zero, List.set_cons_succ]
     refine Zd.pureD (i := 38) (d := some 162) (v := ?vz38) rfl rfl (by as_aux_lemma => kernel_rfl) (by as_aux_lemma => kernel_rfl) (by as_aux_lemma => kernel_rfl) (by as_aux_lemma => kernel_rfl) (by as_aux_lemma => kernel_rfl) (fun _ _ _ h => h) (Or.inl ⟨by as_aux_lemma => kernel_rfl, ?hyz38⟩) (.inr hz6) ?restz38
     case hyz38 => (intro w _; go_simp; try with_reducible rfl)
     try simp only [Act.put, List.setIfInBounds_toArray, List.set_cons_zero, List.set_cons_succ]
     refine Zd.pureD (i := 39) (d := some 163) (v := ?vz39) rfl rfl (by as_aux_lemma => kernel_rfl) (by as_aux_lemma => kernel_rfl) (by as_aux_lemma => kernel_rfl) (by as_aux_lemma => kernel_rfl) (by as_aux_lemma => kernel_rfl) (fun _ _ _ h => h) (Or.inl ⟨by as_aux_lemma => kernel_rfl, ?hyz39⟩) (.inr hz6) ?restz39
     case hyz39 => (intro w _; go_simp; try with_reducible rfl)
     try simp only [Act.put, List.setIfInBounds_toArray, List.set_cons_zero, List.set_cons_succ]
     refine Zd.pureD (i := 40) (d := some 164) (v := ?vz40) rfl rfl (by as_aux_lemma => kernel_rfl) (by as_aux_lemma => kernel_rfl) (by as_aux_lemma => kernel_rfl) (by as_aux_lemma => kernel_rfl) (by as_aux_lemma => kernel_rfl) (fun _ _ _ h => h) (Or.inl ⟨by as_aux_lemma => kernel_rfl, ?hyz40⟩) (.inr hz6) ?restz40
     case hyz40 => (intro w _; go_simp; try with_reducible rfl)
     try simp only [Act.put, List.setIfInBounds_toArray, List.set_cons_zero, List.set_cons_succ]
     refine Zd.pureD (i := 41) (d := some 165) (v := ?vz41) rfl rfl (by as_aux_lemma => kernel_rfl) (by as_aux_lemma => kernel_rfl) (by as_aux_lemma => kernel_rfl) (by as_aux_lemma => kernel_rfl) (by as_aux_lemma => kernel_rfl) (fun _ _ _ h => h) (Or.inl ⟨by as_aux_lemma => kernel_rfl, ?hyz41⟩) (.inr hz6) ?restz41
     case hyz41 => (intro w _; go_simp; try with_reducible rfl)
     try simp only [Act.put, List.setIfInBounds_toArray, List.set_cons_zero, List.set_cons_succ]
     refine Zd.pureD (i := 43) (d := some 167) (v := ?vz43) rfl rfl (by as_aux_lemma => kernel_rfl) (by as_aux_lemma => kernel_rfl) (by as_aux_lemma => kernel_rfl) (by as_aux_lemma => kernel_rfl) (by as_aux_lemma => kernel_rfl) (fun _ _ _ h => h) (Or.inl ⟨by as_aux_lemma => kernel_rfl, ?hyz43⟩) (.inr hz6) ?restz43
     case hyz43 => (intro w _; go_simp; try with_reducible rfl)
     try simp only [Act.put, List.setIfInBounds_toArray, List.set_cons_zero, List.set_cons_succ]
     refine Zd.pureD (i := 44) (d := some 168) (v := ?vz44) rfl rfl (by as_aux_lemma => kernel_rfl) (by as_aux_lemma => kernel_rfl) (by as_aux_lemma => kernel_rfl) (by as_aux_lemma => kernel_rfl) (by as_aux_lemma => kernel_rfl) (fun _ _ _ h => h) (Or.inl ⟨by as_aux_lemma => kernel_rfl, ?hyz44⟩) (.inr hz6) ?restz44
     case hyz44 => (intro w _; go_simp; try with_reducible rfl)
     try simp only [Act.put, List.setIfInBounds_toArray, List.set_cons_zero, List.set_cons_succ]
     refine Zd.call (i := 42) (d := some 166) (by as_aux_lemma => kernel_rfl) rfl rfl (by as_aux_lemma => kernel_rfl) (by as_aux_lemma => kernel_rfl) (HBEL.out u6 hz6.1) ?_
     rintro e u7 ⟨BA, bc, rfl, ho, hb⟩
     have hz7 : Below w8.heap.size w8 u7 ∧ At u7 xb 56 #[.bool lf, .int .i64 ru, .int .i64 sy, .int .i64 t0, .int .i64 t1, .int .i64 t2, .slice XA kn xc, .bool un] := ⟨hz6.1.trans (hb.mono hz6.1.size), hz6.2.below hb hz6.2.lt⟩
     have HLB := Lib.hid (Lie.own ho)
     clear ho
     clear hb hz6
     refine ⟨_, rfl, hz7, ?_⟩
     try simp only [Act.put, List.setIfInBounds_toArray, List.set_cons_zero, List.set_cons_succ]
     refine Zd.call (i := 45) (d := some 169) (by as_aux_lemma => kernel_rfl) rfl rfl (by as_aux_lemma => kernel_rfl) (by as_aux_lemma => kernel_rfl) (HRBEL.out u7 hz7.1) ?_
     rintro e u8 ⟨CA, cc, rfl, ho, hb⟩
     have hz8 : Below w8.heap.size w8 u8 ∧ At u8 xb 56 #[.bool lf, .int .i64 ru, .int .i64 sy, .int .i64 t0, .int .i64 t1, .int .i64 t2, .slice XA kn xc, .bool un] := ⟨hz7.1.trans (hb.mono hz7.1.size), hz7.2.below hb hz7.2.lt⟩
     have HLC := Lib.hid (Lie.own ho)
     have HLB2 := Lib.hid (HLB.out.below hb)
     clear ho HLB
     have HIN := Lib.hid (intsL_any BA CA bn bn bc cc BL BL u8 HBN.out HBN.out HLB2.out HLC.out (by omega))
     rw [decide_eq_true rfl] at HIN
     clear hb hz7
     refine ⟨_, rfl, hz8, ?_⟩
     try simp only [Act.put, List.setIfInBounds_toArray, List.set_cons_zero, List.set_cons_succ]
     refine Zd.call (i := 46) (d := some 170) (by as_aux_lemma => kernel_rfl) rfl rfl (by as_aux_lemma => kernel_rfl) (by as_aux_lemma => kernel_rfl) (HIN.out) ?_
     rintro e u9 ⟨rfl, hb⟩
     have hz9 : Below w8.heap.size w8 u9 ∧ At u9 xb 56 #[.bool lf, .int .i64 ru, .int .i64 sy, .int .i64 t0, .int .i64 t1, .int .i64 t2, .slice XA kn xc, .bool un] := ⟨hz8.1.trans (hb.mono hz8.1.size), hz8.2.below hb hz8.2.lt⟩
     clear HIN HLB2 HLC
     clear hb hz8
     refine ⟨_, rfl, hz9, ?_⟩
     try simp only [Act.put, List.setIfInBounds_toArray, List.set_cons_zero, List.set_cons_succ]
     refine Zd.pureD (i := 47) (d := some 171) (v := ?vz47) rfl rfl (by as_aux_lemma => kernel_rfl) (by as_aux_lemma => kernel_rfl) (by as_aux_lemma => kernel_rfl) (by as_aux_lemma => kernel_rfl) (by as_aux_lemma => kernel_rfl) (fun _ _ _ h => h) (Or.inl ⟨by as_aux_lemma => kernel_rfl, ?hyz47⟩) (.inr hz9) ?restz47
     case hyz47 => (intro w _; go_simp; try with_reducible rfl)
     try simp only [Act.put, List.setIfInBounds_toArray, List.set_cons_zero, List.set_cons_succ]
     refine Zd.pureD (i := 48) (d := some 172) (v := ?vz48) rfl rfl (by as_aux_lemma => kernel_rfl) (by as_aux_lemma => kernel_rfl) (by as_aux_lemma => kernel_rfl) (by as_aux_lemma => kernel_rfl) (by as_aux_lemma => kernel_rfl) (fun _ _ _ h => h) (Or.inl ⟨by as_aux_lemma => kernel_rfl, ?hyz48⟩) (.inr hz9) ?restz48
     case hyz48 => (intro w _; go_simp; try with_reducible rfl)
     try simp only [Act.put, List.setIfInBounds_toArray, List.set_cons_zero, List.set_cons_succ]
     refine Zd.pureD (i := 49) (d := some 173) (v := ?vz49) rfl rfl (by as_aux_lemma => kernel_rfl) (by as_aux_lemma => kernel_rfl) (by as_aux_lemma => kernel_rfl) (by as_aux_lemma => kernel_rfl) (by as_aux_lemma => kernel_rfl) (fun _ _ _ h => h) (Or.inl ⟨by as_aux_lemma => kernel_rfl, ?hyz49⟩) (.inr hz9) ?restz49
     case hyz49 => (intro w _; go_simp; try with_reducible rfl)
     try simp only [Act.put, List.setIfInBounds_toArray, List.set_cons_zero, List.set_cons_succ]
     refine Zd.pureD (i := 50) (d := some 174) (v := ?vz50) rfl rfl (by as_aux_lemma => kernel_rfl) (by as_aux_lemma => kernel_rfl) (by as_aux_lemma => kernel_rfl) (by as_aux_lemma => kernel_rfl) (by as_aux_lemma => kernel_rfl) (fun _ _ _ h => h) (Or.inl ⟨by as_aux_lemma => kernel_rfl, ?hyz50⟩) (.inr hz9) ?restz50
     case hyz50 => (intro w _; go_simp; try with_reducible rfl)
     try simp only [Act.put, List.setIfInBounds_toArray, List.set_cons_zero, List.set_cons_succ]
     refine Zd.pureD (i := 51) (d := some 175) (v := ?vz51) rfl rfl (by as_aux_lemma => kernel_rfl) (by as_aux_lemma => kernel_rfl) (by as_aux_lemma => kernel_rfl) (by as_aux_lemma => kernel_rfl) (by as_aux_lemma => kernel_rfl) (fun _ _ _ h => h) (Or.inl ⟨by as_aux_lemma => kernel_rfl, ?hyz51⟩) (.inr hz9) ?restz51
     case hyz51 => (intro w _; go_simp; try with_reducible rfl)
     try simp only [Act.put, List.setIfInBounds_toArray, List.set_cons_zero, List.set_cons_succ]
     refine Zd.pureD (i := 53) (d := some 177) (v := ?vz53) rfl rfl (by as_aux_lemma => kernel_rfl) (by as_aux_lemma => kernel_rfl) (by as_aux_lemma => kernel_rfl) (by as_aux_lemma => kernel_rfl) (by as_aux_lemma => kernel_rfl) (fun _ _ _ h => h) (Or.inl ⟨by as_aux_lemma => kernel_rfl, ?hyz53⟩) (.inr hz9) ?restz53
     case hyz53 => (intro w _; go_simp; try with_reducible rfl)
     try simp only [Act.put, List.setIfInBounds_toArray, List.set_cons_zero, List.set_cons_succ]
     refine Zd.pureD (i := 54) (d := some 178) (v := ?vz54) rfl rfl (by as_aux_lemma => kernel_rfl) (by as_aux_lemma => kernel_rfl) (by as_aux_lemma => kernel_rfl) (by as_aux_lemma => kernel_rfl) (by as_aux_lemma => kernel_rfl) (fun _ _ _ h => h) (Or.inl ⟨by as_aux_lemma => kernel_rfl, ?hyz54⟩) (.inr hz9) ?restz54
     case hyz54 => (intro w _; go_simp; try with_reducible rfl)
     try simp only [Act.put, List.setIfInBounds_toArray, List.set_cons_zero, List.set_cons_succ]
     refine Zd.call (i := 52) (d := some 176) (by as_aux_lemma => kernel_rfl) rfl rfl (by as_aux_lemma => kernel_rfl) (by as_aux_lemma => kernel_rfl) (HYIE.out u9 hz9.1) ?_
     rintro e u10 ⟨YA, yc, rfl, ho, hb⟩
     have hz10 : Below w8.heap.size w8 u10 ∧ At u10 xb 56 #[.bool lf, .int .i64 ru, .int .i64 sy, .int .i64 t0, .int .i64 t1, .int .i64 t2, .slice XA kn xc, .bool un] := ⟨hz9.1.trans (hb.mono hz9.1.size), hz9.2.below hb hz9.2.lt⟩
     have HLY := Lib.hid (Lie.own ho)
     clear ho
     clear hb hz9
     refine ⟨_, rfl, hz10, ?_⟩
     try simp only [Act.put, List.setIfInBounds_toArray, List.set_cons_zero, List.set_cons_succ]
     refine Zd.call (i := 55) (d := some 179) (by as_aux_lemma => kernel_rfl) rfl rfl (by as_aux_lemma => kernel_rfl) (by as_aux_lemma => kernel_rfl) (HRYIE.out u10 hz10.1) ?_
     rintro e u11 ⟨ZA, zc, rfl, ho, hb⟩
     have hz11 : Below w8.heap.size w8 u11 ∧ At u11 xb 56 #[.bool lf, .int .i64 ru, .int .i64 sy, .int .i64 t0, .int .i64 t1, .int .i64 t2, .slice XA kn xc, .bool un] := ⟨hz10.1.trans (hb.mono hz10.1.size), hz10.2.below hb hz10.2.lt⟩
     have HLZ := Lib.hid (Lie.own ho)
     have HLY2 := Lib.hid (HLY.out.below hb)
     clear ho HLY
     have HTS2 := Lib.hid (toks_any YA ZA yn yn yc zc YL YL u11 HYN.out HYN.out HLY2.out HLZ.out (by omega) HYS.out HYS.out)
     rw [decide_eq_true rfl] at HTS2
     clear hb hz10
     refine ⟨_, rfl, hz11, ?_⟩
     try simp only [Act.put, List.setIfInBounds_toArray, List.set_cons_zero, List.set_cons_succ]
     refine Zd.call (i := 56) (d := some 180) (by as_aux_lemma => kernel_rfl) rfl rfl (by as_aux_lemma => kernel_rfl) (by as_aux_lemma => kernel_rfl) (HTS2.out) ?_
     rintro e u12 ⟨rfl, hb⟩
     have hz12 : Below w8.heap.size w8 u12 ∧ At u12 xb 56 #[.bool lf, .int .i64 ru, .int .i64 sy, .int .i64 t0, .int .i64 t1, .int .i64 t2, .slice XA kn xc, .bool un] := ⟨hz11.1.trans (hb.mono hz11.1.size), hz11.2.below hb hz11.2.lt⟩
     clear HTS2 HLY2 HLZ
     clear hb hz11
     refine ⟨_, rfl, hz12, ?_⟩
     try simp only [Act.put, List.setIfInBounds_toArray, List.set_cons_zero, List.set_cons_succ]
     refine Zd.pureD (i := 57) (d := some 181) (v := ?vz57) rfl rfl (by as_aux_lemma => kernel_rfl) (by as_aux_lemma => kernel_rfl) (by as_aux_lemma => kernel_rfl) (by as_aux_lemma => kernel_rfl) (by as_aux_lemma => kernel_rfl) (fun _ _ _ h => h) (Or.inl ⟨by as_aux_lemma => kernel_rfl, ?hyz57⟩) (.inr hz12) ?restz57
     case hyz57 => (intro w _; go_simp; try with_reducible rfl)
     try simp only [Act.put, List.setIfInBounds_toArray, List.set_cons_zero, List.set_cons_succ]
     refine Zd.pureD (i := 58) (d := some 182) (v := ?vz58) rfl rfl (by as_aux_lemma => kernel_rfl) (by as_aux_lemma => kernel_rfl) (by as_aux_lemma => kernel_rfl) (by as_aux_lemma => kernel_rfl) (by as_aux_lemma => kernel_rfl) (fun _ _ _ h => h) (Or.inl ⟨by as_aux_lemma => kernel_rfl, ?hyz58⟩) (.inr hz12) ?restz58
     case hyz58 => (intro w _; go_simp; try with_reducible rfl)
     try simp only [Act.put, List.setIfInBounds_toArray, List.set_cons_zero, List.set_cons_succ]
     refine Zd.pureD (i := 59) (d := some 183) (v := ?vz59) rfl rfl (by as_aux_lemma => kernel_rfl) (by as_aux_lemma => kernel_rfl) (by as_aux_lemma => kernel_rfl) (by as_aux_lemma => kernel_rfl) (by as_aux_lemma => kernel_rfl) (fun _ _ _ h => h) (Or.inl ⟨by as_aux_lemma => kernel_rfl, ?hyz59⟩) (.inr hz12) ?restz59
     case hyz59 => (intro w _; go_simp; try with_reducible rfl)
     try simp only [Act.put, List.setIfInBounds_toArray, List.set_cons_zero, List.set_cons_succ]
     refine Zd.pureD (i := 60) (d := some 184) (v := ?vz60) rfl rfl (by as_aux_lemma => kernel_rfl) (by as_aux_lemma => kernel_rfl) (by as_aux_lemma => kernel_rfl) (by as_aux_lemma => kernel_rfl) (by as_aux_lemma => kernel_rfl) (fun _ _ _ h => h) (Or.inl ⟨by as_aux_lemma => kernel_rfl, ?hyz60⟩) (.inr hz12) ?restz60
     case hyz60 => (intro w _; go_simp; try with_reducible rfl)
     try simp only [Act.put, List.setIfInBounds_toArray, List.set_cons_zero, List.set_cons_succ]
     refine Zd.takeD (i := 61) (d := some 185) (v := ?vz61) rfl rfl (by as_aux_lemma => kernel_rfl) (by as_aux_lemma => kernel_rfl) (by as_aux_lemma => kernel_rfl) (by as_aux_lemma => kernel_rfl) (by as_aux_lemma => kernel_rfl) (fun _ _ _ h => h) (Or.inl ⟨by as_aux_lemma => kernel_rfl, ?hyz61⟩) hz12 ?restz61
     case hyz61 => (intro w hSw; (try dsimp only at hSw); obtain ⟨hSb, hSx⟩ := hSw; have q0 := (hSb.cell (p := ⟨pb, 0, none⟩) hpbl).trans p0; have q1 := (hSb.cell (p := ⟨pb, 1, none⟩) hpbl).trans p1; have q2 := (hSb.cell (p := ⟨pb, 2, none⟩) hpbl).trans p2; have q3 := (hSb.cell (p := ⟨pb, 3, none⟩) hpbl).trans p3; have q4 := (hSb.cell (p := ⟨pb, 4, none⟩) hpbl).trans p4; have q5 := (hSb.cell (p := ⟨pb, 5, none⟩) hpbl).trans p5; go_simp; try with_reducible rfl)
     try simp only [Act.put, List.setIfInBounds_toArray, List.set_cons_zero, List.set_cons_succ]
     refine Zd.pureD (i := 62) (d := some 186) (v := ?vz62) rfl rfl (by as_aux_lemma => kernel_rfl) (by as_aux_lemma => kernel_rfl) (by as_aux_lemma => kernel_rfl) (by as_aux_lemma => kernel_rfl) (by as_aux_lemma => kernel_rfl) (fun _ _ _ h => h) (Or.inl ⟨by as_aux_lemma => kernel_rfl, ?hyz62⟩) (.inr hz12) ?restz62
     case hyz62 => (intro w _; go_simp; try with_reducible rfl)
     try simp only [Act.put, List.setIfInBounds_toArray, List.set_cons_zero, List.set_cons_succ]
     refine Zd.pureD (i := 64) (d := some 188) (v := ?vz64) rfl rfl (by as_aux_lemma => kernel_rfl) (by as_aux_lemma => kernel_rfl) (by as_aux_lemma => kernel_rfl) (by as_aux_lemma => kernel_rfl) (by as_aux_lemma => kernel_rfl) (fun _ _ _ h => h) (Or.inl ⟨by as_aux_lemma => kernel_rfl, ?hyz64⟩) (.inr hz12) ?restz64
     case hyz64 => (intro w _; go_simp; try with_reducible rfl)
     try simp only [Act.put, List.setIfInBounds_toArray, List.set_cons_zero, List.set_cons_succ]
     refine Zd.takeD (i := 65) (d := some 189) (v := ?vz65) rfl rfl (by as_aux_lemma => kernel_rfl) (by as_aux_lemma => kernel_rfl) (by as_aux_lemma => kernel_rfl) (by as_aux_lemma => kernel_rfl) (by as_aux_lemma => kernel_rfl) (fun _ _ _ h => h) (Or.inl ⟨by as_aux_lemma => kernel_rfl, ?hyz65⟩) hz12 ?restz65
     case hyz65 => (intro w hSw; (try dsimp only at hSw); obtain ⟨hSb, hSx⟩ := hSw; have q0 := (hSb.cell (p := ⟨pb, 0, none⟩) hpbl).trans p0; have q1 := (hSb.cell (p := ⟨pb, 1, none⟩) hpbl).trans p1; have q2 := (hSb.cell (p := ⟨pb, 2, none⟩) hpbl).trans p2; have q3 := (hSb.cell (p := ⟨pb, 3, none⟩) hpbl).trans p3; have q4 := (hSb.cell (p := ⟨pb, 4, none⟩) hpbl).trans p4; have q5 := (hSb.cell (p := ⟨pb, 5, none⟩) hpbl).trans p5; go_simp; try with_reducible rfl)
     try simp only [Act.put, List.setIfInBounds_toArray, List.set_cons_zero, List.set_cons_succ]
     refine Zd.pureD (i := 66) (d := some 190) (v := ?vz66) rfl rfl (by as_aux_lemma => kernel_rfl) (by as_aux_lemma => kernel_rfl) (by as_aux_lemma => kernel_rfl) (by as_aux_lemma => kernel_rfl) (by as_aux_lemma => kernel_rfl) (fun _ _ _ h => h) (Or.inl ⟨by as_aux_lemma => kernel_rfl, ?hyz66⟩) (.inr hz12) ?restz66
     case hyz66 => (intro w _; go_simp; try with_reducible rfl)
     try simp only [Act.put, List.setIfInBounds_toArray, List.set_cons_zero, List.set_cons_succ]
     refine Zd.call (i := 63) (d := some 187) (by as_aux_lemma => kernel_rfl) rfl rfl (by as_aux_lemma => kernel_rfl) (by as_aux_lemma => kernel_rfl) (HRIG.out u12 hz12.1) ?_
     rintro e u13 ⟨rfl, hb⟩
     have hz13 : Below w8.heap.size w8 u13 ∧ At u13 xb 56 #[.bool lf, .int .i64 ru, .int .i64 sy, .int .i64 t0, .int .i64 t1, .int .i64 t2, .slice XA kn xc, .bool un] := ⟨hz12.1.trans (hb.mono hz12.1.size), hz12.2.below hb hz12.2.lt⟩
     clear hb hz12
     refine ⟨_, rfl, hz13, ?_⟩
     try simp only [Act.put, List.setIfInBounds_toArray, List.set_cons_zero, List.set_cons_succ]
     refine Zd.call (i := 67) (d := some 191) (by as_aux_lemma => kernel_rfl) rfl rfl (by as_aux_lemma => kernel_rfl) (by as_aux_lemma => kernel_rfl) (HRRIG.out u13 hz13.1) ?_
     rintro e u14 ⟨rfl, hb⟩
     have hz14 : Below w8.heap.size w8 u14 ∧ At u14 xb 56 #[.bool lf, .int .i64 ru, .int .i64 sy, .int .i64 t0, .int .i64 t1, .int .i64 t2, .slice XA kn xc, .bool un] := ⟨hz13.1.trans (hb.mono hz13.1.size), hz13.2.below hb hz13.2.lt⟩
     clear hb hz13
     refine ⟨_, rfl, hz14, ?_⟩
     try simp only [Act.put, List.setIfInBounds_toArray, List.set_cons_zero, List.set_cons_succ]
     refine Zd.pureD (i := 68) (d := some 192) (v := ?vz68) rfl rfl (by as_aux_lemma => kernel_rfl) (by as_aux_lemma => kernel_rfl) (by as_aux_lemma => kernel_rfl) (by as_aux_lemma => kernel_rfl) (by as_aux_lemma => kernel_rfl) (fun _ _ _ h => h) (Or.inl ⟨by as_aux_lemma => kernel_rfl, ?hyz68⟩) (.inr hz14) ?restz68
     case hyz68 => (intro w _; go_simp; try with_reducible rfl)
     try simp only [Act.put, List.setIfInBounds_toArray, List.set_cons_zero, List.set_cons_succ]
     refine Zd.pureD (i := 69) (d := some 193) (v := ?vz69) rfl rfl (by as_aux_lemma => kernel_rfl) (by as_aux_lemma => kernel_rfl) (by as_aux_lemma => kernel_rfl) (by as_aux_lemma => kernel_rfl) (by as_aux_lemma => kernel_rfl) (fun _ _ _ h => h) (Or.inl ⟨by as_aux_lemma => kernel_rfl, ?hyz69⟩) (.inr hz14) ?restz69
     case hyz69 => (intro w _; go_simp; try with_reducible rfl)
     try simp only [Act.put, List.setIfInBounds_toArray, List.set_cons_zero, List.set_cons_succ]
     refine Zd.pureD (i := 70) (d := some 194) (v := ?vz70) rfl rfl (by as_aux_lemma => kernel_rfl) (by as_aux_lemma => kernel_rfl) (by as_aux_lemma => kernel_rfl) (by as_aux_lemma => kernel_rfl) (by as_aux_lemma => kernel_rfl) (fun _ _ _ h => h) (Or.inl ⟨by as_aux_lemma => kernel_rfl, ?hyz70⟩) (.inr hz14) ?restz70
     case hyz70 => (intro w _; go_simp; try with_reducible rfl)
     try simp only [Act.put, List.setIfInBounds_toArray, List.set_cons_zero, List.set_cons_succ]
     refine Zd.pureD (i := 71) (d := some 195) (v := ?vz71) rfl rfl (by as_aux_lemma => kernel_rfl) (by as_aux_lemma => kernel_rfl) (by as_aux_lemma => kernel_rfl) (by as_aux_lemma => kernel_rfl) (by as_aux_lemma => kernel_rfl) (fun _ _ _ h => h) (Or.inl ⟨by as_aux_lemma => kernel_rfl, ?hyz71⟩) (.inr hz14) ?restz71
     case hyz71 => (intro w _; go_simp; try with_reducible rfl)
     try simp only [Act.put, List.setIfInBounds_toArray, List.set_cons_zero, List.set_cons_succ]
     refine Zd.takeD (i := 72) (d := some 196) (v := ?vz72) rfl rfl (by as_aux_lemma => kernel_rfl) (by as_aux_lemma => kernel_rfl) (by as_aux_lemma => kernel_rfl) (by as_aux_lemma => kernel_rfl) (by as_aux_lemma => kernel_rfl) (fun _ _ _ h => h) (Or.inl ⟨by as_aux_lemma => kernel_rfl, ?hyz72⟩) hz14 ?restz72
     case hyz72 => (intro w hSw; (try dsimp only at hSw); obtain ⟨hSb, hSx⟩ := hSw; have q0 := (hSb.cell (p := ⟨pb, 0, none⟩) hpbl).trans p0; have q1 := (hSb.cell (p := ⟨pb, 1, none⟩) hpbl).trans p1; have q2 := (hSb.cell (p := ⟨pb, 2, none⟩) hpbl).trans p2; have q3 := (hSb.cell (p := ⟨pb, 3, none⟩) hpbl).trans p3; have q4 := (hSb.cell (p := ⟨pb, 4, none⟩) hpbl).trans p4; have q5 := (hSb.cell (p := ⟨pb, 5, none⟩) hpbl).trans p5; go_simp; try with_reducible rfl)
     try simp only [Act.put, List.setIfInBounds_toArray, List.set_cons_zero, List.set_cons_succ]
     refine Zd.pureD (i := 73) (d := some 197) (v := ?vz73) rfl rfl (by as_aux_lemma => kernel_rfl) (by as_aux_lemma => kernel_rfl) (by as_aux_lemma => kernel_rfl) (by as_aux_lemma => kernel_rfl) (by as_aux_lemma => kernel_rfl) (fun _ _ _ h => h) (Or.inl ⟨by as_aux_lemma => kernel_rfl, ?hyz73⟩) (.inr hz14) ?restz73
     case hyz73 => (intro w _; go_simp; try with_reducible rfl)
     try simp only [Act.put, List.setIfInBounds_toArray, List.set_cons_zero, List.set_cons_succ]
     refine Zd.pureD (i := 75) (d := some 199) (v := ?vz75) rfl rfl (by as_aux_lemma => kernel_rfl) (by as_aux_lemma => kernel_rfl) (by as_aux_lemma => kernel_rfl) (by as_aux_lemma => kernel_rfl) (by as_aux_lemma => kernel_rfl) (fun _ _ _ h => h) (Or.inl ⟨by as_aux_lemma => kernel_rfl, ?hyz75⟩) (.inr hz14) ?restz75
     case hyz75 => (intro w _; go_simp; try with_reducible rfl)
     try simp only [Act.put, List.setIfInBounds_toArray, List.set_cons_zero, List.set_cons_succ]
     refine Zd.takeD (i := 76) (d := some 200) (v := ?vz76) rfl rfl (by as_aux_lemma => kernel_rfl) (by as_aux_lemma => kernel_rfl) (by as_aux_lemma => kernel_rfl) (by as_aux_lemma => kernel_rfl) (by as_aux_lemma => kernel_rfl) (fun _ _ _ h => h) (Or.inl ⟨by as_aux_lemma => kernel_rfl, ?hyz76⟩) hz14 ?restz76
     case hyz76 => (intro w hSw; (try dsimp only at hSw); obtain ⟨hSb, hSx⟩ := hSw; have q0 := (hSb.cell (p := ⟨pb, 0, none⟩) hpbl).trans p0; have q1 := (hSb.cell (p := ⟨pb, 1, none⟩) hpbl).trans p1; have q2 := (hSb.cell (p := ⟨pb, 2, none⟩) hpbl).trans p2; have q3 := (hSb.cell (p := ⟨pb, 3, none⟩) hpbl).trans p3; have q4 := (hSb.cell (p := ⟨pb, 4, none⟩) hpbl).trans p4; have q5 := (hSb.cell (p := ⟨pb, 5, none⟩) hpbl).trans p5; go_simp; try with_reducible rfl)
     try simp only [Act.put, List.setIfInBounds_toArray, List.set_cons_zero, List.set_cons_succ]
     refine Zd.pureD (i := 77) (d := some 201) (v := ?vz77) rfl rfl (by as_aux_lemma => kernel_rfl) (by as_aux_lemma => kernel_rfl) (by as_aux_lemma => kernel_rfl) (by as_aux_lemma => kernel_rfl) (by as_aux_lemma => kernel_rfl) (fun _ _ _ h => h) (Or.inl ⟨by as_aux_lemma => kernel_rfl, ?hyz77⟩) (.inr hz14) ?restz77
     case hyz77 => (intro w _; go_simp; try with_reducible rfl)
     try simp only [Act.put, List.setIfInBounds_toArray, List.set_cons_zero, List.set_cons_succ]
     refine Zd.call (i := 74) (d := some 198) (by as_aux_lemma => kernel_rfl) rfl rfl (by as_aux_lemma => kernel_rfl) (by as_aux_lemma => kernel_rfl) (HSHO.out u14 hz14.1) ?_
     rintro e u15 ⟨rfl, hb⟩
     have hz15 : Below w8.heap.size w8 u15 ∧ At u15 xb 56 #[.bool lf, .int .i64 ru, .int .i64 sy, .int .i64 t0, .int .i64 t1, .int .i64 t2, .slice XA kn xc, .bool un] := ⟨hz14.1.trans (hb.mono hz14.1.size), hz14.2.below hb hz14.2.lt⟩
     clear hb hz14
     refine ⟨_, rfl, hz15, ?_⟩
     try simp only [Act.put, List.setIfInBounds_toArray, List.set_cons_zero, List.set_cons_succ]
     refine Zd.call (i := 78) (d := some 202) (by as_aux_lemma => kernel_rfl) rfl rfl (by as_aux_lemma => kernel_rfl) (by as_aux_lemma => kernel_rfl) (HRSHO.out u15 hz15.1) ?_
     rintro e u16 ⟨rfl, hb⟩
     have hz16 : Below w8.heap.size w8 u16 ∧ At u16 xb 56 #[.bool lf, .int .i64 ru, .int .i64 sy, .int .i64 t0, .int .i64 t1, .int .i64 t2, .slice XA kn xc, .bool un] := ⟨hz15.1.trans (hb.mono hz15.1.size), hz15.2.below hb hz15.2.lt⟩
     clear hb hz15
     refine ⟨_, rfl, hz16, ?_⟩
     try simp only [Act.put, List.setIfInBounds_toArray, List.set_cons_zero, List.set_cons_succ]
     refine Zd.pureD (i := 79) (d := some 203) (v := ?vz79) rfl rfl (by as_aux_lemma => kernel_rfl) (by as_aux_lemma => kernel_rfl) (by as_aux_lemma => kernel_rfl) (by as_aux_lemma => kernel_rfl) (by as_aux_lemma => kernel_rfl) (fun _ _ _ h => h) (Or.inl ⟨by as_aux_lemma => kernel_rfl, ?hyz79⟩) (.inr hz16) ?restz79
     case hyz79 => (intro w _; go_simp; try with_reducible rfl)
     try simp only [Act.put, List.setIfInBounds_toArray, List.set_cons_zero, List.set_cons_succ]
     refine Zd.pureD (i := 80) (d := some 204) (v := ?vz80) rfl rfl (by as_aux_lemma => kernel_rfl) (by as_aux_lemma => kernel_rfl) (by as_aux_lemma => kernel_rfl) (by as_aux_lemma => kernel_rfl) (by as_aux_lemma => kernel_rfl) (fun _ _ _ h => h) (Or.inl ⟨by as_aux_lemma => kernel_rfl, ?hyz80⟩) (.inr hz16) ?restz80
     case hyz80 => (intro w _; go_simp; try with_reducible rfl)
     try simp only [Act.put, List.setIfInBounds_toArray, List.set_cons_zero, List.set_cons_succ]
     refine Zed.all (by as_aux_lemma => kernel_rfl) ?_ _
     have HBZ9 := Lib.hid hz16.1
     clear hz16
     go_wp2_with fail
     go_roundw
     case rel => exact ⟨j + 1, by omega, by go_num, HBZ9.out⟩
     case measure => simp [intOf]; omega
end Go.Proofs.YtdhhkancbgealaaGreat
