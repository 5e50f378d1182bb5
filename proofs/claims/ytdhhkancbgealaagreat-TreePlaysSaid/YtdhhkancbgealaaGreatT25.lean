import Derived.Test.YtdhhkancbgealaaGreatT20
import Derived.Test.YtdhhkancbgealaaGreatT18
import Derived.Test.YtdhhkancbgealaaGreatT24
namespace Go.Proofs.YtdhhkancbgealaaGreat
open Go.RowKit
open Lx
set_option linter.unusedVariables false
set_option linter.unusedSimpArgs false
set_option maxRecDepth 100000
theorem all_take_succ {α : Type} {l : List α} {j : Nat} {x : α} (f : α → Bool) (h : l[j]? = some x) : (l.take (j + 1)).all f = ((l.take j).all f && f x) := by
 rw [List.take_add_one, h]; simp [List.all_append]
theorem calls_atT {P : Program} {f : FuncId} {args : Array Value} {v : Value} {B : Nat} {W : World} {G : World → World} (hG : Qt.Class B W G) (h : ∀ x, Calls P f args (G x) fun e w' => e = .returned v ∧ Below (G x).heap.size (G x) w') :
  ∀ x, Calls P f args (G x) fun e w'' => e = .returned v ∧ ∃ y, w'' = G y :=
 fun x => (h x).mono fun _ _ ⟨he, hb⟩ => ⟨he, hG.onto _ ((hG.below x).trans (hb.mono (Nat.le_trans hG.le (hG.below x).size)))⟩
set_option maxHeartbeats 8000000 in
theorem tright_any (pv : Value) (P : Nm.Plan) (i : Int) (w : World) (B tg g mb : Nat) (l m : Int) (S : List Sl) (h : TreeIs w B tg g mb l m S) (hp : PlanR w pv P) (hD : Tr.Down (nds S)) (hN : (Tr.Bel (nds S) i).length ≤ 400000) (hT : P.terms.length ≤ 1000000) (hR : P.rules.length ≤ 1000000) :
  Calls Tryz.prog 31 #[.pointer (some ⟨tg, 0, none⟩), pv, .int .i64 i] w fun e w' => e = .returned (.bool (Tr.right P (nds S) i)) ∧ Below w.heap.size w w' := by
 obtain ⟨P1, c1, P2, c2, P3, c3, P4, c4, P5, c5, P6, c6, hpv, _⟩ := hp.ex
 have hp0 := hp
 subst hpv
 generalize hn1 : P.terms.length = n1 at hp0 ⊢
 generalize hn2 : P.vars.length = n2 at hp0 ⊢
 generalize hn3 : P.rules.length = n3 at hp0 ⊢
 generalize hn4 : P.levels.length = n4 at hp0 ⊢
 generalize hn5 : P.assocs.length = n5 at hp0 ⊢
 generalize hn6 : P.acts.length = n6 at hp0 ⊢
 rw [hn1] at hT
 rw [hn3] at hR
 obtain ⟨W0, hW0⟩ : ∃ W, w.alloc (.cells #[.slice P1 n1 c1, .slice P2 n2 c2, .slice P3 n3 c3, .slice P4 n4 c4, .slice P5 n5 c5, .slice P6 n6 c6] 34) = W := ⟨_, rfl⟩
 have hb0 : Below w.heap.size w W0 := by rw [← hW0]; exact (Below.refl w.heap.size w).alloc (Nat.le_refl _) _
 have hat : At W0 w.heap.size 34 #[.slice P1 n1 c1, .slice P2 n2 c2, .slice P3 n3 c3, .slice P4 n4 c4, .slice P5 n5 c5, .slice P6 n6 c6] := by rw [← hW0]; exact At.new _ _ _
 have hbel := tbelow_any i W0 B tg g mb l m S (h.below hb0) hD hN
 have hbl : (Tr.below (nds S) i).length ≤ 400000 := by
  unfold Tr.below; split
  ·exact hN
  ·simp
 obtain ⟨ANS, hANS⟩ : ∃ b, Tr.right P (nds S) i = b := ⟨_, rfl⟩
 have hans : ANS = ((Tr.below (nds S) i).all (fun k => Tr.fits P (nds S) (Tr.at_ (nds S) k)) && decide (0 < (Tr.below (nds S) i).length)) := by
  rw [← hANS]; unfold Tr.right Tr.below
  cases hh : Tr.has (nds S) i with
  | true =>
   have : 0 < (Tr.Bel (nds S) i).length := by rw [Tr.Bel_eq hD]; simp
   simp [this]
  | false => simp
 rw [hANS]
 have HANS := Lib.hid hans
 have HW0 := Lib.hid hW0
 have HB0 := Lib.hid hb0
 have HBEL := Lib.hid hbel
 have HAT0 := Lib.hid hat
 have HFIT := Lib.hid (fun (k : Int) (W : World) (hb : Below W0.heap.size W0 W) => by
  have hh := (h.below hb0).below hb
  have hk := hh.kid k
  rw [slAt_x] at hk
  exact tfits_any _ P (Tr.at_ (nds S) k) (slAt S k).A (slAt S k).c W B tg g mb l m S hh ((hp0.below hb0).below hb) hk.1 hk.2 (by rw [hn1]; exact hT) (by rw [hn3]; exact hR))
 have HPRT := Lib.hid (fun (k : Int) (W : World) (hb : Below W0.heap.size W0 W) => tat_parts k W B tg g mb l m S ((h.below hb0).below hb))
 obtain ⟨BL, hBL⟩ : ∃ x, Tr.below (nds S) i = x := ⟨_, rfl⟩
 rw [hBL] at HBEL HANS hbl
 obtain ⟨n, hn⟩ : ∃ n, BL.length = n := ⟨_, rfl⟩
 rw [hn] at HBEL HANS hbl
 have HN := Lib.hid hn
 obtain ⟨L, hL⟩ : ∃ L, nds S = L := ⟨_, rfl⟩
 rw [hL] at HANS HFIT HPRT
 clear h hp hp0 hD hN hT hR hb0 hat hbel hANS hans hBL hn hL hW0 hn1 hn2 hn3 hn4 hn5 hn6
 go_enter Tryz.func31, Tryz.ntmps31
 go_wp2_with fail
 rw [HW0.out]
 refine HBEL.out.mono ?_
 rintro e W ⟨A, c, rfl, ho, hbW⟩
 obtain ⟨GW, hGW⟩ := Qt.class_of W.heap.size W (Nat.le_refl _)
 obtain ⟨xw, hxw⟩ := hGW.onto W (Below.refl _ _)
 have hpl := (HAT0.out.below hbW HAT0.out.lt)
 have hgl := hpl.lt
 have p0 := hpl.cell 0
 have p1 := hpl.cell 1
 have p2 := hpl.cell 2
 have p3 := hpl.cell 3
 have p4 := hpl.cell 4
 have p5 := hpl.cell 5
 simp only [List.getElem?_toArray, List.getElem?_cons_zero, List.getElem?_cons_succ] at p0 p1 p2 p3 p4 p5
 have q0 := Qt.cell hGW hgl p0
 have q1 := Qt.cell hGW hgl p1
 have q2 := Qt.cell hGW hgl p2
 have q3 := Qt.cell hGW hgl p3
 have q4 := Qt.cell hGW hgl p4
 have q5 := Qt.cell hGW hgl p5
 have HXW := Lib.hid hxw
 have HGW := Lib.hid hGW
 have HLI := Lib.hid (Lie.own ho)
 have HBW := Lib.hid (HB0.out.trans (hbW.mono HB0.out.size))
 have HBX := Lib.hid (fun x => hbW.trans ((hGW.below x).mono hbW.size))
 clear ho hbW hpl hgl p0 p1 p2 p3 p4 p5 hGW hxw HBEL
 rw [HXW.out]
 go_wp2_with fail
 go_loopw [15] (fun i wr => ∃ (j : Nat) (x : World), j ≤ n ∧ i = .int .i64 (j : Int) ∧ (BL.take j).all (fun k => Tr.fits P L (Tr.at_ L k)) = true ∧ wr = GW x) (fun i _ => n - (intOf i).toNat)
 case atStart => exact ⟨0, xw, by omega, rfl, rfl, rfl⟩
 case round =>
  obtain ⟨j, x, hj, rfl, hall, rfl⟩ := hrel
  have HALL := Lib.hid hall
  clear hall
  by_cases hlt : j < n
  ·obtain ⟨k, hk⟩ : ∃ k, BL[j]? = some k := ⟨_, List.getElem?_eq_getElem (by rw [HN.out]; exact hlt)⟩
   obtain ⟨b, o, rfl, hbl2, e2⟩ := lieW_at HLI.out hk
   have y0 := Qt.cell HGW.out hbl2 e2
   have HK := Lib.hid hk
   have HTA := Lib.hid (all_take_succ (fun k => Tr.fits P L (Tr.at_ L k)) hk)
   have K1 := Lib.hid (calls_atT HGW.out (fun x => HPRT.out k (GW x) (HBX.out x)))
   have K2 := Lib.hid (calls_atT HGW.out (fun x => HFIT.out k (GW x) (HBX.out x)))
   have hji : (j : Int) < (n : Int) := by omega
   have hj0 : (0 : Int) ≤ (j : Int) := by omega
   obtain ⟨F, hF⟩ : ∃ F, Tr.fits P L (Tr.at_ L k) = F := ⟨_, rfl⟩
   rw [hF] at K2 HTA
   obtain ⟨⟨z0, z1, z2, z3, ⟨z4, z5, z6⟩, z7⟩, hY⟩ : ∃ y, Tr.at_ L k = y := ⟨_, rfl⟩
   rw [hY] at K1 K2
   dsimp only at K1 K2
   generalize z7.length = zn at K1 K2
   generalize (slAt S k).A = za at K1 K2
   generalize (slAt S k).c = zc at K1 K2
   have HF := Lib.hid hF
   clear hk hF hY
   cases F with
   | true =>
    go_wp2_with fail
    refine Qt.start HGW.out (by kernel_rfl) (by kernel_rfl) ?_
    repeat (go_big_quiet_step (first | with_reducible exact K1.out _ | with_reducible exact K2.out _))
    refine wpQuiet_nil ?_
    intro _ hw'
    obtain ⟨y, hw''⟩ := hw'
    subst hw''
    go_wp2_with fail
    go_roundw
    case rel => exact ⟨j + 1, y, by omega, by go_num, by rw [HTA.out, HALL.out]; rfl, rfl⟩
    case measure => simp [intOf]; omega
   | false =>
    have ha : ANS = false := by
     rw [HANS.out]
     have h1 : BL.all (fun k => Tr.fits P L (Tr.at_ L k)) = false := by
      refine List.all_eq_false.2 ⟨k, List.mem_of_getElem? HK.out, by rw [HF.out]; decide⟩
     rw [h1]; rfl
    subst ha
    go_wp2_with fail
    refine Qt.start HGW.out (by kernel_rfl) (by kernel_rfl) ?_
    repeat (go_big_quiet_step (first | with_reducible exact K1.out _ | with_reducible exact K2.out _))
    refine wpQuiet_nil ?_
    intro _ hw'
    obtain ⟨y, hw''⟩ := hw'
    subst hw''
    go_wp2_with fail
    go_ret
    exact ⟨rfl, HBW.out.trans ((HGW.out.below y).mono HBW.out.size)⟩
  ·obtain rfl : j = n := by omega
   have hf : BL.all (fun k => Tr.fits P L (Tr.at_ L k)) = true := by
    have := HALL.out
    rw [List.take_of_length_le (by rw [HN.out]; exact Nat.le_refl _)] at this
    exact this
   have ha : ANS = decide (0 < j) := by rw [HANS.out, hf]; rfl
   clear hf hlt
   by_cases h0 : 0 < j
   ·have ha2 : ANS = true := by rw [ha]; exact decide_eq_true h0
    subst ha2
    have h0i : (0 : Int) < (j : Int) := by omega
    clear ha
    go_wp2_with fail
    go_ret
    exact ⟨rfl, HBW.out.trans ((HGW.out.below x).mono HBW.out.size)⟩
   ·have ha2 : ANS = false := by rw [ha]; exact decide_eq_false h0
    subst ha2
    obtain rfl : j = 0 := by omega
    clear ha
    go_wp2_with fail
    go_ret
    exact ⟨rfl, HBW.out.trans ((HGW.out.below x).mono HBW.out.size)⟩
end Go.Proofs.YtdhhkancbgealaaGreat
