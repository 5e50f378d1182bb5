import Derived.Test.YtdlplmbdkjkeiaaDoorDgB
import Derived.Deep.LoopGhost
namespace Go.Proofs.YtdlplmbdkjkeiaaDoor
set_option maxRecDepth 100000
open Go.RowKit
set_option linter.unusedVariables false
set_option linter.unusedSimpArgs false
theorem ghas_any (A : Option Addr) (n c : Nat) (x : Int) (hn : n ≤ 9223372036854775807) (w : World) :
  Calls Tryd.prog 58 #[.slice A n c, .int .i64 x] w fun e w' => e = .returned (.bool (decide (0 ≤ x ∧ x < (n : Int)))) ∧ w' = w := by
 go_enter Tryd.func58, Tryd.ntmps58
 by_cases h0 : 0 ≤ x
 ·by_cases h1 : x < (n : Int)
  ·go_wp2_with fail
   go_ret
   exact ⟨by rw [decide_eq_true (by omega)]; rfl, rfl⟩
  ·go_wp2_with fail
   go_ret
   exact ⟨by rw [decide_eq_false (by omega)]; rfl, rfl⟩
 ·go_wp2_with fail
  go_ret
  exact ⟨by rw [decide_eq_false (by omega)]; rfl, rfl⟩
theorem cut_one (ao : Option Addr) (n c : Nat) (hc : n + 1 ≤ c) (w : World) :
  (Instr.slice 28 (.slice ao (n + 1) c) (some (.int .i64 1)) none none).run Tryd.prog w = .ok (.slice (if c = 1 then ao else ao.map (·.add 1)) n (c - 1)) w := by
 have hs : (Go.sizeOf (Tryd.prog.elem 28)).run Tryd.prog w = .ok 1 w := by kernel_rfl
 rw [run_slice_l (P := Tryd.prog) w 28 ao (n + 1) c Tryd.underlying28 .i64 1 (by omega) (by omega), hs]
 simp [Result.andThen, sliced]
structure Nexted (G : Nat → List Int) (n p : Nat) (s s' : Dg.St) (v : Value) : Prop where
 inv : Dg.Inv G n s'
 segs : s'.segs = s.segs
 parts : s'.parts = s.parts
 left : s'.left n ≤ s.left n
 mono : Dg.Mono s s'
 tells : (v = .tuple #[.int .i64 0, .bool false] ∧ s'.rest p = []) ∨ ∃ x t, v = .tuple #[.int .i64 ((x : Nat) : Int), .bool true] ∧ s'.rest p = (x : Int) :: t ∧ x < n ∧ s'.low x = 0
theorem wk_merge {w : World} {B g n p y : Nat} {t : List Int} {s : Dg.St} {rv lv wv pv qv : Value} {RV PV : List Value}
  (h : Wk w B g n rv lv wv pv qv RV (lows n (Dg.upd s.low p (min (s.low p) (s.low y)))) (valsOf s.wait) (valsOf s.path) PV (Dg.upd s.rest p t) s.parts) : WkS w B g n (Dg.merge s p (y : Int) t) rv lv wv pv qv RV PV := by
 unfold WkS
 have e : (Dg.merge s p (y : Int) t).low = Dg.upd s.low p (min (s.low p) (s.low y)) := by
  show Dg.upd s.low p (min (s.low p) (s.low ((y : Int)).toNat)) = _
  rw [Int.toNat_natCast]
 rw [e]
 exact h
set_option maxHeartbeats 8000000 in
theorem next_any (G : Nat → List Int) (B g n : Nat) (s : Dg.St) (rv lv wv pv qv : Value) (RV PV : List Value) (S : List (Nat × List Nat)) (p : Nat) (o : List Nat) (w : World) (hI : Dg.Inv G n s) (H : WkS w B g n s rv lv wv pv qv RV PV) (hn : n ≤ 1099511627776) (hs : s.segs = S ++ [(p, o)]) :
  Calls Tryd.prog 46 #[.pointer (some ⟨g, 0, none⟩), .int .i64 (p : Int)] w fun e w' => ∃ v s', e = .returned v ∧ Nexted G n p s s' v ∧ (∃ RV', WkS w' B g n s' rv lv wv pv qv RV' PV) ∧ Below B w w' ∧ Spares tsW w w' := by
 have hp : p < n := hI.lt p (by have := (Dg.last_out hI hs).1; simp [this])
 have hbg := H.base
 obtain ⟨L, cL, rfl, hcL, hbL⟩ := own_pos H.low (by omega)
 obtain ⟨R, cR, rfl, hcR, hbR⟩ := own_pos H.rest_ (by omega)
 have K := Lib.hid H
 have KI := Lib.hid hI
 have hx1 : (0 : Int) ≤ (p : Int) := by omega
 have hx2 : (p : Int) < (n : Int) := by omega
 have hx3 : ((p : Int)).toNat = p := by omega
 clear H hI
 go_enter Tryd.func46, Tryd.ntmps46
 go_wp2_with fail
 go_loopg [6] (s.rest p).length (fun k t6 wr => ∃ s' RV', Dg.Inv G n s' ∧ s'.segs = s.segs ∧ s'.parts = s.parts ∧ s'.left n ≤ s.left n ∧ Dg.Mono s s' ∧ WkS wr B g n s' (.slice (some ⟨R, 0, none⟩) n cR) (.slice (some ⟨L, 0, none⟩) n cL) wv pv qv RV' PV ∧ Below B w wr ∧ Spares tsW w wr ∧ (s'.rest p).length = k)
 case atStart => exact ⟨s, RV, KI.out, rfl, rfl, Nat.le_refl _, Dg.Mono.refl s, K.out, Below.refl _ _, Spares.refl _ _, rfl⟩
 case round =>
  obtain ⟨s', RV', hI, hsg, hpa, hle, hmo, hW, hB, hS, hk⟩ := hrel
  have Kmo := Lib.hid hmo
  have KI' := Lib.hid hI
  have KW := Lib.hid hW
  have KB := Lib.hid hB
  have KS := Lib.hid hS
  have Ksg := Lib.hid hsg
  have Kpa := Lib.hid hpa
  have Kle := Lib.hid hle
  have c0 := hW.at_.cell 0
  have c1 := hW.at_.cell 1
  obtain ⟨rv, hrv, A, c, rfl, hc, hN⟩ := hW.rows p hp
  have cr : wr.cell? ⟨R, p, none⟩ = some (.slice A (s'.rest p).length c) := by rw [hW.rest_.cellAt p (by omega), hrv]
  have zr := hW.rest_.frozenAt p
  have cp : wr.cell? ⟨L, p, none⟩ = some (.int .i64 (s'.low p : Int)) := by rw [hW.low.cellAt p (by omega), lows_get _ hp]
  have zp := hW.low.frozenAt p
  have KN := Lib.hid hN
  have Krv := Lib.hid hrv
  simp at c0 c1
  clear hI hsg hpa hle hmo hW hB hS hrv hN
  rcases hl : s'.rest p with _ | ⟨x, t⟩
  ·have Kl := Lib.hid hl
   rw [hl] at cr
   clear hl
   go_wp2_with fail
   go_ret2
   exact ⟨_, s', rfl, ⟨KI'.out, Ksg.out, Kpa.out, Kle.out, Kmo.out, .inl ⟨rfl, Kl.out⟩⟩, ⟨RV', KW.out⟩, KB.out, KS.out⟩
  ·have Kl := Lib.hid hl
   rw [hl] at cr KN hc
   rw [List.length_cons] at hc
   have hlen : (x :: t).length = t.length + 1 := rfl
   rw [hlen] at cr
   have hk1 : gk = t.length + 1 := by rw [← hk, hl]; rfl
   obtain ⟨b, o', rfl, _, cx⟩ := KN.out.each 0 (by simp)
   simp only [Nat.add_zero, List.getD_cons_zero] at cx
   have hx0 : (0 : Int) < ((t.length : Nat) : Int) + 1 := by omega
   have hx0' : 0 < t.length + 1 := by omega
   clear hl hlen hk
   by_cases hv : 0 ≤ x ∧ x < (n : Int)
   ·obtain ⟨y, rfl⟩ : ∃ y : Nat, x = (y : Int) := ⟨x.toNat, by omega⟩
    have hy : y < n := by omega
    have hy1 : (0 : Int) ≤ (y : Int) := by omega
    have hy2 : (y : Int) < (n : Int) := by omega
    have hy3 : ((y : Int)).toNat = y := by omega
    have cy : wr.cell? ⟨L, y, none⟩ = some (.int .i64 (s'.low y : Int)) := by rw [KW.out.low.cellAt y (by omega), lows_get _ hy]
    have hhas := Lib.hid (ghas_any (some ⟨R, 0, none⟩) n cR (y : Int) (by omega) wr)
    rw [decide_eq_true hv] at hhas
    by_cases h0 : s'.low y = 0
    ·have K0 := Lib.hid h0
     rw [h0] at cy
     clear h0
     go_wp2_with fail
     refine hhas.out.mono ?_
     rintro e w1 ⟨rfl, rfl⟩
     go_wp2_with fail
     go_ret2
     exact ⟨_, s', rfl, ⟨KI'.out, Ksg.out, Kpa.out, Kle.out, Kmo.out, .inr ⟨y, t, rfl, Kl.out, hy, K0.out⟩⟩, ⟨RV', KW.out⟩, KB.out, KS.out⟩
    ·have K0 := Lib.hid h0
     have hlow0 : ((s'.low y : Int) == 0) = false := by simp; exact h0
     clear h0
     go_wp2_with fail
     refine hhas.out.mono ?_
     rintro e w1 ⟨rfl, rfl⟩
     go_wp2_with fail
     go_region
     have hmin : (if s'.low y < s'.low p then ((s'.low y : Nat) : Int) else ((s'.low p : Nat) : Int)) = ((min (s'.low p) (s'.low y) : Nat) : Int) := by
      split <;> omega
     rw [hmin]
     have hset := (KW.out.setLow p (.int .i64 ((min (s'.low p) (s'.low y) : Nat) : Int))).drew
     rw [lows_set] at hset
     obtain ⟨csL, hL⟩ := own_at KW.out.low
     have hB2 := below_drew (below_set KB.out (p := ⟨L, p, none⟩) hbL (.int .i64 ((min (s'.low p) (s'.low y) : Nat) : Int)))
     have hS2 := (KS.out.set hL (by decide) p (.int .i64 ((min (s'.low p) (s'.low y) : Nat) : Int))).drew
     obtain ⟨W2, hW2⟩ : ∃ W, W = (w1.setCell ⟨L, p, none⟩ (.int .i64 ((min (s'.low p) (s'.low y) : Nat) : Int))).drew := ⟨_, rfl⟩
     rw [← hW2] at hset hB2 hS2 ⊢
     have d0 := hset.at_.cell 0
     have dr : W2.cell? ⟨R, p, none⟩ = some (.slice (some ⟨b, o', none⟩) (t.length + 1) c) := by
      rw [hset.rest_.cellAt p (by omega), Krv.out, Kl.out]; rfl
     have er := hset.rest_.frozenAt p
     obtain ⟨rv2, hrv2, hrow2⟩ := hset.rows p hp
     have hrow : RowIn W2 B (.slice (some ⟨b, o', none⟩) ((y : Int) :: t).length c) ((y : Int) :: t) := by
      rw [Krv.out, Kl.out] at hrv2
      injection hrv2 with hrv2
      rw [hrv2]; rw [Kl.out] at hrow2; exact hrow2
     have htl := hrow.tail
     obtain ⟨A2, hA2⟩ : ∃ A2, A2 = (if c = 1 then some (⟨b, o', none⟩ : Addr) else (some (⟨b, o', none⟩ : Addr)).map (·.add 1)) := ⟨_, rfl⟩
     rw [← hA2, List.length_cons, Nat.add_sub_cancel] at htl
     have hsl : ∀ wx, (Instr.slice 28 (.slice (some ⟨b, o', none⟩) (t.length + 1) c) (some (.int .i64 1)) none none).run Tryd.prog wx = .ok (.slice A2 t.length (c - 1)) wx := fun wx => by
      rw [cut_one _ _ _ hc wx, hA2]
     have htail := Lib.hid htl
     clear hA2 htl
     have KW2 := Lib.hid hset
     have KB2 := Lib.hid hB2
     have KS2 := Lib.hid hS2
     simp at d0
     clear hset hB2 hS2 hL hW2 hrv2 hrow2 hrow hhas cy cx cr c0 c1 cp zp zr KN hmin
     go_wp2_with fail
     go_region
     go_wp2_with fail
     go_roundg t.length
     case measure => omega
     case rel =>
      obtain ⟨csR, hR⟩ := own_at KW2.out.rest_
      refine ⟨Dg.merge s' p (y : Int) t, _, KI'.out.merge (by unfold Dg.T; omega) (Ksg.out.trans hs) Kl.out hy K0.out, Ksg.out, Kpa.out, ?_, Kmo.out.trans (Dg.mono_merge s' p (y : Int) t (by rw [Int.toNat_natCast]; exact K0.out)), wk_merge ((KW2.out.setRest p _ t htail.out).drew), below_drew (below_set KB2.out hbR _), (KS2.out.set hR (by decide) _ _).drew, ?_⟩
      ·have := Dg.left_merge (s := s') (n := n) (p := p) (x := (y : Int)) (t := t) hp Kl.out (by rw [Int.toNat_natCast]; exact K0.out)
       have := Kle.out
       omega
      ·show (Dg.upd s'.rest p t p).length = _
       rw [Dg.upd_self]
   ·have hhas := Lib.hid (ghas_any (some ⟨R, 0, none⟩) n cR x (by omega) wr)
    rw [decide_eq_false hv] at hhas
    go_wp2_with fail
    refine hhas.out.mono ?_
    rintro e w1 ⟨rfl, rfl⟩
    go_wp2_with fail
    have hrow := KW.out.rows p hp
    have htail : RowIn w1 B (.slice (if c = 1 then some ⟨b, o', none⟩ else (some (⟨b, o', none⟩ : Addr)).map (·.add 1)) ((x :: t).length - 1) (c - 1)) t := by
     obtain ⟨rv2, hrv2, hrow2⟩ := hrow
     rw [Krv.out, Kl.out] at hrv2
     injection hrv2 with hrv2
     rw [← hrv2, Kl.out] at hrow2
     exact hrow2.tail
    obtain ⟨A2, hA2⟩ : ∃ A2, A2 = (if c = 1 then some (⟨b, o', none⟩ : Addr) else (some (⟨b, o', none⟩ : Addr)).map (·.add 1)) := ⟨_, rfl⟩
    rw [← hA2, List.length_cons, Nat.add_sub_cancel] at htail
    have hsl : ∀ wx, (Instr.slice 28 (.slice (some ⟨b, o', none⟩) (t.length + 1) c) (some (.int .i64 1)) none none).run Tryd.prog wx = .ok (.slice A2 t.length (c - 1)) wx := fun wx => by
     rw [cut_one _ _ _ hc wx, hA2]
    have Kt := Lib.hid htail
    clear hA2 hrow htail hhas cx c1 cp zp KN
    go_region
    go_wp2_with fail
    go_roundg t.length
    case measure => omega
    case rel =>
     obtain ⟨csR, hR⟩ := own_at KW.out.rest_
     refine ⟨Dg.skip s' p x t, _, KI'.out.skip (Ksg.out.trans hs) Kl.out hv, Ksg.out, Kpa.out, ?_, Kmo.out.trans (Dg.mono_skip s' p x t), (KW.out.setRest p _ t Kt.out).drew, below_drew (below_set KB.out hbR _), (KS.out.set hR (by decide) _ _).drew, ?_⟩
     ·have := Dg.left_skip (s := s') (n := n) (p := p) (x := x) (t := t) hp Kl.out
      have := Kle.out
      omega
     ·show (Dg.upd s'.rest p t p).length = _
      rw [Dg.upd_self]
end Go.Proofs.YtdlplmbdkjkeiaaDoor
