import Derived.Test.YtdlplmbdkjkeiaaDoorDgE
namespace Go.Proofs.YtdlplmbdkjkeiaaDoor
set_option maxRecDepth 100000
open Go.RowKit
set_option linter.unusedVariables false
set_option linter.unusedSimpArgs false
def Ahead (n p : Nat) (s : Dg.St) (y : Nat) (b : Bool) : Prop := (b = false ∧ s.rest p = []) ∨ (b = true ∧ ∃ t, s.rest p = (y : Int) :: t ∧ y < n ∧ s.low y = 0)
theorem Nexted.ahead {G : Nat → List Int} {n p : Nat} {s s' : Dg.St} {v : Value} (h : Nexted G n p s s' v) : ∃ y b, v = .tuple #[.int .i64 ((y : Nat) : Int), .bool b] ∧ Ahead n p s' y b := by
 rcases h.tells with ⟨h1, h2⟩ | ⟨x, t, h1, h2, h3, h4⟩
 ·exact ⟨0, false, h1, .inl ⟨rfl, h2⟩⟩
 ·exact ⟨x, true, h1, .inr ⟨rfl, t, h2, h3, h4⟩⟩
structure Boxes (w : World) (g bw bt : Nat) : Prop where
 walk : At w bw 65 #[.pointer (some ⟨g, 0, none⟩)]
 fn : At w bt 69 #[.func (.func 45) #[] #[.pointer (some ⟨bw, 0, none⟩), .pointer (some ⟨bt, 0, none⟩)]]
theorem Boxes.spares {w w' : World} {g bw bt : Nat} (h : Boxes w g bw bt) (hs : Spares tsW w w') : Boxes w' g bw bt := ⟨h.walk.spares hs (by decide), h.fn.spares hs (by decide)⟩
theorem Boxes.drewN {w : World} {g bw bt : Nat} (h : Boxes w g bw bt) (k : Nat) : Boxes (w.drewN k) g bw bt := ⟨h.walk.drewN k, h.fn.drewN k⟩
structure WkE (w : World) (B g n : Nat) (s : Dg.St) (rv lv : Value) : Prop where
 ex : ∃ wv pv qv RV PV, WkS w B g n s rv lv wv pv qv RV PV
structure Went (G : Nat → List Int) (B g bw bt n : Nat) (rv lv : Value) (w w' : World) (s' : Dg.St) : Prop where
 inv : Dg.Inv G n s'
 mem : WkE w' B g n s' rv lv
 below : Below B w w'
 spares : Spares tsW w w'
 boxes : Boxes w' g bw bt
theorem enter_room {G : Nat → List Int} {n x : Nat} {s : Dg.St} (h : Dg.Inv G n (Dg.enter s x)) : s.wait.length < n ∧ s.path.length < n := by
 have h1 := h.wait_len
 rw [Dg.enter_wait] at h1
 have h2 := path_le s.segs
 have h3 : (Dg.flat s.segs).length = s.wait.length := rfl
 have h4 : s.path.length = s.segs.length := by simp [Dg.St.path]
 simp at h1
 omega
theorem segs_last {s : Dg.St} {A : List Nat} {p : Nat} (h : s.path = A ++ [p]) : ∃ S o, s.segs = S ++ [(p, o)] ∧ S.map (·.1) = A := by
 rcases List.eq_nil_or_concat s.segs with h1 | ⟨S, y, h1⟩
 ·simp [Dg.St.path, h1] at h
 ·rw [List.concat_eq_append] at h1
  simp only [Dg.St.path, h1, List.map_append, List.map_cons, List.map_nil] at h
  obtain ⟨h2, h3⟩ := Dg.snoc_inj h
  exact ⟨S, y.2, by rw [h1, ← h3], h2⟩
theorem next_went (G : Nat → List Int) (B g bw bt n : Nat) (s : Dg.St) (rv lv : Value) (S : List (Nat × List Nat)) (p : Nat) (o : List Nat) (w0 w : World) (H : Went G B g bw bt n rv lv w0 w s) (hn : n ≤ 1099511627776) (hs : s.segs = S ++ [(p, o)]) :
  Calls Tryd.prog 46 #[.pointer (some ⟨g, 0, none⟩), .int .i64 (p : Int)] w fun e w' => ∃ (y : Nat) (b : Bool) (s' : Dg.St), e = .returned (.tuple #[.int .i64 (y : Int), .bool b]) ∧ Went G B g bw bt n rv lv w0 w' s' ∧ s'.segs = s.segs ∧ s'.left n ≤ s.left n ∧ Dg.Mono s s' ∧ Ahead n p s' y b := by
 obtain ⟨wv, pv, qv, RV, PV, hW⟩ := H.mem.ex
 refine (next_any G B g n s rv lv wv pv qv RV PV S p o w H.inv hW hn hs).mono ?_
 rintro e w' ⟨v, s', rfl, hN, ⟨RV', hW'⟩, hB, hS⟩
 obtain ⟨y, b, rfl, hA⟩ := hN.ahead
 exact ⟨y, b, s', rfl, ⟨hN.inv, ⟨_, _, _, _, _, hW'⟩, H.below.trans hB, H.spares.trans hS, H.boxes.spares hS⟩, hN.segs, hN.left, hN.mono, hA⟩
theorem enter_went (G : Nat → List Int) (B g bw bt n : Nat) (s : Dg.St) (rv lv : Value) (x : Nat) (w0 w : World) (H : Went G B g bw bt n rv lv w0 w s) (hn : n ≤ 1099511627776) (hx : x < n) (hI : Dg.Inv G n (Dg.enter s x)) :
  Calls Tryd.prog 47 #[.pointer (some ⟨g, 0, none⟩), .int .i64 (x : Int)] w fun e w' => e = .returned (.tuple #[]) ∧ Went G B g bw bt n rv lv w0 w' (Dg.enter s x) := by
 obtain ⟨wv, pv, qv, RV, PV, hW⟩ := H.mem.ex
 have hr := enter_room hI
 refine (enter_any B g n s rv lv wv pv qv RV PV x w hW hx hn hr.1 hr.2).mono ?_
 rintro e w' ⟨rfl, ⟨wv', pv', hW'⟩, hB, hS⟩
 exact ⟨rfl, hI, ⟨_, _, _, _, _, hW'⟩, H.below.trans hB, H.spares.trans hS, H.boxes.spares hS⟩
theorem leave_went (G : Nat → List Int) (B g bw bt n : Nat) (s : Dg.St) (rv lv : Value) (S : List (Nat × List Nat)) (p : Nat) (o : List Nat) (w0 w : World) (H : Went G B g bw bt n rv lv w0 w s) (hn : n ≤ 1099511627776) (hs : s.segs = S ++ [(p, o)]) (hr : s.rest p = []) :
  Calls Tryd.prog 48 #[.pointer (some ⟨g, 0, none⟩), .int .i64 (p : Int)] w fun e w' => e = .returned (.tuple #[]) ∧ ∃ s', Went G B g bw bt n rv lv w0 w' s' ∧ s'.path = S.map (·.1) ∧ s'.left n + 1 ≤ s.left n ∧ Dg.Mono s s' := by
 obtain ⟨wv, pv, qv, RV, PV, hW⟩ := H.mem.ex
 refine (leave_any G B g n s rv lv wv pv qv RV PV S p o w H.inv hW hn hs hr).mono ?_
 rintro e w' ⟨rfl, ⟨s', wv', pv', qv', PV', hL, hW'⟩, hB, hS⟩
 exact ⟨rfl, s', ⟨hL.inv, ⟨_, _, _, _, _, hW'⟩, H.below.trans hB, H.spares.trans hS, H.boxes.spares hS⟩, hL.path, hL.left, hL.mono⟩
def Gone (s' : Dg.St) (S : List (Nat × List Nat)) (b : Bool) : Prop := b = true → s'.path = S.map (·.1)
set_option maxHeartbeats 8000000 in
theorem through_any (G : Nat → List Int) (B g bw bt n : Nat) (rv lv : Value) (hn : n ≤ 1099511627776) (w0 : World) (k : Nat) : ∀ (s : Dg.St) (S : List (Nat × List Nat)) (p : Nat) (o : List Nat) (d : Nat) (w : World), s.left n ≤ k → Went G B g bw bt n rv lv w0 w s →
  s.segs = S ++ [(p, o)] → d ≤ 1000 →
  Calls Tryd.prog 45 #[.int .i64 (p : Int), .int .i64 (d : Int), .pointer (some ⟨bw, 0, none⟩), .pointer (some ⟨bt, 0, none⟩)] w fun e w' => ∃ (b : Bool) (s' : Dg.St), e = .returned (.bool b) ∧ Went G B g bw bt n rv lv w0 w' s' ∧ s'.left n + 1 ≤ s.left n ∧ Dg.Mono s s' ∧ Gone s' S b := by
 induction k with
 | zero =>
  intro s S p o d w hk H hs _
  have h1 : 1 ≤ s.segs.length := by rw [hs]; simp
  have h2 : s.segs.length ≤ s.left n := Nat.le_add_left _ _
  omega
 | succ k ih =>
  intro s S p o d w hk H hs hd
  have KH := Lib.hid H
  have Ks := Lib.hid hs
  have Kk := Lib.hid hk
  have cw := H.boxes.walk.cell 0
  simp at cw
  clear H hs hk
  have hnext := Lib.hid (next_went G B g bw bt n s rv lv S p o w0 w KH.out hn Ks.out)
  go_enter Tryd.func45, Tryd.ntmps45
  go_wp2_with fail
  refine hnext.out.mono ?_
  rintro e w1 ⟨y, b, s1, rfl, hW1, hs1, hl1, hm1, hA1⟩
  have KM1 := Lib.hid hm1
  have K1 := Lib.hid hW1
  have KS1 := Lib.hid hs1
  have KL1 := Lib.hid hl1
  have KA1 := Lib.hid hA1
  clear hW1 hs1 hl1 hm1 hA1 hnext
  go_wp2_with fail
  go_loopg [7, 8] (s1.left n) (fun q t7 t8 wr => ∃ (s' : Dg.St) (S' : List (Nat × List Nat)) (o' : List Nat) (y : Nat) (b : Bool), t7 = .int .i64 (y : Int) ∧ t8 = .bool b ∧ Went G B g bw bt n rv lv w0 wr s' ∧ s'.segs = S' ++ [(p, o')] ∧ S'.map (·.1) = S.map (·.1) ∧ s'.left n = q ∧ q ≤ s.left n ∧ Dg.Mono s s' ∧ Ahead n p s' y b)
  case atStart => exact ⟨s1, S, o, y, b, rfl, rfl, K1.out, KS1.out.trans Ks.out, rfl, rfl, KL1.out, KM1.out, KA1.out⟩
  case round =>
   obtain ⟨s2, S2, o2, y2, b2, rfl, rfl, hW2, hs2, hm2, hq2, hl2, ho2, hA2⟩ := hrel
   have KO2 := Lib.hid ho2
   have K2 := Lib.hid hW2
   have KS2 := Lib.hid hs2
   have KM2 := Lib.hid hm2
   have KQ2 := Lib.hid hq2
   have KL2 := Lib.hid hl2
   have e0 := hW2.boxes.walk.cell 0
   have e1 := hW2.boxes.fn.cell 0
   simp at e0 e1
   clear hW2 hs2 hm2 hq2 hl2 ho2 K1 KS1 KL1 KA1
   rcases hA2 with ⟨rfl, hr2⟩ | ⟨rfl, t, hr2, hy2, h02⟩
   ·have hleave := Lib.hid (leave_went G B g bw bt n s2 rv lv S2 p o2 w0 wr K2.out hn KS2.out hr2)
    clear hr2
    go_wp2_with fail
    refine hleave.out.mono ?_
    rintro e w3 ⟨rfl, s3, hW3, hp3, hl3, ho3⟩
    have KO3 := Lib.hid ho3
    have K3 := Lib.hid hW3
    have KP3 := Lib.hid hp3
    have KL3 := Lib.hid hl3
    clear hW3 hp3 hl3 ho3
    go_wp2_with fail
    go_ret
    refine ⟨true, s3, rfl, K3.out, ?_, KO2.out.trans KO3.out, fun _ => KP3.out.trans KM2.out⟩
    have := KL3.out; have := KQ2.out; have := KL2.out; omega
   ·have hI3 : Dg.Inv G n (Dg.enter s2 y2) := K2.out.inv.enter hy2 h02 (.inr ⟨S2, p, o2, t, KS2.out, hr2⟩)
    have hl3 : (Dg.enter s2 y2).left n + 1 ≤ s2.left n := Dg.left_enter hy2 h02
    have KL3 := Lib.hid hl3
    have henter := Lib.hid (enter_went G B g bw bt n s2 rv lv y2 w0 wr K2.out hn hy2 hI3)
    have KI3 := Lib.hid hI3
    have KY := Lib.hid (And.intro hy2 (And.intro h02 hr2))
    clear hI3 hl3 hr2 hy2 h02
    by_cases hd2 : d = 1000
    ·subst hd2
     go_wp2_with fail
     refine henter.out.mono ?_
     rintro e w3 ⟨rfl, hW3⟩
     have K3 := Lib.hid hW3
     clear hW3
     go_wp2_with fail
     go_ret
     refine ⟨false, _, rfl, K3.out, ?_, KO2.out.trans (Dg.mono_enter s2 y2), fun h => by cases h⟩
     have := KL3.out; have := KQ2.out; have := KL2.out; omega
    ·have hdI : ((d : Int) == 1000) = false := by simp; omega
     have hd5 : d < 9223372036854775807 := by omega
     go_wp2_with fail
     refine henter.out.mono ?_
     rintro e w3 ⟨rfl, hW3⟩
     have K3 := Lib.hid hW3
     have f0 := hW3.boxes.walk.cell 0
     have f1 := hW3.boxes.fn.cell 0
     simp at f0 f1
     clear hW3
     have hih := ih (Dg.enter s2 y2) (S2 ++ [(p, o2)]) y2 [] (d + 1) w3 (by have := KL3.out; have := KQ2.out; have := KL2.out; have := Kk.out; omega) K3.out (by show s2.segs ++ [(y2, [])] = _; rw [KS2.out]) (by omega)
     have ed : ((d + 1 : Nat) : Int) = (d : Int) + 1 := by omega
     rw [ed] at hih
     have KIH := Lib.hid hih
     clear hih ed
     go_wp2_with fail
     refine KIH.out.mono ?_
     rintro e w4 ⟨b4, s4, rfl, hW4, hl4, ho4, hg4⟩
     have KO4 := Lib.hid ((KO2.out.trans (Dg.mono_enter s2 y2)).trans ho4)
     have K4 := Lib.hid hW4
     have KL4 := Lib.hid hl4
     have KG4 := Lib.hid hg4
     have g0 := hW4.boxes.walk.cell 0
     simp at g0
     clear hW4 hl4 hg4 ho4 KIH f0 f1 e0 e1
     cases b4 with
     | false =>
      go_wp2_with fail
      go_ret
      refine ⟨false, s4, rfl, K4.out, ?_, KO4.out, fun h => by cases h⟩
      have := KL4.out; have := KL3.out; have := KQ2.out; have := KL2.out; omega
     | true =>
      obtain ⟨S4, o4, hs4, hm4⟩ := segs_last (s := s4) (A := S2.map (·.1)) (p := p) (by rw [KG4.out rfl]; simp)
      have KS4 := Lib.hid hs4
      have KM4 := Lib.hid (hm4.trans KM2.out)
      have hnext := Lib.hid (next_went G B g bw bt n s4 rv lv S4 p o4 w0 w4 K4.out hn KS4.out)
      clear hs4 hm4
      go_wp2_with fail
      refine hnext.out.mono ?_
      rintro e w5 ⟨y5, b5, s5, rfl, hW5, hs5, hl5, ho5, hA5⟩
      have KO5 := Lib.hid (KO4.out.trans ho5)
      have K5 := Lib.hid hW5
      have KS5 := Lib.hid hs5
      have KL5 := Lib.hid hl5
      have KA5 := Lib.hid hA5
      clear hW5 hs5 hl5 ho5 hA5 hnext g0
      go_wp2_with fail
      go_roundg (s5.left n)
      case measure => have := KL5.out; have := KL4.out; have := KL3.out; have := KQ2.out; omega
      case rel =>
       refine ⟨s5, S4, o4, y5, b5, rfl, rfl, K5.out, KS5.out.trans KS4.out, KM4.out, rfl, ?_, KO5.out, KA5.out⟩
       have := KL5.out; have := KL4.out; have := KL3.out; have := KQ2.out; have := KL2.out; omega
end Go.Proofs.YtdlplmbdkjkeiaaDoor
