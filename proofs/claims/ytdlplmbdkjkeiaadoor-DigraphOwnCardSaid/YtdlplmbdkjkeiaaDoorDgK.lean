import Derived.Test.YtdlplmbdkjkeiaaDoorDgJ
namespace Go.Proofs.YtdlplmbdkjkeiaaDoor
set_option maxRecDepth 100000
open Go.RowKit
open BitKit
set_option linter.unusedVariables false
set_option linter.unusedSimpArgs false
structure Solved (w : World) (B n k : Nat) (lv : Value) (LV : List Value) (Wd : Nat → Nat) (Q : Nat → Nat → Prop) (Bl : Nat → Nat) (Ss : Nat → Nat → Bool) : Prop where
 row : w.ownsRow B 37 1 lv n LV
 each : ∀ x, x < k → LV[x]? = some (.pointer (some ⟨Bl x, 0, none⟩)) ∧ B ≤ Bl x ∧ IsSet w (Bl x) (Wd x) (Ss x)
 tells : ∀ x, x < k → ∀ y, Ss x y = true ↔ y < Wd x ∧ Q x y
 rises : ∀ x y, x < y → y < k → Bl x < Bl y
theorem Sm.below_put {w : World} {B hi n g i : Nat} {lv : Value} {LV : List Value} {D : Nat → Prop} {Q : Nat → Nat → Prop} {cs : Array Value} (h : Sm w B hi n lv LV D Q) (ha : At w g 37 cs) (hg : g < B) (u : Value) : Sm (w.setCell ⟨g, i, none⟩ u) B hi n lv LV D Q :=
 ⟨ownsRow_setCell_below h.row (a := ⟨g, i, none⟩) hg u, fun z hz => by
  obtain ⟨b, S, h1, h2, h3, h4, h5⟩ := h.each z hz
  exact ⟨b, S, h1, h2, h3, h4.far ha (by decide) u, h5⟩⟩
theorem Solved.alloc {w : World} {B n k : Nat} {lv : Value} {LV : List Value} {Wd : Nat → Nat} {Q : Nat → Nat → Prop} {Bl : Nat → Nat} {Ss : Nat → Nat → Bool} (h : Solved w B n k lv LV Wd Q Bl Ss) (o : Obj) : Solved (w.alloc o) B n k lv LV Wd Q Bl Ss :=
 ⟨h.row.alloc o, fun x hx => ⟨(h.each x hx).1, (h.each x hx).2.1, (h.each x hx).2.2.alloc o⟩, h.tells, h.rises⟩
set_option maxHeartbeats 16000000 in
theorem solve_run (A : Option Addr) (m c : Nat) (RV : List Value) (G : Nat → List Int) (n : Nat) (A2 : Option Addr) (c2 : Nat) (Bl Wd : Nat → Nat) (Bs : Nat → Nat → Bool) (w : World) (hR : Rows w w.heap.size A RV G) (hl : RV.length = m) (hG : ∀ i, m ≤ i → G i = []) (hn : n ≤ 1099511627776)
  (hB : Base w w.heap.size A2 n Bl Wd Bs) :
  Calls Tryd.prog 23 #[.slice A m c, .slice A2 n c2] w fun e w' => ∃ L cL LV Bl' Ss, e = .returned (.slice (some ⟨L, 0, none⟩) n cL) ∧ Solved w' w.heap.size n n (.slice (some ⟨L, 0, none⟩) n cL) LV Wd (Dg.Up G n Bs) Bl' Ss ∧ Below w.heap.size w w' := by
 have KR := Lib.hid hR
 have KB := Lib.hid hB
 have hmk := fun wx => run_make_ptrs n hn wx
 clear hR hB
 obtain ⟨w0, hw0⟩ : ∃ w0, w0 = w.alloc (.cells (Array.replicate n (.pointer none)) 37) := ⟨_, rfl⟩
 have hb0 : Below w.heap.size w w0 := by rw [hw0]; exact (Below.refl _ _).alloc (Nat.le_refl _) _
 have hs0 : w0.heap.size = w.heap.size + 1 := by rw [hw0]; simp
 have hrow0 : w0.ownsRow w.heap.size 37 1 (.slice (some ⟨w.heap.size, 0, none⟩) n n) n (List.replicate n (.pointer none)) := by
  have := World.ownsRow_lit (base := w.heap.size) (e := 37) (size := 1) w (Array.replicate n (.pointer none)) n (Nat.le_refl _) (by unfold maxLen; omega) (by simp)
  rw [hw0]; simpa using this
 have hof := Lib.hid (of_graph A m c RV G n w0 ((KR.out.below hb0).wide (by omega)) hl hG hn)
 have Kb0 := Lib.hid hb0
 have Krow0 := Lib.hid hrow0
 have Kw0 := Lib.hid hw0
 clear hb0 hrow0 hw0
 go_enter Tryd.func23, Tryd.ntmps23
 go_wp2_with fail
 rw [← Kw0.out]
 refine hof.out.mono ?_
 rintro e w1 ⟨A', RV', rfl, hl', hR', hb1⟩
 have Kb1 := Lib.hid (Kb0.out.trans (below_le hb1 (by omega)))
 have Krow1 := Lib.hid (own_below Krow0.out hb1 (fun k hk => by simp [Value.ownBlock] at hk; omega))
 have hs1 : w.heap.size < w1.heap.size := by have := hb1.size; omega
 have hsums := Lib.hid (sums_run A' n n RV' G A2 c2 Bl Wd Bs w1 hR' hl' hn ⟨fun i hi => by
  obtain ⟨b, o, e1, e2, e3⟩ := (KB.out.below Kb1.out).cell i hi
  exact ⟨b, o, e1, by omega, e3⟩, fun i hi => by
  have := (KB.out.below Kb1.out).set i hi
  exact ⟨by omega, this.2⟩⟩)
 clear hl' hR' hof hb1
 go_wp2_with fail
 refine hsums.out.mono ?_
 rintro e w2 ⟨L2, cL2, LV2, rfl, hSm, hb2⟩
 have Kb2 := Lib.hid (Kb1.out.trans (below_le hb2 (by omega)))
 have Krow2 := Lib.hid (own_below Krow1.out hb2 (fun k hk => by simp [Value.ownBlock] at hk; omega))
 have KSm := Lib.hid hSm
 obtain ⟨lb, hlb⟩ : ∃ lb, lb = w.heap.size := ⟨_, rfl⟩
 obtain ⟨hi0, hhi⟩ : ∃ hi0, hi0 = w2.heap.size := ⟨_, rfl⟩
 have hs2 : w1.heap.size ≤ hi0 := by have := hb2.size; omega
 rw [← hlb] at Krow2 ⊢
 rw [← hhi] at KSm
 have hlb1 : lb < w1.heap.size := by omega
 have hlbB := Lib.hid hlb.symm
 have Khi := Lib.hid hhi
 have hlbw : w.heap.size ≤ lb := by omega
 clear hlb hhi hs0 hSm hb2 hsums hmk Krow1 Krow0 Kb0 Kb1 Kw0
 go_wp2_with fail
 go_loopg [18] n (fun q t18 wr => ∃ (k : Nat) (LV : List Value) (Bl' : Nat → Nat) (Ss : Nat → Nat → Bool), t18 = .int .i64 (k : Int) ∧ k ≤ n ∧ q = n - k ∧ Solved wr lb n k (.slice (some ⟨lb, 0, none⟩) n n) LV Wd (Dg.Up G n Bs) Bl' Ss ∧ Sm wr w1.heap.size hi0 n (.slice (some ⟨L2, 0, none⟩) n cL2) LV2 (fun x => x < n) (Dg.Up G n Bs) ∧ Below w.heap.size w wr ∧ hi0 ≤ wr.heap.size)
 case atStart => exact ⟨0, _, fun _ => 0, fun _ _ => false, rfl, by omega, by omega, ⟨Krow2.out, (fun x hx => absurd hx (by omega)), (fun x hx => absurd hx (by omega)), (fun x y _ hy => absurd hy (by omega))⟩, KSm.out, Kb2.out, Nat.le_of_eq Khi.out⟩
 case round =>
  obtain ⟨k, LV, Bl', Ss, rfl, hk, hq, hSo, hSm, hBe, hh⟩ := hrel
  have KSo := Lib.hid hSo
  have KSm3 := Lib.hid hSm
  have KBe := Lib.hid hBe
  have Kq := Lib.hid hq
  have hBr : w.heap.size ≤ wr.heap.size := hBe.size
  clear hSo hSm hBe hq
  by_cases hlt : k < n
  ·obtain ⟨b2, o2, rfl, _, cb⟩ := (KB.out.below KBe.out).cell k hlt
   obtain ⟨hbl, hbs⟩ := (KB.out.below KBe.out).set k hlt
   obtain ⟨b, T, hT0, hTB, hTh, hT, hTq⟩ := KSm3.out.each k hlt
   have cs : wr.cell? ⟨L2, k, none⟩ = some (.pointer (some ⟨b, 0, none⟩)) := by rw [KSm3.out.row.cellAt k (by omega), hT0]
   have hll : k < LV.length := by have := KSo.out.row.1; omega
   obtain ⟨u0, hu0⟩ : ∃ u0, LV[k]? = some u0 := ⟨_, List.getElem?_eq_getElem hll⟩
   have cl : (wr.alloc (.cells (cellsOf (Wd k) (Bs k)) 64)).cell? ⟨lb, k, none⟩ = some u0 := by rw [(KSo.out.row.alloc _).cellAt k (by omega), hu0]
   have zl := (KSo.out.row.alloc (.cells (cellsOf (Wd k) (Bs k)) 64)).frozenAt k
   obtain ⟨cslb, hcslb⟩ := own_at (KSo.out.row.alloc (.cells (cellsOf (Wd k) (Bs k)) 64))
   obtain ⟨w4, hw4⟩ : ∃ w4, w4 = (wr.alloc (.cells (cellsOf (Wd k) (Bs k)) 64)).setCell ⟨lb, k, none⟩ (.pointer (some ⟨wr.heap.size, 0, none⟩)) := ⟨_, rfl⟩
   have hcopy := Lib.hid (copy_any (Bl k) (Wd k) (Bs k) wr hbs)
   have hown := Lib.hid (gown_any (Bl k) wr)
   have hnew : IsSet w4 wr.heap.size (Wd k) (Bs k) := by
    rw [hw4]
    exact IsSet.far ⟨At.new _ _ _, hbs.le, hbs.fit⟩ hcslb (by decide) _
   have hT4 : IsSet w4 b 1000 T := by rw [hw4]; exact (hT.alloc _).far hcslb (by decide) _
   have hunion := Lib.hid (union_any wr.heap.size (Wd k) (Bs k) b 1000 T w4 hnew hT4)
   have hSm4 : Sm w4 w1.heap.size hi0 n (.slice (some ⟨L2, 0, none⟩) n cL2) LV2 (fun x => x < n) (Dg.Up G n Bs) := by rw [hw4]; exact (KSm3.out.alloc _).below_put hcslb hlb1 _
   have hBe4 : Below w.heap.size w w4 := by rw [hw4]; exact below_set (KBe.out.alloc hBr _) (by show w.heap.size ≤ lb; omega) _
   have hrow4 : w4.ownsRow lb 37 1 (.slice (some ⟨lb, 0, none⟩) n n) n (LV.set k (.pointer (some ⟨wr.heap.size, 0, none⟩))) := by rw [hw4]; exact ((KSo.out.row.alloc _).stored k _).1
   have hold4 : ∀ x, x < k → IsSet w4 (Bl' x) (Wd x) (Ss x) := fun x hx => by rw [hw4]; exact ((KSo.out.each x hx).2.2.alloc _).far hcslb (by decide) _
   have hs4 : w4.heap.size = wr.heap.size + 1 := by rw [hw4]; simp
   have c4 : w4.cell? ⟨lb, k, none⟩ = some (.pointer (some ⟨wr.heap.size, 0, none⟩)) := by rw [hrow4.cellAt k (by omega), List.getElem?_set]; simp [hll]
   have r4 : (0 : Int) ≤ (k : Int) := by omega
   have r5 : (k : Int) < (n : Int) := by omega
   have r6 : ((k : Int)).toNat = k := by omega
   have KSm4 := Lib.hid hSm4
   have KBe4 := Lib.hid hBe4
   have Krow4 := Lib.hid hrow4
   have Kold4 := Lib.hid hold4
   have Knew := Lib.hid hnew
   have KT := Lib.hid (And.intro hT.fit hTq)
   have Kbs := Lib.hid hbs
   have Kw4 := Lib.hid hw4
   have Kll := Lib.hid hll
   clear hbl hbs hT0 hTB hTh hT hTq hu0 hcslb hnew hT4 hSm4 hBe4 hrow4 hold4 hw4 hll
   go_wp2_with fail
   refine hown.out.mono ?_
   rintro e w3 ⟨rfl, rfl⟩
   go_wp2_with fail
   refine hcopy.out.mono ?_
   rintro e w3' ⟨rfl, hw3⟩
   subst hw3
   go_wp2_with fail
   rw [← Kw4.out]
   refine hunion.out.mono ?_
   rintro e w5 ⟨⟨r, rfl, _⟩, hset5, hg5⟩
   have KSm5 := Lib.hid (KSm4.out.turn Knew.out.at_ hh hg5)
   have KBe5 := Lib.hid (KBe4.out.grown hg5 (by omega) (fun q hq => by injection hq with hq; omega))
   have Krow5 := Lib.hid (Krow4.out.kept hg5 (by
    refine .inr (fun e => ?_)
    exact own_apart Krow4.out Knew.out.at_ (by decide) e))
   have Kold5 : ∀ x, x < k → IsSet w5 (Bl' x) (Wd x) (Ss x) ∧ Bl' x < w3.heap.size := fun x hx => by
    have h1 := ((KSo.out.each x hx).2.2).at_.lt
    exact ⟨(Kold4.out x hx).grown hg5 (fun e => by injection e with e; omega), h1⟩
   have KO5 := Lib.hid Kold5
   have Kset5 := Lib.hid hset5
   have hsz5 : w3.heap.size + 1 ≤ w5.heap.size := by have := hg5.size; omega
   clear hset5 hg5 Kold5 hunion hcopy hown c4 cl zl
   go_wp2_with fail
   go_roundg (n - (k + 1))
   case measure => have := Kq.out; omega
   case rel =>
    refine ⟨k + 1, _, Dg.upd Bl' k w3.heap.size, Dg.upd Ss k (uni (Wd k) (Bs k) T), by go_num, by omega, rfl, ⟨Krow5.out, fun x hx => ?_, fun x hx y => ?_, fun x y hxy hy => ?_⟩, KSm5.out, KBe5.out, by omega⟩
    ·by_cases he : x = k
     ·subst he
      rw [Dg.upd_self, Dg.upd_self]
      exact ⟨by rw [List.getElem?_set]; simp [Kll.out], by omega, Kset5.out⟩
     ·rw [Dg.upd_other _ _ he, Dg.upd_other _ _ he]
      have h1 := KSo.out.each x (by omega)
      exact ⟨by rw [List.getElem?_set, if_neg (fun e => he e.symm)]; exact h1.1, h1.2.1, (KO5.out x (by omega)).1⟩
    ·by_cases he : x = k
     ·subst he
      rw [Dg.upd_self]
      unfold uni
      simp only [Bool.or_eq_true, Bool.and_eq_true, decide_eq_true_eq]
      constructor
      ·rintro (h1 | ⟨h1, h2⟩)
       ·exact ⟨Kbs.out.fit y h1, x, .refl x, h1⟩
       ·first | exact ⟨h2, (KT.out.2 y).1 h1⟩ | exact ⟨h1, (KT.out.2 y).1 h2⟩
      ·rintro ⟨h1, h2⟩
       first | exact .inr ⟨(KT.out.2 y).2 h2, h1⟩ | exact .inr ⟨h1, (KT.out.2 y).2 h2⟩
     ·rw [Dg.upd_other _ _ he]
      exact KSo.out.tells x (by omega) y
    ·by_cases he : y = k
     ·subst he
      rw [Dg.upd_self, Dg.upd_other _ _ (by omega)]
      exact (KO5.out x hxy).2
     ·rw [Dg.upd_other _ _ he, Dg.upd_other _ _ (by omega)]
      exact KSo.out.rises x y hxy (by omega)
  ·obtain rfl : k = n := by omega
   go_wp2_with fail
   go_ret
   exact ⟨lb, k, LV, Bl', Ss, rfl, hlbB.out ▸ KSo.out, KBe.out⟩
end Go.Proofs.YtdlplmbdkjkeiaaDoor
