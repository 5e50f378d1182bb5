import Derived.Test.YtdlplmbdkjkeiaaDoorDgA
import Derived.BigRegion
import Derived.BigQuiet
import Derived.Deep.QuietTactic
import Derived.Lib.Hide
import Derived.WalkLawsBesides
namespace Go.Proofs.YtdlplmbdkjkeiaaDoor
set_option maxRecDepth 100000
open Go.RowKit
set_option linter.unusedVariables false
set_option linter.unusedSimpArgs false
def WkS (w : World) (B g n : Nat) (s : Dg.St) (rv lv wv pv qv : Value) (RV PV : List Value) : Prop := Wk w B g n rv lv wv pv qv RV (lows n s.low) (valsOf s.wait) (valsOf s.path) PV s.rest s.parts
def tsW : List TypeId := [3, 28, 68]
theorem valsOf_len (l : List Nat) : (valsOf l).length = l.length := by simp [valsOf]
theorem wk_enter {w : World} {B g n x : Nat} {s : Dg.St} {rv lv wv pv qv : Value} {RV PV : List Value}
  (h : Wk w B g n rv lv wv pv qv RV (lows n (Dg.upd s.low x (s.wait.length + 1))) (valsOf s.wait ++ [.int .i64 (x : Int)]) (valsOf s.path ++ [.int .i64 (x : Int)]) PV s.rest s.parts) : WkS w B g n (Dg.enter s x) rv lv wv pv qv RV PV := by
 unfold WkS
 rw [Dg.enter_wait, Dg.enter_path, valsOf_snoc, valsOf_snoc]
 exact h
set_option maxHeartbeats 4000000 in
theorem enter_any (B g n : Nat) (s : Dg.St) (rv lv wv pv qv : Value) (RV PV : List Value) (x : Nat) (w : World) (H : WkS w B g n s rv lv wv pv qv RV PV) (hx : x < n) (hn : n ≤ 1099511627776) (hw : s.wait.length < n) (hp : s.path.length < n) :
  Calls Tryd.prog 47 #[.pointer (some ⟨g, 0, none⟩), .int .i64 (x : Int)] w fun e w' => e = .returned (.tuple #[]) ∧ (∃ wv' pv', WkS w' B g n (Dg.enter s x) rv lv wv' pv' qv RV PV) ∧ Below B w w' ∧ Spares tsW w w' := by
 obtain ⟨i0, hi, hz0, hz1, hz2⟩ := info_parts Tryd.infoInt
 have hB := H.size
 have hbg := H.base
 obtain ⟨L, cL, rfl, hcL, hbL⟩ := own_pos H.low (by omega)
 have K := Lib.hid H
 have c3 := H.at_.cell 3
 have hpl : (valsOf s.path).length = s.path.length := valsOf_len _
 have hwl : (valsOf s.wait).length = s.wait.length := valsOf_len _
 simp at c3
 clear H
 go_enter Tryd.func47, Tryd.ntmps47
 go_wp2_with (at_builtin; refine wpList_append_own2 _ rfl (.tmp 8) (.tmp 10) 28 rfl B 3 i0 _ 1 8 Tryd.underlying28 hi hz0 hz1 hz2 rfl (by decide) pv _ (valsOf s.path) rfl (K.out.path.alloc _) ⟨w.heap.size, 0, none⟩ 1 1 [.int .i64 (x : Int)] rfl rfl ?c1 ?c2 ?c3 ?c4 ?c5 ?_)
 case c1 => exact cell_one_new _ _ _
 case c2 => intro q hq; simp at hq; rcases hq with rfl; rfl
 case c3 => unfold maxLen; omega
 case c4 => omega
 case c5 => simp; omega
 intro pv' w1 hown' hgrow hsn
 have hsz1 : w.heap.size + 1 ≤ w1.heap.size := by have := hgrow.size; rwa [World.size_alloc] at this
 have h1 : At w1 g 68 #[rv, .slice (some ⟨L, 0, none⟩) n cL, wv, pv, qv] := (K.out.at_.alloc _).grown hgrow (fun e => own_apart K.out.path K.out.at_ (by decide) e.symm)
 have K1 := Lib.hid ((K.out.alloc hB _).pushPath (PL' := valsOf s.path ++ [.int .i64 (x : Int)]) hgrow (by rw [List.length_append, hpl]; exact hown') hsn)
 have B1 : Below B w (w1.setCell ⟨g, 3, none⟩ pv') := below_set (((Below.refl _ _).alloc hB _).grown hgrow (by simp; omega) (fun k hk => (K.out.path.lt k hk).1)) hbg _
 have S1 : Spares tsW w (w1.setCell ⟨g, 3, none⟩ pv') := (((Spares.refl tsW w).alloc _).grown (K.out.path.alloc _) hgrow (by decide)).set h1 (by decide) _ _
 have HB1 := Lib.hid B1
 have HS1 := Lib.hid S1
 have z3 := h1.frozen 3
 have f3 := h1.cell 3
 have f2 := h1.cell 2
 simp at f3 f2
 obtain ⟨ao, co, rfl⟩ : ∃ ao co, pv' = .slice ao (s.path.length + 1) co := by
  obtain ⟨a, c, h2, _⟩ := own_slice hown'
  exact ⟨a, c, h2⟩
 clear hown' hgrow hsn h1 B1 S1 c3 K
 go_wp2_with (at_builtin; refine wpList_append_own2 _ rfl (.tmp 18) (.tmp 20) 28 rfl B 3 i0 _ 1 8 Tryd.underlying28 hi hz0 hz1 hz2 rfl (by decide) wv _ (valsOf s.wait) rfl (K1.out.wait.alloc _) ⟨w1.heap.size, 0, none⟩ 1 1 [.int .i64 (x : Int)] rfl rfl ?c1 ?c2 ?c3 ?c4 ?c5 ?_)
 case c1 =>
  have e1 : (w1.setCell ⟨g, 3, none⟩ (.slice ao (s.path.length + 1) co)).heap.size = w1.heap.size := by simp
  have := cell_one_new (w1.setCell ⟨g, 3, none⟩ (.slice ao (s.path.length + 1) co)) (.int .i64 (x : Int)) 3
  rw [e1] at this
  exact this
 case c2 => intro q hq; simp at hq; rcases hq with rfl; rfl
 case c3 => unfold maxLen; omega
 case c4 => omega
 case c5 => simp; omega
 intro wv' w2 hown' hgrow hsn
 have hsz2 : w1.heap.size + 1 ≤ w2.heap.size := by have := hgrow.size; simpa using this
 have h1 : At w2 g 68 #[rv, .slice (some ⟨L, 0, none⟩) n cL, wv, .slice ao (s.path.length + 1) co, qv] := (K1.out.at_.alloc _).grown hgrow (fun e => own_apart K1.out.wait K1.out.at_ (by decide) e.symm)
 have K2 := Lib.hid ((K1.out.alloc (by simp; omega) _).pushWait (WL' := valsOf s.wait ++ [.int .i64 (x : Int)]) hgrow (by rw [List.length_append, hwl]; exact hown') hsn)
 have B2 : Below B w (w2.setCell ⟨g, 2, none⟩ wv') := below_set ((HB1.out.alloc (by simp; omega) _).grown hgrow (by simp; omega) (fun k hk => (K1.out.wait.lt k hk).1)) hbg _
 have S2 : Spares tsW w (w2.setCell ⟨g, 2, none⟩ wv') := ((HS1.out.alloc _).grown (K1.out.wait.alloc _) hgrow (by decide)).set h1 (by decide) _ _
 have HB2 := Lib.hid B2
 have HS2 := Lib.hid S2
 have z2 := h1.frozen 2
 have f2' := h1.cell 2
 have f1' := h1.cell 1
 simp at f2' f1'
 obtain ⟨ao2, co2, rfl⟩ : ∃ ao co, wv' = .slice ao (s.wait.length + 1) co := by
  obtain ⟨a, c, h2, _⟩ := own_slice hown'
  exact ⟨a, c, h2⟩
 clear hown' hgrow hsn h1 B2 S2 K1 HB1 HS1 f3 f2 z3
 have hxl : (lows n s.low)[x]? = some (.int .i64 (s.low x : Int)) := lows_get _ hx
 have cl : (w2.setCell ⟨g, 2, none⟩ (.slice ao2 (s.wait.length + 1) co2)).cell? ⟨L, x, none⟩ = some (.int .i64 (s.low x : Int)) := by
  rw [K2.out.low.cellAt x (by omega), hxl]
 have zl := K2.out.low.frozenAt x
 have x1 : (0 : Int) ≤ (x : Int) := by omega
 have x2 : (x : Int) < (n : Int) := by omega
 have x3 : ((x : Int)).toNat = x := by omega
 go_wp2_with fail
 go_region
 all_goals
  go_wp2_with fail
  go_end0
  have hfin := K2.out.setLow x (.int .i64 ((s.wait.length + 1 : Nat) : Int))
  obtain ⟨csL, hL⟩ := own_at K2.out.low
  have e1 : ((s.wait.length + 1 : Nat) : Int) = (s.wait.length : Int) + 1 := by omega
  rw [lows_set, e1] at hfin
  exact ⟨rfl, ⟨_, _, wk_enter hfin.drew⟩, below_drew (below_set HB2.out hbL _), (HS2.out.set hL (by decide) _ _).drew⟩
end Go.Proofs.YtdlplmbdkjkeiaaDoor
