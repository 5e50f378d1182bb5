import Derived.Test.YtdlplmbdkjkeiaaDoorDgF
import Derived.Deep.DeepCutAuto
import Derived.Deep.RegionWith
import Derived.Laws.EntriesVeiled
import Derived.StillTailTactics
namespace Go.Proofs.YtdlplmbdkjkeiaaDoor
set_option maxRecDepth 100000
open Go.RowKit
set_option linter.unusedVariables false
set_option linter.unusedSimpArgs false
structure Rows (w : World) (B : Nat) (A : Option Addr) (RV : List Value) (G : Nat → List Int) : Prop where
 lies : ∀ i rv, RV[i]? = some rv → ∃ b o, A = some ⟨b, o, none⟩ ∧ b < B ∧ w.cell? ⟨b, o + i, none⟩ = some rv
 row : ∀ i rv, RV[i]? = some rv → RowIn w B rv (G i)
theorem Rows.below {w w' : World} {B : Nat} {A : Option Addr} {RV : List Value} {G : Nat → List Int} (h : Rows w B A RV G) (hb : Below B w w') : Rows w' B A RV G :=
 ⟨fun i rv hi => by
  obtain ⟨b, o, h1, h2, h3⟩ := h.lies i rv hi
  exact ⟨b, o, h1, h2, (hb.cell (p := ⟨b, _, none⟩) h2).trans h3⟩, fun i rv hi => (h.row i rv hi).below hb⟩
theorem Rows.at_ {w : World} {B : Nat} {A : Option Addr} {RV : List Value} {G : Nat → List Int} (h : Rows w B A RV G) : Lies w A RV := fun j u hj => by
 obtain ⟨b, o, rfl, h2, h3⟩ := h.lies j u hj
 exact ⟨_, rfl, by rw [Go.WideShapes.add_plain]; exact h3⟩
theorem Rows.one {w : World} {B : Nat} {A : Option Addr} {RV : List Value} {G : Nat → List Int} (h : Rows w B A RV G) : ∀ u ∈ RV, u.oneCell' = true := fun u hu => by
 obtain ⟨i, hi⟩ := List.getElem?_of_mem hu
 obtain ⟨A', c, rfl, _⟩ := h.row i u hi
 rfl
structure PartsAt (w : World) (B : Nat) (v : Value) (PV : List Value) (ps : List (List Nat)) : Prop where
 own : w.ownsRow B 28 1 v PV.length PV
 plen : PV.length = ps.length
 each : ∀ (i : Nat) (P : List Nat) (v : Value), ps[i]? = some P → PV[i]? = some v → w.ownsRow B 3 1 v P.length (valsOf P)
 apart : PV.Pairwise Ap
theorem run_make_ints (n : Nat) (hn : n ≤ 1099511627776) (w : World) : (Instr.makeSlice 28 (.int .i64 (n : Int)) (.int .i64 (n : Int))).run Tryd.prog w = .ok (.slice (some ⟨w.heap.size, 0, none⟩) n n) (w.alloc (.cells (lows n (fun _ => 0)).toArray 3)) := by
 obtain ⟨i0, hi, hz0, hz1, hz2⟩ := info_parts Tryd.infoInt
 have hr := run_make (P := Tryd.prog) w 28 3 i0 (.int .i64 0) Tryd.underlying28 hi hz0 .i64 .i64 n n (by omega) (Int.le_refl _) (by rw [hz2]; omega) (by omega)
 rw [hr, hz1]
 have e : madeCells (Value.int .i64 0).cells (((n : Int)).toNat * 1) = (lows n (fun _ => 0)).toArray := by
  apply Array.ext'
  rw [Int.toNat_natCast, Nat.mul_one]
  show (madeCells #[.int .i64 0] n).toList = _
  rw [toList_madeCells_one]
  apply List.ext_getElem?
  intro j
  by_cases hj : j < n
  ·rw [lows_get _ hj]; simp [hj]
  ·simp [lows, valsOf, hj]
 rw [e, Int.toNat_natCast]
theorem made1 {W wc : World} {u : Value} (hg : (W.alloc (.cells #[u] 65)).drew.grownBy wc none) : wc.cell? ⟨W.heap.size, 0, none⟩ = some u ∧ wc.frozen? ⟨W.heap.size, 0, none⟩ = false ∧ W.heap.size < wc.heap.size := by
 have h := ((At.new W 65 #[u]).drew).grown hg (by simp)
 exact ⟨by rw [h.cell]; rfl, h.frozen 0, h.lt⟩
theorem made2 {W wc : World} {u : Value} {o : Obj} (hg : ((W.alloc (.cells #[u] 65)).alloc o).drew.grownBy wc none) : wc.cell? ⟨W.heap.size, 0, none⟩ = some u ∧ wc.frozen? ⟨W.heap.size, 0, none⟩ = false ∧ W.heap.size < wc.heap.size := by
 have h := (((At.new W 65 #[u]).alloc o).drew).grown hg (by simp)
 exact ⟨by rw [h.cell]; rfl, h.frozen 0, h.lt⟩
theorem made1' {W wc : World} {u : Value} {C : Prop} (h : (W.alloc (.cells #[u] 65)).drew.grownBy wc none → wc.cell? ⟨W.heap.size, 0, none⟩ = some u → wc.frozen? ⟨W.heap.size, 0, none⟩ = false → W.heap.size < wc.heap.size → C) : (W.alloc (.cells #[u] 65)).drew.grownBy wc none → C :=
 fun hg => h hg (made1 hg).1 (made1 hg).2.1 (made1 hg).2.2
theorem made2' {W wc : World} {u : Value} {o : Obj} {C : Prop} (h : ((W.alloc (.cells #[u] 65)).alloc o).drew.grownBy wc none → wc.cell? ⟨W.heap.size, 0, none⟩ = some u → wc.frozen? ⟨W.heap.size, 0, none⟩ = false → W.heap.size < wc.heap.size → C) : ((W.alloc (.cells #[u] 65)).alloc o).drew.grownBy wc none → C :=
 fun hg => h hg (made2 hg).1 (made2 hg).2.1 (made2 hg).2.2
structure Made (w w' : World) (n : Nat) (G : Nat → List Int) (RV : List Value) (v : Value) : Prop where
 ex : ∃ g bw rv lv, v = .pointer (some ⟨bw, 0, none⟩) ∧ At w' bw 65 #[.pointer (some ⟨g, 0, none⟩)] ∧ WkS w' w.heap.size g n ⟨[], fun _ => 0, fun _ => [], G, []⟩ rv lv (.slice none 0 0) (.slice none 0 0) (.slice none 0 0) RV [] ∧ Below w.heap.size w w' ∧ w.heap.size ≤ bw
abbrev nilv : Value := .slice none 0 0
theorem made_core {A : Option Addr} {n : Nat} {RV : List Value} {G : Nat → List Int} {w W : World} {g bw : Nat} {rv lv : Value} (hR : Rows w w.heap.size A RV G) (hl : RV.length = n) (ho : W.ownsRow w.heap.size 28 1 rv n RV) (hlo : W.ownsRow w.heap.size 3 1 lv n (lows n (fun _ => 0)))
  (hat : At W g 68 #[rv, lv, nilv, nilv, nilv]) (hb : At W bw 65 #[.pointer (some ⟨g, 0, none⟩)]) (hbel : Below w.heap.size w W) (hg : w.heap.size ≤ g) (hbw : w.heap.size ≤ bw) : Made w W n G RV (.pointer (some ⟨bw, 0, none⟩)) :=
 ⟨g, bw, rv, lv, rfl, hb, ⟨hat, hg, ho, fun i hi => by
   have hi' : i < RV.length := by omega
   exact ⟨_, List.getElem?_eq_getElem hi', ((hR.below hbel).row i _ (List.getElem?_eq_getElem hi'))⟩, hlo, World.ownsRow_nil _ _ _ _, World.ownsRow_nil _ _ _ _, World.ownsRow_nil _ _ _ _, rfl, (fun i P v h => by simp at h), (Ap.nil _).symm, (Ap.nil _).symm, Ap.nil _, (fun v h => absurd h (by simp)), List.Pairwise.nil, (Ap.nil _).symm⟩, hbel, hbw⟩
theorem lows_own {B n : Nat} (f : Nat → Nat) (W : World) (hB : B ≤ W.heap.size) (hn : n ≤ 1099511627776) : (W.alloc (.cells (lows n f).toArray 3)).ownsRow B 3 1 (.slice (some ⟨W.heap.size, 0, none⟩) n n) n (lows n f) := by
 have h := World.ownsRow_lit (base := B) (e := 3) (size := 1) W (lows n f).toArray n hB (by unfold maxLen; omega) (by simp [lows_length])
 simpa using h
theorem at_next {W : World} {o : Obj} {t : TypeId} {cs : Array Value} : At ((W.alloc o).alloc (.cells cs t)) (W.heap.size + 1) t cs := by
 have := At.new (W.alloc o) t cs
 rwa [World.size_alloc] at this
theorem at_next2 {W : World} {o o' : Obj} {t : TypeId} {cs : Array Value} : At (((W.alloc o).alloc o').alloc (.cells cs t)) (W.heap.size + 1 + 1) t cs := by
 have := At.new ((W.alloc o).alloc o') t cs
 rwa [World.size_alloc, World.size_alloc] at this
section
variable {A : Option Addr} {n c : Nat} {RV : List Value} {G : Nat → List Int} {w wc : World} {rv : Value}
theorem made_1 (hR : Rows w w.heap.size A RV G) (hl : RV.length = n) (hn : n ≤ 1099511627776) (ho : wc.ownsRow w.drew.heap.size 28 1 rv n RV) (hg : w.drew.grownBy wc none) :
  Made w (((wc.alloc (.cells (lows n fun _ => 0).toArray 3)).alloc (.cells #[rv, .slice (some ⟨wc.heap.size, 0, none⟩) n n, nilv, nilv, nilv] 68)).alloc (.cells #[.pointer (some ⟨wc.heap.size + 1, 0, none⟩)] 65)) n G RV (.pointer (some ⟨wc.heap.size + 1 + 1, 0, none⟩)) := by
 have hs : w.heap.size ≤ wc.heap.size := hg.size
 have hb : Below w.heap.size w wc := ⟨hg.os, hg.tape, hg.output, hg.size, fun k hk => hg.block k hk (by simp)⟩
 refine made_core hR hl (((ho.alloc _).alloc _).alloc _) (((lows_own _ _ hs hn).alloc _).alloc _) (at_next.alloc _) at_next2 (((hb.alloc hs _).alloc (by simp; omega) _).alloc (by simp; omega) _) (by omega) (by omega)
theorem made_2 (hR : Rows w w.heap.size A RV G) (hl : RV.length = n) (hn : n ≤ 1099511627776) (ho : wc.ownsRow w.drew.heap.size 28 1 rv n RV) (hg : w.drew.grownBy wc none) :
  Made w (((wc.alloc (.cells (lows n fun _ => 0).toArray 3)).alloc (.cells #[.pointer (some ⟨wc.heap.size + 1 + 1, 0, none⟩)] 65)).alloc (.cells #[rv, .slice (some ⟨wc.heap.size, 0, none⟩) n n, nilv, nilv, nilv] 68)) n G RV (.pointer (some ⟨wc.heap.size + 1, 0, none⟩)) := by
 have hs : w.heap.size ≤ wc.heap.size := hg.size
 have hb : Below w.heap.size w wc := ⟨hg.os, hg.tape, hg.output, hg.size, fun k hk => hg.block k hk (by simp)⟩
 refine made_core hR hl (((ho.alloc _).alloc _).alloc _) (((lows_own _ _ hs hn).alloc _).alloc _) at_next2 (at_next.alloc _) (((hb.alloc hs _).alloc (by simp; omega) _).alloc (by simp; omega) _) (by omega) (by omega)
theorem made_3 (hR : Rows w w.heap.size A RV G) (hl : RV.length = n) (hn : n ≤ 1099511627776) (ho : wc.ownsRow w.drew.heap.size 28 1 rv n RV) (hg : w.drew.grownBy wc none) :
  Made w (((wc.alloc (.cells #[.pointer (some ⟨wc.heap.size + 1 + 1, 0, none⟩)] 65)).alloc (.cells (lows n fun _ => 0).toArray 3)).alloc (.cells #[rv, .slice (some ⟨wc.heap.size + 1, 0, none⟩) n n, nilv, nilv, nilv] 68)) n G RV (.pointer (some ⟨wc.heap.size, 0, none⟩)) := by
 have hs : w.heap.size ≤ wc.heap.size := hg.size
 have hb : Below w.heap.size w wc := ⟨hg.os, hg.tape, hg.output, hg.size, fun k hk => hg.block k hk (by simp)⟩
 have hlo := lows_own (n := n) (B := w.heap.size) (fun _ => 0) (wc.alloc (.cells #[.pointer (some ⟨wc.heap.size + 1 + 1, 0, none⟩)] 65)) (by simp; omega) hn
 rw [World.size_alloc] at hlo
 refine made_core hR hl (((ho.alloc _).alloc _).alloc _) (hlo.alloc _) at_next2 (((At.new wc _ _).alloc _).alloc _) (((hb.alloc hs _).alloc (by simp; omega) _).alloc (by simp; omega) _) (by omega) (by omega)
theorem made_4 (hR : Rows w w.heap.size A RV G) (hl : RV.length = n) (hn : n ≤ 1099511627776) (ho : wc.ownsRow (w.alloc (.cells (lows n fun _ => 0).toArray 3)).drew.heap.size 28 1 rv n RV) (hg : (w.alloc (.cells (lows n fun _ => 0).toArray 3)).drew.grownBy wc none) :
  Made w ((wc.alloc (.cells #[rv, .slice (some ⟨w.heap.size, 0, none⟩) n n, nilv, nilv, nilv] 68)).alloc (.cells #[.pointer (some ⟨wc.heap.size, 0, none⟩)] 65)) n G RV (.pointer (some ⟨wc.heap.size + 1, 0, none⟩)) := by
 have hs : w.heap.size ≤ wc.heap.size := by have := hg.size; simp at this; omega
 have hb : Below w.heap.size w wc := (((Below.refl w.heap.size w).alloc (Nat.le_refl _) _)).trans ⟨hg.os, hg.tape, hg.output, hg.size, fun k hk => hg.block k (by simp; omega) (by simp)⟩
 have hlo := (lows_own (n := n) (B := w.heap.size) (fun _ => 0) w (Nat.le_refl _) hn).drew.kept hg (none_or _)
 refine made_core hR hl (((own_base ho (by simp)).alloc _).alloc _) ((hlo.alloc _).alloc _) ((At.new wc _ _).alloc _) at_next ((hb.alloc hs _).alloc (by simp; omega) _) (by omega) (by omega)
theorem made_5 (hR : Rows w w.heap.size A RV G) (hl : RV.length = n) (hn : n ≤ 1099511627776) (ho : wc.ownsRow (w.alloc (.cells (lows n fun _ => 0).toArray 3)).drew.heap.size 28 1 rv n RV) (hg : (w.alloc (.cells (lows n fun _ => 0).toArray 3)).drew.grownBy wc none) :
  Made w ((wc.alloc (.cells #[.pointer (some ⟨wc.heap.size + 1, 0, none⟩)] 65)).alloc (.cells #[rv, .slice (some ⟨w.heap.size, 0, none⟩) n n, nilv, nilv, nilv] 68)) n G RV (.pointer (some ⟨wc.heap.size, 0, none⟩)) := by
 have hs : w.heap.size ≤ wc.heap.size := by have := hg.size; simp at this; omega
 have hb : Below w.heap.size w wc := (((Below.refl w.heap.size w).alloc (Nat.le_refl _) _)).trans ⟨hg.os, hg.tape, hg.output, hg.size, fun k hk => hg.block k (by simp; omega) (by simp)⟩
 have hlo := (lows_own (n := n) (B := w.heap.size) (fun _ => 0) w (Nat.le_refl _) hn).drew.kept hg (none_or _)
 refine made_core hR hl (((own_base ho (by simp)).alloc _).alloc _) ((hlo.alloc _).alloc _) at_next ((At.new wc _ _).alloc _) ((hb.alloc hs _).alloc (by simp; omega) _) (by omega) (by omega)
theorem made_6 (hR : Rows w w.heap.size A RV G) (hl : RV.length = n) (hn : n ≤ 1099511627776) (ho : wc.ownsRow ((w.alloc (.cells (lows n fun _ => 0).toArray 3)).alloc (.cells #[.pointer none] 65)).drew.heap.size 28 1 rv n RV) (hg : ((w.alloc (.cells (lows n fun _ => 0).toArray 3)).alloc (.cells #[.pointer none] 65)).drew.grownBy wc none) :
  Made w ((wc.setCell ⟨w.heap.size + 1, 0, none⟩ (.pointer (some ⟨wc.heap.size, 0, none⟩))).alloc (.cells #[rv, .slice (some ⟨w.heap.size, 0, none⟩) n n, nilv, nilv, nilv] 68)) n G RV (.pointer (some ⟨w.heap.size + 1, 0, none⟩)) := by
 have hs : w.heap.size ≤ wc.heap.size := by have := hg.size; simp at this; omega
 have hb : Below w.heap.size w wc := ((((Below.refl w.heap.size w).alloc (Nat.le_refl _) _).alloc (by simp) _)).trans ⟨hg.os, hg.tape, hg.output, hg.size, fun k hk => hg.block k (by simp; omega) (by simp)⟩
 have hlo := ((lows_own (n := n) (B := w.heap.size) (fun _ => 0) w (Nat.le_refl _) hn).alloc (.cells #[.pointer none] 65)).drew.kept hg (none_or _)
 have hv : At wc (w.heap.size + 1) 65 #[.pointer none] := ((at_next (W := w) (o := .cells (lows n fun _ => 0).toArray 3) (t := 65) (cs := #[.pointer none])).drew).grown hg (by simp)
 have hnew := At.new (wc.setCell ⟨w.heap.size + 1, 0, none⟩ (.pointer (some ⟨wc.heap.size, 0, none⟩))) 68 #[rv, .slice (some ⟨w.heap.size, 0, none⟩) n n, nilv, nilv, nilv]
 rw [World.size_setCell] at hnew
 refine made_core hR hl ((own_far (own_base ho (by simp; omega)) hv (by decide) _ _).alloc _) ((own_far hlo hv (by decide) _ _).alloc _) hnew (((hv.set 0 _).to (by simp)).alloc _) ((below_set hb (by simp) _).alloc (by simp; omega) _) (by omega) (by omega)
theorem made_7 (hR : Rows w w.heap.size A RV G) (hl : RV.length = n) (hn : n ≤ 1099511627776) (ho : wc.ownsRow (w.alloc (.cells #[.pointer none] 65)).drew.heap.size 28 1 rv n RV) (hg : (w.alloc (.cells #[.pointer none] 65)).drew.grownBy wc none) :
  Made w (((wc.setCell ⟨w.heap.size, 0, none⟩ (.pointer (some ⟨wc.heap.size + 1, 0, none⟩))).alloc (.cells (lows n fun _ => 0).toArray 3)).alloc (.cells #[rv, .slice (some ⟨wc.heap.size, 0, none⟩) n n, nilv, nilv, nilv] 68)) n G RV (.pointer (some ⟨w.heap.size, 0, none⟩)) := by
 have hs : w.heap.size ≤ wc.heap.size := by have := hg.size; simp at this; omega
 have hb : Below w.heap.size w wc := (((Below.refl w.heap.size w).alloc (Nat.le_refl _) _)).trans ⟨hg.os, hg.tape, hg.output, hg.size, fun k hk => hg.block k (by simp; omega) (by simp)⟩
 have hlo := lows_own (n := n) (B := w.heap.size) (fun _ => 0) (wc.setCell ⟨w.heap.size, 0, none⟩ (.pointer (some ⟨wc.heap.size + 1, 0, none⟩))) (by simp; omega) hn
 rw [World.size_setCell] at hlo
 have hv : At wc w.heap.size 65 #[.pointer none] := ((At.new w _ _).drew).grown hg (by simp)
 have hnew := at_next (W := wc.setCell ⟨w.heap.size, 0, none⟩ (.pointer (some ⟨wc.heap.size + 1, 0, none⟩))) (o := .cells (lows n fun _ => 0).toArray 3) (t := 68) (cs := #[rv, .slice (some ⟨wc.heap.size, 0, none⟩) n n, nilv, nilv, nilv])
 rw [World.size_setCell] at hnew
 refine made_core hR hl (((own_far (own_base ho (by simp)) hv (by decide) _ _).alloc _).alloc _) (hlo.alloc _) hnew ((((hv.set 0 _).to (by simp)).alloc _).alloc _) (((below_set hb (by simp) _).alloc (by simp; omega) _).alloc (by simp; omega) _) (by omega) (by omega)
theorem made_8 (hR : Rows w w.heap.size A RV G) (hl : RV.length = n) (hn : n ≤ 1099511627776) (ho : wc.ownsRow ((w.alloc (.cells #[.pointer none] 65)).alloc (.cells (lows n fun _ => 0).toArray 3)).drew.heap.size 28 1 rv n RV) (hg : ((w.alloc (.cells #[.pointer none] 65)).alloc (.cells (lows n fun _ => 0).toArray 3)).drew.grownBy wc none) :
  Made w ((wc.setCell ⟨w.heap.size, 0, none⟩ (.pointer (some ⟨wc.heap.size, 0, none⟩))).alloc (.cells #[rv, .slice (some ⟨w.heap.size + 1, 0, none⟩) n n, nilv, nilv, nilv] 68)) n G RV (.pointer (some ⟨w.heap.size, 0, none⟩)) := by
 have hs : w.heap.size ≤ wc.heap.size := by have := hg.size; simp at this; omega
 have hb : Below w.heap.size w wc := ((((Below.refl w.heap.size w).alloc (Nat.le_refl _) _).alloc (by simp) _)).trans ⟨hg.os, hg.tape, hg.output, hg.size, fun k hk => hg.block k (by simp; omega) (by simp)⟩
 have hlo' := lows_own (n := n) (B := w.heap.size) (fun _ => 0) (w.alloc (.cells #[.pointer none] 65)) (by simp) hn
 rw [World.size_alloc] at hlo'
 have hlo := hlo'.drew.kept hg (none_or _)
 have hv : At wc w.heap.size 65 #[.pointer none] := (((At.new w _ _).alloc _).drew).grown hg (by simp)
 have hnew := At.new (wc.setCell ⟨w.heap.size, 0, none⟩ (.pointer (some ⟨wc.heap.size, 0, none⟩))) 68 #[rv, .slice (some ⟨w.heap.size + 1, 0, none⟩) n n, nilv, nilv, nilv]
 rw [World.size_setCell] at hnew
 refine made_core hR hl ((own_far (own_base ho (by simp; omega)) hv (by decide) _ _).alloc _) ((own_far hlo hv (by decide) _ _).alloc _) hnew (((hv.set 0 _).to (by simp)).alloc _) ((below_set hb (by simp) _).alloc (by simp; omega) _) (by omega) (by omega)
end
theorem Went.drew {G : Nat → List Int} {B g bw bt n : Nat} {rv lv : Value} {w w' : World} {s : Dg.St} (h : Went G B g bw bt n rv lv w w' s) : Went G B g bw bt n rv lv w w'.drew s := by
 obtain ⟨wv, pv, qv, RV, PV, hW⟩ := h.mem.ex
 exact ⟨h.inv, ⟨⟨wv, pv, qv, RV, PV, Wk.drew hW⟩⟩, below_drew h.below, h.spares.drew, ⟨h.boxes.walk.drew, h.boxes.fn.drew⟩⟩
def SeenTo (s : Dg.St) (k : Nat) : Prop := ∀ v, v < k → s.low v ≠ 0
theorem SeenTo.mono {s s' : Dg.St} {k : Nat} (h : SeenTo s k) (hm : Dg.Mono s s') : SeenTo s' k := fun v hv => hm v (h v hv)
theorem seen_enter {s : Dg.St} {x : Nat} (h : SeenTo s x) : SeenTo (Dg.enter s x) (x + 1) := fun v hv => by
 by_cases he : v = x
 ·subst he
  show Dg.upd s.low v (s.wait.length + 1) v ≠ 0
  rw [Dg.upd_self]; omega
 ·exact Dg.mono_enter s x v (h v (by omega))
theorem seen_next {s : Dg.St} {x : Nat} (h : SeenTo s x) (h0 : s.low x ≠ 0) : SeenTo s (x + 1) := fun v hv => by
 by_cases he : v = x
 ·subst he; exact h0
 ·exact h v (by omega)
set_option maxHeartbeats 8000000 in
theorem parts_run (A : Option Addr) (n c : Nat) (RV : List Value) (G : Nat → List Int) (w : World) (hR : Rows w w.heap.size A RV G) (hl : RV.length = n) (hn : n ≤ 1099511627776) :
  Calls Tryd.prog 28 #[.slice A n c] w fun e w' => ∃ v PV ps, e = .returned v ∧ Dg.Parted G n ps ∧ PartsAt w' w.heap.size v PV ps ∧ Below w.heap.size w w' := by
 have KR := Lib.hid hR
 have hlies : ∀ W, Below w.heap.size w W → Lies W A RV := fun W hb => (KR.out.below hb).at_
 have KL := Lib.hid hlies
 have hmk := fun wx => run_make_ints n hn wx
 clear hR hlies
 go_enter Tryd.func28, Tryd.ntmps28
 go_upto_region 1 with (fail)
 go_cut [3] (fun s3 wx => Made w wx n G RV s3)
 case first =>
  go_region_with (go_at_call 44; (with_reducible refine (clone_rows A n c RV _ hl (KL.out _ (by repeat (first | exact Below.refl _ _ | refine below_drew ?_ | refine Below.alloc ?_ (by first | exact Nat.le_refl _ | (simp; done) | (simp; omega)) _))) KR.out.one hn).mono ?_); rintro e wc ⟨v, rfl, ho, hg⟩; obtain ⟨va, vc, rfl, _⟩ := own_slice ho; revert hg; (first | (with_reducible refine made1' (fun hg q1 q2 q3 => ?_); (try simp only [World.size_alloc] at q1 q2 q3)) | (with_reducible refine made2' (fun hg q1 q2 q3 => ?_); (try simp only [World.size_alloc] at q1 q2 q3)) | (intro hg)))
  all_goals
   go_wp2_with fail
   go_meet
   case rel => first | exact made_1 KR.out hl hn ho hg | exact made_2 KR.out hl hn ho hg | exact made_3 KR.out hl hn ho hg | exact made_4 KR.out hl hn ho hg | exact made_5 KR.out hl hn ho hg | exact made_6 KR.out hl hn ho hg | exact made_7 KR.out hl hn ho hg | exact made_8 KR.out hl hn ho hg
 case rest =>
  obtain ⟨g, bw, rv, lv, rfl, hbw, hW, hB, hge⟩ := hcut.ex
  clear hcut
  have KW := Lib.hid hW
  have KB := Lib.hid hB
  have Kbw := Lib.hid hbw
  have cb := hbw.cell 0
  simp at cb
  clear hbw hW hB hmk
  go_wp2_with fail
  have hB0 : w.heap.size ≤ wc.heap.size := KB.out.size
  have hK0 : Went G w.heap.size g bw wc.heap.size n rv lv (wc.alloc (.cells #[.func (.func 45) #[] #[.pointer (some ⟨bw, 0, none⟩), .pointer (some ⟨wc.heap.size, 0, none⟩)]] 69)) (wc.alloc (.cells #[.func (.func 45) #[] #[.pointer (some ⟨bw, 0, none⟩), .pointer (some ⟨wc.heap.size, 0, none⟩)]] 69)) ⟨[], fun _ => 0, fun _ => [], G, []⟩ :=
   ⟨Dg.Inv.start G n, ⟨⟨_, _, _, _, _, KW.out.alloc hB0 _⟩⟩, Below.refl _ _, Spares.refl _ _, ⟨Kbw.out.alloc _, At.new _ _ _⟩⟩
  have hKB : Below w.heap.size w (wc.alloc (.cells #[.func (.func 45) #[] #[.pointer (some ⟨bw, 0, none⟩), .pointer (some ⟨wc.heap.size, 0, none⟩)]] 69)) := KB.out.alloc hB0 _
  obtain ⟨W1, hW1⟩ : ∃ W, W = wc.alloc (.cells #[.func (.func 45) #[] #[.pointer (some ⟨bw, 0, none⟩), .pointer (some ⟨wc.heap.size, 0, none⟩)]] 69) := ⟨_, rfl⟩
  rw [← hW1] at hK0 hKB ⊢
  have K0 := Lib.hid hK0
  have KB1 := Lib.hid hKB
  obtain ⟨bt, hbt⟩ : ∃ bt, bt = wc.heap.size := ⟨_, rfl⟩
  rw [← hbt] at K0 ⊢
  clear hK0 hKB hW1 cb KW KB Kbw hB0 hbt
  go_loopg [16] n (fun q i wr => ∃ (k : Nat) (s : Dg.St), i = .int .i64 (k : Int) ∧ k ≤ n ∧ q = n - k ∧ Went G w.heap.size g bw bt n rv lv W1 wr s ∧ s.segs = [] ∧ SeenTo s k)
  case atStart => exact ⟨0, _, rfl, by omega, by omega, K0.out, rfl, fun v hv => by omega⟩
  case round =>
   obtain ⟨k, s, rfl, hk, hq, hW, hsg, hse⟩ := hrel
   have K := Lib.hid hW
   have KS := Lib.hid hsg
   have KE := Lib.hid hse
   have Kq := Lib.hid hq
   have e0 := hW.boxes.walk.cell 0
   simp at e0
   obtain ⟨wv, pv, qv, RV', PV', hWk⟩ := hW.mem.ex
   have KWk := Lib.hid hWk
   by_cases hlt : k < n
   ·obtain ⟨L, cL, hlv, hcL, hbL⟩ := own_pos hWk.low (by omega)
    have c1 := hWk.at_.cell 1
    have clow := hWk.low
    rw [hlv] at clow c1
    have ck : wr.cell? ⟨L, k, none⟩ = some (.int .i64 (s.low k : Int)) := by rw [clow.cellAt k (by omega), lows_get _ hlt]
    have q1 : (0 : Int) ≤ (k : Int) := by omega
    have q2 : (k : Int) < (n : Int) := by omega
    have q3 : ((k : Int)).toNat = k := by omega
    simp at c1
    have Klv := Lib.hid hlv
    clear hW hsg hse hq hWk clow hlv
    rcases Nat.eq_zero_or_pos (s.low k) with h0 | h0
    have hI1 : Dg.Inv G n (Dg.enter s k) := K.out.inv.enter hlt h0 (.inl KS.out)
    have henter := Lib.hid (enter_went G w.heap.size g bw bt n s rv lv k W1 wr K.out hn hlt hI1)
    have KS1 := Lib.hid (seen_enter KE.out (x := k))
    rw [h0] at ck
    clear hI1 h0
    go_wp2_with fail
    refine henter.out.mono ?_
    rintro e wq ⟨rfl, hW1⟩
    obtain ⟨s1, hs1⟩ : ∃ s1, s1 = Dg.enter s k := ⟨_, rfl⟩
    rw [← hs1] at hW1 KS1
    have K1 := Lib.hid hW1
    clear hW1 henter c1 ck e0 hs1
    go_wp2_with fail
    rotate_left
    have hne : ((s.low k : Int) == 0) = false := by simp; omega
    have KS1 := Lib.hid (seen_next KE.out (x := k) (by omega))
    clear h0
    go_wp2_with fail
    clear c1 ck e0 hne
    generalize (((s.low k : Nat) : Int) == 0) = tb
    obtain ⟨wq, hwq⟩ : ∃ wq : World, wq = wr := ⟨_, rfl⟩
    rw [← hwq] at K ⊢
    obtain ⟨s1, hs1⟩ : ∃ s1, s1 = s := ⟨_, rfl⟩
    rw [← hs1] at K KS1
    have K1 := K
    clear hs1 hwq K
    all_goals
     go_loopg [35] (s1.left n) (fun q t35 wx => ∃ s2 : Dg.St, Went G w.heap.size g bw bt n rv lv W1 wx s2 ∧ SeenTo s2 (k + 1) ∧ s2.left n = q)
     case atStart => exact ⟨s1, K1.out, KS1.out, rfl⟩
     case round =>
      obtain ⟨s2, hW2, hS2, hq2⟩ := hrel
      have K2 := Lib.hid hW2
      have KS2 := Lib.hid hS2
      have Kq2 := Lib.hid hq2
      have f0 := hW2.boxes.walk.cell 0
      have f1 := hW2.boxes.fn.cell 0
      obtain ⟨wv2, pv2, qv2, RV2, PV2, hWk2⟩ := hW2.mem.ex
      have c3 := hWk2.at_.cell 3
      have hpath := hWk2.path
      rw [valsOf_len] at hpath
      simp at f0 f1 c3
      rcases List.eq_nil_or_concat s2.path with hp | ⟨P, p, hp⟩
      ·have hsg2 : s2.segs = [] := by
        have : s2.path = [] := hp
        simpa [Dg.St.path] using this
       rw [hp] at hpath
       obtain ⟨a2, c2, rfl, _⟩ := own_slice hpath
       simp only [List.length_nil] at c3
       clear hpath hW2 hS2 hq2 hWk2 f1 hp
       go_wp2_with fail
       go_roundg (n - (k + 1))
       case measure => have := Kq.out; omega
       case rel => exact ⟨k + 1, s2, by go_num, by omega, rfl, K2.out, hsg2, KS2.out⟩
      ·rw [List.concat_eq_append] at hp
       obtain ⟨S, o, hs2, _⟩ := segs_last hp
       obtain ⟨m, hm⟩ : ∃ m, P.length = m := ⟨_, rfl⟩
       have hlen : s2.path.length = m + 1 := by rw [hp]; simp [hm]
       rw [hlen] at hpath
       obtain ⟨P0, cP, rfl, hcP, hbP⟩ := own_pos hpath (by omega)
       have cp : wr.cell? ⟨P0, m, none⟩ = some (.int .i64 (p : Int)) := by
        rw [hpath.cellAt m (by omega), hp, valsOf_get (x := p)]
        rw [List.getElem?_append_right (by omega)]; simp [hm]
       have hth := through_any G w.heap.size g bw bt n rv lv hn W1 (s2.left n) s2 S p o 0 wr.drew (Nat.le_refl _) K2.out.drew hs2 (by omega)
       rw [show ((0 : Nat) : Int) = 0 from rfl] at hth
       have KT := Lib.hid hth
       have m1 : (0 : Int) ≤ (m : Int) := by omega
       have m2 : (m : Int) < (m : Int) + 1 := by omega
       have m3 : ((m : Int)).toNat = m := by omega
       have m4 : m < 1099511627777 := by
        have h1 := path_le s2.segs
        have h2 : s2.segs.length = m + 1 := by rw [← hlen]; simp [Dg.St.path]
        have h3 : (Dg.flat s2.segs).length = s2.wait.length := rfl
        have h4 := K2.out.inv.wait_len
        omega
       have hwm : IntKind.i64.wrap (m : Int) = (m : Int) := by rw [IntKind.wrap_i64]; omega
       clear hpath hW2 hS2 hq2 hWk2 hp hs2 hth hm hlen
       go_wp2_with fail
       go_still_tail 13, (by kernel_rfl)
       change wpList _ _ _ _ _ wr.drew
       go_wp2_with fail
       refine KT.out.mono ?_
       rintro e w5 ⟨b5, s5, rfl, hW5, hl5, hm5, _⟩
       have K5 := Lib.hid hW5
       have KL5 := Lib.hid hl5
       have KM5 := Lib.hid hm5
       clear hW5 hl5 hm5 hwm
       go_wp2_with fail
       go_roundg (s5.left n)
       case measure => have := KL5.out; have := Kq2.out; omega
       case rel => exact ⟨s5, K5.out, KS2.out.mono KM5.out, rfl⟩
   ·obtain rfl : k = n := by omega
    have d4 := hWk.at_.cell 4
    simp at d4
    clear hW hsg hse hq hWk
    go_wp2_with fail
    go_ret
    exact ⟨_, PV', s.parts, rfl, K.out.inv.parted KS.out KE.out, ⟨KWk.out.parts, KWk.out.plen, KWk.out.each, KWk.out.a5⟩, KB1.out.trans K.out.below⟩
end Go.Proofs.YtdlplmbdkjkeiaaDoor
