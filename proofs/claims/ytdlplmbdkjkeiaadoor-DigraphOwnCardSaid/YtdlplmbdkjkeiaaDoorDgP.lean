import Derived.Test.YtdlplmbdkjkeiaaDoorDgO
namespace Go.Proofs.YtdlplmbdkjkeiaaDoor
set_option maxRecDepth 100000
open Go.RowKit
open BitKit
set_option linter.unusedVariables false
set_option linter.unusedSimpArgs false
theorem Solved.spares {w w' : World} {ts : List TypeId} {B n k : Nat} {lv : Value} {LV : List Value} {Wd : Nat → Nat} {Q : Nat → Nat → Prop} {Bl : Nat → Nat} {Ss : Nat → Nat → Bool} (h : Solved w B n k lv LV Wd Q Bl Ss) (hs : Spares ts w w') (h1 : 64 ∉ ts) (h2 : 37 ∉ ts) : Solved w' B n k lv LV Wd Q Bl Ss :=
 ⟨own_spares h.row hs h2, fun x hx => ⟨(h.each x hx).1, (h.each x hx).2.1, (h.each x hx).2.2.spares hs h1⟩, h.tells, h.rises⟩
def lists (Ss : Nat → Nat → Bool) (n : Nat) : List (List Int) := (List.range n).map fun i => all (Ss i)
theorem lists_length (Ss : Nat → Nat → Bool) (n : Nat) : (lists Ss n).length = n := by simp [lists]
theorem lists_get (Ss : Nat → Nat → Bool) {n i : Nat} (h : i < n) : (lists Ss n)[i]? = some (all (Ss i)) := by simp [lists, h]
structure Outs (w : World) (B k : Nat) (v : Value) (OV : List Value) (Ss : Nat → Nat → Bool) : Prop where
 own : w.ownsRow B 28 1 v k OV
 each : ∀ i, i < k → ∃ u, OV[i]? = some u ∧ w.ownsRow B 3 1 u (all (Ss i)).length (vals (all (Ss i)))
set_option maxHeartbeats 8000000 in
theorem solved_any (v v' : Value) (E Bs : List (List Int)) (wide : Int) (w : World) (hE : RowsL w v E) (hB : RowsL w v' Bs) (hn : Bs.length ≤ 1099511627776) (hT : Tab w) (hg0 : 0 < w.heap.size) :
  Calls Tryd.prog 11 #[v, v', .int .i64 wide] w fun e w' => ∃ u Ss, e = .returned (.tuple #[u, .bool true]) ∧ (∀ i, i < Bs.length → ∀ y, Ss i y = true ↔ y < held wide ∧ Dg.Up (fnL E) Bs.length (bas wide Bs) i y) ∧
   RowsL w' u (lists Ss Bs.length) ∧ Below w.heap.size w w' := by
 have KE := Lib.hid hE
 have KB := Lib.hid hB
 have KT := Lib.hid hT
 obtain ⟨i0, hi, hz0, hz1, hz2⟩ := info_parts Tryd.infoRow
 obtain ⟨A, c, rfl⟩ := hB.shape
 obtain ⟨AE, cE, RE, rfl, hRl, hRE⟩ := hE.ex
 have KRE := Lib.hid (And.intro hRl hRE)
 have hsets := Lib.hid (sets_any (.slice A Bs.length c) Bs wide w hB hn)
 clear hE hB hT hRl hRE
 go_enter Tryd.func11, Tryd.ntmps11
 go_wp2_with fail
 refine hsets.out.mono ?_
 rintro e w1 ⟨A2, c2, Bl, rfl, hBase, _, _, _, hb1⟩
 have hsz1 := hb1.size
 have Kb1 := Lib.hid hb1
 have hsolve := Lib.hid (solve_run AE E.length cE RE (fnL E) Bs.length A2 c2 Bl (fun _ => held wide) (bas wide Bs) w1 ((KRE.out.2.below hb1).wide hsz1) KRE.out.1 (fun i hi => by unfold fnL; rw [List.getD, List.getElem?_eq_none hi]; rfl) hn hBase)
 clear hBase hb1 hsets
 go_wp2_with fail
 refine hsolve.out.mono ?_
 rintro e w2 ⟨L, cL, LV, Bl2, Ss, rfl, hSo, hb2⟩
 have hsz2 := hb2.size
 have KSo := Lib.hid hSo
 have Kb2 := Lib.hid (Kb1.out.trans (below_le hb2 hsz1))
 clear hSo hb2 hsolve
 go_wp2_with fail
 go_loopg [9, 10] Bs.length (fun q t9 t10 wr => ∃ (k : Nat) (OV : List Value), t10 = .int .i64 (k : Int) ∧ k ≤ Bs.length ∧ q = Bs.length - k ∧ Outs wr w.heap.size k t9 OV Ss ∧ Below w.heap.size w wr ∧ Spares [3, 28] w2 wr)
 case atStart => exact ⟨0, [], rfl, by omega, by omega, ⟨World.ownsRow_nil _ _ _ _, (fun i hi => absurd hi (by omega))⟩, Kb2.out, Spares.refl _ _⟩
 case round =>
  obtain ⟨k, OV, rfl, hk, hq, hO, hBe, hSp⟩ := hrel
  have KO := Lib.hid hO
  have KBe := Lib.hid hBe
  have KSp := Lib.hid hSp
  have Kq := Lib.hid hq
  have hBr : w.heap.size ≤ wr.heap.size := hBe.size
  obtain ⟨ao, co, rfl, _⟩ := own_slice hO.own
  have hSo := KSo.out.spares hSp (by decide) (by decide)
  clear hO hBe hSp hq
  by_cases hlt : k < Bs.length
  ·obtain ⟨h1, h2, h3⟩ := hSo.each k hlt
   have cl : wr.cell? ⟨L, k, none⟩ = some (.pointer (some ⟨Bl2 k, 0, none⟩)) := by rw [hSo.row.cellAt k (by omega), h1]
   have q1 : (0 : Int) ≤ (k : Int) := by omega
   have q2 : (k : Int) < (Bs.length : Int) := by omega
   have q3 : ((k : Int)).toNat = k := by omega
   have hlist := Lib.hid (list_any (Bl2 k) (held wide) (Ss k) wr h3 (KT.out.below KBe.out hg0) (by omega))
   clear hSo h1 h2 h3
   go_wp2_with fail
   refine hlist.out.mono ?_
   rintro e w3 ⟨u, rfl, hu, hb3⟩
   rw [valsOf_ints] at hu
   have hu' : w3.ownsRow w.heap.size 3 1 u (all (Ss k)).length (vals (all (Ss k))) := by
    have h1 := hu.1
    rw [vals_length, Nat.mul_one] at h1
    have h2 : (all (Ss k)).length = cnt (Ss k) 1024 := h1
    rw [h2]
    exact own_base hu hBr
   obtain ⟨au, cu, rfl, _⟩ := own_slice hu'
   have hsz3 := hb3.size
   have Ku := Lib.hid hu'
   have Kb3 := Lib.hid hb3
   have KO3 := Lib.hid (show Outs w3 w.heap.size k (.slice ao k co) OV Ss from ⟨KO.out.own.kept (below_grown hb3) (none_or _), fun i hi => by
    obtain ⟨u, e1, e2⟩ := KO.out.each i hi
    exact ⟨u, e1, e2.kept (below_grown hb3) (none_or _)⟩⟩)
   clear hu hu' hb3 hlist cl
   go_wp2_with (at_builtin; refine wpList_append_own2 _ rfl (.tmp 32) (.tmp 38) 22 rfl w.heap.size 28 i0 _ 1 24 Tryd.underlying22 hi hz0 hz1 hz2 rfl (by decide) (.slice ao k co) k OV rfl (KO3.out.own.alloc _) ⟨w3.heap.size, 0, none⟩ 1 1 [.slice au (all (Ss k)).length cu] rfl rfl (cell_one_new _ _ _) (by simp [Value.oneCell']) (by unfold maxLen; omega) (by omega) (by simp; omega) ?_; intro v' w4 hown hgrow hsn)
   obtain ⟨a4, c4, rfl, _⟩ := own_slice hown
   have hkeep : ∀ {x : Value} {m : Nat} {xs : List Value}, w3.ownsRow w.heap.size 3 1 x m xs → w4.ownsRow w.heap.size 3 1 x m xs := fun h => (h.alloc _).kept hgrow (ap_or (ap_type h KO3.out.own (by decide)))
   have hsp4 : Spares [3, 28] w2 w4 := ((KSp.out.trans (spares_below Kb3.out)).alloc _).grown (KO3.out.own.alloc _) hgrow (by decide)
   have hBe4 : Below w.heap.size w w4 := ((KBe.out.trans (below_le Kb3.out hBr)).alloc (by omega) _).grown hgrow (by simp; omega) (fun q hq => (KO3.out.own.lt q hq).1)
   have hO4 : Outs w4 w.heap.size (k + 1) (.slice a4 (k + 1) c4) (OV ++ [.slice au (all (Ss k)).length cu]) Ss := ⟨hown, fun i hi => by
    have hl : OV.length = k := by have := KO3.out.own.1; omega
    by_cases he : i = k
    ·subst he
     exact ⟨_, by rw [List.getElem?_append_right (by omega), hl]; simp, hkeep Ku.out⟩
    ·obtain ⟨x, e1, e2⟩ := KO3.out.each i (by omega)
     exact ⟨x, by rw [List.getElem?_append_left (by omega)]; exact e1, hkeep e2⟩⟩
   have KO4 := Lib.hid hO4
   have KBe4 := Lib.hid hBe4
   have Ksp4 := Lib.hid hsp4
   clear hown hgrow hsn hkeep hsp4 hBe4 hO4
   go_wp2_with fail
   go_roundg (Bs.length - (k + 1))
   case measure => have := Kq.out; omega
   case rel => exact ⟨k + 1, _, by go_num, by omega, rfl, KO4.out, KBe4.out, Ksp4.out⟩
  ·obtain rfl : k = Bs.length := by omega
   clear hSo
   go_wp2_with fail
   go_ret2
   refine ⟨_, Ss, rfl, KSo.out.tells, ?_, KBe.out⟩
   have hl : OV.length = Bs.length := by have := KO.out.own.1; omega
   refine RowsL.own (B := w.heap.size) (PV := OV) (by rw [hl]; exact KO.out.own) (by rw [hl, lists_length]) (fun i l x h1 h2 => ?_)
   have hlt2 : i < Bs.length := by have := (List.getElem?_eq_some_iff.1 h1).1; rwa [lists_length] at this
   rw [lists_get Ss hlt2] at h1
   injection h1 with h1
   subst h1
   obtain ⟨x', e1, e2⟩ := KO.out.each i hlt2
   rw [h2] at e1
   injection e1 with e1
   subst e1
   exact RowIn.own e2 (mem_small _)
end Go.Proofs.YtdlplmbdkjkeiaaDoor
