/-
  The walks of slices.Backward at ints, and names.last, which ranges over it.
-/
import Derived.Test.YtpgmapjjjpcmfaaGreatDoorNmF
import Derived.RangeFuncWrites
import Derived.RangeFuncBox
import Derived.RangeFuncLeaves
import Derived.RangeFuncNested
import Derived.RangeFuncCalls
import Derived.RangeFuncBound
import Derived.Shelf.Abstract
import Derived.Shelf.RegionOpen
import Derived.OwnWalkIn
import Derived.LoopIn
namespace Go.Proofs.YtpgmapjjjpcmfaaGreatDoor
open Go.RowKit Go.Shelf
open Lx
set_option linter.unusedVariables false
set_option linter.unusedSimpArgs false
set_option maxRecDepth 100000

/-! ## slices.Backward -/
def dn (N m : Nat) : List Nat := (List.range m).map (fun j => N - 1 - j)
theorem dn_succ (N m : Nat) : dn N (m + 1) = dn N m ++ [N - 1 - m] := by simp [dn, List.range_succ]
theorem dn_len (N m : Nat) : (dn N m).length = m := by simp [dn]
theorem dn_mem {N m k : Nat} (h : k < N) (hk : N - m ≤ k) (hm : m ≤ N) : k ∈ dn N m := by
  unfold dn
  refine List.mem_map.2 ⟨N - 1 - k, ?_, by omega⟩
  rw [List.mem_range]; omega
def atB (R : List Int) (k : Nat) : Int := R.getD k 0
def encB (R : List Int) (k : Nat) : Array Value := #[.int .i64 (k : Int), .int .i64 (atB R k)]

theorem backward_any (A : Option Addr) (n c : Nat) (w : World) :
    Calls Tryz.prog 105 #[.slice A n c] w fun e w' => e = .returned (.func (.func 123) #[] #[.pointer (some ⟨w.heap.size, 0, none⟩)]) ∧ w' = w.alloc (.cells #[.slice A n c] 43) := by
  have hmf : ∀ (fn : Fn) (first cap : Array Value) (w : World), (Instr.makeFunc fn first cap).run Tryz.prog w = .ok (.func fn first cap) w := fun _ _ _ _ => rfl
  go_enter Tryz.func105, Tryz.ntmps105
  go_wp2_with fail
  go_ret
  exact ⟨rfl, rfl⟩

attribute [local go_sem] Oper.semAt_some

set_option maxHeartbeats 4000000 in
theorem back_in (n : Nat) (hn : 1 ≤ n) (l Bs n₀ : Nat) (hBs : Bs < n₀) (R : List Int) (A : Option Addr) (c : Nat) (J Jx : List Nat → World → Prop)
    (hY : ∀ pre x W, J pre W → pre.length < R.length → YieldAt Fence.wide (n - 1) Tryz.prog l (encB R x) W fun e W' =>
      (e = .returned (.bool true) ∧ J (pre ++ [x]) W' ∧ Below n₀ W W') ∨ (e = .returned (.bool false) ∧ Jx (pre ++ [x]) W'))
    (W : World) (hB : W.cell? ⟨Bs, 0, none⟩ = some (.slice A R.length c)) (hC : Cl W n₀ A (vals R)) (hN : R.length ≤ 1000000) (hJ : J [] W) :
    CallsIn Fence.wide n Tryz.prog 123 #[.func (.yield l) #[] #[], .pointer (some ⟨Bs, 0, none⟩)] W fun e W' => (∃ v, e = .returned v) ∧
      ((∃ ys, ys = dn R.length R.length ∧ J ys W') ∨ (∃ pre, (∃ m, m < R.length ∧ pre = dn R.length (m + 1)) ∧ Jx pre W')) := by
  obtain ⟨N, hNN⟩ : ∃ N, R.length = N := ⟨_, rfl⟩
  rw [hNN] at hB hN hY ⊢
  have HNN := Lib.hid hNN
  have HC := Lib.hid hC
  have HB := Lib.hid hB
  have HY := Lib.hid hY
  have HJ := Lib.hid hJ
  clear hC hNN hY hJ
  refine callsIn_of_wp Tryz.func123 rfl trivial ?_ rfl
  simp only [Tryz.ntmps123, List.size_toArray, List.length_cons, List.length_nil, Nat.reduceAdd, Nat.reduceSub, Array.replicate_succ, Array.replicate_zero, List.push_toArray, List.append_toArray, List.nil_append, List.cons_append]
  gi_wp2_with fail
  clear hB
  gi_loopw [3] (fun v wr => ∃ m : Nat, m ≤ N ∧ v = .int .i64 ((N : Int) - 1 - (m : Int)) ∧ Below n₀ W wr ∧ J (dn N m) wr) (fun v _ => (intOf v + 1).toNat)
  case atStart => exact ⟨0, by omega, by simp, Below.refl _ _, HJ.out⟩
  case round =>
    obtain ⟨m, hm, rfl, hb, hj⟩ := hrel
    have HBW := Lib.hid hb
    have HJR := Lib.hid hj
    clear hb hj
    by_cases hlt : m < N
    · obtain ⟨x, hx⟩ := some_get (l := R) (i := N - 1 - m) (by rw [HNN.out]; omega)
      obtain ⟨b, o, hA, hbl, hcell⟩ := (HC.out.below HBW.out).ex (fun e => by
        have h1 := vals_get hx
        rw [e] at h1; simp at h1)
      subst hA
      obtain ⟨k, hk⟩ : ∃ k : Nat, N - 1 - m = k := ⟨_, rfl⟩
      rw [hk] at hx
      have y0 : wr.cell? ⟨b, o + k, none⟩ = some (.int .i64 x) := hcell _ _ (vals_get hx)
      have b0 : wr.cell? ⟨Bs, 0, none⟩ = some (.slice (some ⟨b, o, none⟩) N c) := (HBW.out.cell (p := ⟨Bs, 0, none⟩) hBs).trans HB.out
      have hki : (N : Int) - 1 - (m : Int) = (k : Int) := by omega
      have hk0 : (0 : Int) ≤ (k : Int) := by omega
      have hk1 : (k : Int) < (N : Int) := by omega
      have hgd : atB R k = x := by unfold atB; simp [List.getD, hx]
      obtain ⟨fn, tmps, assign, body, hy, hR⟩ := HY.out (dn N m) k wr HJR.out (by rw [dn_len]; exact hlt)
      unfold encB at hy
      rw [hgd] at hy
      have HDS := Lib.hid (dn_succ N m)
      rw [hk] at HDS
      have HHK := Lib.hid hk
      rw [hki]
      clear hx hcell hgd
      gi_wp2_with fail
      refine hR.mono ?_
      clear hR hy
      rintro e W3 (⟨rfl, hJ3, hk3⟩ | ⟨rfl, hJx3⟩)
      · have HJ3 := Lib.hid hJ3
        have HK3 := Lib.hid (HBW.out.trans hk3)
        clear hJ3 hk3
        gi_wp2_with fail
        go_roundw
        case rel => exact ⟨m + 1, by omega, by go_num, HK3.out, by rw [HDS.out]; exact HJ3.out⟩
        case measure => simp [intOf] <;> omega
      · have HX := Lib.hid hJx3
        clear hJx3
        gi_wp2_with fail
        refine bodyPost_ret (results_none rfl _ _ _) rfl ?_
        exact ⟨⟨_, rfl⟩, .inr ⟨dn N m ++ [k], ⟨m, hlt, HDS.out.symm⟩, HX.out⟩⟩
    · obtain rfl : N = m := by omega
      have hneg : ¬ (0 : Int) ≤ (N : Int) - 1 - (N : Int) := by omega
      gi_wp2_with fail
      go_end0
      first | exact ⟨⟨_, rfl⟩, .inl ⟨_, rfl, HJR.out⟩⟩ | exact ⟨⟨_, rfl⟩, .inl HJR.out⟩
theorem back_stops (n : Nat) (hn : 1 ≤ n) (Bs n₀ : Nat) (hBs : Bs < n₀) (R : List Int) (A : Option Addr) (c : Nat) (w : World) (hw : n₀ ≤ w.heap.size) (hB : w.cell? ⟨Bs, 0, none⟩ = some (.slice A R.length c)) (hC : Cl w n₀ A (vals R)) (hN : R.length ≤ 1000000) :
    SeqStopsK Fence.wide n Tryz.prog 123 #[.pointer (some ⟨Bs, 0, none⟩)] (encB R) (Below n₀) (fun ys => ys = dn R.length R.length) (fun pre => ∃ m, m < R.length ∧ pre = dn R.length (m + 1)) R.length w :=
  fun l J Jx W hW _ _ hY hJ => back_in n hn l Bs n₀ hBs R A c J Jx hY W ((hW.cell (p := ⟨Bs, 0, none⟩) (by show Bs < _; omega)).trans hB) (hC.below (hW.mono hw)) hN hJ

namespace Nm
theorem lastL_skip (L : List Int) : ∀ (r : List Int) (a : Int), (∀ s ∈ r, ¬ (0 ≤ s ∧ s < (L.length : Int))) → r.foldl (fun a s => if 0 ≤ s ∧ s < (L.length : Int) then L.getD s.toNat 0 else a) a = a
  | [], a, _ => rfl
  | s :: r, a, h => by
    rw [List.foldl_cons, if_neg (h s (by simp))]
    exact lastL_skip L r a (fun t ht => h t (by simp [ht]))
theorem lastL_at {L R : List Int} {y : Nat} (hy : y < R.length) (ht : 0 ≤ R.getD y 0 ∧ R.getD y 0 < (L.length : Int)) (h : ∀ k, y < k → k < R.length → ¬ (0 ≤ R.getD k 0 ∧ R.getD k 0 < (L.length : Int))) : lastL L R = L.getD (R.getD y 0).toNat 0 := by
  unfold lastL
  have e : R = R.take y ++ (R.getD y 0 :: R.drop (y + 1)) := by
    have : R.getD y 0 = R[y] := by simp [List.getD, List.getElem?_eq_getElem hy]
    rw [this, List.getElem_cons_drop, List.take_append_drop]
  have h2 : ∀ s ∈ R.drop (y + 1), ¬ (0 ≤ s ∧ s < (L.length : Int)) := fun s hs => by
    obtain ⟨j, hj, rfl⟩ := List.mem_iff_getElem.1 hs
    rw [List.length_drop] at hj
    have h3 := h (y + 1 + j) (by omega) (by omega)
    have e3 : R.getD (y + 1 + j) 0 = (R.drop (y + 1))[j] := by
      rw [List.getElem_drop]; simp [List.getD, List.getElem?_eq_getElem (show y + 1 + j < R.length by omega)]
    rw [← e3]; exact h3
  generalize R.getD y 0 = s at ht e
  rw [e]
  rw [List.foldl_append, List.foldl_cons, if_pos ht]
  exact lastL_skip L _ _ h2
theorem lastL_none {L R : List Int} (h : ∀ k, k < R.length → ¬ (0 ≤ R.getD k 0 ∧ R.getD k 0 < (L.length : Int))) : lastL L R = 0 := by
  unfold lastL
  refine lastL_skip L R 0 fun s hs => ?_
  obtain ⟨j, hj, rfl⟩ := List.mem_iff_getElem.1 hs
  have := h j hj
  have e3 : R.getD j 0 = R[j] := by simp [List.getD, List.getElem?_eq_getElem hj]
  rw [← e3]; exact this
end Nm

theorem at_row {W : World} {g B : Nat} {t : TypeId} {cs : Array Value} {row : Option Nat} (h : At W g t cs) (hr : ∀ r, row = some r → B ≤ r ∧ ∃ o : Obj, W.heap[r]? = some o ∧ o.isCells = false) : some g ≠ row := by
  intro e
  obtain ⟨_, o, ho, hc⟩ := hr g e.symm
  unfold At at h
  rw [h] at ho; cases ho; cases hc
/-- Is a number a terminal's? -/
def isT (t : Nat) (s : Int) : Prop := 0 ≤ s ∧ s < (t : Int)
structure InLast (z : Nat) (w : World) (g0 g1 t : Nat) (pc : Array Value) (R : List Int) (pre : List Nat) (W : World) : Prop where
  no : ∀ k ∈ pre, ¬ isT t (atB R k)
  cell : At W g1 3 #[.int .i64 0]
  box : At W g0 45 pc
  bel : Below w.heap.size w W
  size : z ≤ W.heap.size
theorem inLast_own {z : Nat} {w : World} {g0 g1 t B : Nat} {pc : Array Value} {R : List Int} (hB : w.heap.size ≤ B) : OwnFrom B (fun pre W => InLast z w g0 g1 t pc R pre W) := by
  intro pre W W' row hs hg hr
  exact ⟨hs.no, hs.cell.grown hg (at_row hs.cell hr), hs.box.grown hg (at_row hs.box hr), hs.bel.grown hg hs.bel.size (fun k e => Nat.le_trans hB (hr k e).1), Nat.le_trans hs.size hg.size⟩
structure OutLast (w : World) (g1 t : Nat) (L R : List Int) (c : Code) (pre : List Nat) (W : World) : Prop where
  ex : ∃ p y, c = .ret ∧ pre = p ++ [y] ∧ (∀ k ∈ p, ¬ isT t (atB R k)) ∧ isT t (atB R y) ∧ At W g1 3 #[.int .i64 (L.getD (atB R y).toNat 0)] ∧ Below w.heap.size w W
theorem outLast_own {w : World} {g1 t B : Nat} {L R : List Int} (hB : w.heap.size ≤ B) (c : Code) : OwnFrom B (fun pre W => OutLast w g1 t L R c pre W) := by
  intro pre W W' row hs hg hr
  obtain ⟨p, y, h1, h2, h3, h4, h5, h6⟩ := hs.ex
  exact ⟨⟨p, y, h1, h2, h3, h4, h5.grown hg (at_row h5 hr), h6.grown hg h6.size (fun k e => Nat.le_trans hB (hr k e).1)⟩⟩
theorem results_cell_int {fn : Func} {p : Tmp} (h : fn.results = #[.cell p 3]) (tmps : Array Value) (w : World) (g : Nat) (v : Value)
    (hp : tmps.getD p undef = .pointer (some ⟨g, 0, none⟩)) (hc : w.cell? ⟨g, 0, none⟩ = some v) : (results fn tmps).run Tryz.prog w = .ok v w := by
  have hp' : tmps[p]?.getD undef = .pointer (some ⟨g, 0, none⟩) := by simpa using hp
  simp [results, h, hp', asAddr, go_sem, hc]

theorem bool_isT (t : Nat) (s : Int) : decide (0 ≤ s ∧ s < (t : Int)) = true ↔ isT t s := by unfold isT; rw [decide_eq_true_eq]

set_option maxHeartbeats 8000000 in
theorem last_any (T V : List Rd.Name) (L R : List Int) (A1 A2 A3 A4 A5 A6 A : Option Addr) (c1 c2 n3 c3 c4 n5 c5 n6 c6 c B : Nat) (w : World) (j1 : Cl w B A1 (namesV T)) (j2 : Cl w B A2 (namesV V)) (j4 : Cl w B A4 (vals L)) (hR : Cl w B A (vals R)) (hB : B ≤ w.heap.size) (hL : L.length = T.length) (hT : T.length ≤ 1000000) (hV : V.length ≤ 1000000) (hN : R.length ≤ 1000000) :
    Calls Tryz.prog 82 #[.agg #[.slice A1 T.length c1, .slice A2 V.length c2, .slice A3 n3 c3, .slice A4 L.length c4, .slice A5 n5 c5, .slice A6 n6 c6], .slice A R.length c] w fun e w' => e = .returned (.int .i64 (Nm.lastL L R)) ∧ Below w.heap.size w w' := by
  have HTE := Lib.hid (show ∀ (i : Int) (w' : World), Below w.heap.size w w' → Calls Tryz.prog 102 #[.agg #[.slice A1 T.length c1, .slice A2 V.length c2, .slice A3 n3 c3, .slice A4 L.length c4, .slice A5 n5 c5, .slice A6 n6 c6], .int .i64 i] w' fun e w'' => e = .returned (.bool (decide (0 ≤ i ∧ i < (T.length : Int)))) ∧ Below w'.heap.size w' w'' from
    fun i w' hw' => term_any _ T V i B w' ⟨A1, c1, A2, c2, A3, n3, c3, A4, L.length, c4, A5, n5, c5, A6, n6, c6, rfl, j1.below (hw'.mono hB), j2.below (hw'.mono hB)⟩ hT)
  have HLC := Lib.hid j4
  have HRC := Lib.hid hR
  have HLN := Lib.hid (show ∀ y, y < R.length → isT T.length (atB R y) → (∀ k, y < k → k < R.length → ¬ isT T.length (atB R k)) → Nm.lastL L R = L.getD (atB R y).toNat 0 from fun y hy h1 h2 => Nm.lastL_at hy (by rw [hL]; exact h1) (fun k hk1 hk2 => by rw [hL]; exact h2 k hk1 hk2))
  have HL0 := Lib.hid (show (∀ k, k < R.length → ¬ isT T.length (atB R k)) → Nm.lastL L R = 0 from fun h => Nm.lastL_none (fun k hk => by rw [hL]; exact h k hk))
  rw [hL] at HTE ⊢
  have HLL := Lib.hid hL
  obtain ⟨t, ht⟩ : ∃ t, T.length = t := ⟨_, rfl⟩
  rw [ht] at HTE HLN HL0 HLL hT ⊢
  generalize V.length = t2 at HTE ⊢
  obtain ⟨N, hNN⟩ : ∃ N, R.length = N := ⟨_, rfl⟩
  rw [hNN] at HLN HL0 hN ⊢
  have HNN := Lib.hid hNN
  obtain ⟨ANS, hANS⟩ : ∃ x, Nm.lastL L R = x := ⟨_, rfl⟩
  rw [hANS] at HLN HL0 ⊢
  have hb1 := (Below.refl w.heap.size w).alloc (Nat.le_refl _) (.cells #[.slice A1 t c1, .slice A2 t2 c2, .slice A3 n3 c3, .slice A4 t c4, .slice A5 n5 c5, .slice A6 n6 c6] 45)
  have ha1 := At.new w 45 #[.slice A1 t c1, .slice A2 t2 c2, .slice A3 n3 c3, .slice A4 t c4, .slice A5 n5 c5, .slice A6 n6 c6]
  have hb2 := hb1.alloc hb1.size (.cells #[.int .i64 0] 3)
  have ha2 := ha1.alloc (.cells #[.int .i64 0] 3)
  have hr2 := At.new (w.alloc (.cells #[.slice A1 t c1, .slice A2 t2 c2, .slice A3 n3 c3, .slice A4 t c4, .slice A5 n5 c5, .slice A6 n6 c6] 45)) 3 #[.int .i64 0]
  rw [World.size_alloc] at hr2
  have HB2 := Lib.hid hb2
  have HA2 := Lib.hid ha2
  have HR2 := Lib.hid hr2
  clear j1 j2 j4 hR hL ht hNN hANS hb1 ha1 hb2 ha2 hr2
  refine (callsIn_wide (n := 4)).1 ?_
  refine callsIn_of_wp_marks Tryz.func82 rfl trivial ?_ rfl
  simp only [Tryz.ntmps82, List.size_toArray, List.length_cons, List.length_nil, Nat.reduceAdd, Nat.reduceSub, Array.replicate_succ, Array.replicate_zero, List.push_toArray, List.append_toArray, List.nil_append, List.cons_append]
  gi_wp2_with fail
  refine ⟨trivial, ?_⟩
  refine (callsIn_wide.2 (backward_any A N c _)).mono ?_
  rintro e w3 ⟨rfl, hw3⟩
  have hbx := At.new ((w.alloc (.cells #[.slice A1 t c1, .slice A2 t2 c2, .slice A3 n3 c3, .slice A4 t c4, .slice A5 n5 c5, .slice A6 n6 c6] 45)).alloc (.cells #[.int .i64 0] 3)) 43 #[.slice A N c]
  have hr3 := HR2.out.alloc (.cells #[.slice A N c] 43)
  have ha3 := HA2.out.alloc (.cells #[.slice A N c] 43)
  have hb3 := HB2.out.alloc HB2.out.size (.cells #[.slice A N c] 43)
  rw [← hw3] at hbx hr3 ha3 hb3
  rw [World.size_alloc, World.size_alloc] at hbx ⊢
  have hs3 : w3.heap.size = w.heap.size + 1 + 1 + 1 := by rw [hw3]; simp
  have HR3 := Lib.hid hr3
  have HA3 := Lib.hid ha3
  have HB3 := Lib.hid hb3
  have HBX := Lib.hid hbx
  clear hw3 hr3 ha3 hb3 hbx HB2 HA2 HR2
  gi_wp2_with fail
  have hBc : w3.cell? ⟨w.heap.size + 1 + 1, 0, none⟩ = some (.slice A R.length c) := by rw [HNN.out]; exact HBX.out.cell 0
  refine wpIn_rangeFunc_ownG rfl (by omega) (gf := 123) (lb := #[.pointer (some ⟨w.heap.size + 1 + 1, 0, none⟩)]) rfl trivial (enters_of Tryz.func123 (by kernel_rfl) rfl)
    (back_stops 3 (by omega) (w.heap.size + 1 + 1) w3.heap.size (by omega) R A c w3 (Nat.le_refl _) hBc ((HRC.out.below (HB3.out.mono hB)).mono (by omega)) (by rw [HNN.out]; exact hN)) belowK_t (belowK_b (Nat.le_refl _)) (Below.refl _ _) (fun _ => rfl)
    (fun pre W => InLast w3.heap.size w w.heap.size (w.heap.size + 1) t #[.slice A1 t c1, .slice A2 t2 c2, .slice A3 n3 c3, .slice A4 t c4, .slice A5 n5 c5, .slice A6 n6 c6] R pre W)
    (fun c pre W => OutLast w (w.heap.size + 1) t L R c pre W)
    (inLast_own (by omega)) (outLast_own (by omega)) ⟨fun k hk => by simp at hk, HR3.out, HA3.out, HB3.out, Nat.le_refl _⟩
    (fun x => { tmps := #[.agg #[.slice A1 t c1, .slice A2 t2 c2, .slice A3 n3 c3, .slice A4 t c4, .slice A5 n5 c5, .slice A6 n6 c6], .slice A N c, .pointer (some ⟨w.heap.size, 0, none⟩), undef, .pointer (some ⟨w.heap.size + 1, 0, none⟩), undef, .int .i64 (atB R x), .slice A N c, .func (.func 123) #[] #[.pointer (some ⟨w.heap.size + 1 + 1, 0, none⟩)], .int .i64 (x : Int), .int .i64 (atB R x), undef, undef, undef, undef, undef, undef, undef, undef], defers := [] }) ?assign ?body ?done ?stop
  case assign =>
    intro l x W K hK
    unfold encB
    gi_wp2
    exact hK
  case body =>
    rintro l pre x W hI hlt
    have HI := Lib.hid hI
    have x0 := hI.box.cell 0
    have x1 := hI.box.cell 1
    have x2 := hI.box.cell 2
    have x3 := hI.box.cell 3
    have x4 := hI.box.cell 4
    have x5 := hI.box.cell 5
    simp only [List.getElem?_toArray, List.getElem?_cons_zero, List.getElem?_cons_succ] at x0 x1 x2 x3 x4 x5
    have HTX := Lib.hid (HTE.out (atB R x) W hI.bel)
    clear hI
    by_cases hx : isT t (atB R x)
    · have hd : decide (0 ≤ atB R x ∧ atB R x < (t : Int)) = true := (bool_isT _ _).2 hx
      rw [hd] at HTX
      obtain ⟨q, hq⟩ : ∃ q : Nat, atB R x = (q : Int) := ⟨(atB R x).toNat, by have := hx.1; omega⟩
      have hqt : q < t := by have := hx.2; omega
      obtain ⟨u, hu⟩ := some_get (l := L) (i := q) (by rw [HLL.out]; exact hqt)
      have HU := Lib.hid (show L.getD (atB R x).toNat 0 = u by rw [hq]; simp [List.getD, hu])
      have HX := Lib.hid hx
      have hcl := HLC.out.below (HI.out.bel.mono hB)
      have HCL := Lib.hid hcl
      have HHU := Lib.hid hu
      have hq0 : (0 : Int) ≤ (q : Int) := by omega
      have hqi : (q : Int) < (t : Int) := by omega
      clear hd hx hcl hu
      rw [hq] at HTX ⊢
      gi_wp2_with fail
      refine ⟨trivial, ?_⟩
      refine (CallsIn.inRound l (callsIn_wide.2 HTX.out)).mono ?_
      rintro e w5 ⟨rfl, hb5⟩
      have hat5 := HI.out.box.below hb5 HI.out.box.lt
      have hrt5 := HI.out.cell.below hb5 HI.out.cell.lt
      obtain ⟨b, o, rfl, hbl, hcell⟩ := (HCL.out.below (hb5.mono (Nat.le_trans hB HI.out.bel.size))).ex (fun e => by
        have h1 := vals_get HHU.out
        rw [e] at h1; simp at h1)
      have y0 : w5.cell? ⟨b, o + q, none⟩ = some (.int .i64 u) := hcell _ _ (vals_get HHU.out)
      have y3 := hat5.cell 3
      have r0 := hrt5.cell 0
      have rf := hrt5.frozen 0
      simp only [List.getElem?_toArray, List.getElem?_cons_zero, List.getElem?_cons_succ] at y3 r0
      have HK5 := Lib.hid (show KeepsFrom w3.heap.size W w5 from ⟨hb5.size, fun k o _ hk _ => (hb5.block k (Array.getElem?_eq_some_iff.1 hk).1).trans hk⟩)
      have HB5 := Lib.hid (HI.out.bel.trans (hb5.mono HI.out.bel.size))
      have HRT5 := Lib.hid hrt5
      have hlr := hrt5.lt
      clear hb5 hat5 hrt5 hcell x0 x1 x2 x3 x4 x5
      gi_wp2_with fail
      refine ⟨HK5.out.trans (KeepsFrom.of_grownBy (grownBy_setCell' _ _ _) (fun j e => by injection e with e; omega)), ⟨⟨pre, x, rfl, rfl, HI.out.no, HX.out, ?_, ?_⟩⟩⟩
      · rw [HU.out]
        have := HRT5.out.set 0 (.int .i64 u)
        simpa using this
      · exact HB5.out.setCell (p := ⟨w.heap.size + 1, 0, none⟩) (by show w.heap.size ≤ w.heap.size + 1; omega) _
    · have hd : decide (0 ≤ atB R x ∧ atB R x < (t : Int)) = false := by
        cases h : decide (0 ≤ atB R x ∧ atB R x < (t : Int)) with
        | false => rfl
        | true => exact absurd ((bool_isT _ _).1 h) hx
      rw [hd] at HTX
      have HX := Lib.hid hx
      clear hd hx
      gi_wp2_with fail
      refine ⟨trivial, ?_⟩
      refine (CallsIn.inRound l (callsIn_wide.2 HTX.out)).mono ?_
      rintro e w5 ⟨rfl, hb5⟩
      have HK5 := Lib.hid (show KeepsFrom w3.heap.size W w5 from ⟨hb5.size, fun k o _ hk _ => (hb5.block k (Array.getElem?_eq_some_iff.1 hk).1).trans hk⟩)
      have HI5 := Lib.hid (show InLast w3.heap.size w w.heap.size (w.heap.size + 1) t #[.slice A1 t c1, .slice A2 t2 c2, .slice A3 n3 c3, .slice A4 t c4, .slice A5 n5 c5, .slice A6 n6 c6] R (pre ++ [x]) w5 from ⟨fun k hk => by
        rcases List.mem_append.1 hk with h | h
        · exact HI.out.no k h
        · simp at h; subst h; exact HX.out, HI.out.cell.below hb5 HI.out.cell.lt, HI.out.box.below hb5 HI.out.box.lt, HI.out.bel.trans (hb5.mono HI.out.bel.size), Nat.le_trans HI.out.size hb5.size⟩)
      have HB5 := Lib.hid hb5
      clear hb5 x0 x1 x2 x3 x4 x5
      gi_wp2_with fail
      exact ⟨HK5.out, HB5.out.mono HI.out.size, HI5.out⟩
  case done =>
    rintro D ys W hD hys hI hK
    have HA0 := Lib.hid (show ANS = 0 from HL0.out (fun k hk => hI.no k (by rw [hys, HNN.out]; exact dn_mem hk (by omega) (Nat.le_refl _))))
    have r0 := hI.cell.cell 0
    have rf := hI.cell.frozen 0
    simp only [List.getElem?_toArray, List.getElem?_cons_zero] at r0
    have HI := Lib.hid hI
    clear hys hI
    gi_wp2_with fail
    have hK2 : (W.setCell ⟨w.heap.size + 1, 0, none⟩ (.int .i64 0)).heap[D]? = some (.deferred (some [])) := by rw [Below.heap_setCell W ⟨w.heap.size + 1, 0, none⟩ _ D (show D ≠ w.heap.size + 1 by omega)]; exact hK
    refine ⟨by simp, .inl ⟨_, _, rfl, run_takeDeferred hK2, ?_⟩⟩
    have hat9 := ((HI.out.cell.set 0 (.int .i64 0)).grown (grownBy_putObj' _ D (.deferred none)) (fun e => by injection e with e; omega))
    refine ⟨_, results_cell_int rfl _ _ (w.heap.size + 1) (.int .i64 0) rfl (by have := hat9.cell 0; simpa using this), by rw [HA0.out], ?_⟩
    exact (HI.out.bel.setCell (p := ⟨w.heap.size + 1, 0, none⟩) (by show w.heap.size ≤ w.heap.size + 1; omega) _).trans (belowK_b (w := w) (Nat.le_refl _) _ D _ _ (by omega) hK2 rfl rfl)
  case stop =>
    rintro D c pre W hD hpre hO hK
    obtain ⟨p, y, rfl, rfl, h3, h4, h5, h6⟩ := hO.ex
    obtain ⟨m, hm, hmm⟩ := hpre
    rw [HNN.out] at hm hmm
    rw [dn_succ] at hmm
    obtain ⟨h7, h8⟩ := List.append_inj' hmm rfl
    injection h8 with h8 _
    have HA0 := Lib.hid (show ANS = L.getD (atB R y).toNat 0 from HLN.out y (by omega) h4 (fun k hk1 hk2 => h3 k (by rw [h7]; exact dn_mem hk2 (by omega) (by omega))))
    have HAT := Lib.hid h5
    have HBE := Lib.hid h6
    clear hO h3 h4 h5 h6 h7 h8 hmm
    gi_wp2_with fail
    refine ⟨by simp, .inl ⟨_, _, rfl, run_takeDeferred hK, ?_⟩⟩
    have hat9 := (HAT.out.grown (grownBy_putObj' _ D (.deferred none)) (fun e => by injection e with e; omega))
    refine ⟨_, results_cell_int rfl _ _ (w.heap.size + 1) _ rfl (by have := hat9.cell 0; simpa using this), by rw [HA0.out]; rfl, ?_⟩
    exact HBE.out.trans (belowK_b (w := w) (Nat.le_refl _) _ D _ _ (by omega) hK rfl rfl)

end Go.Proofs.YtpgmapjjjpcmfaaGreatDoor
