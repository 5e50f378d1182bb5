import Derived.Test.YtdlplmbdkjkeiaaDoorDgL
namespace Go.Proofs.YtdlplmbdkjkeiaaDoor
set_option maxRecDepth 100000
open Go.RowKit
open BitKit
set_option linter.unusedVariables false
set_option linter.unusedSimpArgs false
def bas (wide : Int) (Bs : List (List Int)) (i : Nat) : Nat → Bool := ofs (held wide) (fn (fnL Bs i)) (fnL Bs i).length
def ptrs (Bl : Nat → Nat) (k : Nat) : List Value := (List.range k).map fun i => .pointer (some ⟨Bl i, 0, none⟩)
theorem ptrs_succ (Bl : Nat → Nat) (k : Nat) : ptrs Bl (k + 1) = ptrs Bl k ++ [.pointer (some ⟨Bl k, 0, none⟩)] := by simp [ptrs, List.range_succ]
theorem ptrs_get {Bl : Nat → Nat} {k i : Nat} (h : i < k) : (ptrs Bl k)[i]? = some (.pointer (some ⟨Bl i, 0, none⟩)) := by simp [ptrs, h]
theorem ptrs_length (Bl : Nat → Nat) (k : Nat) : (ptrs Bl k).length = k := by simp [ptrs]
theorem ptrs_upd (Bl : Nat → Nat) (k x : Nat) : ptrs (Dg.upd Bl k x) k = ptrs Bl k := by
 unfold ptrs
 apply List.map_congr_left
 intro i hi
 have := List.mem_range.1 hi
 rw [Dg.upd_other _ _ (by omega)]
theorem IsSet.spares {w w' : World} {b n : Nat} {S : Nat → Bool} {ts : List TypeId} (h : IsSet w b n S) (hs : Spares ts w w') (ht : 64 ∉ ts) : IsSet w' b n S := ⟨h.at_.spares hs ht, h.le, h.fit⟩
theorem spares_below {w w' : World} {ts : List TypeId} (h : Below w.heap.size w w') : Spares ts w w' := ⟨h.size, fun k cs t _ hk => by rw [h.block k (Array.getElem?_eq_some_iff.1 hk).1]; exact hk⟩
theorem row_of {w : World} {v : Value} {LL : List (List Int)} (h : RowsL w v LL) {i : Nat} {l : List Int} (hi : LL[i]? = some l) : ∃ b o c A' c', v = .slice (some ⟨b, o, none⟩) LL.length c ∧ w.cell? ⟨b, o + i, none⟩ = some (.slice A' l.length c') ∧ Row w (.slice A' l.length c') l := by
 obtain ⟨b, o, c, A', c', h1, h2, h3⟩ := h.cell hi
 exact ⟨b, o, c, A', c', h1, h2, h3.row (Nat.le_refl _)⟩
theorem fnL_get {LL : List (List Int)} {i : Nat} {l : List Int} (h : LL[i]? = some l) : fnL LL i = l := by unfold fnL; rw [List.getD, h]; rfl
set_option maxHeartbeats 8000000 in
theorem sets_any (v : Value) (Bs : List (List Int)) (wide : Int) (w : World) (hB : RowsL w v Bs) (hn : Bs.length ≤ 1099511627776) :
  Calls Tryd.prog 21 #[v, .int .i64 wide] w fun e w' => ∃ A2 c2 Bl, e = .returned (.slice A2 Bs.length c2) ∧ Base w' w'.heap.size A2 Bs.length Bl (fun _ => held wide) (bas wide Bs) ∧
   (∀ i, i < Bs.length → w.heap.size ≤ Bl i) ∧ (∀ i j, i < j → j < Bs.length → Bl i < Bl j) ∧ (∃ lb, A2 = none ∨ (A2 = some ⟨lb, 0, none⟩ ∧ w.heap.size ≤ lb)) ∧ Below w.heap.size w w' := by
 have KB := Lib.hid hB
 obtain ⟨i0, hi, hz0, hz1, hz2⟩ := info_parts Tryd.infoPtr
 obtain ⟨A, c, rfl⟩ := hB.shape
 clear hB
 go_enter Tryd.func21, Tryd.ntmps21
 go_wp2_with fail
 go_loopg [5, 6] Bs.length (fun q t5 t6 wr => ∃ (k : Nat) (Bl : Nat → Nat), t6 = .int .i64 (k : Int) ∧ k ≤ Bs.length ∧ q = Bs.length - k ∧ wr.ownsRow w.heap.size 37 1 t5 k (ptrs Bl k) ∧ (∀ i, i < k → w.heap.size ≤ Bl i ∧ IsSet wr (Bl i) (held wide) (bas wide Bs i)) ∧ (∀ i j, i < j → j < k → Bl i < Bl j) ∧ Below w.heap.size w wr)
 case atStart => exact ⟨0, fun _ => 0, rfl, by omega, by omega, World.ownsRow_nil _ _ _ _, (fun i hi => absurd hi (by omega)), (fun i j _ hj => absurd hj (by omega)), Below.refl _ _⟩
 case round =>
  obtain ⟨k, Bl, rfl, hk, hq, ho, hse, hri, hBe⟩ := hrel
  have Ko := Lib.hid ho
  have Kse := Lib.hid hse
  have Kri := Lib.hid hri
  have KBe := Lib.hid hBe
  have Kq := Lib.hid hq
  have hBr : w.heap.size ≤ wr.heap.size := hBe.size
  obtain ⟨ao, co, rfl, _⟩ := own_slice ho
  clear ho hse hri hBe hq
  by_cases hlt : k < Bs.length
  ·obtain ⟨l, hl⟩ : ∃ l, Bs[k]? = some l := ⟨_, List.getElem?_eq_getElem hlt⟩
   obtain ⟨b, o, c', A', c'', he, hc, hrow⟩ := row_of (KB.out.below KBe.out) hl
   simp only [Value.slice.injEq, true_and] at he
   obtain ⟨rfl, rfl⟩ := he
   have q1 : (0 : Int) ≤ (k : Int) := by omega
   have q2 : (k : Int) < (Bs.length : Int) := by omega
   have q3 : ((k : Int)).toNat = k := by omega
   have hof := Lib.hid (of_ex wide _ l wr hrow)
   have Kl := Lib.hid hl
   clear hrow hl
   go_wp2_with fail
   refine hof.out.mono ?_
   rintro e w2 ⟨nb, rfl, hnb, hset, hg⟩
   have hb2 : Below wr.heap.size wr w2 := grown_below hg
   have hsz2 := hb2.size
   have Kset := Lib.hid hset
   have Kb2 := Lib.hid hb2
   have Ko2 := Lib.hid (Ko.out.kept hg (none_or _))
   clear hset hg hb2 hof hc
   go_wp2_with (at_builtin; refine wpList_append_own2 _ rfl (.tmp 13) (.tmp 20) 35 rfl w.heap.size 37 i0 _ 1 8 Tryd.underlying35 hi hz0 hz1 hz2 rfl (by decide) (.slice ao k co) k (ptrs Bl k) rfl (Ko2.out.alloc _) ⟨w2.heap.size, 0, none⟩ 1 1 [.pointer (some ⟨nb, 0, none⟩)] rfl rfl (cell_one_new _ _ _) (by simp [Value.oneCell']) (by unfold maxLen; omega) (by omega) (by simp; omega) ?_; intro v' w3 hown hgrow hsn)
   obtain ⟨a3, c3, rfl, _⟩ := own_slice hown
   have hat : ∀ {b m : Nat} {S : Nat → Bool}, IsSet w2 b m S → IsSet w3 b m S := fun h => (h.alloc _).grown hgrow (fun e => own_apart Ko2.out h.at_ (by decide) e.symm)
   have hset3 := hat Kset.out
   have hall3 : ∀ i, i < k → w.heap.size ≤ Bl i ∧ IsSet w3 (Bl i) (held wide) (bas wide Bs i) ∧ Bl i < nb := fun i hi => by
    have h1 := Kse.out i hi
    have h2 := h1.2.at_.lt
    exact ⟨h1.1, hat (h1.2.below Kb2.out h2), by omega⟩
   have hBe3 : Below w.heap.size w w3 := ((KBe.out.trans (below_le Kb2.out hBr)).alloc (by omega) _).grown hgrow (by simp; omega) (fun q hq => (Ko2.out.lt q hq).1)
   have Kown := Lib.hid hown
   have Kset3 := Lib.hid hset3
   have Kall3 := Lib.hid hall3
   have KBe3 := Lib.hid hBe3
   clear hown hgrow hsn hat hset3 hall3 hBe3
   go_wp2_with fail
   go_roundg (Bs.length - (k + 1))
   case measure => have := Kq.out; omega
   case rel =>
    refine ⟨k + 1, Dg.upd Bl k nb, by go_num, by omega, rfl, ?_, fun i hi => ?_, fun i j hij hj => ?_, KBe3.out⟩
    ·rw [ptrs_succ, ptrs_upd, Dg.upd_self]; exact Kown.out
    ·by_cases he : i = k
     ·subst he
      rw [Dg.upd_self]
      refine ⟨by omega, ?_⟩
      unfold bas
      rw [fnL_get Kl.out]; exact Kset3.out
     ·rw [Dg.upd_other _ _ he]
      have := Kall3.out i (by omega)
      exact ⟨this.1, this.2.1⟩
    ·by_cases he : j = k
     ·subst he
      rw [Dg.upd_self, Dg.upd_other _ _ (by omega)]
      exact (Kall3.out i hij).2.2
     ·rw [Dg.upd_other _ _ he, Dg.upd_other _ _ (by omega)]
      exact Kri.out i j hij (by omega)
  ·obtain rfl : k = Bs.length := by omega
   go_wp2_with fail
   go_ret
   refine ⟨ao, co, Bl, rfl, ⟨fun i hi => ?_, fun i hi => ⟨(Kse.out i hi).2.at_.lt, (Kse.out i hi).2⟩⟩, fun i hi => (Kse.out i hi).1, Kri.out, ?_, KBe.out⟩
   ·obtain ⟨g, cp, he, _, _⟩ := own_pos Ko.out (by omega)
    simp only [Value.slice.injEq, true_and] at he
    obtain ⟨rfl, rfl⟩ := he
    exact ⟨g, 0, rfl, (Ko.out.lt g rfl).2, by rw [Nat.zero_add, Ko.out.cellAt i (by omega), ptrs_get hi]⟩
   ·rcases own_shape Ko.out with ⟨he, _, _⟩ | ⟨g, cap, he, _, _, hb, _⟩
    ·simp only [Value.slice.injEq] at he
     exact ⟨0, .inl he.1⟩
    ·simp only [Value.slice.injEq] at he
     exact ⟨g, .inr ⟨he.1, hb⟩⟩
end Go.Proofs.YtdlplmbdkjkeiaaDoor
