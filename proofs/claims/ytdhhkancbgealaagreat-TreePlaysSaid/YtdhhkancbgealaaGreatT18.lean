import Derived.Deep.RegionHeld3
import Derived.Test.YtdhhkancbgealaaGreatT00
import Derived.BigQuiet
import Derived.Deep.QuietTactic
import Derived.Lib.Hide
section
namespace Go.Proofs.YtdhhkancbgealaaGreat
open Go
set_option linter.unusedVariables false
set_option linter.unusedSimpArgs false
namespace Zed
section
variable {P : Program} {ops : Array Oper} {Q : Exit → Act → World → Prop} {md : Region.Mode} {S : World → Prop} {Z : List Nat}
theorem getD_off {listed : Array Bool} {i : Nat} (h : listed.getD i true = false) : listed.getD i false = false := by
  rcases Nat.lt_or_ge i listed.size with h' | h'
  · simp [h'] at h ⊢; exact h
  · simp [Array.getElem?_eq_none h'] at h
def Closed (md : Region.Mode) (ops : Array Oper) (listed : Array Bool) : Prop :=
  ∀ j oj, ops[j]? = some oj → listed.getD j false = true → ∀ e ∈ oj.after, Region.binds md e = true → listed.getD e.on false = true
def closedB (md : Region.Mode) (ops : Array Oper) (listed : Array Bool) : Bool :=
  (List.range ops.size).all fun j => !listed.getD j false || match ops[j]? with
    | none => true
    | some oj => oj.after.all fun e => !Region.binds md e || listed.getD e.on false
theorem closed_of {listed : Array Bool} (h : closedB md ops listed = true) : Closed md ops listed := fun j oj hj hl e he hb => by
  have h1 := List.all_eq_true.1 h j (List.mem_range.2 (Array.getElem?_eq_some_iff.1 hj).1)
  simp only [hj, hl, Bool.not_true, Bool.false_or] at h1
  obtain ⟨k, hk, rfl⟩ := Array.mem_iff_getElem.1 he
  have h2 := Array.all_eq_true.1 h1 k hk
  simpa [hb] using h2
def needs (md : Region.Mode) (ops : Array Oper) : Nat → Nat → Nat → Bool
  | 0, _, _ => false
  | f + 1, z, i => match ops[z]? with
    | none => false
    | some o => o.after.any fun e => Region.binds md e && (e.on == i || needs md ops f e.on i)
theorem needs_listed {listed : Array Bool} (hc : Closed md ops listed) {i : Nat} : ∀ (f z : Nat), needs md ops f z i = true →
    (∀ oz, ops[z]? = some oz → ∀ e ∈ oz.after, Region.binds md e = true → listed.getD e.on false = true) → listed.getD i false = true
  | 0, _, h, _ => by cases h
  | f + 1, z, h, hz => by
    unfold needs at h
    cases ho : ops[z]? with
    | none => rw [ho] at h; cases h
    | some o =>
      rw [ho] at h
      obtain ⟨e, he, hb⟩ := Array.any_eq_true'.1 h
      simp only [Bool.and_eq_true, Bool.or_eq_true, beq_iff_eq] at hb
      have h1 := hz o ho e he hb.1
      rcases hb.2 with h2 | h2
      · rw [← h2]; exact h1
      · exact needs_listed hc f e.on h2 (fun oe hoe e' he' hb' => hc e.on oe hoe h1 e' he' hb')
theorem Closed.put {listed : Array Bool} (hc : Closed md ops listed) {i : Nat} (hi : i ∈ Region.ready md ops listed) : Closed md ops (listed.setIfInBounds i true) := fun j oj hj hl e he hb => by
  obtain ⟨_, oi, hoi, hall⟩ := mem_ready.1 hi
  by_cases hij : i = j
  · subst hij
    obtain rfl : oj = oi := Option.some.inj (hj.symm.trans hoi)
    exact getD_set_true (hall e he hb)
  · rw [getD_set_ne false hij] at hl
    exact getD_set_true (hc j oj hj hl e he hb)
def off (Z : List Nat) (listed : Array Bool) : Bool := Z.any fun z => listed.getD z false
theorem off_put {listed : Array Bool} {i : Nat} (h : off Z listed = true) : off Z (listed.setIfInBounds i true) = true := by
  obtain ⟨z, hz, hl⟩ := List.any_eq_true.1 h
  exact List.any_eq_true.2 ⟨z, hz, getD_set_true hl⟩
theorem off_back {listed : Array Bool} {i j : Nat} (hi : Z.contains i = false) (h : off Z ((listed.setIfInBounds i true).setIfInBounds j true) = true) : off Z (listed.setIfInBounds j true) = true := by
  obtain ⟨z, hz, hl⟩ := List.any_eq_true.1 h
  have hzi : i ≠ z := fun e => by
    subst e
    rw [List.contains_iff_mem.2 hz] at hi; cases hi
  refine List.any_eq_true.2 ⟨z, hz, ?_⟩
  by_cases hij : i = j
  · subst hij; rw [getD_set_ne false hzi, getD_set_ne false hzi] at hl; rw [getD_set_ne false hzi]; exact hl
  · rw [Array.setIfInBounds_comm _ _ hij, getD_set_ne false hzi] at hl; exact hl
def AnyZ (P : Program) (md : Region.Mode) (ops : Array Oper) (Q : Exit → Act → World → Prop) (S : World → Prop) (Z : List Nat) : Nat → Array Bool → Act → World → Prop
  | 0, listed, a, w => Region.ready md ops listed = [] ∧ Q .normal a w
  | f + 1, listed, a, w => (Region.ready md ops listed = [] → Q .normal a w) ∧
    ∀ i ∈ Region.ready md ops listed, wpOp P ops Q i (fun a' w' => (off Z (listed.setIfInBounds i true) = true ∨ S w') ∧ AnyZ P md ops Q S Z f (listed.setIfInBounds i true) a' w') a w
theorem any_of : ∀ (f : Nat) (listed : Array Bool) (a : Act) (w : World), AnyZ P md ops Q S Z f listed a w → wpAny P md ops Q f listed a w
  | 0, _, _, _, h => h
  | f + 1, _, _, _, h => ⟨h.1, fun i hi => wpOp_mono (fun a' w' h' => any_of f _ a' w' h'.2) (h.2 i hi)⟩
theorem lead {T : World → Prop} {i : Nat} {oi : Oper} {v : Value} (hi : ops[i]? = some oi) (hsel : ∀ (j : Nat) (o : Oper) cs b, ops[j]? = some o → o.op ≠ .select cs b)
    (hQ : ∀ c a w, Q (.panic c) (a.put oi.dst v) w → Q (.panic c) a w) (hiZ : Z.contains i = false) (hn : ((∀ w, S w → T w) ∧ ∀ z ∈ Z, ∃ f, needs md ops f z i = true) ∨ ∀ w, T w) :
    ∀ (f : Nat) (listed : Array Bool) (a : Act) (w : World), Closed md ops listed →
      (∀ j oj, ops[j]? = some oj → j ≠ i → listed.getD j true = false → (∀ e ∈ oj.after, Region.binds md e = true → e.on ≠ i) → oi.apart ops oj = true) →
      i ∈ Region.ready md ops listed → YieldsIf P ops T oi v a → (off Z listed = true ∨ S w) → T w →
      AnyZ P md ops Q S Z f (listed.setIfInBounds i true) (a.put oi.dst v) w → AnyZ P md ops Q S Z (f + 1) listed a w := by
  intro f
  induction f with
  | zero =>
    intro listed a w _ _ hr hy hS hT H
    refine ⟨fun h => (by rw [h] at hr; cases hr), fun j hj => ?_⟩
    by_cases hji : j = i
    · subst hji; exact hy.wpOp hi hT ⟨hS.imp off_put id, H⟩
    · have h0 := ready_mono hj hji
      rw [H.1] at h0
      cases h0
  | succ f ih =>
    intro listed a w hc hfree hr hy hS hT H
    refine ⟨fun h => (by rw [h] at hr; cases hr), fun j hj => ?_⟩
    by_cases hji : j = i
    · subst hji; exact hy.wpOp hi hT ⟨hS.imp off_put id, H⟩
    · obtain ⟨hjun, oj, hoj, hall⟩ := mem_ready.1 hj
      have hiun := getD_off (mem_ready.1 hr).1
      have hnot : ∀ e ∈ oj.after, Region.binds md e = true → e.on ≠ i := fun e he hb heq => by
        have h0 := hall e he hb
        rw [heq, hiun] at h0; cases h0
      have hT' : ∀ w', (off Z (listed.setIfInBounds j true) = true ∨ S w') → T w' := fun w' h0 => by
        rcases hn with ⟨hST, hn⟩ | hn
        · rcases h0 with h0 | h0
          · obtain ⟨z, hz, hl⟩ := List.any_eq_true.1 h0
            obtain ⟨k, hk⟩ := hn z hz
            have hcj := hc.put hj
            have h1 := needs_listed hcj k z hk (fun oz hoz e he hb => hcj z oz hoz hl e he hb)
            rw [getD_set_ne false hji, hiun] at h1; cases h1
          · exact hST w' h0
        · exact hn w'
      have hstep := wpOp_putIf hoj (hfree j oj hoj hji hjun hnot) (fun cs b => hsel i oi cs b hi) (fun cs b => hsel j oj cs b hoj) hQ hy (H.2 j (ready_mono hj hji))
      refine wpOp_mono (fun a' w' h3 => ?_) hstep
      have hS' : off Z (listed.setIfInBounds j true) = true ∨ S w' := h3.2.1.imp (off_back hiZ) id
      refine ⟨hS', ih _ a' w' (hc.put hj) (fun k ok hk hki hun hno => hfree k ok hk hki ?_ hno) (ready_mono hr (Ne.symm hji)) h3.1 hS' (hT' w' hS') ?_⟩
      · by_cases hjk : j = k
        · subst hjk; exact hjun
        · rw [getD_set_ne true hjk] at hun; exact hun
      · rw [Array.setIfInBounds_comm _ _ hji]
        exact h3.2.2
def needsB (md : Region.Mode) (ops : Array Oper) (Z : List Nat) (i : Nat) : Bool := !Z.contains i && Z.all fun z => needs md ops ops.size z i
theorem take {i : Nat} {oi : Oper} {v : Value} {f : Nat} {listed : Array Bool} {a : Act} {w : World} (hi : ops[i]? = some oi)
    (hs : Region.noSelect ops = true) (hf : Region.free md ops listed i = true) (hr : (Region.ready md ops listed).contains i = true) (hc : closedB md ops listed = true) (hn : needsB md ops Z i = true)
    (hQ : ∀ c a w, Q (.panic c) (a.put oi.dst v) w → Q (.panic c) a w) (hy : YieldsIf P ops S oi v a) (hS : S w)
    (h : AnyZ P md ops Q S Z f (listed.setIfInBounds i true) (a.put oi.dst v) w) : AnyZ P md ops Q S Z (f + 1) listed a w := by
  unfold needsB at hn
  rw [Bool.and_eq_true, Bool.not_eq_true'] at hn
  exact lead hi (Region.noSelect_spec hs) hQ hn.1 (.inl ⟨fun _ h => h, fun z hz => ⟨_, List.all_eq_true.1 hn.2 z hz⟩⟩) f listed a w (closed_of hc) (Region.free_spec hi hf) (by simpa using hr) hy (.inr hS) hS h
theorem pure {i : Nat} {oi : Oper} {v : Value} {f : Nat} {listed : Array Bool} {a : Act} {w : World} (hi : ops[i]? = some oi)
    (hs : Region.noSelect ops = true) (hf : Region.free md ops listed i = true) (hr : (Region.ready md ops listed).contains i = true) (hc : closedB md ops listed = true) (hn : Z.contains i = false)
    (hQ : ∀ c a w, Q (.panic c) (a.put oi.dst v) w → Q (.panic c) a w) (hy : YieldsIf P ops (fun _ => True) oi v a) (hS : off Z listed = true ∨ S w)
    (h : AnyZ P md ops Q S Z f (listed.setIfInBounds i true) (a.put oi.dst v) w) : AnyZ P md ops Q S Z (f + 1) listed a w :=
  lead hi (Region.noSelect_spec hs) hQ hn (.inr fun _ => trivial) f listed a w (closed_of hc) (Region.free_spec hi hf) (by simpa using hr) hy hS trivial h
theorem step {rs : List Nat} {f : Nat} {listed : Array Bool} {a : Act} {w : World} (hr : Region.ready md ops listed = rs) (hne : rs ≠ [])
    (h : ∀ i ∈ rs, wpOp P ops Q i (fun a' w' => (off Z (listed.setIfInBounds i true) = true ∨ S w') ∧ AnyZ P md ops Q S Z f (listed.setIfInBounds i true) a' w') a w) : AnyZ P md ops Q S Z (f + 1) listed a w :=
  ⟨fun h0 => absurd (hr ▸ h0) hne, hr ▸ h⟩
theorem one {i : Nat} {o : Oper} {f : Nat} {listed : Array Bool} {a : Act} {w : World} (hr : Region.ready md ops listed = [i]) (ho : ops[i]? = some o)
    (h : ∀ K' : Act → World → Prop, Shut (∀ a w, (off Z (listed.setIfInBounds i true) = true ∨ S w) → AnyZ P md ops Q S Z f (listed.setIfInBounds i true) a w → K' a w) → if Region.wanted o (yielded ops a.tmps) = true then Oper.wp P o a w K' Q else K' (a.put o.dst undef) w) :
    AnyZ P md ops Q S Z (f + 1) listed a w := by
  refine step hr (by simp) fun j hj => ?_
  obtain rfl : j = i := by simpa using hj
  exact wpOp_step ho (fun K' hK => h K' (fun a w hS hA => hK a w ⟨hS, hA⟩))
theorem two {i j : Nat} {f : Nat} {listed : Array Bool} {a : Act} {w : World} {oi oj : Oper} (hr : Region.ready md ops listed = [i, j]) (hi : ops[i]? = some oi) (hj : ops[j]? = some oj)
    (h1 : ∀ K' : Act → World → Prop, Shut (∀ a w, (off Z (listed.setIfInBounds i true) = true ∨ S w) → AnyZ P md ops Q S Z f (listed.setIfInBounds i true) a w → K' a w) → if Region.wanted oi (yielded ops a.tmps) = true then Oper.wp P oi a w K' Q else K' (a.put oi.dst undef) w)
    (h2 : ∀ K' : Act → World → Prop, Shut (∀ a w, (off Z (listed.setIfInBounds j true) = true ∨ S w) → AnyZ P md ops Q S Z f (listed.setIfInBounds j true) a w → K' a w) → if Region.wanted oj (yielded ops a.tmps) = true then Oper.wp P oj a w K' Q else K' (a.put oj.dst undef) w) :
    AnyZ P md ops Q S Z (f + 1) listed a w := by
  refine step hr (by simp) fun k hk => ?_
  rcases List.mem_cons.1 hk with rfl | hk
  · exact wpOp_step hi (fun K' hK => h1 K' (fun a w hS hA => hK a w ⟨hS, hA⟩))
  · obtain rfl : k = j := by simpa using hk
    exact wpOp_step hj (fun K' hK => h2 K' (fun a w hS hA => hK a w ⟨hS, hA⟩))
theorem all {listed : Array Bool} {a : Act} {w : World} (hr : Region.ready md ops listed = []) (h : Q .normal a w) : ∀ f, AnyZ P md ops Q S Z f listed a w
  | 0 => ⟨hr, h⟩
  | _ + 1 => ⟨fun _ => h, by rw [hr]; simp⟩
theorem begin_ (S : World → Prop) (Z : List Nat) {id : Nat} {a : Act} {w : World} (hm : P.follows .mixedOrders = true) (h : AnyZ P .any ops Q S Z ops.size (Array.replicate ops.size false) a w.drew) : (Code.region id ops true).wp P Q a w :=
  wp_region_any hm (any_of _ _ _ _ h)
end
end Zed
end Go.Proofs.YtdhhkancbgealaaGreat
end
section
namespace Go.Proofs.YtdhhkancbgealaaGreat
open Go
set_option linter.unusedVariables false
set_option linter.unusedSimpArgs false
namespace Zd
theorem pureD {P : Program} {md : Region.Mode} {ops : Array Oper} {Q : Exit → Act → World → Prop} {S : World → Prop} {Z : List Nat} {i : Nat} {d : Option Nat} {oi : Oper} {v : Value} {f : Nat} {listed : Array Bool} {a : Act} {w : World} (hi : ops[i]? = some oi) (hd : oi.dst = d)
    (hs : Region.noSelect ops = true) (hf : Region.free md ops listed i = true) (hr : (Region.ready md ops listed).contains i = true) (hc : Zed.closedB md ops listed = true) (hn : Z.contains i = false)
    (hQ : ∀ c a w, Q (.panic c) (a.put oi.dst v) w → Q (.panic c) a w) (hy : YieldsIf P ops (fun _ => True) oi v a) (hS : Zed.off Z listed = true ∨ S w)
    (h : Zed.AnyZ P md ops Q S Z f (listed.setIfInBounds i true) (a.put d v) w) : Zed.AnyZ P md ops Q S Z (f + 1) listed a w := by
  subst hd
  exact Zed.pure hi hs hf hr hc hn hQ hy hS h
theorem takeD {P : Program} {md : Region.Mode} {ops : Array Oper} {Q : Exit → Act → World → Prop} {S : World → Prop} {Z : List Nat} {i : Nat} {d : Option Nat} {oi : Oper} {v : Value} {f : Nat} {listed : Array Bool} {a : Act} {w : World} (hi : ops[i]? = some oi) (hd : oi.dst = d)
    (hs : Region.noSelect ops = true) (hf : Region.free md ops listed i = true) (hr : (Region.ready md ops listed).contains i = true) (hc : Zed.closedB md ops listed = true) (hn : Zed.needsB md ops Z i = true)
    (hQ : ∀ c a w, Q (.panic c) (a.put oi.dst v) w → Q (.panic c) a w) (hy : YieldsIf P ops S oi v a) (hS : S w)
    (h : Zed.AnyZ P md ops Q S Z f (listed.setIfInBounds i true) (a.put d v) w) : Zed.AnyZ P md ops Q S Z (f + 1) listed a w := by
  subst hd
  exact Zed.take hi hs hf hr hc hn hQ hy hS h
theorem call {P : Program} {md : Region.Mode} {ops : Array Oper} {Q : Exit → Act → World → Prop} {S : World → Prop} {Z : List Nat} {i : Nat} {d : Option Nat} {o : Oper} {f : Nat} {listed : Array Bool} {a : Act} {w : World} {fn : FuncId} {vs : Array Value} {F : Ending → World → Prop}
    (hr : Region.ready md ops listed = [i]) (ho : ops[i]? = some o) (hd : o.dst = d) (hw : Region.wanted o (yielded ops a.tmps) = true) (hrun : (execOp a.eval o).run P w = .ok (.enter fn vs) w) (hc : Calls P fn vs w F)
    (hF : ∀ e w', F e w' → ∃ v, e = .returned v ∧ S w' ∧ Zed.AnyZ P md ops Q S Z f (listed.setIfInBounds i true) (a.put d v) w') : Zed.AnyZ P md ops Q S Z (f + 1) listed a w := by
  subst hd
  refine Zed.one hr ho (fun K' hK => ?_)
  rw [if_pos hw]
  unfold Oper.wp
  rw [hrun, Oper.upon_enter]
  refine hc.mono fun e w' h => ?_
  obtain ⟨v, rfl, hS, hA⟩ := hF e w' h
  exact hK.out _ _ (.inr hS) hA
end Zd
end Go.Proofs.YtdhhkancbgealaaGreat
end
section
namespace Go.Proofs.YtdhhkancbgealaaGreat
open Go.RowKit
set_option linter.unusedVariables false
set_option linter.unusedSimpArgs false
namespace Qt
structure Class (B : Nat) (W : World) (G : World → World) : Prop where
  below : ∀ x, Below B W (G x)
  onto : ∀ w, Below B W w → ∃ x, w = G x
  le : B ≤ W.heap.size
open Classical in
theorem class_of (B : Nat) (W : World) (hB : B ≤ W.heap.size) : ∃ G, Class B W G := by
  refine ⟨fun x => if Below B W x then x else W, fun x => ?_, fun w h => ⟨w, by rw [if_pos h]⟩, hB⟩
  by_cases h : Below B W x
  · rw [if_pos h]; exact h
  · rw [if_neg h]; exact ⟨rfl, rfl, rfl, Nat.le_refl _, fun _ _ => rfl⟩
theorem begin_ {P : Program} {id : Nat} {Q : Exit → Act → World → Prop} {a : Act} {w : World} {l : List Oper} {B : Nat} {W : World} {G : World → World} (hG : Class B W G) (hw : Below B W w) (hm : P.follows .mixedOrders = true) (hB : Region.lexB .any l.toArray = true)
    (h : wpQuiet P l.toArray (fun w' => ∃ x, w' = G x) (fun a' => ∀ w', (∃ x, w' = G x) → Q .normal a' w') l a) : (Code.region id l.toArray true).wp P Q a w :=
  wp_region_quiet (C := fun w' => ∃ x, w' = G x) hm hB (hG.onto _ ⟨hw.os, hw.tape, hw.output, hw.size, hw.block⟩) (by simpa using h)
theorem cell {B : Nat} {W : World} {G : World → World} (hG : Class B W G) {b o : Nat} {v : Value} (hb : b < B) (h : W.cell? ⟨b, o, none⟩ = some v) : ∀ x, (G x).cell? ⟨b, o, none⟩ = some v :=
  fun x => ((hG.below x).cell (p := ⟨b, o, none⟩) hb).trans h
theorem calls {P : Program} {f : FuncId} {args : Array Value} {v : Value} {B : Nat} {W : World} {G : World → World} (hG : Class B W G) (h : ∀ w, Calls P f args w fun e w' => e = .returned v ∧ Below w.heap.size w w') :
    ∀ x, Calls P f args (G x) fun e w'' => e = .returned v ∧ ∃ y, w'' = G y :=
  fun x => (h (G x)).mono fun _ _ ⟨he, hb⟩ => ⟨he, hG.onto _ ((hG.below x).trans (hb.mono (Nat.le_trans hG.le (hG.below x).size)))⟩
theorem start {P : Program} {id : Nat} {Q : Exit → Act → World → Prop} {a : Act} {l : List Oper} {B : Nat} {W : World} {G : World → World} {x : World} (hG : Class B W G) (hm : P.follows .mixedOrders = true) (hB : Region.lexB .any l.toArray = true)
    (h : wpQuiet P l.toArray (fun w' => ∃ x, w' = G x) (fun a' => ∀ w', (∃ x, w' = G x) → Q .normal a' w') l a) : (Code.region id l.toArray true).wp P Q a (G x) :=
  Qt.begin_ hG (hG.below x) hm hB h
end Qt
end Go.Proofs.YtdhhkancbgealaaGreat
end
