import Derived.Test.YtjcijffhcmbhnaaDoorTbH
namespace Go.Proofs.YtjcijffhcmbhnaaDoor
set_option maxRecDepth 100000
open Go.RowKit
open BitKit
set_option linter.unusedVariables false
set_option linter.unusedSimpArgs false
structure RefS (B : Nat) (w : World) (v1 v2 : Value) (PV : List Value) (I : List Int) (O : List (List Int)) : Prop where
 ids : OwnI w B v1 I
 out : w.ownsRow B 25 1 v2 O.length PV
 plen : PV.length = O.length
 each : ∀ (i : Nat) (u : Value) (l : List Int), PV[i]? = some u → O[i]? = some l → OwnI w B u l ∧ Ap v1 u
 size : B ≤ w.heap.size
section
variable {B : Nat} {w w' : World} {v1 v2 : Value} {PV : List Value} {I : List Int} {O : List (List Int)}
theorem RefS.below (h : RefS B w v1 v2 PV I O) (hb : Below w.heap.size w w') : RefS B w' v1 v2 PV I O :=
 ⟨h.ids.below hb, own_below h.out hb (fun k hk => own_block h.out k hk), h.plen, fun i u l h1 h2 => ⟨(h.each i u l h1 h2).1.below hb, (h.each i u l h1 h2).2⟩, Nat.le_trans h.size hb.size⟩
theorem RefS.alloc (h : RefS B w v1 v2 PV I O) (o : Obj) : RefS B (w.alloc o) v1 v2 PV I O := h.below ((Below.refl _ _).alloc (Nat.le_refl _) o)
theorem RefS.drewN (h : RefS B w v1 v2 PV I O) (k : Nat) : RefS B (w.drewN k) v1 v2 PV I O := h.below (below_drewN (Below.refl _ _) k)
theorem RefS.add (h : RefS B w v1 v2 PV I O) {u v2' : Value} {l : List Int} (hu : OwnI w B u l) (ha : Ap v1 u) (ho : w'.ownsRow B 25 1 v2' (O ++ [l]).length (PV ++ [u])) (hg : w.grownBy w' v2.ownBlock) :
  RefS B w' v1 v2' (PV ++ [u]) I (O ++ [l]) := by
 have hne : ∀ {x : Value} {l : List Int}, OwnI w B x l → OwnI w' B x l := fun hx => own_kept_ne hx hg (fun k hk e => own_apart2 hx h.out (by decide) k hk e)
 refine ⟨hne h.ids, ho, by simp [h.plen], fun i x r h1 h2 => ?_, Nat.le_trans h.size hg.size⟩
 by_cases hi : i < PV.length
 ·rw [List.getElem?_append_left hi] at h1
  rw [List.getElem?_append_left (by have := h.plen; omega)] at h2
  exact ⟨hne (h.each i x r h1 h2).1, (h.each i x r h1 h2).2⟩
 ·have hil := (List.getElem?_eq_some_iff.1 h1).1
  simp only [List.length_append, List.length_cons, List.length_nil] at hil
  have he : i = PV.length := by omega
  subst he
  simp at h1
  rw [h.plen] at h2
  simp at h2
  subst h1 h2
  exact ⟨hne hu, ha⟩
theorem RefS.num (h : RefS B w v1 v2 PV I O) {v1' : Value} {x : Int} (ho : OwnI w' B v1' (I ++ [x])) (hg : w.grownBy w' v1.ownBlock) (hs : SameOrNew w v1 v1') : RefS B w' v1' v2 PV (I ++ [x]) O :=
 ⟨ho, own_kept_ne h.out hg (fun k hk e => own_apart2 h.ids h.out (by decide) k e hk), h.plen, fun i u l h1 h2 => ⟨own_ap (h.each i u l h1 h2).1 hg (h.each i u l h1 h2).2.symm, (h.each i u l h1 h2).2.new hs (own_block (h.each i u l h1 h2).1)⟩,
  Nat.le_trans h.size hg.size⟩
end
theorem OwnI.asRow {w : World} {B : Nat} {v : Value} {l : List Int} (h : OwnI w B v l) (hs : Small l) : Row w v l := row_own h hs
def NotTo (O : List (List Int)) (t : List Int) (k : Nat) : Prop := ∀ j, j < k → O[j]? ≠ some t
set_option maxHeartbeats 4000000 in
theorem refshare_any (v : Value) (R : List (List Int)) (w : World) (h : RowsL w v R) (hS : Short R) :
  Calls Tryd.prog 11 #[v] w fun e w' => ∃ v1 v2, e = .returned (.tuple #[v1, v2]) ∧ Shared w w' v1 v2 R := by
 obtain ⟨i0, hi, hz0, hz1, hz2⟩ := info_parts Tryd.infoInt
 obtain ⟨i1, hj, hy0, hy1, hy2⟩ := info_parts Tryd.infoIs
 have KR := Lib.hid h
 have KS := Lib.hid hS
 have hR25 := hS.1
 obtain ⟨A, c, rfl⟩ := h.shape
 clear h hS
 go_enter Tryd.func11, Tryd.ntmps11
 go_wp2_with fail
 go_loopg [4, 5, 6] R.length (fun q t4 t5 t6 wr => ∃ (k : Nat) (PV : List Value), t6 = .int .i64 (k : Int) ∧ k ≤ R.length ∧ q = R.length - k ∧ RefS w.heap.size wr t4 t5 PV (ints (Tb.ids (R.take k))) (Tb.outs (R.take k)) ∧ (∀ t ∈ Tb.outs (R.take k), Small t) ∧ Below w.heap.size w wr)
 case atStart => exact ⟨0, [], rfl, by omega, by omega, ⟨OwnI.nil _ _, World.ownsRow_nil _ _ _ _, rfl, (fun i u l h => by simp at h), Nat.le_refl _⟩, (fun t ht => by simp [Tb.outs, Tb.share] at ht), Below.refl _ _⟩
 case round =>
  obtain ⟨k, PV, rfl, hk, hq, hSh, hsm, hb⟩ := hrel
  have KSh := Lib.hid hSh
  have Kb := Lib.hid hb
  have Kq := Lib.hid hq
  obtain ⟨a1, c1, rfl⟩ := hSh.ids.shape
  obtain ⟨a2, c2, rfl, _⟩ := own_slice hSh.out
  have hpl := hSh.plen
  have hszr := hb.size
  clear hSh hb hq
  by_cases hlt : k < R.length
  ·obtain ⟨l, hl⟩ : ∃ l, R[k]? = some l := ⟨_, List.getElem?_eq_getElem hlt⟩
   have hlm : l ∈ R := List.mem_of_getElem? hl
   have hl25 := KS.out.2 l hlm
   obtain ⟨b, o, c', A', c'', he, hc0, hrow0⟩ := KR.out.cell hl
   have hc := (Kb.out.cell (p := ⟨b, o + k, none⟩) (cell_spot hc0).1).trans hc0
   have hrow := hrow0.below Kb.out
   simp only [Value.slice.injEq, true_and] at he
   obtain ⟨rfl, rfl⟩ := he
   have q1 : (0 : Int) ≤ (k : Int) := by omega
   have q2 : (k : Int) < (R.length : Int) := by omega
   have q3 : ((k : Int)).toNat = k := by omega
   have hids := Tb.ids_snoc (R.take k) l
   rw [← Tb.take_snoc hl] at hids
   have hil : (Tb.ids (R.take k)).length ≤ 25 := by rw [Tb.ids_length, List.length_take]; omega
   have hol : (Tb.outs (R.take k)).length ≤ 25 := by have := Tb.outs_le (R.take k); rw [List.length_take] at this; omega
   have hold : Tb.find (Tb.outs (R.take k)) (Tb.trim l) < (Tb.outs (R.take k)).length → Tb.outs (R.take (k + 1)) = Tb.outs (R.take k) := fun hf => by rw [Tb.take_snoc hl, Tb.outs_old hf]
   have hnew : ¬ Tb.find (Tb.outs (R.take k)) (Tb.trim l) < (Tb.outs (R.take k)).length → Tb.outs (R.take (k + 1)) = Tb.outs (R.take k) ++ [Tb.trim l] := fun hf => by rw [Tb.take_snoc hl, Tb.outs_new hf]
   have htl : (Tb.trim l).length ≤ 25 := by have := Tb.trim_le l; omega
   have hts : Small (Tb.trim l) := hrow.trimmed.small
   generalize Tb.ids (R.take k) = I at KSh hids hil ⊢
   generalize Tb.outs (R.take k) = O at KSh hids hol hold hnew hpl hsm ⊢
   have Ktr := Lib.hid (trim_any A' c'' w.heap.size l wr hrow hszr (by omega))
   generalize ht : Tb.trim l = t at Ktr hids hold hnew htl hts
   have Kids := Lib.hid hids
   have Kold := Lib.hid hold
   have Knew := Lib.hid hnew
   have Ksm := Lib.hid hsm
   have Kts := Lib.hid hts
   clear hl hlm hl25 hc0 hrow0 hrow hids ht hold hnew hsm hts
   go_wp2_with fail
   refine Ktr.out.mono ?_
   rintro e w1 ⟨u, rfl, hO1, hb1⟩
   have hap : Ap (.slice a1 (ints I).length c1) u := fun q h1 h2 => by
    have h3 := own_block KSh.out.ids q h1
    have h4 := (hO1.lt q h2).1
    omega
   have KSh1 := Lib.hid (KSh.out.below hb1)
   have Kb1 := Lib.hid (Kb.out.trans (below_le hb1 hszr))
   have KO1 := Lib.hid (show OwnI w1 w.heap.size u t from own_base hO1 hszr)
   have Kap := Lib.hid hap
   obtain ⟨au, cu, rfl⟩ := hO1.shape
   clear hO1 hb1 hap Ktr KSh Kb hc
   go_wp2_with fail
   go_loopg [8] O.length (fun q t8 wz => ∃ j : Nat, t8 = .int .i64 (j : Int) ∧ j ≤ O.length ∧ q = O.length - j ∧ NotTo O t j ∧ ∃ n, wz = w1.drewN n)
   case atStart => exact ⟨0, rfl, by omega, by omega, (fun i hi => by omega), 0, rfl⟩
   case round =>
    obtain ⟨j, rfl, hj1, hq2, hno, n, hwz⟩ := hrel
    have Kno := Lib.hid hno
    have Kq2 := Lib.hid hq2
    have Kwz := Lib.hid hwz
    clear hno hq2 hwz
    by_cases hjl : j < O.length
    ·obtain ⟨r, hr⟩ : ∃ r, O[j]? = some r := ⟨_, List.getElem?_eq_getElem hjl⟩
     obtain ⟨ru, hru⟩ : ∃ ru, PV[j]? = some ru := ⟨_, List.getElem?_eq_getElem (by omega)⟩
     have hrs := Ksm.out r (List.mem_of_getElem? hr)
     have hz : RefS w.heap.size wr (.slice a1 (ints I).length c1) (.slice a2 O.length c2) PV (ints I) O := by rw [Kwz.out]; exact KSh1.out.drewN _
     have hro := (hz.each j ru r hru hr).1
     have hto : OwnI wr w.heap.size (.slice au t.length cu) t := by rw [Kwz.out]; exact KO1.out.drewN _
     have Kin := Lib.hid (ints_says _ _ r t wr (hro.asRow hrs) (hto.asRow Kts.out))
     obtain ⟨ar, cr, rfl⟩ := hro.shape
     obtain ⟨g2, cg, he2, _⟩ := own_pos hz.out (by omega)
     simp only [Value.slice.injEq, true_and] at he2
     obtain ⟨rfl, rfl⟩ := he2
     have cj := hz.out.cellAt j (by omega)
     rw [hru] at cj
     have p1 : (0 : Int) ≤ (j : Int) := by omega
     have p2 : (j : Int) < (O.length : Int) := by omega
     have p3 : ((j : Int)).toNat = j := by omega
     have Kr := Lib.hid hr
     clear hr hru hrs hz hro hto
     by_cases heq : r = t
     ·rw [decide_eq_true heq] at Kin
      have Keq := Lib.hid heq
      clear heq
      go_wp2_with fail
      refine Kin.out.mono ?_
      rintro e w2 ⟨rfl, n2, hw2⟩
      have hfind : Tb.find O t = j := Tb.find_of (by rw [Kr.out, Keq.out]) Kno.out
      have Kfind := Lib.hid hfind
      have KSh2 := Lib.hid (show RefS w.heap.size w2 (.slice a1 (ints I).length c1) (.slice (some ⟨g2, 0, none⟩) O.length c2) PV (ints I) O by rw [hw2, Kwz.out]; exact (KSh1.out.drewN _).drewN _)
      have Kb2 := Lib.hid (show Below w.heap.size w w2 by rw [hw2, Kwz.out]; exact below_drewN (below_drewN Kb1.out _) _)
      have Kout := Lib.hid (Kold.out (by rw [hfind]; exact hjl))
      have hjn : ((j : Int) == (O.length : Int)) = false := by simp; omega
      clear hfind hw2 cj
      go_wp2_with (at_builtin; refine wpList_append_own2 _ rfl (.tmp 43) (.tmp 45) 25 rfl w.heap.size 3 i0 _ 1 8 Tryd.underlying25 hi hz0 hz1 hz2 rfl (by decide) (.slice a1 (ints I).length c1) _ (vals (ints I)) rfl (KSh2.out.alloc _).ids ⟨w2.heap.size, 0, none⟩ 1 1 [.int .i64 (j : Int)] rfl rfl (cell_one_new _ _ _) (one_one rfl) ?d1 ?d2 ?d3 ?_)
      case d1 => rw [ints_length]; unfold maxLen; omega
      case d2 => rw [ints_length]; omega
      case d3 => have := KSh2.out.size; rw [World.size_alloc]; omega
      intro v5 w5 hown hgrow hsn
      have KSh5 := Lib.hid ((KSh2.out.alloc _).num (x := (j : Int)) (show OwnI w5 w.heap.size v5 (ints I ++ [(j : Int)]) by
       unfold OwnI
       rw [vals_snoc, List.length_append]; exact hown) hgrow hsn)
      have Kb5 := Lib.hid ((Kb2.out.alloc KSh2.out.size _).grown hgrow (by have := KSh2.out.size; rw [World.size_alloc]; omega) (fun q hq => (KSh2.out.ids.lt q hq).1))
      clear hown hgrow hsn
      go_wp2_with fail
      go_roundg (R.length - (k + 1))
      case measure => have := Kq.out; omega
      case rel =>
       refine ⟨k + 1, PV, by go_num, by omega, rfl, ?_, ?_, Kb5.out⟩
       ·rw [Kids.out, ints_snoc]
        rw [Kout.out, Kfind.out]; exact KSh5.out
       ·rw [Kout.out]; exact Ksm.out
     ·rw [decide_eq_false heq] at Kin
      have Keq := Lib.hid heq
      clear heq
      go_wp2_with fail
      refine Kin.out.mono ?_
      rintro e w2 ⟨rfl, n2, hw2⟩
      have Kw2 := Lib.hid hw2
      clear hw2
      go_wp2_with fail
      go_roundg (O.length - (j + 1))
      case measure => have := Kq2.out; omega
      case rel =>
       refine ⟨j + 1, by go_num, by omega, rfl, fun i hi => ?_, _, by rw [Kw2.out, Kwz.out]; exact World.drewN_drewN ..⟩
       by_cases he : i = j
       ·subst he; rw [Kr.out]; intro e; exact Keq.out (by injection e)
       ·exact Kno.out i (by omega)
    ·obtain rfl : j = O.length := by omega
     have hfl : Tb.find O t = O.length := Tb.find_none (fun hm => by
      obtain ⟨i, hi⟩ := List.mem_iff_getElem?.1 hm
      exact Kno.out i (List.getElem?_eq_some_iff.1 hi).1 hi)
     have Kfl := Lib.hid hfl
     have Kout := Lib.hid (Knew.out (by rw [hfl]; omega))
     have KSh2 := Lib.hid (show RefS w.heap.size wr (.slice a1 (ints I).length c1) (.slice a2 O.length c2) PV (ints I) O by rw [Kwz.out]; exact KSh1.out.drewN _)
     have Kb2 := Lib.hid (show Below w.heap.size w wr by rw [Kwz.out]; exact below_drewN Kb1.out _)
     have KO2 := Lib.hid (show OwnI wr w.heap.size (.slice au t.length cu) t by rw [Kwz.out]; exact KO1.out.drewN _)
     clear hfl
     go_wp2_with (at_builtin; refine wpList_append_own2 _ rfl (.tmp 39) (.tmp 41) 22 rfl w.heap.size 25 i1 _ 1 24 Tryd.underlying22 hj hy0 hy1 hy2 rfl (by decide) (.slice a2 O.length c2) _ PV rfl (KSh2.out.alloc _).out ⟨wr.heap.size, 0, none⟩ 1 1 [.slice au t.length cu] rfl rfl (cell_one_new _ _ _) (one_one rfl) ?c1 ?c2 ?c3 ?_)
     case c1 => unfold maxLen; omega
     case c2 => omega
     case c3 => have := KSh2.out.size; rw [World.size_alloc]; omega
     intro v4 w4 hown hgrow hsn
     have KSh4 := Lib.hid ((KSh2.out.alloc _).add (KO2.out.alloc _) Kap.out (by rw [List.length_append]; exact hown) hgrow)
     have Kb4 := Lib.hid ((Kb2.out.alloc KSh2.out.size _).grown hgrow (by have := KSh2.out.size; rw [World.size_alloc]; omega) (fun q hq => (KSh2.out.out.lt q hq).1))
     obtain ⟨a4, c4, rfl, _⟩ := own_slice hown
     clear hown hgrow hsn
     go_wp2_with (at_builtin; refine wpList_append_own2 _ rfl (.tmp 43) (.tmp 45) 25 rfl w.heap.size 3 i0 _ 1 8 Tryd.underlying25 hi hz0 hz1 hz2 rfl (by decide) (.slice a1 (ints I).length c1) _ (vals (ints I)) rfl (KSh4.out.alloc _).ids ⟨w4.heap.size, 0, none⟩ 1 1 [.int .i64 (O.length : Int)] rfl rfl (cell_one_new _ _ _) (one_one rfl) ?d1 ?d2 ?d3 ?_)
     case d1 => rw [ints_length]; unfold maxLen; omega
     case d2 => rw [ints_length]; omega
     case d3 => have := KSh4.out.size; rw [World.size_alloc]; omega
     intro v5 w5 hown hgrow hsn
     have KSh5 := Lib.hid ((KSh4.out.alloc _).num (x := (O.length : Int)) (show OwnI w5 w.heap.size v5 (ints I ++ [(O.length : Int)]) by
      unfold OwnI
      rw [vals_snoc, List.length_append]; exact hown) hgrow hsn)
     have Kb5 := Lib.hid ((Kb4.out.alloc KSh4.out.size _).grown hgrow (by have := KSh4.out.size; rw [World.size_alloc]; omega) (fun q hq => (KSh4.out.ids.lt q hq).1))
     clear hown hgrow hsn
     go_wp2_with fail
     go_roundg (R.length - (k + 1))
     case measure => have := Kq.out; omega
     case rel =>
      refine ⟨k + 1, PV ++ [.slice au t.length cu], by go_num, by omega, rfl, ?_, ?_, Kb5.out⟩
      ·rw [Kids.out, ints_snoc]
       rw [Kout.out, Kfl.out]; exact KSh5.out
      ·rw [Kout.out]
       intro y hy
       rcases List.mem_append.1 hy with h1 | h1
       ·exact Ksm.out y h1
       ·rw [List.mem_singleton.1 h1]; exact Kts.out
  ·obtain rfl : k = R.length := by omega
   rw [List.take_length] at KSh ⊢
   go_wp2_with fail
   go_ret2
   exact ⟨_, _, rfl, KSh.out.ids, ⟨PV, KSh.out.out, KSh.out.plen, fun i u l h1 h2 => (KSh.out.each i u l h1 h2).1⟩, Kb.out⟩
end Go.Proofs.YtjcijffhcmbhnaaDoor
