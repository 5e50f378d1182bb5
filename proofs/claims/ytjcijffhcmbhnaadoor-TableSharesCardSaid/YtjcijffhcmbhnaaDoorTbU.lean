import Derived.Test.YtjcijffhcmbhnaaDoorTbH
namespace Go.Proofs.YtjcijffhcmbhnaaDoor
set_option maxRecDepth 100000
open Go.RowKit
set_option linter.unusedVariables false
set_option linter.unusedSimpArgs false
def Wide (R : List (List Int)) : Prop := R.length ≤ 25 ∧ ∀ l ∈ R, l.length ≤ 40
set_option maxHeartbeats 4000000 in
theorem share_wide (v : Value) (R : List (List Int)) (w : World) (h : RowsL w v R) (hS : Wide R) (hP : Pow w.heap.size w) :
  Calls Tryd.prog 10 #[v] w fun e w' => ∃ v1 v2, e = .returned (.tuple #[v1, v2]) ∧ Shared w w' v1 v2 R := by
 obtain ⟨i0, hi, hz0, hz1, hz2⟩ := info_parts Tryd.infoInt
 obtain ⟨i1, hj, hy0, hy1, hy2⟩ := info_parts Tryd.infoIs
 have KR := Lib.hid h
 have KS := Lib.hid hS
 have KP := Lib.hid hP
 have hR25 := hS.1
 obtain ⟨A, c, rfl⟩ := h.shape
 clear h hS hP
 go_enter Tryd.func10, Tryd.ntmps10
 have hmm := @run_makeMap Tryd.prog
 go_wp2_with fail
 clear hmm
 go_loopg [4, 5, 15] R.length (fun q t4 t5 t15 wr => ∃ (k : Nat) (PV : List Value), t15 = .int .i64 (k : Int) ∧ k ≤ R.length ∧ q = R.length - k ∧ ShrS w.heap.size w.heap.size wr t4 t5 PV (ints (Tb.ids (R.take k))) (Tb.outs (R.take k)) (Tb.outs (R.take k)) ∧ Below w.heap.size w wr)
 case atStart => exact ⟨0, [], rfl, by omega, by omega, ⟨OwnI.nil _ _, World.ownsRow_nil _ _ _ _, rfl, (fun i u l h => by simp at h), Known.made w, Nat.le_refl _, by simp⟩, (Below.refl _ _).alloc (Nat.le_refl _) _⟩
 case round =>
  obtain ⟨k, PV, rfl, hk, hq, hSh, hb⟩ := hrel
  have KSh := Lib.hid hSh
  have Kb := Lib.hid hb
  have Kq := Lib.hid hq
  obtain ⟨a1, c1, rfl⟩ := hSh.ids.shape
  obtain ⟨a2, c2, rfl, _⟩ := own_slice hSh.out
  have hpl := hSh.plen
  have hszr := hb.size
  clear hSh hb hq
  by_cases hlt : k < R.length
  ·obtain ⟨l, hl⟩ : ∃ l, R[k]? = some l := ⟨_, List.getElem?_eq_getElem hlt⟩
   have hlm : l ∈ R := List.mem_of_getElem? hl
   have hl25 := KS.out.2 l hlm
   obtain ⟨b, o, c', A', c'', he, hc0, hrow0⟩ := KR.out.cell hl
   have hc := (Kb.out.cell (p := ⟨b, o + k, none⟩) (cell_spot hc0).1).trans hc0
   have hrow := hrow0.below Kb.out
   simp only [Value.slice.injEq, true_and] at he
   obtain ⟨rfl, rfl⟩ := he
   have q1 : (0 : Int) ≤ (k : Int) := by omega
   have q2 : (k : Int) < (R.length : Int) := by omega
   have q3 : ((k : Int)).toNat = k := by omega
   have hids := Tb.ids_snoc (R.take k) l
   rw [← Tb.take_snoc hl] at hids
   have hil : (Tb.ids (R.take k)).length ≤ 25 := by rw [Tb.ids_length, List.length_take]; omega
   have hol : (Tb.outs (R.take k)).length ≤ 25 := by have := Tb.outs_le (R.take k); rw [List.length_take] at this; omega
   have hold : Tb.find (Tb.outs (R.take k)) (Tb.trim l) < (Tb.outs (R.take k)).length → Tb.outs (R.take (k + 1)) = Tb.outs (R.take k) := fun hf => by rw [Tb.take_snoc hl, Tb.outs_old hf]
   have hnew : ¬ Tb.find (Tb.outs (R.take k)) (Tb.trim l) < (Tb.outs (R.take k)).length → Tb.outs (R.take (k + 1)) = Tb.outs (R.take k) ++ [Tb.trim l] := fun hf => by rw [Tb.take_snoc hl, Tb.outs_new hf]
   have htl : (Tb.trim l).length ≤ 40 := by have := Tb.trim_le l; omega
   have htx : (Tb.txt (Tb.trim l)).length ≤ 100000 := by
    have := Tb.txt_length (l := Tb.trim l) (hrow.trimmed.small)
    omega
   have hle := Tb.find_le (Tb.outs (R.take k)) (Tb.trim l)
   generalize Tb.ids (R.take k) = I at KSh hids hil ⊢
   generalize Tb.outs (R.take k) = O at KSh hids hol hold hnew hle hpl ⊢
   have Kwo := Lib.hid (without_any A' c'' w.heap.size l wr hrow)
   have hrt := hrow.trimmed
   generalize ht : Tb.trim l = t at Kwo hrt hids hold hnew htl htx hle
   have Kte := Lib.hid (text_any A' c'' w.heap.size t wr hrt hszr (by omega) (KP.out.up Kb.out hszr))
   have Kids := Lib.hid hids
   have Krt := Lib.hid hrt
   clear hl hlm hl25 hc0 hrow0 hrow hids hrt ht
   by_cases hf : Tb.find O t < O.length
   ·have Kout := Lib.hid (hold hf)
    have hdf : decide (Tb.find O t < O.length) = true := decide_eq_true hf
    clear hold hnew
    go_wp2_with fail
    refine Kwo.out.mono ?_
    rintro e w0 ⟨rfl, rfl⟩
    go_wp2_with fail
    refine Kte.out.mono ?_
    rintro e w1 ⟨rfl, hb1⟩
    have KSh1 := Lib.hid (KSh.out.below hb1)
    have Kb1 := Lib.hid (Kb.out.trans (below_le hb1 hszr))
    obtain ⟨c0, hrun, hc0⟩ := KSh1.out.map.look t htx
    rw [hdf] at hrun
    obtain rfl := hc0 hf
    clear hb1 KSh Kb Kte hc0 hdf
    go_wp2_with (at_builtin; refine wpList_append_own2 _ rfl (.tmp 41) (.tmp 43) 25 rfl w.heap.size 3 i0 _ 1 8 Tryd.underlying25 hi hz0 hz1 hz2 rfl (by decide) (.slice a1 (ints I).length c1) _ (vals (ints I)) rfl (KSh1.out.alloc _).ids ⟨w1.heap.size, 0, none⟩ 1 1 [.int .i64 ((Tb.find O t : Nat) : Int)] rfl rfl (cell_one_new _ _ _) (one_one rfl) ?d1 ?d2 ?d3 ?_)
    case d1 => rw [ints_length]; unfold maxLen; omega
    case d2 => rw [ints_length]; omega
    case d3 => have := KSh1.out.size; rw [World.size_alloc]; omega
    intro v5 w5 hown hgrow hsn
    have KSh5 := Lib.hid ((KSh1.out.alloc _).num (x := ((Tb.find O t : Nat) : Int)) (show OwnI w5 w.heap.size v5 (ints I ++ [((Tb.find O t : Nat) : Int)]) by
     unfold OwnI
     rw [vals_snoc, List.length_append]; exact hown) hgrow hsn)
    have Kb5 := Lib.hid ((Kb1.out.alloc KSh1.out.size _).grown hgrow (by have := KSh1.out.size; rw [World.size_alloc]; omega) (fun q hq => (KSh1.out.ids.lt q hq).1))
    clear hown hgrow hsn
    go_wp2_with fail
    go_roundg (R.length - (k + 1))
    case measure => have := Kq.out; omega
    case rel =>
     refine ⟨k + 1, PV, by go_num, by omega, rfl, ?_, Kb5.out⟩
     rw [Kids.out, ints_snoc]
     rw [Kout.out]; exact KSh5.out
   ·have hfl : Tb.find O t = O.length := by omega
    have Kout := Lib.hid (hnew hf)
    have hdf : decide (Tb.find O t < O.length) = false := decide_eq_false hf
    have Kfl := Lib.hid hfl
    clear hold hnew
    go_wp2_with fail
    refine Kwo.out.mono ?_
    rintro e w0 ⟨rfl, rfl⟩
    go_wp2_with fail
    refine Kte.out.mono ?_
    rintro e w1 ⟨rfl, hb1⟩
    have KSh1 := Lib.hid (KSh.out.below hb1)
    have Kb1 := Lib.hid (Kb.out.trans (below_le hb1 hszr))
    obtain ⟨c0, hrun, hc0⟩ := KSh1.out.map.look t htx
    rw [hdf] at hrun
    obtain ⟨w2, hrun2, hk2, hg2⟩ := KSh1.out.map.put t htx hfl (by omega)
    have KSh2 := Lib.hid (KSh1.out.put hg2 hk2)
    have Kb2 := Lib.hid (Kb1.out.grown hg2 KSh1.out.size (fun q hq => by injection hq with hq; omega))
    have hsz1 := hb1.size
    have hsz2 := hg2.size
    have hrt2 : RowIn w2 w.heap.size (.slice A' t.length c'') t := by
     have h1 := Krt.out.below (hb1.mono hszr)
     exact h1.below ((Below.refl _ _).grown hg2 KSh1.out.size (fun q hq => by injection hq with hq; omega))
    have Kcl := Lib.hid (clone_any A' c'' w.heap.size t w2 hrt2 (by omega))
    clear hb1 KSh Kb Kte hc0 hdf hf hfl hk2 hg2 hrt2
    go_wp2_with fail
    refine Kcl.out.mono ?_
    rintro e w3 ⟨u, rfl, hO3, hb3⟩
    have hap : Ap (.slice a1 (ints I).length c1) u := fun q h1 h2 => by
     have h3 := own_block KSh2.out.ids q h1
     have h4 := (hO3.lt q h2).1
     omega
    have KSh3 := Lib.hid (KSh2.out.below hb3)
    have Kb3 := Lib.hid (Kb2.out.trans (below_le hb3 KSh2.out.size))
    have KO3 := Lib.hid (show OwnI w3 w.heap.size u t from own_base hO3 KSh2.out.size)
    have Kap := Lib.hid hap
    obtain ⟨au, cu, rfl⟩ := hO3.shape
    clear hO3 hb3 hap Kcl KSh1 Kb1 hrun hrun2
    go_wp2_with (at_builtin; refine wpList_append_own2 _ rfl (.tmp 36) (.tmp 39) 22 rfl w.heap.size 25 i1 _ 1 24 Tryd.underlying22 hj hy0 hy1 hy2 rfl (by decide) (.slice a2 O.length c2) _ PV rfl (KSh3.out.alloc _).out ⟨w3.heap.size, 0, none⟩ 1 1 [.slice au t.length cu] rfl rfl (cell_one_new _ _ _) (one_one rfl) ?c1 ?c2 ?c3 ?_)
    case c1 => unfold maxLen; omega
    case c2 => omega
    case c3 => have := KSh3.out.size; rw [World.size_alloc]; omega
    intro v4 w4 hown hgrow hsn
    have KSh4 := Lib.hid ((KSh3.out.alloc _).add (KO3.out.alloc _) Kap.out (by rw [List.length_append]; exact hown) hgrow)
    have Kb4 := Lib.hid ((Kb3.out.alloc KSh3.out.size _).grown hgrow (by have := KSh3.out.size; rw [World.size_alloc]; omega) (fun q hq => (KSh3.out.out.lt q hq).1))
    obtain ⟨a4, c4, rfl, _⟩ := own_slice hown
    clear hown hgrow hsn KSh3 Kb3 KO3 Kap
    go_wp2_with (at_builtin; refine wpList_append_own2 _ rfl (.tmp 41) (.tmp 43) 25 rfl w.heap.size 3 i0 _ 1 8 Tryd.underlying25 hi hz0 hz1 hz2 rfl (by decide) (.slice a1 (ints I).length c1) _ (vals (ints I)) rfl (KSh4.out.alloc _).ids ⟨w4.heap.size, 0, none⟩ 1 1 [.int .i64 (O.length : Int)] rfl rfl (cell_one_new _ _ _) (one_one rfl) ?d1 ?d2 ?d3 ?_)
    case d1 => rw [ints_length]; unfold maxLen; omega
    case d2 => rw [ints_length]; omega
    case d3 => have := KSh4.out.size; rw [World.size_alloc]; omega
    intro v5 w5 hown hgrow hsn
    have KSh5 := Lib.hid ((KSh4.out.alloc _).num (x := (O.length : Int)) (show OwnI w5 w.heap.size v5 (ints I ++ [(O.length : Int)]) by
     unfold OwnI
     rw [vals_snoc, List.length_append]; exact hown) hgrow hsn)
    have Kb5 := Lib.hid ((Kb4.out.alloc KSh4.out.size _).grown hgrow (by have := KSh4.out.size; rw [World.size_alloc]; omega) (fun q hq => (KSh4.out.ids.lt q hq).1))
    clear hown hgrow hsn
    go_wp2_with fail
    go_roundg (R.length - (k + 1))
    case measure => have := Kq.out; omega
    case rel =>
     refine ⟨k + 1, PV ++ [.slice au t.length cu], by go_num, by omega, rfl, ?_, Kb5.out⟩
     rw [Kids.out, ints_snoc]
     rw [Kout.out, Kfl.out]; exact KSh5.out
  ·obtain rfl : k = R.length := by omega
   rw [List.take_length] at KSh ⊢
   go_wp2_with fail
   go_ret2
   exact ⟨_, _, rfl, KSh.out.ids, ⟨PV, KSh.out.out, KSh.out.plen, fun i u l h1 h2 => (KSh.out.each i u l h1 h2).1⟩, Kb.out⟩
end Go.Proofs.YtjcijffhcmbhnaaDoor
