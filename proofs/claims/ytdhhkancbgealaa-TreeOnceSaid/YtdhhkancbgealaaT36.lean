import Derived.Test.YtdhhkancbgealaaT35
import Derived.Test.YtdhhkancbgealaaT12
namespace Go.Proofs.Ytdhhkancbgealaa
open Go.RowKit Go.Shelf
open Lx
set_option linter.unusedVariables false
set_option linter.unusedSimpArgs false
set_option maxRecDepth 100000
namespace Tr
def nn (n : Nat) (f : Int → Int) : List Value := (List.range n).map fun k : Nat => Value.int .i64 (f k)
def bb (n : Nat) (f : Int → Bool) : List Value := (List.range n).map fun k : Nat => Value.bool (f k)
theorem nn_get {n k : Nat} (f : Int → Int) (h : k < n) : (nn n f).toArray[k]? = some (.int .i64 (f k)) := by simp [nn, h]
theorem bb_get {n k : Nat} (f : Int → Bool) (h : k < n) : (bb n f).toArray[k]? = some (.bool (f k)) := by simp [bb, h]
theorem nn_set (n k : Nat) (f : Int → Int) (x : Int) : (nn n f).toArray.setIfInBounds k (.int .i64 x) = (nn n fun y => if y = (k : Int) then x else f y).toArray := by
 rw [List.setIfInBounds_toArray]
 congr 1
 refine List.ext_getElem? fun j => ?_
 rw [List.getElem?_set]
 by_cases hj : j < n
 ·by_cases he : k = j
  ·subst he; simp [nn, hj]
  ·have : ¬ (j : Int) = (k : Int) := by omega
   simp [nn, hj, he, this]
 ·by_cases he : k = j
  ·subst he; simp [nn, hj]
  ·simp [nn, hj, he]
theorem bb_set (n k : Nat) (f : Int → Bool) (x : Bool) : (bb n f).toArray.setIfInBounds k (.bool x) = (bb n fun y => if y = (k : Int) then x else f y).toArray := by
 rw [List.setIfInBounds_toArray]
 congr 1
 refine List.ext_getElem? fun j => ?_
 rw [List.getElem?_set]
 by_cases hj : j < n
 ·by_cases he : k = j
  ·subst he; simp [bb, hj]
  ·have : ¬ (j : Int) = (k : Int) := by omega
   simp [bb, hj, he, this]
 ·by_cases he : k = j
  ·subst he; simp [bb, hj]
  ·simp [bb, hj, he]
theorem allK_take {L : List Nd} {i : Nat} {x : Nd} (h : L[i]? = some x) : allK (L.take (i + 1)) = allK (L.take i) ++ x.kids := by
 rw [List.take_add_one, h]; exact allK_append _ _
theorem allK_split {L : List Nd} {i : Nat} {x : Nd} (h : L[i]? = some x) : ∃ M, allK L = allK (L.take i) ++ (x.kids ++ M) := by
 refine ⟨allK (L.drop (i + 1)), ?_⟩
 have : L = L.take (i + 1) ++ L.drop (i + 1) := (List.take_append_drop _ _).symm
 rw [← List.append_assoc, ← allK_take h]
 unfold allK
 rw [← List.flatMap_append, ← this]
theorem Good.fresh {L : List Nd} (hg : Good L) {i p : Nat} {x : Nd} {k : Int} (h : L[i]? = some x) (hk : x.kids[p]? = some k) : k ∉ allK (L.take i) ++ x.kids.take p := by
 obtain ⟨M, hM⟩ := allK_split h
 have h1 := hg.nodup
 obtain ⟨hp, hpe⟩ := List.getElem?_eq_some_iff.1 hk
 have e : x.kids = x.kids.take p ++ (k :: x.kids.drop (p + 1)) := by
  rw [← hpe, List.getElem_cons_drop, List.take_append_drop]
 rw [hM, e, List.append_assoc, ← List.append_assoc] at h1
 have h2 := (List.nodup_append.1 h1).2.2
 intro hm
 exact h2 _ hm _ (by simp) rfl
def rootsTo (L : List Nd) (j : Nat) : List Int := ((List.range j).map fun i : Nat => (i : Int)).filter fun i => decide (i ∉ allK L)
theorem rootsTo_succ (L : List Nd) (j : Nat) : rootsTo L (j + 1) = rootsTo L j ++ (if (j : Int) ∈ allK L then [] else [(j : Int)]) := by
 unfold rootsTo
 rw [List.range_succ, List.map_append, List.filter_append]
 congr 1
 by_cases h : (j : Int) ∈ allK L
 ·simp [h]
 ·simp [h]
theorem rootsTo_all (L : List Nd) : rootsTo L L.length = roots L := rfl
theorem Good.last {L : List Nd} (hg : Good L) {i : Int} (hi : has L i = true) {b : Nat} (hb : b + 1 = (below L i).length) : (below L i)[b]? = some i := by
 have e : below L i = ((kidsOf L i).flatMap fun k => Bel L k) ++ [i] := by unfold below; rw [if_pos hi, Bel_eq hg.down]
 rw [e] at hb ⊢
 rw [List.length_append, List.length_singleton] at hb
 rw [List.getElem?_append_right (by omega)]
 rw [show b - (List.flatMap (fun k => Bel L k) (kidsOf L i)).length = 0 by omega]; rfl
end Tr
theorem infoIntO : (Try.prog.info? 3).map (fun i => (i.zero, i.size, i.bytes)) = some (some (.int .i64 0), 1, 8) := by kernel_rfl
theorem infoBoolO : (Try.prog.info? 4).map (fun i => (i.zero, i.size, i.bytes)) = some (some (.bool false), 1, 1) := by kernel_rfl
theorem run_makeI (n : Nat) (hn : n ≤ 1099511627776) (w : World) : (Instr.makeSlice 36 (.int .i64 (n : Int)) (.int .i64 (n : Int))).run Try.prog w = .ok (.slice (some ⟨w.heap.size, 0, none⟩) n n) (w.alloc (.cells (Tr.nn n (fun _ => 0)).toArray 3)) := by
 obtain ⟨i0, hi, hz0, hz1, hz2⟩ := info_parts infoIntO
 have hr := run_make (P := Try.prog) w 36 3 i0 (.int .i64 0) Try.underlying36 hi hz0 .i64 .i64 n n (by omega) (Int.le_refl _) (by rw [hz2]; omega) (by omega)
 rw [hr, hz1]
 have e : madeCells (Value.int .i64 0).cells (((n : Int)).toNat * 1) = (Tr.nn n (fun _ => 0)).toArray := by
  apply Array.ext'
  rw [Int.toNat_natCast, Nat.mul_one]
  show (madeCells #[.int .i64 0] n).toList = _
  rw [toList_madeCells_one]
  apply List.ext_getElem?
  intro j
  by_cases hj : j < n
  ·simp [Tr.nn, hj]
  ·simp [Tr.nn, hj]
 rw [e, Int.toNat_natCast]
theorem run_makeB (n : Nat) (hn : n ≤ 1099511627776) (w : World) : (Instr.makeSlice 41 (.int .i64 (n : Int)) (.int .i64 (n : Int))).run Try.prog w = .ok (.slice (some ⟨w.heap.size, 0, none⟩) n n) (w.alloc (.cells (Tr.bb n (fun _ => false)).toArray 4)) := by
 obtain ⟨i0, hi, hz0, hz1, hz2⟩ := info_parts infoBoolO
 have hr := run_make (P := Try.prog) w 41 4 i0 (.bool false) Try.underlying41 hi hz0 .i64 .i64 n n (by omega) (Int.le_refl _) (by rw [hz2]; omega) (by omega)
 rw [hr, hz1]
 have e : madeCells (Value.bool false).cells (((n : Int)).toNat * 1) = (Tr.bb n (fun _ => false)).toArray := by
  apply Array.ext'
  rw [Int.toNat_natCast, Nat.mul_one]
  show (madeCells #[.bool false] n).toList = _
  rw [toList_madeCells_one]
  apply List.ext_getElem?
  intro j
  by_cases hj : j < n
  ·simp [Tr.bb, hj]
  ·simp [Tr.bb, hj]
 rw [e, Int.toNat_natCast]
set_option maxHeartbeats 8000000 in
theorem once18_law (v : Value) (s : Sm.S) (vo : Value) (os : List Tr.Op) (W : World) (hgs : SmallC W W.heap.size v s ∧ SmSz s) (hos : OpsC W W.heap.size vo os ∧ (∀ o ∈ os, opIn o) ∧ os.length ≤ reachBytes) :
  Calls Try.prog 3 #[v, vo] W fun e w' => e = .returned (.bool true) ∧ Below W.heap.size W w' := by
 obtain ⟨hg, hs⟩ := hgs
 obtain ⟨ho, hin, hlen⟩ := hos
 have hrb : reachBytes = 140737488351232 := rfl
 have HFEW := Lib.hid (show ∀ w', Below W.heap.size W w' → Calls Try.prog 7 #[v, .int .i64 20, .int .i64 8] w' fun e w'' => e = .returned (.bool (Sm.few s 20 8)) ∧ Below w'.heap.size w' w'' from fun w' hw' => sfew_any v s 20 8 W.heap.size w' (hg.below hw') hw'.size hs (by decide) (by decide))
 have HPLN := Lib.hid (fun (hl5 : Sm.nl s ≤ 5) (h20 : s.lefts.length ≤ 20) (h8 : ∀ l ∈ s.rights, l.length ≤ 8) (w' : World) (hw' : Below W.heap.size W w') => splan_any v s W.heap.size w' (hg.below hw') hw'.size hs hl5 h20 h8)
 have HF18 := Lib.hid (fun (w' : World) (hw' : Below W.heap.size W w') => few18_any vo os W.heap.size w' (ho.below hw') hw'.size (by omega) (fun o h => by have := (hin o h).2.2.2.2.2.2.2; omega))
 obtain ⟨AO, cO, ql, rfl, _⟩ := id ho
 have HO := Lib.hid ho
 have HIN := Lib.hid hin
 obtain ⟨x1, x2, E1, m1, f1, E2, m2, f2, E3, m3, f3, E4, m4, f4, E5, m5, f5, rfl⟩ := small_form hg
 have HAT0 := Lib.hid (At.new W 25 #[.int .u8 x1, .int .u8 x2, .slice E1 m1 f1, .slice E2 m2 f2, .slice E3 m3 f3, .slice E4 m4 f4, .slice E5 m5 f5])
 have HB0 := Lib.hid ((Below.refl W.heap.size W).alloc (Nat.le_refl _) (.cells #[.int .u8 x1, .int .u8 x2, .slice E1 m1 f1, .slice E2 m2 f2, .slice E3 m3 f3, .slice E4 m4 f4, .slice E5 m5 f5] 25))
 obtain ⟨on, hon⟩ : ∃ n, os.length = n := ⟨_, rfl⟩
 rw [hon] at HF18 HO ⊢
 have HON := Lib.hid hon
 clear hg hs ho hin hlen hon hrb
 go_enter Try.func3, Try.ntmps3
 go_wp2_with fail
 refine (awake18_any _).mono ?_
 rintro e w1 ⟨rfl, hb1⟩
 have HAT1 := Lib.hid (HAT0.out.below hb1 HAT0.out.lt)
 have HB1 := Lib.hid (HB0.out.trans (hb1.mono HB0.out.size))
 have ht1 := HAT1.out.lt
 clear hb1
 have x0 := HAT1.out.cell 0
 have x1' := HAT1.out.cell 1
 have x2' := HAT1.out.cell 2
 have x3 := HAT1.out.cell 3
 have x4 := HAT1.out.cell 4
 have x5 := HAT1.out.cell 5
 have x6 := HAT1.out.cell 6
 simp only [List.getElem?_toArray, List.getElem?_cons_zero, List.getElem?_cons_succ] at x0 x1' x2' x3 x4 x5 x6
 go_wp2_with fail
 refine (HFEW.out w1 HB1.out).mono ?_
 rintro e w2 ⟨rfl, hb2⟩
 have HAT2 := Lib.hid (HAT1.out.below hb2 ht1)
 have HB2 := Lib.hid (HB1.out.trans (hb2.mono HB1.out.size))
 clear hb2 x0 x1' x2' x3 x4 x5 x6 ht1 HAT1
 go_wp2_with fail
 refine (HF18.out w2 HB2.out).mono ?_
 rintro e w3 ⟨rfl, hb3⟩
 have HAT3 := Lib.hid (HAT2.out.below hb3 HAT2.out.lt)
 have HB3 := Lib.hid (HB2.out.trans (hb3.mono HB2.out.size))
 clear hb3 HAT2 HB2 HB1
 cases hfew : Sm.few s 20 8 with
 | false =>
  go_wp2_with fail
  go_ret
  exact ⟨rfl, HB3.out⟩
 | true =>
 cases hf18 : Tr.few os with
 | false =>
  go_wp2_with fail
  go_ret
  exact ⟨rfl, HB3.out⟩
 | true =>
 obtain ⟨h20, hl5, h8⟩ := few_partsT hfew
 have HPL := Lib.hid (HPLN.out hl5 h20 h8 w3 HB3.out)
 have HPS := Lib.hid (small_plan h20 h8)
 obtain ⟨PP, hPP⟩ : ∃ P, Nm.plan (Sm.gram s) = P := ⟨_, rfl⟩
 rw [hPP] at HPL HPS
 have HF := Lib.hid hf18
 have ht3 := HAT3.out.lt
 have x0 := HAT3.out.cell 0
 have x1' := HAT3.out.cell 1
 have x2' := HAT3.out.cell 2
 have x3 := HAT3.out.cell 3
 have x4 := HAT3.out.cell 4
 have x5 := HAT3.out.cell 5
 have x6 := HAT3.out.cell 6
 simp only [List.getElem?_toArray, List.getElem?_cons_zero, List.getElem?_cons_succ] at x0 x1' x2' x3 x4 x5 x6
 clear hfew hf18 h20 hl5 h8 HPLN HFEW HF18 HB0 HAT0 hPP
 go_wp2_with fail
 refine HPL.out.mono ?_
 rintro e w4 ⟨⟨pv, rfl, hpl⟩, hb4⟩
 have HB4 := Lib.hid (HB3.out.trans (hb4.mono HB3.out.size))
 have HPR := Lib.hid hpl.planR
 clear hpl hb4 HPL x0 x1' x2' x3 x4 x5 x6 ht3
 have HMD := Lib.hid (made_any pv PP _ os w4 W.heap.size HPR.out HPS.out (HO.out.below HB4.out) HB4.out.size HIN.out HF.out)
 go_wp2_with fail
 refine HMD.out.mono ?_
 rintro e w5 ⟨B, tg, g, mb, rt, rm, rfl, hdu, hBl, hb5⟩
 have HB5 := Lib.hid (HB4.out.trans (hb5.mono HB4.out.size))
 have hgd : Tr.Good (Tr.run PP 1000 [] os) := Tr.run_good _ _ _ _ Tr.good_nil
 have hll : (Tr.run PP 1000 [] os).length ≤ 40 := by
  have h1 := Tr.run_len PP 1000 os []
  have h2 := (Tr.few_of HF.out).1
  simp at h1; omega
 obtain ⟨L, hL⟩ : ∃ L, Tr.run PP 1000 [] os = L := ⟨_, rfl⟩
 rw [hL] at hdu hgd hll
 have HDU := Lib.hid hdu
 have HGD := Lib.hid hgd
 have HLL := Lib.hid hll
 clear hdu hgd hll hL hb5 hBl HMD
 have HTL := Lib.hid (HDU.out.tell HGD.out HLL.out)
 clear HDU HPR HPS HO HIN HF HAT3 HB4 HB3
 obtain ⟨n, hn⟩ : ∃ n, L.length = n := ⟨_, rfl⟩
 have HN := Lib.hid hn
 have hn40 : n ≤ 40 := by rw [← hn]; exact HLL.out
 have HLE := Lib.hid (HTL.out.len w5 (Below.refl _ _))
 rw [hn] at HLE
 clear hn
 go_wp2_with fail
 refine HLE.out.mono ?_
 rintro e w6 ⟨rfl, rfl⟩
 clear HLE
 have hmi := run_makeI n (by omega)
 have hmb := run_makeB n (by omega)
 obtain ⟨ZI, hZI⟩ : ∃ Z, (Tr.nn n (fun _ => 0)).toArray = Z := ⟨_, rfl⟩
 obtain ⟨ZB, hZB⟩ : ∃ Z, (Tr.bb n (fun _ => false)).toArray = Z := ⟨_, rfl⟩
 rw [hZI] at hmi
 rw [hZB] at hmb
 obtain ⟨w7, hw7⟩ : ∃ x, (w5.alloc (.cells ZI 3)).alloc (.cells ZB 4) = x := ⟨_, rfl⟩
 have hb7 : Below w5.heap.size w5 w7 := by rw [← hw7]; exact ((Below.refl _ _).alloc (Nat.le_refl _) _).alloc (by simp) _
 have hI7 : At w7 w5.heap.size 3 (Tr.nn n (fun _ => 0)).toArray := by
  rw [hZI, ← hw7]
  exact (At.new w5 3 ZI).alloc _
 have hU7 : At w7 (w5.heap.size + 1) 4 (Tr.bb n (fun _ => false)).toArray := by
  have := At.new (w5.alloc (.cells ZI 3)) 4 ZB
  rw [hw7, World.size_alloc] at this
  rw [hZB]; exact this
 obtain ⟨sb, hsb⟩ : ∃ sb, w5.heap.size = sb := ⟨_, rfl⟩
 obtain ⟨ub, hub⟩ : ∃ ub, w5.heap.size + 1 = ub := ⟨_, rfl⟩
 rw [hub] at hU7
 rw [hsb] at hI7
 have HW7 := Lib.hid hw7
 have HB7 := Lib.hid hb7
 have HI7 := Lib.hid hI7
 have HU7 := Lib.hid hU7
 have HSB := Lib.hid hsb
 have HUB := Lib.hid hub
 clear hZI hZB hw7 hb7 hI7 hU7 hsb hub
 go_wp2_with fail
 rw [HW7.out, HUB.out, HSB.out]
 have hss : w5.heap.size ≤ sb := by have := HSB.out; omega
 have hus : w5.heap.size ≤ ub := by have := HUB.out; omega
 have hsu : sb ≠ ub := by have := HUB.out; have := HSB.out; omega
 go_loopw [13] (fun i wr => ∃ j : Nat, j ≤ n ∧ i = .int .i64 (j : Int) ∧ Below w5.heap.size w5 wr ∧ At wr sb 3 (Tr.nn n (fun _ => 0)).toArray ∧ At wr ub 4 (Tr.bb n (fun x => decide (x ∈ Tr.allK (L.take j)))).toArray) (fun i _ => n - (intOf i).toNat)
 case atStart =>
  refine ⟨0, by omega, rfl, HB7.out, HI7.out, ?_⟩
  have e : (fun x : Int => decide (x ∈ Tr.allK (L.take 0))) = fun _ => false := funext fun x => by simp [Tr.allK]
  rw [e]; exact HU7.out
 case round =>
  obtain ⟨j, hj, rfl, hb, hI, hU⟩ := hrel
  have HB := Lib.hid hb
  have HI := Lib.hid hI
  have HU := Lib.hid hU
  clear hb hI hU
  by_cases hlt : j < n
  case pos =>
   have hji : (j : Int) < (n : Int) := by omega
   obtain ⟨nd, hnd⟩ : ∃ x, L[j]? = some x := ⟨_, List.getElem?_eq_getElem (by rw [HN.out]; exact hlt)⟩
   have HKI := Lib.hid (HTL.out.kids (j : Int) wr HB.out)
   have hat := Tr.at_of hnd
   rw [hat] at HKI
   have HND := Lib.hid hnd
   obtain ⟨K, hK⟩ : ∃ K, nd.kids = K := ⟨_, rfl⟩
   have HK := Lib.hid hK
   rw [hK] at HKI
   obtain ⟨kn, hkn⟩ : ∃ kn, K.length = kn := ⟨_, rfl⟩
   rw [hkn] at HKI
   have HKN := Lib.hid hkn
   have hk40 : kn ≤ 40 := by
    have := HGD.out.kids_len (j : Int)
    unfold Tr.kidsOf at this
    rw [hat, hK, hkn, HN.out] at this; omega
   clear hat hK hkn hnd
   go_wp2_with fail
   refine HKI.out.mono ?_
   rintro e w6 ⟨KA, kc, rfl, hko, hb6⟩
   have HB6 := Lib.hid (HB.out.trans (hb6.mono HB.out.size))
   have HL6 := Lib.hid (Lie.own hko)
   have HI6 := Lib.hid (HI.out.below hb6 HI.out.lt)
   have HU6 := Lib.hid (HU.out.below hb6 HU.out.lt)
   clear hko hb6 HKI
   go_wp2_with fail
   go_loopw [15] (fun q wr => ∃ p : Nat, p ≤ kn ∧ q = .int .i64 (p : Int) ∧ Below w5.heap.size w5 wr ∧ At wr sb 3 (Tr.nn n (fun _ => 0)).toArray ∧ At wr ub 4 (Tr.bb n (fun x => decide (x ∈ Tr.allK (L.take j) ++ K.take p))).toArray ∧ Lie wr 3 KA (vals K)) (fun q _ => kn - (intOf q).toNat)
   case atStart => exact ⟨0, by omega, rfl, HB6.out, HI6.out, by simpa using HU6.out, HL6.out⟩
   case round =>
    obtain ⟨p, hp, rfl, hb, hI, hU, hL⟩ := hrel
    have HBQ := Lib.hid hb
    have HIQ := Lib.hid hI
    have HUQ := Lib.hid hU
    have HLQ := Lib.hid hL
    clear hb hI hU hL
    by_cases hlt2 : p < kn
    case pos =>
     have hpi : (p : Int) < (kn : Int) := by omega
     have hp0 : (0 : Int) ≤ (p : Int) := by omega
     obtain ⟨x, hx⟩ : ∃ x, K[p]? = some x := ⟨_, List.getElem?_eq_getElem (by rw [HKN.out]; exact hlt2)⟩
     obtain ⟨b, o, rfl, hbl, hc⟩ := lie_at HLQ.out hx
     have hxb := HGD.out.lt j nd HND.out x (by rw [HK.out]; exact List.mem_of_getElem? hx)
     have hfr := HGD.out.fresh HND.out (by rw [HK.out]; exact hx)
     rw [HK.out] at hfr
     have hts := take_snocT hx
     obtain ⟨k, rfl⟩ : ∃ k : Nat, x = (k : Int) := ⟨x.toNat, by omega⟩
     have hk0 : (0 : Int) ≤ (k : Int) := by omega
     have hk1 : ¬ (k : Int) < 0 := by omega
     have hkj : ¬ (j : Int) ≤ (k : Int) := by omega
     have hkn2 : (k : Int) < (n : Int) := by omega
     have hkn3 : k < n := by omega
     have uc := (HUQ.out.cell k).trans (Tr.bb_get _ hkn3)
     rw [decide_eq_false hfr] at uc
     have uz := HUQ.out.frozen k
     have ul := HUQ.out.lt
     have hset := HUQ.out.set k (.bool true)
     rw [Tr.bb_set] at hset
     have hfe : (fun y : Int => if y = (k : Int) then true else decide (y ∈ Tr.allK (L.take j) ++ K.take p)) = fun y => decide (y ∈ Tr.allK (L.take j) ++ K.take (p + 1)) := funext fun y => by
      rw [hts, ← List.append_assoc]
      by_cases h : y = (k : Int)
      ·simp [h]
      ·simp [h]
     rw [hfe] at hset
     have HSET := Lib.hid hset
     have HI9 := Lib.hid (HIQ.out.far (p := ⟨ub, k, none⟩) hsu (.bool true))
     have HL9 := Lib.hid (HLQ.out.keepsAt HUQ.out (by decide) k (.bool true))
     have HB9 := Lib.hid (below_setB (o := k) HBQ.out hus HBQ.out.size (.bool true))
     clear hset hfe hts hfr hxb hx
     go_wp2_with fail
     go_roundw
     case rel => exact ⟨p + 1, by omega, by go_num, HB9.out, HI9.out, HSET.out, HL9.out⟩
     case measure => simp [intOf]; omega
    case neg =>
     obtain rfl : kn = p := by omega
     rw [List.take_of_length_le (l := K) (by rw [HKN.out]; exact Nat.le_refl _), ← HK.out, ← Tr.allK_take HND.out] at HUQ
     go_wp2_with fail
     go_roundw
     case rel => exact ⟨j + 1, by omega, by go_num, HBQ.out, HIQ.out, HUQ.out⟩
     case measure => simp [intOf]; omega
  case neg =>
  obtain rfl : n = j := by omega
  rw [List.take_of_length_le (by rw [HN.out]; exact Nat.le_refl _)] at HU
  clear hlt
  go_wp2_with fail
  go_loopw [16] (fun i wr => ∃ (j : Nat) (T : List Int), j ≤ n ∧ i = .int .i64 (j : Int) ∧ T = (Tr.rootsTo L j).flatMap (Tr.Bel L) ∧ T.length ≤ j * 41 ∧ Below w5.heap.size w5 wr ∧ At wr sb 3 (Tr.nn n (fun x => (T.count x : Int))).toArray ∧ At wr ub 4 (Tr.bb n (fun x => decide (x ∈ Tr.allK L))).toArray) (fun i _ => n - (intOf i).toNat)
  case atStart => exact ⟨0, [], by omega, rfl, rfl, by simp, HB.out, HI.out, HU.out⟩
  case round =>
   obtain ⟨j, T, hj, rfl, hT, hTl, hb, hI, hU⟩ := hrel
   have HT := Lib.hid hT
   have HB := Lib.hid hb
   have HI := Lib.hid hI
   have HU := Lib.hid hU
   clear hb hI hU hT
   by_cases hlt : j < n
   case pos =>
    have hji : (j : Int) < (n : Int) := by omega
    have hj0 : (0 : Int) ≤ (j : Int) := by omega
    have uc := (HU.out.cell j).trans (Tr.bb_get _ hlt)
    have ul := HU.out.lt
    by_cases hm : (j : Int) ∈ Tr.allK L
    case pos =>
     rw [decide_eq_true hm] at uc
     have HRS := Lib.hid (show Tr.rootsTo L (j + 1) = Tr.rootsTo L j by rw [Tr.rootsTo_succ, if_pos hm]; simp)
     clear hm
     go_wp2_with fail
     go_roundw
     case rel => exact ⟨j + 1, T, by omega, by go_num, by rw [HRS.out]; exact HT.out, by omega, HB.out, HI.out, HU.out⟩
     case measure => simp [intOf]; omega
    case neg =>
    rw [decide_eq_false hm] at uc
    have hhas : Tr.has L (j : Int) = true := Tr.has_of (by rw [HN.out]; exact hlt)
    have HHA := Lib.hid hhas
    have HBE := Lib.hid (HTL.out.below (j : Int) wr HB.out)
    have hrs : (Tr.rootsTo L (j + 1)).flatMap (Tr.Bel L) = T ++ Tr.below L (j : Int) := by
     rw [Tr.rootsTo_succ, if_neg hm, List.flatMap_append, ← HT.out, show Tr.below L (j : Int) = Tr.Bel L (j : Int) by unfold Tr.below; rw [if_pos hhas]]; simp
    have hbm : ∀ x ∈ Tr.below L (j : Int), 0 ≤ x ∧ x < (n : Int) := fun x hx => by
     rw [show Tr.below L (j : Int) = Tr.Bel L (j : Int) by unfold Tr.below; rw [if_pos hhas]] at hx
     have := HGD.out.bel_le ((j : Int).toNat + 1) (j : Int) (by omega) x hx
     omega
    have hbn : (Tr.below L (j : Int)).length ≤ 41 := by
     have h1 := HGD.out.bel_len (j : Int)
     have h2 := HLL.out
     rw [show Tr.below L (j : Int) = Tr.Bel L (j : Int) by unfold Tr.below; rw [if_pos hhas]]; omega
    have HLA := Lib.hid (fun b (hb : b + 1 = (Tr.below L (j : Int)).length) => HGD.out.last hhas hb)
    have hpos : 1 ≤ (Tr.below L (j : Int)).length := by
     rw [show Tr.below L (j : Int) = Tr.Bel L (j : Int) by unfold Tr.below; rw [if_pos hhas], Tr.Bel_eq HGD.out.down]; simp
    obtain ⟨BL, hBL⟩ : ∃ x, Tr.below L (j : Int) = x := ⟨_, rfl⟩
    rw [hBL] at HBE hrs hbm hbn HLA hpos
    obtain ⟨bn, hbl⟩ : ∃ n, BL.length = n := ⟨_, rfl⟩
    rw [hbl] at HBE hbn HLA hpos
    have HBN := Lib.hid hbl
    have HRS := Lib.hid hrs
    have HBM := Lib.hid hbm
    have hsl := HI.out.lt
    clear hm hhas hrs hbm hBL hbl
    go_wp2_with fail
    refine HBE.out.mono ?_
    rintro e w6 ⟨BA, bc, rfl, hbo, hb6⟩
    have HB6 := Lib.hid (HB.out.trans (hb6.mono HB.out.size))
    have HI6 := Lib.hid (HI.out.below hb6 HI.out.lt)
    have HU6 := Lib.hid (HU.out.below hb6 HU.out.lt)
    obtain ⟨b9, hb9⟩ : ∃ b9, wr.heap.size = b9 := ⟨_, rfl⟩
    rw [hb9] at hbo hsl
    have HBO := Lib.hid hbo
    clear hbo hb6 HBE hb9 uc ul
    go_wp2_with fail
    go_loopw [18] (fun q wr => ∃ p : Nat, p ≤ bn ∧ q = .int .i64 (p : Int) ∧ Below w5.heap.size w5 wr ∧ At wr sb 3 (Tr.nn n (fun x => ((T ++ BL.take p).count x : Int))).toArray ∧ At wr ub 4 (Tr.bb n (fun x => decide (x ∈ Tr.allK L))).toArray ∧ wr.ownsRow b9 3 1 (.slice BA bn bc) bn (vals BL)) (fun q _ => bn - (intOf q).toNat)
    case atStart => exact ⟨0, by omega, rfl, HB6.out, by simpa using HI6.out, HU6.out, HBO.out⟩
    case round =>
     obtain ⟨p, hp, rfl, hb, hI, hU, hbo⟩ := hrel
     have HBQ := Lib.hid hb
     have HIQ := Lib.hid hI
     have HUQ := Lib.hid hU
     have HOQ := Lib.hid hbo
     clear hb hI hU hbo
     by_cases hlt2 : p < bn
     case pos =>
      have hpi : (p : Int) < (bn : Int) := by omega
      have hp0 : (0 : Int) ≤ (p : Int) := by omega
      obtain ⟨x, hx⟩ : ∃ x, BL[p]? = some x := ⟨_, List.getElem?_eq_getElem (by rw [HBN.out]; exact hlt2)⟩
      obtain ⟨b, o, rfl, hbl, hc⟩ := lie_at (Lie.own HOQ.out) hx
      have hxb := HBM.out x (List.mem_of_getElem? hx)
      have hts := take_snocT hx
      obtain ⟨k, rfl⟩ : ∃ k : Nat, x = (k : Int) := ⟨x.toNat, by omega⟩
      have hk0 : (0 : Int) ≤ (k : Int) := by omega
      have hk1 : ¬ (k : Int) < 0 := by omega
      have hkn1 : ¬ (n : Int) ≤ (k : Int) := by omega
      have hkn2 : (k : Int) < (n : Int) := by omega
      have hkn3 : k < n := by omega
      have sc := (HIQ.out.cell k).trans (Tr.nn_get _ hkn3)
      have sz := HIQ.out.frozen k
      have sl := HIQ.out.lt
      have hcl : (T ++ BL.take p).count (k : Int) ≤ 41 * 41 + 41 := by
       have h1 := List.count_le_length (a := (k : Int)) (l := T ++ BL.take p)
       rw [List.length_append, List.length_take] at h1
       omega
      obtain ⟨cn, hcn⟩ : ∃ cn : Nat, (T ++ BL.take p).count (k : Int) = cn := ⟨_, rfl⟩
      rw [hcn] at sc hcl
      have hw : IntKind.i64.wrap ((cn : Int) + 1) = (cn : Int) + 1 := by rw [IntKind.wrap_i64]; omega
      have hset := HIQ.out.set k (.int .i64 ((cn : Int) + 1))
      rw [Tr.nn_set] at hset
      have hfe : (fun y : Int => if y = (k : Int) then ((cn : Int) + 1) else ((T ++ BL.take p).count y : Int)) = fun y => ((T ++ BL.take (p + 1)).count y : Int) := funext fun y => by
       rw [hts, ← List.append_assoc, List.count_append (l₂ := [(k : Int)])]
       by_cases h : y = (k : Int)
       ·subst h; rw [if_pos rfl, hcn]; simp
       ·rw [if_neg h, List.count_eq_zero_of_not_mem (l := [(k : Int)]) (by simpa using h)]; simp
      rw [hfe] at hset
      have HSET := Lib.hid hset
      have HU9 := Lib.hid (HUQ.out.far (p := ⟨sb, k, none⟩) hsu.symm (.int .i64 ((cn : Int) + 1)))
      have HB9 := Lib.hid (below_setB (o := k) HBQ.out hss HBQ.out.size (.int .i64 ((cn : Int) + 1)))
      have HO9 := Lib.hid (own_keeps HOQ.out ((Keeps.refl [sb] wr).set (p := ⟨sb, k, none⟩) (.inl (by simp)) (.int .i64 ((cn : Int) + 1))) (fun q hq hm => by
       have := (HOQ.out.lt q hq).1
       simp at hm; omega))
      clear hset hfe hts hxb hx hcn
      go_wp2_with fail
      go_roundw
      case rel => exact ⟨p + 1, by omega, by go_num, HB9.out, HSET.out, HU9.out, HO9.out⟩
      case measure => simp [intOf]; omega
     case neg =>
      obtain rfl : bn = p := by omega
      rw [List.take_of_length_le (by rw [HBN.out]; exact Nat.le_refl _), ← HRS.out] at HIQ
      obtain ⟨b', hb'⟩ : ∃ b', b' + 1 = bn := ⟨bn - 1, by omega⟩
      have hla := HLA.out b' hb'
      obtain ⟨b, o, rfl, hbl, hc⟩ := lie_at (Lie.own HOQ.out) hla
      have hw : IntKind.i64.wrap ((bn : Int) - 1) = (b' : Int) := by rw [IntKind.wrap_i64]; omega
      have hb0 : (0 : Int) ≤ (b' : Int) := by omega
      have hbb : (b' : Int) < (bn : Int) := by omega
      have hbz : ((bn : Int) == 0) = false := by simp; omega
      have HTT := Lib.hid (show ((Tr.rootsTo L (j + 1)).flatMap (Tr.Bel L)).length ≤ (j + 1) * 41 by rw [HRS.out, List.length_append, HBN.out]; omega)
      clear hla hb'
      go_wp2_with fail
      go_roundw
      case rel => exact ⟨j + 1, _, by omega, by go_num, rfl, HTT.out, HBQ.out, HIQ.out, HUQ.out⟩
      case measure => simp [intOf]; omega
   case neg =>
   obtain rfl : n = j := by omega
   have HONE := Lib.hid (show ∀ k : Nat, k < n → (T.count (k : Int) : Int) = 1 from fun k hk => by
    have := HGD.out.told_once (Tr.has_of (i := k) (by rw [HN.out]; exact hk))
    rw [← Tr.rootsTo_all, HN.out, ← HT.out] at this
    omega)
   clear hlt
   go_wp2_with fail
   go_loopw [19] (fun i wr => ∃ j : Nat, j ≤ n ∧ i = .int .i64 (j : Int) ∧ Below w5.heap.size w5 wr ∧ At wr sb 3 (Tr.nn n (fun x => (T.count x : Int))).toArray) (fun i _ => n - (intOf i).toNat)
   case atStart => exact ⟨0, by omega, rfl, HB.out, HI.out⟩
   case round =>
    obtain ⟨j, hj, rfl, hb, hI⟩ := hrel
    have HB := Lib.hid hb
    have HI := Lib.hid hI
    clear hb hI
    by_cases hlt : j < n
    ·have hji : (j : Int) < (n : Int) := by omega
     have hj0 : (0 : Int) ≤ (j : Int) := by omega
     have sc := (HI.out.cell j).trans (Tr.nn_get _ hlt)
     rw [HONE.out j hlt] at sc
     have sl := HI.out.lt
     go_wp2_with fail
     go_roundw
     case rel => exact ⟨j + 1, by omega, by go_num, HB.out, HI.out⟩
     case measure => simp [intOf]; omega
    ·obtain rfl : n = j := by omega
     go_wp2_with fail
     go_ret
     exact ⟨rfl, HB5.out.trans (HB.out.mono HB5.out.size)⟩
end Go.Proofs.Ytdhhkancbgealaa
