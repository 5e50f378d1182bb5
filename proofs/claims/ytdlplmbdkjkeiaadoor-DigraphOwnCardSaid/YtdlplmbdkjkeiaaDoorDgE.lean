import Derived.Test.YtdlplmbdkjkeiaaDoorDgD
import Derived.Outline
namespace Go.Proofs.YtdlplmbdkjkeiaaDoor
set_option maxRecDepth 100000
open Go.RowKit
set_option linter.unusedVariables false
set_option linter.unusedSimpArgs false
section
variable {w w' a : World} {B g n : Nat} {rv lv wv pv qv : Value} {RV LV WL PL PV : List Value} {rest : Nat → List Int} {ps : List (List Nat)}
theorem Wk.cutPath {P0 c m : Nat} (h : Wk w B g n rv lv wv (.slice (some ⟨P0, 0, none⟩) (m + 1) c) qv RV LV WL PL PV rest ps) (hm : PL.length = m + 1) :
  Wk (w.setCell ⟨g, 3, none⟩ (.slice (some ⟨P0, 0, none⟩) m c)) B g n rv lv wv (.slice (some ⟨P0, 0, none⟩) m c) qv RV LV WL (PL.take m) PV rest ps := by
 have hp := h.path
 rw [hm] at hp
 have hc := own_cut hp m (by omega)
 rw [Nat.mul_one] at hc
 refine h.setField 3 _ (by simp) h.rest_ h.low h.wait ?_ h.parts h.plen h.each h.a1 h.a2 h.a3 h.a4 h.a5 h.a6
 rw [List.length_take, hm, Nat.min_eq_left (by omega)]; exact hc
theorem Wk.cutWait {W0 c m k : Nat} (h : Wk w B g n rv lv (.slice (some ⟨W0, 0, none⟩) m c) pv qv RV LV WL PL PV rest ps) (hm : WL.length = m) (hk : k ≤ m) :
  Wk (w.setCell ⟨g, 2, none⟩ (.slice (some ⟨W0, 0, none⟩) k c)) B g n rv lv (.slice (some ⟨W0, 0, none⟩) k c) pv qv RV LV (WL.take k) PL PV rest ps := by
 have hp := h.wait
 rw [hm] at hp
 have hc := own_cut hp k hk
 rw [Nat.mul_one] at hc
 refine h.setField 2 _ (by simp) h.rest_ h.low ?_ h.path h.parts h.plen h.each h.a1 h.a2 h.a3 h.a4 h.a5 h.a6
 rw [List.length_take, hm, Nat.min_eq_left (by omega)]; exact hc
theorem none_or (v : Value) : v.ownBlock = none ∨ v.ownBlock ≠ none := Classical.em _
theorem Wk.new (h : Wk w B g n rv lv wv pv qv RV LV WL PL PV rest ps) (hg : w.grownBy w' none) : Wk w' B g n rv lv wv pv qv RV LV WL PL PV rest ps :=
 h.kept hg (fun k hk => by cases hk) (by simp) (none_or _) (none_or _) (none_or _) (none_or _) (none_or _) (fun v _ => none_or v)
theorem Wk.pushPart (h : Wk w B g n rv lv wv pv qv RV LV WL PL PV rest ps) {qv' v : Value} {P : List Nat} (hg : w.grownBy w' qv.ownBlock) (ho : w'.ownsRow B 28 1 qv' (PV.length + 1) (PV ++ [v])) (hs : SameOrNew w qv qv')
  (hv : w.ownsRow B 3 1 v P.length (valsOf P)) (e1 : Ap lv v) (e2 : Ap wv v) (e3 : Ap pv v) (e4 : ∀ u ∈ PV, Ap u v) :
  Wk (w'.setCell ⟨g, 4, none⟩ qv') B g n rv lv wv pv qv' RV LV WL PL (PV ++ [v]) rest (ps ++ [P]) := by
 have hB : ∀ k, qv.ownBlock = some k → B ≤ k := fun k hk => (h.parts.lt k hk).1
 have hat : some g ≠ qv.ownBlock := fun e => own_apart h.parts h.at_ (by decide) e.symm
 have br := own_block h.rest_
 have hr := own_ap h.rest_ hg h.a6
 have f : ∀ {u : Value} {m : Nat} {xs : List Value}, w.ownsRow B 3 1 u m xs → w'.ownsRow B 3 1 u m xs := fun hu => hu.kept hg (ap_or (ap_type hu h.parts (by decide)))
 have h1 : At w' g 68 #[rv, lv, wv, pv, qv] := h.at_.grown hg hat
 have a6' : Ap rv qv' := (h.a6.symm.new hs br).symm
 refine ⟨(h1.set 4 qv').to (by simp), h.base, own_far hr h1 (by decide) _ _, fun j hj => ?_, own_far (f h.low) h1 (by decide) _ _, own_far (f h.wait) h1 (by decide) _ _, own_far (f h.path) h1 (by decide) _ _, ?_, by simp [h.plen], fun i P' v' k1 k2 => ?_, h.a1, h.a2, h.a3, ?_, ?_, a6'⟩
 ·obtain ⟨v, k1, k2⟩ := h.rows j hj
  exact ⟨v, k1, k2.below (below_set ((Below.refl _ _).grown hg h.size hB) h.base _)⟩
 ·rw [List.length_append]; exact own_far ho h1 (by decide) _ _
 ·refine own_far (f ?_) h1 (by decide) _ _
  rw [List.getElem?_append] at k1 k2
  have hl := h.plen
  by_cases hi : i < ps.length
  ·rw [if_pos hi] at k1
   rw [if_pos (by omega)] at k2
   exact h.each i P' v' k1 k2
  ·rw [if_neg hi] at k1
   rw [if_neg (by omega), hl] at k2
   have h0 : i - ps.length = 0 := by
    have := (List.getElem?_eq_some_iff.1 k1).1
    simp at this; omega
   rw [h0] at k1 k2
   simp at k1 k2
   subst k1 k2
   exact hv
 ·intro u hu
  simp only [List.mem_append, List.mem_cons, List.not_mem_nil, or_false] at hu
  rcases hu with hu | rfl
  ·exact h.a4 u hu
  ·exact ⟨e1, e2, e3⟩
 ·rw [List.pairwise_append]
  exact ⟨h.a5, by simp, fun u hu v' hv' => by simp at hv'; subst hv'; exact e4 u hu⟩
end
theorem cut_hi1 (ao : Option Addr) (n k cap : Nat) (hk : k ≤ cap) (w : World) :
  (Instr.slice 28 (.slice ao n cap) none (some (.int .i64 (k : Int))) none).run Tryd.prog w = .ok (.slice ao k cap) w := by
 have hs : (Go.sizeOf (Tryd.prog.elem 28)).run Tryd.prog w = .ok 1 w := by kernel_rfl
 rw [run_slice_h (P := Tryd.prog) w 28 ao n cap Tryd.underlying28 .i64 (k : Int) (by omega) (by omega), hs]
 cases ao <;> simp [Result.andThen, sliced, Addr.add]
theorem cut_lo1 (b n k cap : Nat) (hk : k < n) (hn : n ≤ cap) (w : World) :
  (Instr.slice 28 (.slice (some ⟨b, 0, none⟩) n cap) (some (.int .i64 (k : Int))) none none).run Tryd.prog w = .ok (.slice (some ⟨b, k, none⟩) (n - k) (cap - k)) w := by
 have hs : (Go.sizeOf (Tryd.prog.elem 28)).run Tryd.prog w = .ok 1 w := by kernel_rfl
 rw [run_slice_l (P := Tryd.prog) w 28 (some ⟨b, 0, none⟩) n cap Tryd.underlying28 .i64 (k : Int) (by omega) (by omega), hs]
 have hc : ¬ cap = k := by omega
 simp [Result.andThen, sliced, hc, Addr.add]
 grind
theorem path_le : ∀ S : List (Nat × List Nat), S.length ≤ (Dg.flat S).length
 | [] => by simp [Dg.flat]
 | (p, o) :: S => by
  have := path_le S
  rw [Dg.flat_cons]; simp; omega
theorem wks_of {w : World} {B g n : Nat} {rv lv wv pv qv : Value} {RV LV WL PL PV : List Value} {rest : Nat → List Int} {ps : List (List Nat)} {s : Dg.St} (h : Wk w B g n rv lv wv pv qv RV LV WL PL PV rest ps)
  (e1 : LV = lows n s.low) (e2 : WL = valsOf s.wait) (e3 : PL = valsOf s.path) (e4 : rest = s.rest) (e5 : ps = s.parts) : WkS w B g n s rv lv wv pv qv RV PV := by
 subst e1 e2 e3 e4 e5; exact h
theorem parts_le : ∀ ps : List (List Nat), (∀ P ∈ ps, P ≠ []) → ps.length ≤ ps.flatten.length
 | [], _ => by simp
 | P :: ps, h => by
  have h1 := parts_le ps (fun Q hQ => h Q (by simp [hQ]))
  have h2 : 0 < P.length := List.length_pos_iff.2 (h P (by simp))
  rw [List.flatten_cons, List.length_append, List.length_cons]; omega
structure Left (G : Nat → List Int) (n : Nat) (S : List (Nat × List Nat)) (s s' : Dg.St) : Prop where
 inv : Dg.Inv G n s'
 path : s'.path = S.map (·.1)
 left : s'.left n + 1 ≤ s.left n
 mono : Dg.Mono s s'
theorem low_told (low : Nat → Nat) (P : List Nat) (i x : Nat) (h : P[i]? = some x) : Dg.upd (fun v => if v ∈ P.take i then Dg.T else low v) x Dg.T = fun v => if v ∈ P.take (i + 1) then Dg.T else low v := by
 funext v
 have hm : v ∈ P.take (i + 1) ↔ v ∈ P.take i ∨ v = x := by
  rw [List.take_add_one, h]; simp
 unfold Dg.upd
 by_cases hv : v = x
 ·rw [if_pos hv, if_pos (hm.2 (.inr hv))]
 ·rw [if_neg hv]
  show (if v ∈ P.take i then Dg.T else low v) = _
  by_cases h1 : v ∈ P.take i
  ·rw [if_pos h1, if_pos (hm.2 (.inl h1))]
  ·rw [if_neg h1, if_neg (fun h2 => (hm.1 h2).elim h1 hv)]
set_option maxHeartbeats 8000000 in
theorem leave_any (G : Nat → List Int) (B g n : Nat) (s : Dg.St) (rv lv wv pv qv : Value) (RV PV : List Value) (S : List (Nat × List Nat)) (p : Nat) (o : List Nat) (w : World) (hI : Dg.Inv G n s) (H : WkS w B g n s rv lv wv pv qv RV PV) (hn : n ≤ 1099511627776) (hs : s.segs = S ++ [(p, o)]) (hr : s.rest p = []) :
    Calls Tryd.prog 48 #[.pointer (some ⟨g, 0, none⟩), .int .i64 (p : Int)] w fun e w' => e = .returned (.tuple #[]) ∧ (∃ s' wv' pv' qv' PV', Left G n S s s' ∧ WkS w' B g n s' rv lv wv' pv' qv' RV PV') ∧ Below B w w' ∧ Spares tsW w w' := by
  have hpw := (Dg.last_out hI hs).1
  have hp : p < n := hI.lt p (by simp [hpw])
  have hbg := H.base
  have hwl := hI.wait_len
  obtain ⟨m, hm⟩ : ∃ m, s.path.length = m + 1 := ⟨S.length, by simp [Dg.St.path, hs]⟩
  have hmS : m = S.length := by have : s.path.length = S.length + 1 := by simp [Dg.St.path, hs]
                                omega
  have hmb : m < 1099511627777 := by
    have h1 := path_le s.segs
    have h2 : s.segs.length = m + 1 := by rw [hmS, hs]; simp
    have h3 : (Dg.flat s.segs).length = s.wait.length := rfl
    omega
  obtain ⟨L, cL, rfl, hcL, hbL⟩ := own_pos H.low (by omega)
  have hpl : (valsOf s.path).length = m + 1 := by rw [valsOf_len, hm]
  have hww : (valsOf s.wait).length = s.wait.length := valsOf_len _
  have hpath := H.path
  rw [hpl] at hpath
  obtain ⟨P0, cP, rfl, hcP, hbP⟩ := own_pos hpath (by omega)
  have hw0 : 0 < s.wait.length := List.length_pos_of_mem hpw
  have hwait := H.wait
  rw [hww] at hwait
  obtain ⟨W0, cW, rfl, hcW, hbW⟩ := own_pos hwait hw0
  obtain ⟨l, hl⟩ : ∃ l, s.low p = l + 1 := ⟨s.low p - 1, by have := hI.wait_low hpw; omega⟩
  obtain ⟨u, hu, hRu⟩ := hI.sound p hpw
  rw [hl, Nat.add_sub_cancel] at hu
  have hlw : l < s.wait.length := (List.getElem?_eq_some_iff.1 hu).1
  have K := Lib.hid H
  have KI := Lib.hid hI
  have Kr := Lib.hid hr
  have Kl := Lib.hid hl
  have Ku := Lib.hid hu
  have Kmm := Lib.hid (And.intro hm hmS)
  have c3 := H.at_.cell 3
  have z3 := H.at_.frozen 3
  have hx1 : (0 : Int) ≤ (p : Int) := by omega
  have hx2 : (p : Int) < (n : Int) := by omega
  have hx3 : ((p : Int)).toNat = p := by omega
  have hsl : ∀ wx, (Instr.slice 28 (.slice (some ⟨P0, 0, none⟩) (m + 1) cP) none (some (.int .i64 (m : Int))) none).run Tryd.prog wx = .ok (.slice (some ⟨P0, 0, none⟩) m cP) wx := fun wx => cut_hi1 _ _ _ _ (by omega) wx
  simp at c3
  clear H hI hr hl hu hm hmS hpath hwait hRu
  go_enter Tryd.func48, Tryd.ntmps48
  go_wp2_with fail
  go_region
  have K1' := (K.out.cutPath hpl).drew
  have B1' := below_drew (below_set (Below.refl B w) (p := ⟨g, 3, none⟩) hbg (.slice (some ⟨P0, 0, none⟩) m cP))
  have S1' := ((Spares.refl tsW w).set K.out.at_ (by decide) 3 (.slice (some ⟨P0, 0, none⟩) m cP)).drew
  obtain ⟨w1, hw1⟩ : ∃ W, W = (w.setCell ⟨g, 3, none⟩ (.slice (some ⟨P0, 0, none⟩) m cP)).drew := ⟨_, rfl⟩
  rw [← hw1] at K1' B1' S1' ⊢
  have K1 := Lib.hid K1'
  have KB1 := Lib.hid B1'
  have KS1 := Lib.hid S1'
  have d1 := K1'.at_.cell 1
  have d2 := K1'.at_.cell 2
  simp at d1 d2
  have cp : w1.cell? ⟨L, p, none⟩ = some (.int .i64 ((l : Int) + 1)) := by
    rw [K1'.low.cellAt p (by omega), lows_get _ hp, Kl.out]; rfl
  have hwt := K1'.wait
  rw [hww] at hwt
  have cu : w1.cell? ⟨W0, l, none⟩ = some (.int .i64 (u : Int)) := by rw [hwt.cellAt l (by omega), valsOf_get Ku.out]
  have hl1 : (0 : Int) ≤ (l : Int) := by omega
  have hl2 : (l : Int) < (s.wait.length : Int) := by omega
  have hl3 : ((l : Int)).toNat = l := by omega
  have hlb : l < 9223372036854775807 := by omega
  clear K1' B1' S1' hw1 hwt c3 z3 hsl
  by_cases hup : u = p
  · subst hup
    have hne : ((u : Int) != (u : Int)) = false := by simp
    have hwt2 : s.wait = Dg.flat S ++ u :: o := by simp [Dg.St.wait, hs, Dg.flat]
    have hlS : l = (Dg.flat S).length := KI.out.idx Ku.out (by rw [hwt2]; simp)
    have hdr : s.wait.drop l = u :: o := by rw [hwt2, hlS]; simp
    have htk : s.wait.take l = Dg.flat S := by rw [hwt2, hlS]; simp
    have hlen : s.wait.length - l = (u :: o).length := by rw [← hdr]; simp
    have hlo := cut_lo1 W0 s.wait.length l cW hlw hcW
    have hhi := cut_hi1 (some ⟨W0, 0, none⟩) s.wait.length l cW (by omega)
    have hwt := K1.out.wait
    rw [hww] at hwt
    have hlies : Lies w1 (some ⟨W0, l, none⟩) (valsOf (u :: o)) := by
      intro j x hj
      refine ⟨_, rfl, ?_⟩
      rw [Go.WideShapes.add_plain]
      rw [← hdr, ← valsOf_drop, List.getElem?_drop] at hj
      have hlt := (List.getElem?_eq_some_iff.1 hj).1
      rw [hww] at hlt
      rw [hwt.cellAt (l + j) (by omega)]
      exact hj
    have hclone := Lib.hid (clone_ints (some ⟨W0, l, none⟩) (s.wait.length - l) (cW - l) (u :: o) w1 hlen.symm hlies (by omega))
    have Kl2 := Lib.hid hlen
    have KS2 := Lib.hid (And.intro hlS (And.intro hdr htk))
    have Kwt := Lib.hid hwt2
    have Klow := Lib.hid hwl
    clear hwt hlies hlen hlS hdr htk hwt2
    go_wp2_with fail
    refine hclone.out.mono ?_
    rintro e w2 ⟨v, rfl, ho2, hg2⟩
    obtain ⟨N, hN⟩ : ∃ N, N = s.wait.length - l := ⟨_, rfl⟩
    rw [← hN] at ho2 Kl2
    obtain ⟨P, hP⟩ : ∃ P, P = u :: o := ⟨_, rfl⟩
    rw [← hP] at ho2 Kl2 KS2
    have hN0 : 0 < N := by omega
    have hNb : N ≤ 1099511627776 := by omega
    obtain ⟨Vb, cV, rfl, hcV, hbV⟩ := own_pos ho2 hN0
    have K2' := K1.out.new hg2
    have hB1 : B ≤ w1.heap.size := K1.out.size
    have hoB : w2.ownsRow B 3 1 (.slice (some ⟨Vb, 0, none⟩) N cV) N (valsOf P) := own_base ho2 hB1
    have apV : ∀ {x : Value} {e k : Nat} {xs : List Value}, w1.ownsRow B e 1 x k xs → Ap x (.slice (some ⟨Vb, 0, none⟩) N cV) := by
      intro x e k xs hx j hj hj'
      have h1 := own_block hx j hj
      simp [Value.ownBlock] at hj'
      omega
    have A1 := apV K1.out.low
    have A2 := apV K1.out.wait
    have A3 := apV K1.out.path
    have A4 : ∀ x ∈ PV, Ap x (.slice (some ⟨Vb, 0, none⟩) N cV) := fun x hx => by
      obtain ⟨P', hP'⟩ := K1.out.each_mem hx
      exact apV hP'
    have KA := Lib.hid (And.intro A1 (And.intro A2 (And.intro A3 A4)))
    have d2' := K2'.at_.cell 2
    have y2 := K2'.at_.frozen 2
    simp at d2'
    have K3 := Lib.hid (K2'.cutWait hww (Nat.le_of_lt hlw))
    have KB3 := Lib.hid (below_set (KB1.out.trans ((Below.refl B w1).grown hg2 hB1 (fun k hk => by cases hk))) (p := ⟨g, 2, none⟩) hbg (.slice (some ⟨W0, 0, none⟩) l cW))
    have KS3 := Lib.hid ((KS1.out.trans (w' := w2) ⟨hg2.size, fun k cs t _ hk => by rw [hg2.block k (Array.getElem?_eq_some_iff.1 hk).1 (by simp)]; exact hk⟩).set K2'.at_ (by decide) 2 (.slice (some ⟨W0, 0, none⟩) l cW))
    have KO3 := Lib.hid (own_far hoB K2'.at_ (by decide) 2 (.slice (some ⟨W0, 0, none⟩) l cW))
    have KN := Lib.hid (And.intro hN hP)
    clear K2' ho2 hg2 hoB apV A1 A2 A3 A4 hN hP cu cp d1 d2 hlo hclone
    go_wp2_with fail
    clear hhi d2' y2
    go_loopw [57] (fun i wr => ∃ k : Nat, k ≤ N ∧ i = .int .i64 (k : Int) ∧ Wk wr B g n rv (.slice (some ⟨L, 0, none⟩) n cL) (.slice (some ⟨W0, 0, none⟩) l cW) (.slice (some ⟨P0, 0, none⟩) m cP) qv RV (lows n (fun x => if x ∈ P.take k then Dg.T else s.low x)) ((valsOf s.wait).take l) ((valsOf s.path).take m) PV s.rest s.parts ∧ Below B w wr ∧ Spares tsW w wr ∧ wr.ownsRow B 3 1 (.slice (some ⟨Vb, 0, none⟩) N cV) N (valsOf P)) (fun i _ => N - (intOf i).toNat)
    case atStart => exact ⟨0, by omega, rfl, by simpa using K3.out, KB3.out, KS3.out, KO3.out⟩
    case round =>
      obtain ⟨k, hk, rfl, hW, hB, hS, hO⟩ := hrel
      have KW := Lib.hid hW
      have KB := Lib.hid hB
      have KS := Lib.hid hS
      have KO := Lib.hid hO
      by_cases hlt : k < N
      · obtain ⟨x, hx⟩ : ∃ x, P[k]? = some x := ⟨_, List.getElem?_eq_getElem (by rw [← Kl2.out]; exact hlt)⟩
        have hxn : x < n := by
          have h1 : x ∈ s.wait := by
            rw [Kwt.out]
            have := List.mem_of_getElem? hx
            rw [KN.out.2] at this
            exact List.mem_append.2 (.inr this)
          exact KI.out.lt x (by simp [h1])
        have d1 := hW.at_.cell 1
        have cv : wr.cell? ⟨Vb, k, none⟩ = some (.int .i64 (x : Int)) := by rw [hO.cellAt k (by omega), valsOf_get hx]
        have cx : wr.cell? ⟨L, x, none⟩ = some (.int .i64 (((if x ∈ P.take k then Dg.T else s.low x) : Nat) : Int)) := by rw [hW.low.cellAt x (by omega), lows_get _ hxn]
        have zx := hW.low.frozenAt x
        have q1 : (0 : Int) ≤ (k : Int) := by omega
        have q2 : (k : Int) < (N : Int) := by omega
        have q3 : ((k : Int)).toNat = k := by omega
        have q4 : (0 : Int) ≤ (x : Int) := by omega
        have q5 : (x : Int) < (n : Int) := by omega
        have q6 : ((x : Int)).toNat = x := by omega
        have Kx := Lib.hid hx
        simp at d1
        obtain ⟨old, hold⟩ : ∃ old : Int, old = (((if x ∈ P.take k then Dg.T else s.low x) : Nat) : Int) := ⟨_, rfl⟩
        rw [← hold] at cx
        clear hW hB hS hO hx hold
        go_wp2_with fail
        go_roundw
        case rel =>
          have h1 := KW.out.setLow x (.int .i64 ((Dg.T : Nat) : Int))
          rw [lows_set, low_told _ _ _ _ Kx.out] at h1
          obtain ⟨csL, hL⟩ := own_at KW.out.low
          have h2 := KW.out.low.stored x (.int .i64 ((Dg.T : Nat) : Int))
          exact ⟨k + 1, by omega, by go_num, h1, below_set KB.out hbL _, KS.out.set hL (by decide) _ _, own_ap (u := .slice (some ⟨L, 0, none⟩) n cL) KO.out h2.2 KA.out.1.symm⟩
        case measure => simp [intOf]; omega
      · obtain rfl : k = N := by omega
        obtain ⟨i1, hi, hz0, hz1, hz2⟩ := info_parts Tryd.infoRow
        have hBr : B ≤ wr.heap.size := KW.out.size
        have hPl : PV.length ≤ n := by
          have h1 := KW.out.plen
          have h2 : s.parts.length ≤ s.parts.flatten.length := parts_le _ (fun P hP => (KI.out.one P hP).1)
          have h3 : s.parts.flatten.length ≤ n := Dg.nodup_le n _ (List.nodup_append.1 KI.out.nodup).2.1 (fun v hv => KI.out.lt v (List.mem_append.2 (.inr hv)))
          omega
        have d4 := hW.at_.cell 4
        simp at d4
        clear hW hB hS hO
        go_wp2_with (at_builtin; refine wpList_append_own2 _ rfl (.tmp 72) (.tmp 74) 22 rfl B 28 i1 _ 1 24 Tryd.underlying22 hi hz0 hz1 hz2 rfl (by decide) qv _ PV rfl (KW.out.parts.alloc _) ⟨wr.heap.size, 0, none⟩ 1 1 [.slice (some ⟨Vb, 0, none⟩) k cV] rfl rfl ?c1 ?c2 ?c3 ?c4 ?c5 ?_)
        case c1 => exact cell_one_new _ _ _
        case c2 => intro q hq; simp at hq; rcases hq with rfl; rfl
        case c3 => unfold maxLen; omega
        case c4 => omega
        case c5 => simp; omega
        intro qv' w4 hown hgrow hsn
        have h1 : At w4 g 68 #[rv, .slice (some ⟨L, 0, none⟩) n cL, .slice (some ⟨W0, 0, none⟩) l cW, .slice (some ⟨P0, 0, none⟩) m cP, qv] := (KW.out.at_.alloc _).grown hgrow (fun e => own_apart KW.out.parts KW.out.at_ (by decide) e.symm)
        have z4 := h1.frozen 4
        have y4 := h1.cell 4
        simp at y4
        have hfl : k = P.length := Kl2.out
        have K4 := Lib.hid ((KW.out.alloc hBr _).pushPart (P := P) hgrow hown hsn ((hfl ▸ KO.out.alloc _)) KA.out.1 KA.out.2.1 KA.out.2.2.1 KA.out.2.2.2)
        have KB4 := Lib.hid (below_set ((KB.out.alloc hBr _).grown hgrow (by simp; omega) (fun k hk => (KW.out.parts.lt k hk).1)) (p := ⟨g, 4, none⟩) hbg qv')
        have KS4 := Lib.hid (((KS.out.alloc _).grown (KW.out.parts.alloc _) hgrow (by decide)).set h1 (by decide) 4 qv')
        obtain ⟨aq, cq, rfl⟩ : ∃ a c, qv' = .slice a (PV.length + 1) c := by
          obtain ⟨a, c, h2, _⟩ := own_slice hown
          exact ⟨a, c, h2⟩
        clear hown hgrow hsn h1 d4
        go_wp2_with fail
        go_end0
        have hPo := KN.out.2
        have e1 : P.take k = P := List.take_of_length_le (by omega)
        have e2 : s.path = S.map (·.1) ++ [u] := by simp [Dg.St.path, hs]
        refine ⟨rfl, ⟨Dg.cut s S u o, _, _, _, _, ⟨KI.out.cut (by unfold Dg.T; omega) hs Kr.out (by rw [Kl.out, KS2.out.1]), rfl, Dg.left_cut hs, Dg.mono_cut s S u o⟩, wks_of K4.out ?_ ?_ ?_ rfl ?_⟩, KB4.out, KS4.out⟩
        · rw [e1, hPo]; rfl
        · rw [valsOf_take, KS2.out.2.2]; rfl
        · rw [valsOf_take, e2, Kmm.out.2, List.take_append_of_le_length (by simp), List.take_of_length_le (by simp)]; rfl
        · rw [hPo]; rfl
  · have hne : ((u : Int) != (p : Int)) = true := by simp; omega
    go_wp2_with fail
    refine bodyPost_ret (results_none rfl _ _ _) rfl ?_
    have hA : ∃ A q oq, S = A ++ [(q, oq)] := by
      rcases List.eq_nil_or_concat S with rfl | ⟨A, y, rfl⟩
      · have h1 : s.wait = p :: o := by simp [Dg.St.wait, hs, Dg.flat]
        have h2 := (KI.out.rank 0 p (by rw [h1]; rfl)).2
        rw [Kl.out] at h2
        obtain rfl : l = 0 := by omega
        have h3 := Ku.out
        rw [h1] at h3
        simp at h3
        exact absurd h3.symm hup
      · exact ⟨A, y.1, y.2, by rw [List.concat_eq_append]⟩
    obtain ⟨A, q, oq, rfl⟩ := hA
    have hs2 : s.segs = A ++ [(q, oq), (p, o)] := by rw [hs]; simp
    have hwt : s.wait = Dg.flat (A ++ [(q, oq)]) ++ p :: o := by simp [Dg.St.wait, hs, Dg.flat]
    have hlow : s.low p ≤ (Dg.flat (A ++ [(q, oq)])).length := by
      have h1 : s.wait[(Dg.flat (A ++ [(q, oq)])).length]? = some p := by rw [hwt]; simp
      have h2 := (KI.out.rank _ p h1).2
      rcases Nat.lt_or_ge (s.low p) ((Dg.flat (A ++ [(q, oq)])).length + 1) with h3 | h3
      · omega
      · have h4 : l = (Dg.flat (A ++ [(q, oq)])).length := by have := Kl.out; omega
        have h5 := Ku.out
        rw [h4, h1] at h5
        injection h5 with h5
        exact absurd h5.symm hup
    have hwl' : (Dg.leave s A q oq p o).wait = s.wait := by simp [Dg.leave, Dg.St.wait, hs, Dg.flat]
    have hpl' : (Dg.leave s A q oq p o).path = s.path.take m := by
      have h1 : (Dg.leave s A q oq p o).path = (A ++ [(q, oq)]).map (·.1) := by simp [Dg.leave, Dg.St.path]
      have h2 : s.path = (A ++ [(q, oq)]).map (·.1) ++ [p] := by simp [Dg.St.path, hs]
      rw [h1, h2, Kmm.out.2, List.take_append_of_le_length (by simp), List.take_of_length_le (by simp)]
    refine ⟨rfl, ⟨Dg.leave s A q oq p o, _, _, _, _, ⟨KI.out.leave hs2 Kr.out hlow, by simp [Dg.leave, Dg.St.path], Dg.left_leave hs2, Dg.mono_leave s A q oq p o⟩, wks_of K1.out rfl (by rw [hwl']) (by rw [hpl', valsOf_take]) rfl rfl⟩, KB1.out, KS1.out⟩
end Go.Proofs.YtdlplmbdkjkeiaaDoor
