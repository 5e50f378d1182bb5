import Derived.Test.YtdlplmbdkjkeiaaDoorDgH
namespace Go.Proofs.YtdlplmbdkjkeiaaDoor
set_option maxRecDepth 100000
open Go.RowKit
open BitKit
set_option linter.unusedVariables false
set_option linter.unusedSimpArgs false
theorem RowIn.cells {w : World} {B j c : Nat} {A : Option Addr} {l : List Int} (h : RowIn w B (.slice A l.length c) l) (hj : j < l.length) : ∃ b o, A = some ⟨b, o, none⟩ ∧ b < B ∧ w.cell? ⟨b, o + j, none⟩ = some (.int .i64 (l.getD j 0)) := by
 obtain ⟨A', c', h1, _, h3⟩ := h
 simp only [Value.slice.injEq, true_and] at h1
 obtain ⟨rfl, rfl⟩ := h1
 exact h3.each j hj
def Ahead2 (ps : List (List Nat)) (k : Nat) (x : Nat) : Prop := x ∈ (ps.take k).flatten
theorem Tryd.infoPtr : (Tryd.prog.info? 37).map (fun i => (i.zero, i.size, i.bytes)) = some (some (.pointer none), 1, 8) := by kernel_rfl
theorem run_make_ptrs (n : Nat) (hn : n ≤ 1099511627776) (w : World) : (Instr.makeSlice 35 (.int .i64 (n : Int)) (.int .i64 (n : Int))).run Tryd.prog w = .ok (.slice (some ⟨w.heap.size, 0, none⟩) n n) (w.alloc (.cells (List.replicate n (.pointer none)).toArray 37)) := by
 obtain ⟨i0, hi, hz0, hz1, hz2⟩ := info_parts Tryd.infoPtr
 have hr := run_make (P := Tryd.prog) w 35 37 i0 (.pointer none) Tryd.underlying35 hi hz0 .i64 .i64 n n (by omega) (Int.le_refl _) (by rw [hz2]; omega) (by omega)
 rw [hr, hz1]
 have e : madeCells (Value.pointer none).cells (((n : Int)).toNat * 1) = (List.replicate n (.pointer none)).toArray := by
  apply Array.ext'
  rw [Int.toNat_natCast, Nat.mul_one]
  show (madeCells #[.pointer none] n).toList = _
  rw [toList_madeCells_one]
 rw [e, Int.toNat_natCast]
set_option maxHeartbeats 16000000 in
theorem sums_run (A : Option Addr) (n c : Nat) (RV : List Value) (G : Nat → List Int) (A2 : Option Addr) (c2 : Nat) (Bl Wd : Nat → Nat) (Bs : Nat → Nat → Bool) (w : World) (hR : Rows w w.heap.size A RV G) (hl : RV.length = n) (hn : n ≤ 1099511627776)
  (hB : Base w w.heap.size A2 n Bl Wd Bs) :
  Calls Tryd.prog 37 #[.slice A n c, .slice A2 n c2] w fun e w' => ∃ L cL LV, e = .returned (.slice (some ⟨L, 0, none⟩) n cL) ∧ Sm w' w.heap.size w'.heap.size n (.slice (some ⟨L, 0, none⟩) n cL) LV (fun x => x < n) (Dg.Up G n Bs) ∧ Below w.heap.size w w' := by
 have KR := Lib.hid hR
 have KB := Lib.hid hB
 have hmk := fun wx => run_make_ptrs n hn wx
 clear hR hB
 go_enter Tryd.func37, Tryd.ntmps37
 have hb0 : Below w.heap.size w (w.alloc (.cells (List.replicate n (.pointer none)).toArray 37)) := (Below.refl _ _).alloc (Nat.le_refl _) _
 have hrow0 := World.ownsRow_lit (base := w.heap.size) (e := 37) (size := 1) w (List.replicate n (.pointer none)).toArray n (Nat.le_refl _) (by unfold maxLen; omega) (by simp)
 have hparts := Lib.hid (parts_run A n c RV G (w.alloc (.cells (List.replicate n (.pointer none)).toArray 37)) ((KR.out.below hb0).wide (by simp)) hl hn)
 have Kb0 := Lib.hid hb0
 have Krow0 := Lib.hid hrow0
 clear hb0 hrow0
 go_wp2_with fail
 refine hparts.out.mono ?_
 rintro e w1 ⟨v, PV, ps, rfl, hPd, hPA, hb1⟩
 rw [World.size_alloc] at hPA hb1
 have hlow : w.heap.size < w1.heap.size := by have := hb1.size; simp at this; omega
 have KPd := Lib.hid hPd
 have KPA := Lib.hid hPA
 have Kb1 := Lib.hid (Kb0.out.trans (below_le hb1 (Nat.le_succ _)))
 have Krow1 := Lib.hid (own_below Krow0.out hb1 (fun k hk => by simp [Value.ownBlock] at hk; omega))
 obtain ⟨va, vc, rfl, hvc⟩ := own_slice hPA.own
 obtain ⟨lb, hlb⟩ : ∃ lb, lb = w.heap.size := ⟨_, rfl⟩
 rw [← hlb] at Krow1 ⊢
 have hB1 : w.heap.size ≤ lb := by omega
 have hPVb : PV.length ≤ 1099511627776 := by
  have h1 := hPA.plen
  have h2 := parts_le ps (fun P hP => (hPd.one P hP).1)
  have h3 := Dg.nodup_le n _ hPd.nodup (fun v hv => (hPd.all v).1 hv)
  omega
 clear hPd hPA hb1 hparts Krow0 Kb0 hmk hlb
 go_wp2_with fail
 go_loopg [21] PV.length (fun q t21 wr => ∃ (i : Nat) (LV : List Value), t21 = .int .i64 (i : Int) ∧ i ≤ PV.length ∧ q = PV.length - i ∧ Sm wr w.heap.size wr.heap.size n (.slice (some ⟨lb, 0, none⟩) n n) LV (Ahead2 ps i) (Dg.Up G n Bs) ∧ Below w.heap.size w wr ∧ Spares tsS w1 wr)
 case atStart => exact ⟨0, _, rfl, by omega, by omega, ⟨own_base (by simpa using Krow1.out) hB1, fun x hx => by simp [Ahead2] at hx⟩, Kb1.out, Spares.refl _ _⟩
 case round =>
  obtain ⟨i, LV, rfl, hi, hq, hSm, hBe, hSp⟩ := hrel
  have KSm := Lib.hid hSm
  have KBe := Lib.hid hBe
  have KSp := Lib.hid hSp
  have Kq := Lib.hid hq
  clear hSm hBe hSp hq
  by_cases hlt : i < PV.length
  ·have hlt2 : i < ps.length := by rw [← KPA.out.plen]; exact hlt
   obtain ⟨P, hP⟩ : ∃ P, ps[i]? = some P := ⟨_, List.getElem?_eq_getElem hlt2⟩
   have hps : ps = ps.take i ++ P :: ps.drop (i + 1) := by
    have h1 := (List.take_append_drop i ps).symm
    rw [List.drop_eq_getElem_cons hlt2] at h1
    have h2 : ps[i] = P := by rw [List.getElem?_eq_getElem hlt2] at hP; injection hP
    rw [h2] at h1; exact h1
   have hPm : P ∈ ps := List.mem_of_getElem? hP
   obtain ⟨pv, hpv⟩ : ∃ pv, PV[i]? = some pv := ⟨_, List.getElem?_eq_getElem hlt⟩
   have hpo := KPA.out.each i P pv hP hpv
   have hPl : 0 < P.length := List.length_pos_iff.2 (KPd.out.one P hPm).1
   have hPn : P.length ≤ n := Dg.nodup_le n P (by
     have h1 := KPd.out.nodup
     rw [hps, List.flatten_append, List.flatten_cons] at h1
     exact (List.nodup_append.1 (List.nodup_append.1 h1).2.1).1) (fun x hx => (KPd.out.all x).1 (List.mem_flatten.2 ⟨P, hPm, hx⟩))
   obtain ⟨Pb, cP, rfl, hcP, _⟩ := own_pos hpo hPl
   obtain ⟨pb, cpb, hva, _, _⟩ := own_pos KPA.out.own (by omega)
   simp only [Value.slice.injEq, true_and] at hva
   obtain ⟨rfl, rfl⟩ := hva
   have cpv : wr.cell? ⟨pb, i, none⟩ = some (.slice (some ⟨Pb, 0, none⟩) P.length cP) := by rw [(own_spares KPA.out.own KSp.out (by decide)).cellAt i (by omega), hpv]
   have q1 : (0 : Int) ≤ (i : Int) := by omega
   have q2 : (i : Int) < (PV.length : Int) := by omega
   have q3 : ((i : Int)).toNat = i := by omega
   have hnew := Lib.hid (new_any 1000 wr)
   have Kset := Lib.hid (new_is 1000 wr)
   have Kps := Lib.hid hps
   have KPm := Lib.hid hPm
   have KPo := Lib.hid hpo
   have KP := Lib.hid (And.intro hPl hPn)
   have hPb : P.length ≤ 1099511627776 := by omega
   clear hP hps hPm hpv hpo hPl hPn hlt2
   go_wp2_with fail
   refine hnew.out.mono ?_
   rintro e w2 ⟨rfl, hw2⟩
   obtain ⟨sb, hsb⟩ : ∃ sb, sb = wr.heap.size := ⟨_, rfl⟩
   have hSm2 := KSm.out.alloc (.cells (cellsOf (min (1000 : Int).toNat 1000) (fun _ => false)) 64)
   have hSp2 := KSp.out.alloc (.cells (cellsOf (min (1000 : Int).toNat 1000) (fun _ => false)) 64)
   have hBe2 := KBe.out.alloc (by have := KBe.out.size; omega) (.cells (cellsOf (min (1000 : Int).toNat 1000) (fun _ => false)) 64)
   have hset2 := Kset.out
   have hsB : w.heap.size ≤ sb := by have := KBe.out.size; omega
   rw [← hw2] at hSm2 hSp2 hBe2 hset2
   rw [← hsb] at hSm2 hset2 ⊢
   have KSm2 := Lib.hid hSm2
   have KSp2 := Lib.hid hSp2
   have KBe2 := Lib.hid hBe2
   have Kset2 := Lib.hid (show IsSet w2 sb 1000 (fun _ => false) from hset2)
   clear hSm2 hSp2 hBe2 hset2 hw2 hsb hnew Kset KSm KBe KSp cpv
   go_wp2_with fail
   go_loopg [28] P.length (fun q t28 wx => ∃ (k : Nat) (LV2 : List Value), t28 = .int .i64 (k : Int) ∧ k ≤ P.length ∧ q = P.length - k ∧ Sm wx w.heap.size sb n (.slice (some ⟨lb, 0, none⟩) n n) LV2 (Ahead2 ps i) (Dg.Up G n Bs) ∧ (∀ x ∈ P.take k, LV2[x]? = some (.pointer (some ⟨sb, 0, none⟩))) ∧ IsSet wx sb 1000 (fun _ => false) ∧ Below w.heap.size w wx ∧ Spares tsS w1 wx)
   case atStart => exact ⟨0, LV, rfl, by omega, by omega, KSm2.out, (fun x hx => by simp at hx), Kset2.out, KBe2.out, KSp2.out⟩
   case round =>
    obtain ⟨k, LV2, rfl, hk, hq2, hSm3, hall3, hset3, hBe3, hSp3⟩ := hrel
    have KSm3 := Lib.hid hSm3
    have Kall3 := Lib.hid hall3
    have Kset3 := Lib.hid hset3
    have KBe3 := Lib.hid hBe3
    have KSp3 := Lib.hid hSp3
    have Kq2 := Lib.hid hq2
    clear hall3 hset3 hBe3 hq2
    by_cases hlt3 : k < P.length
    ·obtain ⟨x, hx⟩ : ∃ x, P[k]? = some x := ⟨_, List.getElem?_eq_getElem hlt3⟩
     have hxP := List.mem_of_getElem? hx
     have hxn : x < n := (KPd.out.all x).1 (List.mem_flatten.2 ⟨P, KPm.out, hxP⟩)
     have hxa : ¬ Ahead2 ps i x := fun h => by
      have h1 := KPd.out.nodup
      rw [Kps.out, List.flatten_append, List.flatten_cons] at h1
      exact (List.nodup_append.1 h1).2.2 x h x (by simp [hxP]) rfl
     have cx : wr.cell? ⟨Pb, k, none⟩ = some (.int .i64 (x : Int)) := by rw [(own_spares KPo.out hSp3 (by decide)).cellAt k (by omega), valsOf_get hx]
     have hxl : x < LV2.length := by have := hSm3.row.1; omega
     obtain ⟨u0, hu0⟩ : ∃ u0, LV2[x]? = some u0 := ⟨_, List.getElem?_eq_getElem hxl⟩
     have cl : wr.cell? ⟨lb, x, none⟩ = some u0 := by rw [hSm3.row.cellAt x (by omega), hu0]
     have zl := hSm3.row.frozenAt x
     have r1 : (0 : Int) ≤ (k : Int) := by omega
     have r2 : (k : Int) < (P.length : Int) := by omega
     have r3 : ((k : Int)).toNat = k := by omega
     have r4 : (0 : Int) ≤ (x : Int) := by omega
     have r5 : (x : Int) < (n : Int) := by omega
     have r6 : ((x : Int)).toNat = x := by omega
     have Kx := Lib.hid (And.intro hx (And.intro hxa hxl))
     clear hx hxP hxa hu0 hSm3 hSp3 hxl
     go_wp2_with fail
     go_roundg (P.length - (k + 1))
     case measure => have := Kq2.out; omega
     case rel =>
      obtain ⟨csl, hcsl⟩ := own_at KSm3.out.row
      refine ⟨k + 1, LV2.set x (.pointer (some ⟨sb, 0, none⟩)), by go_num, by omega, rfl, KSm3.out.put x _ Kx.out.2.1, fun z hz => ?_, Kset3.out.far hcsl (by decide) _, below_set KBe3.out (by show w.heap.size ≤ lb; omega) _, KSp3.out.set hcsl (by decide) _ _⟩
      rw [List.getElem?_set]
      by_cases he : x = z
      ·rw [if_pos he, if_pos Kx.out.2.2]
      ·rw [if_neg he]
       rw [List.take_add_one, Kx.out.1] at hz
       simp only [Option.toList_some, List.mem_append, List.mem_cons, List.not_mem_nil, or_false] at hz
       rcases hz with hz | hz
       ·exact Kall3.out z hz
       ·exact absurd hz.symm he
    ·obtain rfl : k = P.length := by omega
     have hall4 : ∀ x ∈ P, LV2[x]? = some (.pointer (some ⟨sb, 0, none⟩)) := fun x hx => Kall3.out x (by rw [List.take_length]; exact hx)
     have Kall4 := Lib.hid hall4
     clear hall4 hSm3 hSp3 Kall3 Kset2 KSm2 KBe2 KSp2
     go_wp2_with fail
     go_loopg [39] P.length (fun q t39 wx => ∃ (k : Nat) (S : Nat → Bool), t39 = .int .i64 (k : Int) ∧ k ≤ P.length ∧ q = P.length - k ∧ Sm wx w.heap.size sb n (.slice (some ⟨lb, 0, none⟩) n n) LV2 (Ahead2 ps i) (Dg.Up G n Bs) ∧ IsSet wx sb 1000 S ∧ Dg.Snd G n Bs P S ∧ Dg.Cmp G n Bs (ps.take i) (P.take k) S ∧ Below w.heap.size w wx ∧ Spares tsS w1 wx)
     case atStart => exact ⟨0, _, rfl, by omega, by omega, KSm3.out, Kset3.out, (fun x _ y hy => by cases hy), by simpa using Dg.Cmp.nil, KBe3.out, KSp3.out⟩
     case round =>
      obtain ⟨k, S, rfl, hk4, hq4, hSm4, hset4, hsnd4, hcmp4, hBe4, hSp4⟩ := hrel
      have KSm4 := Lib.hid hSm4
      have Kset4 := Lib.hid hset4
      have Ksnd4 := Lib.hid hsnd4
      have Kcmp4 := Lib.hid hcmp4
      have KBe4 := Lib.hid hBe4
      have KSp4 := Lib.hid hSp4
      have Kq4 := Lib.hid hq4
      clear hset4 hsnd4 hcmp4 hq4 KSm3 Kset3 KBe3 KSp3
      by_cases hlt4 : k < P.length
      ·obtain ⟨p, hp⟩ : ∃ p, P[k]? = some p := ⟨_, List.getElem?_eq_getElem hlt4⟩
       have hpP := List.mem_of_getElem? hp
       have hpn : p < n := (KPd.out.all p).1 (List.mem_flatten.2 ⟨P, KPm.out, hpP⟩)
       have cp : wr.cell? ⟨Pb, k, none⟩ = some (.int .i64 (p : Int)) := by rw [(own_spares KPo.out hSp4 (by decide)).cellAt k (by omega), valsOf_get hp]
       obtain ⟨b2, o2, rfl, _, cb2⟩ := (KB.out.below hBe4).cell p hpn
       have hbs := ((KB.out.below hBe4).set p hpn).2
       obtain ⟨rv, hrv⟩ : ∃ rv, RV[p]? = some rv := ⟨_, List.getElem?_eq_getElem (by omega)⟩
       have hRx := KR.out.below hBe4
       obtain ⟨b1, o1, rfl, hb1, cr⟩ := hRx.lies p rv hrv
       have r1 : (0 : Int) ≤ (k : Int) := by omega
       have r2 : (k : Int) < (P.length : Int) := by omega
       have r3 : ((k : Int)).toNat = k := by omega
       have r4 : (0 : Int) ≤ (p : Int) := by omega
       have r5 : (p : Int) < (n : Int) := by omega
       have r6 : ((p : Int)).toNat = p := by omega
       have Kp := Lib.hid (And.intro hp hpP)
       have Krv := Lib.hid hrv
       have hunion := Lib.hid (union_any sb 1000 S (Bl p) (Wd p) (Bs p) wr Kset4.out hbs)
       have hown := Lib.hid (gown_any (Bl p) wr)
       have hBfit : ∀ y, Bs p y = true → y < 1000 := fun y hy => Nat.lt_of_lt_of_le (hbs.fit y hy) hbs.le
       have KBfit := Lib.hid hBfit
       clear hp hpP hrv hSm4 hBe4 hSp4 hbs hRx cr hBfit
       go_wp2_with fail
       refine hown.out.mono ?_
       rintro e w3 ⟨rfl, rfl⟩
       go_wp2_with fail
       refine hunion.out.mono ?_
       rintro e w4 ⟨⟨r, rfl, _⟩, hset5, hg5⟩
       have KSm5 := Lib.hid (KSm4.out.turn Kset4.out.at_ (Nat.le_refl _) hg5)
       have KBe5 := Lib.hid (KBe4.out.grown hg5 (by have := KBe4.out.size; omega) (fun k hk => by injection hk with hk; omega))
       have KSp5 := Lib.hid (KSp4.out.turn Kset4.out.at_ (by decide) hg5)
       have hu5 := uni_is (S := S) KBfit.out
       have hsub5 : Dg.Sub S (uni 1000 S (Bs p)) := fun y hy => by rw [hu5 y, hy]; rfl
       have Ksnd5 := Lib.hid (Dg.snd_base KPd.out KPm.out Kp.out.2 Ksnd4.out (S' := uni 1000 S (Bs p)) (fun y hy => by rw [hu5 y] at hy; simpa using hy))
       have Kcmp5 := Lib.hid (Kcmp4.out.sub hsub5)
       have Kbas5 := Lib.hid (show ∀ y, Bs p y = true → uni 1000 S (Bs p) y = true from fun y hy => by rw [hu5 y, hy]; simp)
       have Kset5 := Lib.hid hset5
       have hRow5 := (KR.out.below KBe5.out).row p _ Krv.out
       have cr5 : w4.cell? ⟨b1, o1 + p, none⟩ = some rv := by
        obtain ⟨b1', o1', e1, _, h1⟩ := (KR.out.below KBe5.out).lies p rv Krv.out
        obtain ⟨rfl, rfl⟩ := same_addr e1
        exact h1
       obtain ⟨A3, c3, rfl, hc3, hN3⟩ := hRow5
       have KN3 := Lib.hid hN3
       have hGb : (G p).length ≤ 9223372036854775807 := hN3.len
       clear hset5 hg5 hu5 hsub5 hunion hown KSm4 Kset4 Ksnd4 Kcmp4 KBe4 KSp4 cb2 cp hN3
       go_wp2_with fail
       go_loopg [55] (G p).length (fun q t55 wx => ∃ (j : Nat) (S' : Nat → Bool), t55 = .int .i64 (j : Int) ∧ j ≤ (G p).length ∧ q = (G p).length - j ∧ Sm wx w.heap.size sb n (.slice (some ⟨lb, 0, none⟩) n n) LV2 (Ahead2 ps i) (Dg.Up G n Bs) ∧ IsSet wx sb 1000 S' ∧ Dg.Snd G n Bs P S' ∧ Dg.Cmp G n Bs (ps.take i) (P.take k) S' ∧ (∀ y, Bs p y = true → S' y = true) ∧ Dg.CmpTo G n Bs (ps.take i) ((G p).take j) S' ∧ Below w.heap.size w wx ∧ Spares tsS w1 wx)
       case atStart => exact ⟨0, _, rfl, by omega, by omega, KSm5.out, Kset5.out, Ksnd5.out, Kcmp5.out, Kbas5.out, by simpa using Dg.CmpTo.nil, KBe5.out, KSp5.out⟩
       case round =>
        obtain ⟨j, S', rfl, hj, hq6, hSm6, hset6, hsnd6, hcmp6, hbas6, hto6, hBe6, hSp6⟩ := hrel
        have KSm6 := Lib.hid hSm6
        have Kset6 := Lib.hid hset6
        have Ksnd6 := Lib.hid hsnd6
        have Kcmp6 := Lib.hid hcmp6
        have Kbas6 := Lib.hid hbas6
        have Kto6 := Lib.hid hto6
        have KBe6 := Lib.hid hBe6
        have KSp6 := Lib.hid hSp6
        have Kq6 := Lib.hid hq6
        clear hset6 hsnd6 hcmp6 hbas6 hto6 hq6 hSp6 KSm5 Kset5 Ksnd5 Kcmp5 Kbas5 KSp5
        by_cases hlt6 : j < (G p).length
        ·obtain ⟨x, hx⟩ : ∃ x, (G p)[j]? = some x := ⟨_, List.getElem?_eq_getElem hlt6⟩
         obtain ⟨b3, o3, rfl, hb3, cx⟩ := ((KR.out.below hBe6).row p _ Krv.out).cells hlt6
         rw [show (G p).getD j 0 = x by simp [List.getD, hx]] at cx
         have hhas := Lib.hid (ghas_any (some ⟨b1, o1, none⟩) n c x (by omega) wr)
         have t1 : (0 : Int) ≤ (j : Int) := by omega
         have t2 : (j : Int) < ((G p).length : Int) := by omega
         have t3 : ((j : Int)).toNat = j := by omega
         have htk : (G p).take (j + 1) = (G p).take j ++ [x] := by rw [List.take_add_one, hx]; rfl
         have Ktk := Lib.hid htk
         have Kx := Lib.hid hx
         by_cases hv : 0 ≤ x ∧ x < (n : Int)
         ·obtain ⟨t, rfl⟩ : ∃ t : Nat, x = (t : Int) := ⟨x.toNat, by omega⟩
          have htn : t < n := by omega
          have hE : Dg.E G n p t := ⟨htn, List.mem_of_getElem? hx⟩
          have hin := KPd.out.behind _ P _ Kps.out p Kp.out.2 t hE
          rw [List.flatten_append] at hin
          have hset : ∃ b T, LV2[t]? = some (.pointer (some ⟨b, 0, none⟩)) ∧ IsSet wr b 1000 T ∧ (∀ y, T y = true → S' y = true ∨ Dg.Up G n Bs t y) ∧ (t ∈ (ps.take i).flatten → ∀ y, Dg.Up G n Bs t y → T y = true) := by
           rcases List.mem_append.1 hin with h1 | h1
           ·obtain ⟨b, T, e1, _, _, e2, e3⟩ := hSm6.each t h1
            exact ⟨b, T, e1, e2, fun y hy => .inr ((e3 y).1 hy), fun _ y hy => (e3 y).2 hy⟩
           ·have h2 : t ∈ P := by simpa using h1
            refine ⟨sb, S', Kall4.out t h2, Kset6.out, fun y hy => .inl hy, fun h3 => ?_⟩
            have h4 := KPd.out.nodup
            rw [Kps.out, List.flatten_append, List.flatten_cons] at h4
            exact absurd rfl ((List.nodup_append.1 h4).2.2 t h3 t (by simp [h2]))
          obtain ⟨b, T, e1, hT, hT1, hT2⟩ := hset
          have cl : wr.cell? ⟨lb, t, none⟩ = some (.pointer (some ⟨b, 0, none⟩)) := by rw [hSm6.row.cellAt t (by omega), e1]
          have hunion := Lib.hid (union_any sb 1000 S' b 1000 T wr Kset6.out hT)
          have hu6 := uni_is (S := S') (T := T) hT.fit
          have Ku6 := Lib.hid hu6
          have KT := Lib.hid (And.intro hT1 hT2)
          have KE := Lib.hid hE
          have u1 : (0 : Int) ≤ (t : Int) := by omega
          have u2 : (t : Int) < (n : Int) := by omega
          have u3 : ((t : Int)).toNat = t := by omega
          rw [decide_eq_true hv] at hhas
          clear hSm6 hBe6 hin e1 hT hT1 hT2 hu6 hE hx htk
          go_wp2_with fail
          refine hhas.out.mono ?_
          rintro e w5 ⟨rfl, rfl⟩
          go_wp2_with fail
          refine hunion.out.mono ?_
          rintro e w6 ⟨⟨r2, rfl, _⟩, hset7, hg7⟩
          have KSm7 := Lib.hid (KSm6.out.turn Kset6.out.at_ (Nat.le_refl _) hg7)
          have KBe7 := Lib.hid (KBe6.out.grown hg7 (by have := KBe6.out.size; omega) (fun k hk => by injection hk with hk; omega))
          have KSp7 := Lib.hid (KSp6.out.turn Kset6.out.at_ (by decide) hg7)
          have hsub7 : Dg.Sub S' (uni 1000 S' T) := fun y hy => by rw [Ku6.out y, hy]; rfl
          have Kset7 := Lib.hid hset7
          have Ksub7 := Lib.hid hsub7
          clear hset7 hg7 hsub7 hunion hhas cl cx
          go_wp2_with fail
          go_roundg ((G p).length - (j + 1))
          case measure => have := Kq6.out; omega
          case rel =>
           refine ⟨j + 1, _, by go_num, by omega, rfl, KSm7.out, Kset7.out, Dg.snd_up KPd.out KPm.out Kp.out.2 KE.out Ksnd6.out (fun y hy => ?_), Kcmp6.out.sub Ksub7.out, fun y hy => Ksub7.out y (Kbas6.out y hy), fun z hz hzn hzA y hy => ?_, KBe7.out, KSp7.out⟩
           ·rw [Ku6.out y, Bool.or_eq_true] at hy
            rcases hy with hy | hy
            ·exact .inl hy
            ·exact KT.out.1 y hy
           ·rw [Ktk.out] at hz
            simp only [List.mem_append, List.mem_cons, List.not_mem_nil, or_false] at hz
            rcases hz with hz | hz
            ·exact Ksub7.out y (Kto6.out z hz hzn hzA y hy)
            ·obtain rfl : z = t := by omega
             rw [Ku6.out y, KT.out.2 hzA y hy]; simp
         ·rw [decide_eq_false hv] at hhas
          clear hSm6 hBe6 hx htk
          go_wp2_with fail
          refine hhas.out.mono ?_
          rintro e w5 ⟨rfl, rfl⟩
          go_wp2_with fail
          go_roundg ((G p).length - (j + 1))
          case measure => have := Kq6.out; omega
          case rel =>
           refine ⟨j + 1, S', by go_num, by omega, rfl, KSm6.out, Kset6.out, Ksnd6.out, Kcmp6.out, Kbas6.out, fun z hz hzn hzA y hy => ?_, KBe6.out, KSp6.out⟩
           rw [Ktk.out] at hz
           simp only [List.mem_append, List.mem_cons, List.not_mem_nil, or_false] at hz
           rcases hz with hz | hz
           ·exact Kto6.out z hz hzn hzA y hy
           ·exact absurd ⟨by omega, by omega⟩ hv
        ·obtain rfl : j = (G p).length := by omega
         clear hSm6 hBe6
         go_wp2_with fail
         go_roundg (P.length - (k + 1))
         case measure => have := Kq4.out; omega
         case rel =>
          refine ⟨k + 1, S', by go_num, by omega, rfl, KSm6.out, Kset6.out, Ksnd6.out, ?_, KBe6.out, KSp6.out⟩
          rw [List.take_add_one, Kp.out.1]
          exact Kcmp6.out.snoc Kbas6.out (by simpa using Kto6.out)
      ·obtain rfl : k = P.length := by omega
       clear hSm4 hBe4 hSp4
       go_wp2_with fail
       go_roundg (PV.length - (i + 1))
       case measure => have := Kq.out; omega
       case rel =>
        have hcm := Kcmp4.out
        rw [List.take_length] at hcm
        have hup := Dg.up_part KPd.out Kps.out Ksnd4.out hcm
        have htk : (ps.take (i + 1)).flatten = (ps.take i).flatten ++ P := by
         rw [List.take_add_one]
         have h1 : ps[i]? = some P := by
          have h2 := Kps.out
          have h3 : (ps.take i).length = i := by rw [List.length_take]; have := KPA.out.plen; omega
          rw [h2, List.getElem?_append_right (by omega), h3]; simp
         rw [h1]; simp
        refine ⟨i + 1, LV2, by go_num, by omega, rfl, ⟨KSm4.out.row, fun x hx => ?_⟩, KBe4.out, KSp4.out⟩
        have hx' : x ∈ (ps.take i).flatten ++ P := by rw [← htk]; exact hx
        have hsz := Kset4.out.at_.lt
        rcases List.mem_append.1 hx' with h1 | h1
        ·obtain ⟨b, T, e1, e2, e3, e4, e5⟩ := KSm4.out.each x h1
         exact ⟨b, T, e1, e2, by omega, e4, e5⟩
        ·exact ⟨sb, S, Kall4.out x h1, hsB, hsz, Kset4.out, hup x h1⟩
  ·obtain rfl : i = PV.length := by omega
   go_wp2_with fail
   go_ret
   refine ⟨lb, n, LV, rfl, KSm.out.mono (Nat.le_refl _) (fun x hx => ?_), KBe.out⟩
   show x ∈ (ps.take PV.length).flatten
   rw [KPA.out.plen, List.take_length]
   exact (KPd.out.all x).2 hx
end Go.Proofs.YtdlplmbdkjkeiaaDoor
