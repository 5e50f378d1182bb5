import Derived.Test.YtdlplmbdkjkeiaaDoorDhE
import Derived.Deep.QuietTactic
namespace Go.Proofs.YtdlplmbdkjkeiaaDoor
set_option maxRecDepth 100000
open Go.RowKit
open BitKit
set_option linter.unusedVariables false
set_option linter.unusedSimpArgs false
namespace Dg
structure Eqv (rb : Nat → Nat → Bool) (n : Nat) : Prop where
 refl : ∀ i, i < n → rb i i = true
 trans : ∀ i k j, i < n → k < n → j < n → rb i k = true → rb k j = true → rb i j = true
theorem canon_mem {rb : Nat → Nat → Bool} {n : Nat} {P : List Nat} (hP : P ∈ canon rb n) : ∃ i, i < n ∧ first rb i = true ∧ P = cls rb n i := by
 obtain ⟨i, hi, rfl⟩ := List.mem_map.1 hP
 rw [List.mem_filter, List.mem_range] at hi
 exact ⟨i, hi.1, hi.2, rfl⟩
theorem cls_mem {rb : Nat → Nat → Bool} {n i x : Nat} : x ∈ cls rb n i ↔ x < n ∧ rb i x = true ∧ rb x i = true := by
 simp [cls, List.mem_filter]
theorem canon_lt {rb : Nat → Nat → Bool} {n : Nat} {P : List Nat} (hP : P ∈ canon rb n) {x : Nat} (hx : x ∈ P) : x < n := by
 obtain ⟨i, _, _, rfl⟩ := canon_mem hP
 exact (cls_mem.1 hx).1
theorem canon_same {rb : Nat → Nat → Bool} {n : Nat} (h : Eqv rb n) {P : List Nat} (hP : P ∈ canon rb n) {x y : Nat} (hx : x ∈ P) (hy : y ∈ P) : rb x y = true := by
 obtain ⟨i, hi, _, rfl⟩ := canon_mem hP
 obtain ⟨x1, x2, x3⟩ := cls_mem.1 hx
 obtain ⟨y1, y2, y3⟩ := cls_mem.1 hy
 exact h.trans x i y x1 hi y1 x3 y2
theorem canon_nodup {rb : Nat → Nat → Bool} {n : Nat} (h : Eqv rb n) : (canon rb n).flatten.Nodup := by
 rw [List.Nodup, List.pairwise_flatten]
 refine ⟨fun P hP => ?_, ?_⟩
 ·obtain ⟨i, _, _, rfl⟩ := canon_mem hP
  exact (range_sorted n _).imp fun h => Nat.ne_of_lt h
 ·rw [canon, List.pairwise_map]
  refine (List.Pairwise.and_mem.1 (range_sorted n (first rb))).imp ?_
  rintro i j ⟨hi, hj, hij⟩ x hx y hy rfl
  rw [List.mem_filter, List.mem_range] at hi hj
  obtain ⟨x1, x2, x3⟩ := cls_mem.1 hx
  obtain ⟨_, y2, y3⟩ := cls_mem.1 hy
  have h1 := h.trans i x j hi.1 x1 hj.1 x2 y3
  have h2 := h.trans j x i hj.1 x1 hi.1 y2 x3
  have h3 := hj.2
  simp only [first, List.all_eq_true, List.mem_range] at h3
  have := h3 i hij
  rw [h1, h2] at this
  simp at this
theorem canon_cover {rb : Nat → Nat → Bool} {n : Nat} (h : Eqv rb n) (x : Nat) (hx : x < n) : x ∈ (canon rb n).flatten := by
 have key : ∀ m i, i < m → i < n → rb i x = true → rb x i = true → ∃ i, i < n ∧ first rb i = true ∧ rb i x = true ∧ rb x i = true := by
  intro m
  induction m with
  | zero => intro i hi; omega
  | succ m ih =>
   intro i hi hin h1 h2
   by_cases hf : first rb i = true
   ·exact ⟨i, hin, hf, h1, h2⟩
   ·simp only [first, List.all_eq_true, List.mem_range] at hf
    have : ∃ k, k < i ∧ rb k i = true ∧ rb i k = true := by
     apply Classical.byContradiction
     intro hno
     refine hf fun k hk => ?_
     cases h3 : rb k i
     ·rfl
     cases h4 : rb i k
     ·rfl
     exact absurd ⟨k, hk, h3, h4⟩ hno
    obtain ⟨k, hk, h3, h4⟩ := this
    exact ih k (by omega) (by omega) (h.trans k i x (by omega) hin hx h3 h1) (h.trans x i k hx hin (by omega) h2 h4)
 obtain ⟨i, h1, h2, h3, h4⟩ := key (x + 1) x (by omega) hx (h.refl x hx) (h.refl x hx)
 exact List.mem_flatten.2 ⟨cls rb n i, List.mem_map.2 ⟨i, by rw [List.mem_filter, List.mem_range]; exact ⟨h1, h2⟩, rfl⟩, cls_mem.2 ⟨hx, h3, h4⟩⟩
end Dg
def once (L : List Nat) (x : Nat) : Nat := if x ∈ L then 1 else 0
theorem once_snoc (L : List Nat) (a : Nat) : Dg.upd (once L) a 1 = once (L ++ [a]) := by
 funext x
 by_cases he : x = a
 ·subst he; rw [Dg.upd_self]; simp [once]
 ·rw [Dg.upd_other _ _ he]; simp [once, he]
structure PartFacts (E : List (List Int)) (LL : List (List Nat)) : Prop where
 lt : ∀ P ∈ LL, ∀ x ∈ P, x < E.length
 same : ∀ P ∈ LL, ∀ x ∈ P, ∀ y ∈ P, Dg.R (fnL E) E.length x y
 nodup : LL.flatten.Nodup
 cover : ∀ x, x < E.length → x ∈ LL.flatten
 ne : ∀ P ∈ LL, P ≠ []
theorem PartsSay.facts {w w' : World} {E : List (List Int)} {u : Value} {LL : List (List Nat)} (h : PartsSay w w' E u LL) : PartFacts E LL := by
 let rb : Nat → Nat → Bool := fun i k => @decide (Dg.R (fnL E) E.length i k) (Classical.propDecidable _)
 have hrb : ∀ i k, rb i k = true ↔ Dg.R (fnL E) E.length i k := fun i k => by simp [rb]
 have he : Dg.Eqv rb E.length := ⟨fun i _ => (hrb i i).2 (.refl i), fun i k j _ _ _ h1 h2 => (hrb i j).2 (((hrb i k).1 h1).trans ((hrb k j).1 h2))⟩
 have hL := h.canon rb (fun i k _ _ => hrb i k)
 rw [hL]
 exact ⟨fun P hP x hx => Dg.canon_lt hP hx, fun P hP x hx y hy => (hrb x y).1 (Dg.canon_same he hP hx hy), Dg.canon_nodup he, Dg.canon_cover he, fun P hP => by
  obtain ⟨i, hi, _, rfl⟩ := Dg.canon_mem hP
  exact List.ne_nil_of_mem (Dg.cls_mem.2 ⟨hi, he.refl i hi, he.refl i hi⟩)⟩
theorem LoopsSay.has {w w' : World} {E : List (List Int)} {u : Value} {Q : List Nat} (h : LoopsSay w w' E u Q) {x y : Nat} (hx : x < E.length) (hne : x ≠ y) (h1 : Dg.R (fnL E) E.length x y) (h2 : Dg.R (fnL E) E.length y x) : ((x : Nat) : Int) ∈ ints Q := by
 let lp : Nat → Bool := fun i => @decide (Lp E i) (Classical.propDecidable _)
 have hlp : ∀ i, lp i = true ↔ Lp E i := fun i => by simp [lp]
 rw [h.is lp (fun i _ => hlp i)]
 refine List.mem_map.2 ⟨x, ?_, rfl⟩
 rw [List.mem_filter, List.mem_range]
 obtain ⟨t, ht, hr⟩ := h1.first hne
 exact ⟨hx, (hlp x).2 ⟨t, ht, hr.trans h2⟩⟩
theorem Gets.same {E Bs : List (List Int)} {wide : Nat} {Ss : Nat → Nat → Bool} (h : Gets E Bs wide Ss) (hl : Bs.length = E.length) {x y : Nat} (hx : x < E.length) (hy : y < E.length) (h1 : Dg.R (fnL E) E.length x y) (h2 : Dg.R (fnL E) E.length y x) : all (Ss x) = all (Ss y) := by
 refine all_of fun z => ?_
 rw [Bool.eq_iff_iff, h x (by omega) z, h y (by omega) z, hl]
 constructor
 ·rintro ⟨h3, j, h4, h5⟩
  exact ⟨h3, j, h2.trans h4, h5⟩
 ·rintro ⟨h3, j, h4, h5⟩
  exact ⟨h3, j, h1.trans h4, h5⟩
set_option maxHeartbeats 2000000 in
theorem shared12_law (v : Value) (E : List (List Int)) (v' : Value) (Bs : List (List Int)) (w : World) (hE : RowsL w v E) (hB : RowsL w v' Bs) (hT : Tab w) (hg0 : 0 < w.heap.size) :
  Calls Tryd.prog 7 #[v, v'] w fun e w' => e = .returned (.bool true) ∧ Below w.heap.size w w' := by
 have KE := Lib.hid hE
 have KB := Lib.hid hB
 have KT := Lib.hid hT
 have Kaw := Lib.hid (awake_any w hT hg0)
 obtain ⟨AE, cE, rfl⟩ := hE.shape
 obtain ⟨AB, cB, rfl⟩ := hB.shape
 clear hE hB hT
 go_enter Tryd.func7, Tryd.ntmps7
 go_wp2_with fail
 refine Kaw.out.mono ?_
 rintro e w1 ⟨rfl, hb1⟩
 have KE1 := Lib.hid (KE.out.below hb1)
 have KB1 := Lib.hid (KB.out.below hb1)
 have KT1 := Lib.hid (KT.out.below hb1 hg0)
 have Kb1 := Lib.hid hb1
 have hg1 : 0 < w1.heap.size := Nat.lt_of_lt_of_le hg0 hb1.size
 have Kfew := Lib.hid (few_any (.slice AE E.length cE) (.slice AB Bs.length cB) E Bs w1 KE1.out KB1.out)
 clear hb1 Kaw KE KB
 go_wp2_with fail
 refine Kfew.out.mono ?_
 rintro e w2 ⟨⟨r, rfl, hr⟩, rfl⟩
 cases r
 ·clear hr
  go_wp2_with fail
  go_ret
  exact ⟨rfl, Kb1.out⟩
 ·have hsm := hr rfl
  have h25 : E.length ≤ 25 := hsm.1
  have h25' : Bs.length ≤ 25 := hsm.2.1
  clear hr hsm Kfew
  by_cases hlen : Bs.length = E.length
  ·have hnI : ((Bs.length : Int) != (E.length : Int)) = false := by simp [hlen]
   have Klen := Lib.hid hlen
   have Ks := Lib.hid (solved_any (.slice AE E.length cE) (.slice AB Bs.length cB) E Bs 50 w2 KE1.out KB1.out (by omega) KT1.out hg1)
   clear hlen
   go_wp2_with fail
   refine Ks.out.mono ?_
   rintro e w3 ⟨u, Ss, rfl, hSs, hrows, hb3⟩
   have KG := Lib.hid (gets_of (E := E) (Bs := Bs) (wide := 50) (by omega) hSs)
   have Krows := Lib.hid hrows
   have KE3 := Lib.hid (KE1.out.below hb3)
   have Kb3 := Lib.hid (Kb1.out.trans (below_le hb3 Kb1.out.size))
   have Kp := Lib.hid (parts_say (.slice AE E.length cE) E w3 KE3.out (by omega))
   clear hSs hrows hb3 Ks KE1 KB1 Kb1 KT1
   go_wp2_with fail
   refine Kp.out.mono ?_
   rintro e w4 ⟨u2, LL, rfl, hP⟩
   have KF := Lib.hid hP.facts
   have Kr4 := Lib.hid (Krows.out.below hP.below)
   have Kp4 := Lib.hid hP.rows
   have KE4 := Lib.hid (KE3.out.below hP.below)
   have Kb4 := Lib.hid (Kb3.out.trans (below_le hP.below Kb3.out.size))
   have Kl := Lib.hid (loops_say (.slice AE E.length cE) E w4 KE4.out (by omega))
   clear hP Kp Krows KE3 Kb3
   go_wp2_with fail
   refine Kl.out.mono ?_
   rintro e w5 ⟨u3, Q, rfl, hQ⟩
   have hr5 := Kr4.out.below hQ.below
   have hp5 := Kp4.out.below hQ.below
   obtain ⟨AL, cL, rfl⟩ := hr5.shape
   obtain ⟨AP, cP, rfl⟩ := hp5.shape
   obtain ⟨AQ, cQ, rfl, hNQ⟩ := hQ.row.shape
   have hl1 : (lists Ss Bs.length).length = E.length := by rw [lists_length]; exact Klen.out
   have hl2 : (LL.map ints).length = LL.length := List.length_map _
   rw [hl1] at hr5 ⊢
   rw [hl2] at hp5 ⊢
   have hLle : LL.length ≤ 1099511627776 := by
    have h1 := parts_le LL KF.out.ne
    have h2 := Dg.nodup_le E.length _ KF.out.nodup (fun x hx => by
     obtain ⟨P, hP, hxP⟩ := List.mem_flatten.1 hx
     exact KF.out.lt P hP x hxP)
    omega
   have Khas := Lib.hid (fun (x y : Nat) (hx : x < E.length) (hne : x ≠ y) (h1 : Dg.R (fnL E) E.length x y) (h2 : Dg.R (fnL E) E.length y x) => hQ.has hx hne h1 h2)
   have Kr5 := Lib.hid hr5
   have Kp5 := Lib.hid hp5
   have KNQ := Lib.hid hNQ
   have Kb5 := Lib.hid (Kb4.out.trans (below_le hQ.below Kb4.out.size))
   have hmk := fun wx => run_make_ints E.length (by omega) wx
   have hrow0 := lows_own (B := w5.heap.size) (n := E.length) (fun _ => 0) w5 (Nat.le_refl _) (by omega)
   have hb0 : Below w5.heap.size w5 (w5.alloc (.cells (lows E.length (fun _ => 0)).toArray 3)) := (Below.refl _ _).alloc (Nat.le_refl _) _
   have Krow0 := Lib.hid hrow0
   have Kb0 := Lib.hid hb0
   clear hQ hr5 hp5 hNQ hl1 hl2 Kl Kr4 Kp4 KE4 Kb4 hrow0 hb0
   go_wp2_with fail
   go_loopg [12] LL.length (fun q t12 wr => ∃ i : Nat, t12 = .int .i64 (i : Int) ∧ i ≤ LL.length ∧ q = LL.length - i ∧ wr.ownsRow w5.heap.size 3 1 (.slice (some ⟨w5.heap.size, 0, none⟩) E.length E.length) E.length (lows E.length (once (LL.take i).flatten)) ∧ Below w5.heap.size w5 wr)
   case atStart =>
    refine ⟨0, rfl, by omega, by omega, ?_, Kb0.out⟩
    rw [show once (LL.take 0).flatten = fun _ => 0 from funext fun x => by simp [once]]
    exact Krow0.out
   case round =>
    obtain ⟨i, rfl, hi, hq, ho, hb⟩ := hrel
    have Ko := Lib.hid ho
    have Kb := Lib.hid hb
    have Kq := Lib.hid hq
    clear ho hb hq
    by_cases hlt : i < LL.length
    ·obtain ⟨P, hP⟩ : ∃ P, LL[i]? = some P := ⟨_, List.getElem?_eq_getElem hlt⟩
     have hPm : P ∈ LL := List.mem_of_getElem? hP
     have hPi : (LL.map ints)[i]? = some (ints P) := by rw [List.getElem?_map, hP]; rfl
     have hdec : LL = LL.take i ++ P :: LL.drop (i + 1) := by
      have h1 := (List.take_append_drop i LL).symm
      rw [List.drop_eq_getElem_cons hlt] at h1
      have h2 : LL[i] = P := by rw [List.getElem?_eq_getElem hlt] at hP; injection hP
      rw [h2] at h1; exact h1
     have q1 : (0 : Int) ≤ (i : Int) := by omega
     have q2 : (i : Int) < (LL.length : Int) := by omega
     have q3 : ((i : Int)).toNat = i := by omega
     have hpl := ints_length P
     have hPle : P.length ≤ E.length := Dg.nodup_le E.length P (by
      have h1 := KF.out.nodup
      rw [hdec, List.flatten_append, List.flatten_cons] at h1
      exact (List.nodup_append.1 (List.nodup_append.1 h1).2.1).1) (fun x hx => KF.out.lt P hPm x hx)
     have KPi := Lib.hid hPi
     have KPm := Lib.hid hPm
     have Kdec := Lib.hid hdec
     have Kpl := Lib.hid hpl
     have Ktk := Lib.hid (show (LL.take (i + 1)).flatten = (LL.take i).flatten ++ P by rw [List.take_add_one, hP]; simp)
     clear hP hPm hPi hdec hpl
     go_wp2_with fail
     go_loopg [13] P.length (fun q t13 wx => ∃ k : Nat, t13 = .int .i64 (k : Int) ∧ k ≤ P.length ∧ q = P.length - k ∧ wx.ownsRow w5.heap.size 3 1 (.slice (some ⟨w5.heap.size, 0, none⟩) E.length E.length) E.length (lows E.length (once ((LL.take i).flatten ++ P.take k))) ∧ Below w5.heap.size w5 wx)
     case atStart => exact ⟨0, rfl, by omega, by omega, by simpa using Ko.out, Kb.out⟩
     case round =>
      obtain ⟨k, rfl, hk, hq2, ho2, hb2⟩ := hrel
      have Ko2 := Lib.hid ho2
      have Kb2 := Lib.hid hb2
      have Kq2 := Lib.hid hq2
      have hlr := Kr5.out.below hb2
      obtain ⟨b, o, rfl, A1, c1, cb, hrow1⟩ := (Kp5.out.below hb2).get KPi.out
      rw [Kpl.out] at cb
      have hNr := KNQ.out.below hb2
      clear hb2 hq2 ho2
      by_cases hkl : k < P.length
      ·obtain ⟨a, ha⟩ : ∃ a, P[k]? = some a := ⟨_, List.getElem?_eq_getElem hkl⟩
       obtain ⟨p, hp⟩ : ∃ p, P[0]? = some p := ⟨_, List.getElem?_eq_getElem (by omega)⟩
       have haP := List.mem_of_getElem? ha
       have hpP := List.mem_of_getElem? hp
       have han := KF.out.lt P KPm.out a haP
       have hpn := KF.out.lt P KPm.out p hpP
       have hap := KF.out.same P KPm.out a haP p hpP
       have hpa := KF.out.same P KPm.out p hpP a haP
       obtain ⟨b3, o3, rfl, _, cx⟩ := hrow1.cells (j := k) (by rw [Kpl.out]; exact hkl)
       obtain ⟨b3', o3', e3, _, cp⟩ := hrow1.cells (j := 0) (by rw [Kpl.out]; omega)
       obtain ⟨rfl, rfl⟩ := same_addr e3
       rw [show (ints P).getD k 0 = (a : Int) by simp [ints, List.getD, ha]] at cx
       rw [show (ints P).getD 0 0 = (p : Int) by simp [ints, List.getD, hp]] at cp
       rw [Nat.add_zero] at cp
       have hall := KG.out.same Klen.out han hpn hap hpa
       obtain ⟨b4, o4, rfl, A4, c4, cla, hrow4⟩ := hlr.get (lists_get Ss (show a < Bs.length by rw [Klen.out]; exact han))
       obtain ⟨b5, o5, e5, A5, c5, clp, hrow5⟩ := hlr.get (lists_get Ss (show p < Bs.length by rw [Klen.out]; exact hpn))
       obtain ⟨rfl, rfl⟩ := same_addr e5
       have hc1 := fun j => ints_says _ _ _ _ (wr.drewN j) ((hrow4.drewN j).row (Nat.le_refl _)) ((hrow5.drewN j).row (Nat.le_refl _))
       rw [decide_eq_true hall] at hc1
       have hnot : a ∉ (LL.take i).flatten ++ P.take k := by
        have h1 := KF.out.nodup
        rw [Kdec.out, List.flatten_append, List.flatten_cons] at h1
        have h2 := List.nodup_append.1 h1
        intro hm
        rcases List.mem_append.1 hm with hm | hm
        ·exact h2.2.2 a hm a (List.mem_append.2 (.inl haP)) rfl
        ·have h3 := (List.nodup_append.1 h2.2.1).1
         have h4 : P = P.take k ++ a :: P.drop (k + 1) := by
          have h5 := (List.take_append_drop k P).symm
          rw [List.drop_eq_getElem_cons hkl] at h5
          have h6 : P[k] = a := by rw [List.getElem?_eq_getElem hkl] at ha; injection ha
          rw [h6] at h5; exact h5
         rw [h4] at h3
         exact (List.nodup_append.1 h3).2.2 a hm a (by simp) rfl
       have cs : wr.cell? ⟨w5.heap.size, a, none⟩ = some (.int .i64 0) := by
        rw [Ko2.out.cellAt a (by omega), lows_get _ han]
        simp [once, hnot]
       have zs := Ko2.out.frozenAt a
       have r1 : (0 : Int) ≤ (k : Int) := by omega
       have r2 : (k : Int) < (P.length : Int) := by omega
       have r3 : ((k : Int)).toNat = k := by omega
       have r4 : (0 : Int) ≤ (a : Int) := by omega
       have r5 : (a : Int) < (E.length : Int) := by omega
       have r6 : ((a : Int)).toNat = a := by omega
       have r7 : (0 : Int) ≤ (p : Int) := by omega
       have r8 : (p : Int) < (E.length : Int) := by omega
       have r9 : ((p : Int)).toNat = p := by omega
       have hPl : 0 < P.length := by omega
       have hd1 : decide ((a : Int) < 0) = false := decide_eq_false (by omega)
       have hd2 : decide ((E.length : Int) ≤ (a : Int)) = false := decide_eq_false (by omega)
       have Kc1 := Lib.hid hc1
       have Kst := Lib.hid (show Dg.upd (once ((LL.take i).flatten ++ P.take k)) a 1 = once ((LL.take i).flatten ++ P.take (k + 1)) by rw [once_snoc, List.take_add_one, ha]; simp)
       have Kown := Lib.hid (own_drewN Ko2.out)
       have hinq : 1 < P.length → ((a : Nat) : Int) ∈ ints Q := fun h1 => by
        have hndP : P.Nodup := by
         have h1 := KF.out.nodup
         rw [Kdec.out, List.flatten_append, List.flatten_cons] at h1
         exact (List.nodup_append.1 (List.nodup_append.1 h1).2.1).1
        obtain ⟨y, hy, hne⟩ := Dg.other hndP haP h1
        exact Khas.out a y han hne (KF.out.same P KPm.out a haP y hy) (KF.out.same P KPm.out y hy a haP)
       have Kinq := Lib.hid hinq
       have hc2 := fun j => in_says AQ cQ (ints Q) _ (a : Int) (wr.drewN j) (nums_drewN hNr j)
       have Kc2 := Lib.hid hc2
       clear hc1 hc2 hall hnot ha hp haP hpP hap hpa hrow1 hrow4 hrow5 hNr hlr hinq e3 e5
       by_cases h1 : (1 : Int) < (P.length : Int)
       ·have hd3 : decide ((1 : Int) < (P.length : Int)) = true := decide_eq_true h1
        have hc3 := Kc2.out
        rw [decide_eq_true (Kinq.out (by omega))] at hc3
        have Kc3 := Lib.hid hc3
        clear hc3
        go_wp2_with fail
        go_quiet (first | exact Calls.quiet_of (Kc1.out _) | exact Calls.quiet_of (Kc3.out _))
        go_wp2_with fail
        go_roundg (P.length - (k + 1))
        case measure => have := Kq2.out; omega
        case rel =>
         have hst := ((Kown.out nq).stored a (.int .i64 ((1 : Nat) : Int))).1
         rw [lows_set, Kst.out] at hst
         exact ⟨k + 1, by go_num, by omega, rfl, hst, below_set (below_drewN Kb2.out nq) (Nat.le_refl _) _⟩
       ·have hd3 : decide ((1 : Int) < (P.length : Int)) = false := decide_eq_false h1
        go_wp2_with fail
        go_quiet (exact Calls.quiet_of (Kc1.out _))
        go_wp2_with fail
        go_roundg (P.length - (k + 1))
        case measure => have := Kq2.out; omega
        case rel =>
         have hst := ((Kown.out nq).stored a (.int .i64 ((1 : Nat) : Int))).1
         rw [lows_set, Kst.out] at hst
         exact ⟨k + 1, by go_num, by omega, rfl, hst, below_set (below_drewN Kb2.out nq) (Nat.le_refl _) _⟩
      ·obtain rfl : k = P.length := by omega
       clear hrow1 hlr hNr
       go_wp2_with fail
       go_roundg (LL.length - (i + 1))
       case measure => have := Kq.out; omega
       case rel =>
        refine ⟨i + 1, by go_num, by omega, rfl, ?_, Kb2.out⟩
        have h1 := Ko2.out
        rw [List.take_length] at h1
        rw [Ktk.out]
        exact h1
    ·obtain rfl : i = LL.length := by omega
     have hdone := Ko.out
     rw [List.take_length] at hdone
     have Kdone := Lib.hid hdone
     have Kbb := Lib.hid (Kb5.out.trans (below_le Kb.out Kb5.out.size))
     clear hdone
     obtain ⟨wq, rfl⟩ : ∃ wq, wq = wr := ⟨wr, rfl⟩
     go_wp2_with fail
     go_loopg [15] E.length (fun q t15 wx => ∃ j : Nat, t15 = .int .i64 (j : Int) ∧ j ≤ E.length ∧ q = E.length - j ∧ wx = wq)
     case atStart => exact ⟨0, rfl, by omega, by omega, rfl⟩
     case round =>
      obtain ⟨j, rfl, hj, hq3, rfl⟩ := hrel
      have Kq3 := Lib.hid hq3
      clear hq3
      by_cases hjl : j < E.length
      ·have cs : wr.cell? ⟨w5.heap.size, j, none⟩ = some (.int .i64 1) := by
        rw [Kdone.out.cellAt j (by omega), lows_get _ hjl]
        simp [once, KF.out.cover j hjl]
       have r1 : (0 : Int) ≤ (j : Int) := by omega
       have r2 : (j : Int) < (E.length : Int) := by omega
       have r3 : ((j : Int)).toNat = j := by omega
       go_wp2_with fail
       go_roundg (E.length - (j + 1))
       case measure => have := Kq3.out; omega
       case rel => exact ⟨j + 1, by go_num, by omega, rfl, rfl⟩
      ·obtain rfl : j = E.length := by omega
       go_wp2_with fail
       go_ret
       exact ⟨rfl, Kbb.out⟩
  ·have hnI : ((Bs.length : Int) != (E.length : Int)) = true := by simp; omega
   go_wp2_with fail
   go_ret
   exact ⟨rfl, Kb1.out⟩
end Go.Proofs.YtdlplmbdkjkeiaaDoor
