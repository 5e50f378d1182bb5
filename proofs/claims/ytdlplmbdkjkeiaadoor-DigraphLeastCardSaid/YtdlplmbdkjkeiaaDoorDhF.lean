import Derived.Test.YtdlplmbdkjkeiaaDoorDhE
namespace Go.Proofs.YtdlplmbdkjkeiaaDoor
set_option maxRecDepth 100000
open Go.RowKit
open BitKit
set_option linter.unusedVariables false
set_option linter.unusedSimpArgs false
structure ListsI (w : World) (B : Nat) (v : Value) (OV : List Value) (LL : List (List Int)) : Prop where
 own : w.ownsRow B 28 1 v OV.length OV
 len : OV.length = LL.length
 each : ∀ (i : Nat) (P : List Int) (u : Value), LL[i]? = some P → OV[i]? = some u → w.ownsRow B 3 1 u P.length (vals P)
theorem ListsI.nil (w : World) (B : Nat) : ListsI w B (.slice none 0 0) [] [] := ⟨World.ownsRow_nil _ _ _ _, rfl, (fun i P u h => by simp at h)⟩
section
variable {w w' : World} {B B' : Nat} {v v' : Value} {OV : List Value} {LL : List (List Int)}
theorem ListsI.below (h : ListsI w B v OV LL) (hb : Below B' w w') (hB : w.heap.size ≤ B') : ListsI w' B v OV LL :=
 ⟨own_below h.own hb (fun q hq => Nat.lt_of_lt_of_le (own_block h.own q hq) hB), h.len, fun i P u a b => own_below (h.each i P u a b) hb (fun q hq => Nat.lt_of_lt_of_le (own_block (h.each i P u a b) q hq) hB)⟩
theorem ListsI.alloc (h : ListsI w B v OV LL) (o : Obj) : ListsI (w.alloc o) B v OV LL := ⟨h.own.alloc _, h.len, fun i P u a b => (h.each i P u a b).alloc _⟩
theorem ListsI.push (h : ListsI w B v OV LL) {u : Value} {P : List Int} (hu : w.ownsRow B 3 1 u P.length (vals P)) (hg : w.grownBy w' v.ownBlock) (ho : w'.ownsRow B 28 1 v' (OV.length + 1) (OV ++ [u])) : ListsI w' B v' (OV ++ [u]) (LL ++ [P]) := by
 refine ⟨by rw [List.length_append]; exact ho, by rw [List.length_append, List.length_append, h.len]; rfl, fun i Q x a b => ?_⟩
 by_cases hi : i < OV.length
 ·rw [List.getElem?_append_left (by rw [← h.len]; exact hi)] at a
  rw [List.getElem?_append_left hi] at b
  have h1 := h.each i Q x a b
  exact h1.kept hg (ap_or (ap_type h1 h.own (by decide)))
 ·have hl := (List.getElem?_eq_some_iff.1 b).1
  rw [List.length_append] at hl
  obtain rfl : i = OV.length := by simp at hl; omega
  rw [List.getElem?_append_right (by rw [h.len]; exact Nat.le_refl _), ← h.len] at a
  rw [List.getElem?_append_right (Nat.le_refl _)] at b
  simp at a b
  subst a
  subst b
  exact hu.kept hg (ap_or (ap_type hu h.own (by decide)))
theorem ListsI.rows (h : ListsI w B v OV LL) (hs : ∀ P ∈ LL, Small P) : RowsL w v LL :=
 RowsL.own h.own h.len (fun i l u h1 h2 => RowIn.own (h.each i l u h1 h2) (hs l (List.mem_of_getElem? h1)))
end
theorem RowIn.small {w : World} {B : Nat} {v : Value} {l : List Int} (h : RowIn w B v l) : Small l := by
 obtain ⟨_, _, _, _, hn⟩ := h
 intro x hx
 obtain ⟨i, hi⟩ := List.getElem?_of_mem hx
 have hlt := (List.getElem?_eq_some_iff.1 hi).1
 have := hn.rx i hlt
 rwa [show l.getD i 0 = x by rw [List.getD, hi]; rfl] at this
theorem RowsL.small {w : World} {v : Value} {LL : List (List Int)} (h : RowsL w v LL) : ∀ l ∈ LL, Small l := fun l hl => by
 obtain ⟨i, hi⟩ := List.getElem?_of_mem hl
 obtain ⟨_, _, _, _, _, _, _, hr⟩ := h.cell hi
 exact hr.small
def wo (x : Int) (l : List Int) : List Int := l.filter fun y => y != x
theorem wo_take_yes {x y : Int} {l : List Int} {k : Nat} (hy : l[k]? = some y) (h : (y != x) = true) : wo x (l.take (k + 1)) = wo x (l.take k) ++ [y] := by
 rw [wo, List.take_add_one, hy, List.filter_append]
 simp [wo, h]
theorem wo_take_no {x y : Int} {l : List Int} {k : Nat} (hy : l[k]? = some y) (h : (y != x) = false) : wo x (l.take (k + 1)) = wo x (l.take k) := by
 rw [wo, List.take_add_one, hy, List.filter_append]
 simp [wo, h]
theorem wo_le (x : Int) (l : List Int) (k : Nat) : (wo x (l.take k)).length ≤ k := Nat.le_trans (List.length_filter_le _ _) (by rw [List.length_take]; omega)
theorem wo_small {x : Int} {l : List Int} (h : Small l) : Small (wo x l) := fun y hy => h y (List.mem_filter.1 hy).1
theorem vals_snoc (l : List Int) (y : Int) : vals (l ++ [y]) = vals l ++ [.int .i64 y] := by simp [vals]
theorem least {E Bs : List (List Int)} {Ss Ts : Nat → Nat → Bool} {x : Int} (h : Gets E Bs 50 Ss) (h2 : Gets E (Bs.map (wo x)) 50 Ts) {i : Nat} (hi : i < Bs.length) : all (Ts i) = wo x (all (Ss i)) := by
 have hl : (Bs.map (wo x)).length = Bs.length := List.length_map _
 have hf : ∀ j, fnL (Bs.map (wo x)) j = wo x (fnL Bs j) := fun j => by
  unfold fnL
  rw [List.getD, List.getElem?_map, List.getD]
  cases Bs[j]? <;> rfl
 have key : ∀ y, Ts i y = (Ss i y && ((y : Int) != x)) := fun y => by
  rw [Bool.eq_iff_iff, h2 i (by rw [hl]; exact hi) y, hl, Bool.and_eq_true, h i hi y]
  constructor
  ·rintro ⟨h3, j, h4, h5⟩
   rw [hf j, wo, List.mem_filter] at h5
   exact ⟨⟨h3, j, h4, h5.1⟩, h5.2⟩
  ·rintro ⟨⟨h3, j, h4, h5⟩, h6⟩
   exact ⟨h3, j, h4, by rw [hf j, wo, List.mem_filter]; exact ⟨h5, h6⟩⟩
 rw [all_of key]
 unfold all wo ints
 rw [mem_filter_range, mem_filter_range, List.filter_map, List.filter_filter]
 congr 1
 refine List.filter_congr fun y _ => ?_
 simp only [Function.comp]
 rw [Bool.and_comm]
set_option maxHeartbeats 2000000 in
theorem least12_law (v : Value) (E : List (List Int)) (v' : Value) (Bs : List (List Int)) (x : Int) (bx : -9223372036854775808 ≤ x ∧ x ≤ 9223372036854775807) (w : World) (hE : RowsL w v E) (hB : RowsL w v' Bs) (hT : Tab w) (hg0 : 0 < w.heap.size) :
  Calls Tryd.prog 6 #[v, v', .int .i64 x] w fun e w' => e = .returned (.bool true) ∧ Below w.heap.size w w' := by
 have KE := Lib.hid hE
 have KB := Lib.hid hB
 have KT := Lib.hid hT
 have Kaw := Lib.hid (awake_any w hT hg0)
 obtain ⟨i0, hi0, hz0, hz1, hz2⟩ := info_parts Tryd.infoInt
 obtain ⟨i1, hj0, hy0, hy1, hy2⟩ := info_parts Tryd.infoRow
 obtain ⟨AE, cE, rfl⟩ := hE.shape
 obtain ⟨AB, cB, rfl⟩ := hB.shape
 clear hE hB hT
 go_enter Tryd.func6, Tryd.ntmps6
 go_wp2_with fail
 refine Kaw.out.mono ?_
 rintro e w1 ⟨rfl, hb1⟩
 have KE1 := Lib.hid (KE.out.below hb1)
 have KB1 := Lib.hid (KB.out.below hb1)
 have KT1 := Lib.hid (KT.out.below hb1 hg0)
 have Kb1 := Lib.hid hb1
 have hg1 : 0 < w1.heap.size := Nat.lt_of_lt_of_le hg0 hb1.size
 have Kfew := Lib.hid (few_any (.slice AE E.length cE) (.slice AB Bs.length cB) E Bs w1 KE1.out KB1.out)
 clear hb1 Kaw KE KB
 go_wp2_with fail
 refine Kfew.out.mono ?_
 rintro e w2 ⟨⟨r, rfl, hr⟩, rfl⟩
 cases r
 ·clear hr
  go_wp2_with fail
  go_ret
  exact ⟨rfl, Kb1.out⟩
 ·have hsm := hr rfl
  have h25 : E.length ≤ 25 := hsm.1
  have h25' : Bs.length ≤ 25 := hsm.2.1
  have Kten := Lib.hid hsm.2.2.2
  have Ksml := Lib.hid KB1.out.small
  clear hr hsm Kfew
  go_wp2_with fail
  go_loopg [9, 10] Bs.length (fun q t9 t10 wr => ∃ (i : Nat) (OV : List Value), t10 = .int .i64 (i : Int) ∧ i ≤ Bs.length ∧ q = Bs.length - i ∧ ListsI wr w2.heap.size t9 OV ((Bs.take i).map (wo x)) ∧ Below w2.heap.size w2 wr)
  case atStart => exact ⟨0, [], rfl, by omega, by omega, ListsI.nil _ _, Below.refl _ _⟩
  case round =>
   obtain ⟨i, OV, rfl, hi, hq, hO, hb⟩ := hrel
   have KO := Lib.hid hO
   have Kb := Lib.hid hb
   have Kq := Lib.hid hq
   obtain ⟨ao, co, rfl, _⟩ := own_slice hO.own
   have hszr := hb.size
   have hOl : OV.length ≤ 25 := by rw [hO.len, List.length_map, List.length_take]; omega
   clear hO hb hq
   by_cases hlt : i < Bs.length
   ·obtain ⟨lb, hlb⟩ : ∃ lb, Bs[i]? = some lb := ⟨_, List.getElem?_eq_getElem hlt⟩
    have q1 : (0 : Int) ≤ (i : Int) := by omega
    have q2 : (i : Int) < (Bs.length : Int) := by omega
    have q3 : ((i : Int)).toNat = i := by omega
    have hlbn : lb.length ≤ 10 := Kten.out lb (List.mem_of_getElem? hlb)
    have Klb := Lib.hid hlb
    clear hlb
    obtain ⟨wq, rfl⟩ : ∃ wq, wq = wr := ⟨wr, rfl⟩
    go_wp2_with fail
    go_loopg [11, 12] lb.length (fun q t11 t12 wx => ∃ k : Nat, t12 = .int .i64 (k : Int) ∧ k ≤ lb.length ∧ q = lb.length - k ∧ wx.ownsRow wq.heap.size 3 1 t11 (wo x (lb.take k)).length (vals (wo x (lb.take k))) ∧ Below wq.heap.size wq wx)
    case atStart => exact ⟨0, rfl, by omega, by omega, by simpa [wo, vals] using World.ownsRow_nil _ _ _ _, Below.refl _ _⟩
    case round =>
     obtain ⟨k, rfl, hk, hq2, ho2, hb2⟩ := hrel
     have Ko2 := Lib.hid ho2
     have Kb2 := Lib.hid hb2
     have Kq2 := Lib.hid hq2
     obtain ⟨a2, c2, rfl, _⟩ := own_slice ho2
     have hwl := wo_le x lb k
     have hszx := hb2.size
     obtain ⟨b, o, rfl, A1, c1, cb, hrow1⟩ := ((KB1.out.below Kb.out).below hb2).get Klb.out
     clear ho2 hb2 hq2
     by_cases hkl : k < lb.length
     ·obtain ⟨b3, o3, rfl, _, cx⟩ := hrow1.cells hkl
      obtain ⟨y, hy⟩ : ∃ y, lb[k]? = some y := ⟨_, List.getElem?_eq_getElem hkl⟩
      rw [show lb.getD k 0 = y by rw [List.getD, hy]; rfl] at cx
      have r1 : (0 : Int) ≤ (k : Int) := by omega
      have r2 : (k : Int) < (lb.length : Int) := by omega
      have r3 : ((k : Int)).toNat = k := by omega
      cases hne : (y != x)
      ·have Kst := Lib.hid (wo_take_no hy hne)
       clear hy hrow1
       go_wp2_with fail
       go_roundg (lb.length - (k + 1))
       case measure => have := Kq2.out; omega
       case rel => exact ⟨k + 1, by go_num, by omega, rfl, by rw [Kst.out]; exact Ko2.out, Kb2.out⟩
      ·have Kst := Lib.hid (wo_take_yes hy hne)
       clear hy hrow1
       go_wp2_with (at_builtin; refine wpList_append_own2 _ rfl (.tmp 51) (.tmp 59) 28 rfl wq.heap.size 3 i0 _ 1 8 Tryd.underlying28 hi0 hz0 hz1 hz2 rfl (by decide) (.slice a2 (wo x (lb.take k)).length c2) (wo x (lb.take k)).length (vals (wo x (lb.take k))) rfl (Ko2.out.alloc _) ⟨wr.heap.size, 0, none⟩ 1 1 [.int .i64 y] rfl rfl (cell_one_new _ _ _) (by simp [Value.oneCell']) (by unfold maxLen; omega) (by omega) (by simp; omega) ?_; intro v' w4 hown hgrow hsn)
       obtain ⟨a4, c4, rfl, _⟩ := own_slice hown
       have Kb4 := Lib.hid ((Kb2.out.alloc hszx (.cells #[.int .i64 y] 3)).grown hgrow (by simp; omega) (fun q hq => (Ko2.out.lt q hq).1))
       have Ko4 := Lib.hid hown
       clear hown hgrow hsn hwl hne
       go_wp2_with fail
       go_roundg (lb.length - (k + 1))
       case measure => have := Kq2.out; omega
       case rel =>
        refine ⟨k + 1, by go_num, by omega, rfl, ?_, Kb4.out⟩
        rw [Kst.out, vals_snoc, List.length_append]
        exact Ko4.out
     ·obtain rfl : k = lb.length := by omega
      clear hrow1
      have hO2 := KO.out.below Kb2.out (Nat.le_refl _)
      have KO2 := Lib.hid hO2
      have Kb3 := Lib.hid (Kb.out.trans (below_le Kb2.out hszr))
      have ho3 := Ko2.out
      rw [List.take_length] at ho3 hwl
      have Ku := Lib.hid (own_base ho3 hszr)
      have hszy : w2.heap.size ≤ wr.heap.size := Nat.le_trans hszr hszx
      have Kst := Lib.hid (show (Bs.take (i + 1)).map (wo x) = (Bs.take i).map (wo x) ++ [wo x lb] by rw [List.take_add_one, Klb.out]; simp)
      clear hO2 ho3
      rw [List.take_length]
      go_wp2_with (at_builtin; refine wpList_append_own2 _ rfl (.tmp 61) (.tmp 63) 22 rfl w2.heap.size 28 i1 _ 1 24 Tryd.underlying22 hj0 hy0 hy1 hy2 rfl (by decide) (.slice ao OV.length co) OV.length OV rfl (KO2.out.own.alloc _) ⟨wr.heap.size, 0, none⟩ 1 1 [.slice a2 (wo x lb).length c2] rfl rfl (cell_one_new _ _ _) (by simp [Value.oneCell']) (by unfold maxLen; omega) (by omega) (by simp; omega) ?_; intro v' w4 hown hgrow hsn)
      obtain ⟨a4, c4, rfl, _⟩ := own_slice hown
      have KL4 := Lib.hid ((KO2.out.alloc _).push (Ku.out.alloc _) hgrow hown)
      have Kb4 := Lib.hid ((Kb3.out.alloc hszy (.cells #[.slice a2 (wo x lb).length c2] 28)).grown hgrow (by simp; omega) (fun q hq => (KO2.out.own.lt q hq).1))
      clear hown hgrow hsn hwl
      go_wp2_with fail
      go_roundg (Bs.length - (i + 1))
      case measure => have := Kq.out; omega
      case rel =>
       refine ⟨i + 1, OV ++ [.slice a2 (wo x lb).length c2], by go_num, by omega, rfl, ?_, Kb4.out⟩
       rw [Kst.out]
       exact KL4.out
   ·obtain rfl : i = Bs.length := by omega
    have hO := KO.out
    rw [List.take_length] at hO
    have hless := hO.rows (fun P hP => by
     obtain ⟨l, hl, rfl⟩ := List.mem_map.1 hP
     exact wo_small (Ksml.out l hl))
    have hll2 : OV.length = (Bs.map (wo x)).length := hO.len
    have hml : (Bs.map (wo x)).length = Bs.length := List.length_map _
    have Kless := Lib.hid hless
    have KEr := Lib.hid (KE1.out.below Kb.out)
    have KBr := Lib.hid (KB1.out.below Kb.out)
    have KTr := Lib.hid (KT1.out.below Kb.out hg1)
    have hgr : 0 < wr.heap.size := Nat.lt_of_lt_of_le hg1 hszr
    have Kbr := Lib.hid (Kb1.out.trans (below_le Kb.out Kb1.out.size))
    have Ks := Lib.hid (solved_any (.slice AE E.length cE) (.slice AB Bs.length cB) E Bs 50 wr KEr.out KBr.out (by omega) KTr.out hgr)
    have Kml := Lib.hid hml
    clear hO hless hll2 hml KO Kb KE1 KB1 KT1 Kb1
    go_wp2_with fail
    refine Ks.out.mono ?_
    rintro e w3 ⟨u, Ss, rfl, hSs, hrows, hb3⟩
    have KG := Lib.hid (gets_of (E := E) (Bs := Bs) (wide := 50) (by omega) hSs)
    have Krows := Lib.hid hrows
    have Kb3 := Lib.hid (Kbr.out.trans (below_le hb3 Kbr.out.size))
    have hg3 : 0 < w3.heap.size := Nat.lt_of_lt_of_le hgr hb3.size
    have Ks2 := Lib.hid (solved_any _ _ E (Bs.map (wo x)) 50 w3 (KEr.out.below hb3) (Kless.out.below hb3) (by rw [Kml.out]; omega) (KTr.out.below hb3 hgr) hg3)
    clear hSs hrows hb3 Ks Kbr Kless
    go_wp2_with fail
    refine Ks2.out.mono ?_
    rintro e w4 ⟨u2, Ts, rfl, hTs, hrows2, hb4⟩
    have KG2 := Lib.hid (gets_of (E := E) (Bs := Bs.map (wo x)) (wide := 50) (by omega) hTs)
    have hr1 := Krows.out.below hb4
    obtain ⟨A1, c1, rfl⟩ := hr1.shape
    obtain ⟨A2, c2, rfl⟩ := hrows2.shape
    have hl1 : (lists Ss Bs.length).length = Bs.length := lists_length _ _
    rw [Kml.out] at hrows2 ⊢
    have hl2 : (lists Ts Bs.length).length = Bs.length := lists_length _ _
    rw [hl1] at hr1 ⊢
    rw [hl2] at hrows2 ⊢
    have Kr1 := Lib.hid hr1
    have Kr2 := Lib.hid hrows2
    have Kb4 := Lib.hid (Kb3.out.trans (below_le hb4 Kb3.out.size))
    clear hTs hrows2 hb4 hr1 hl1 hl2 Ks2 Krows Kb3
    go_wp2_with fail
    go_loopg [17] Bs.length (fun q t17 wr => ∃ i : Nat, t17 = .int .i64 (i : Int) ∧ i ≤ Bs.length ∧ q = Bs.length - i ∧ Below w4.heap.size w4 wr)
    case atStart => exact ⟨0, rfl, by omega, by omega, Below.refl _ _⟩
    case round =>
     obtain ⟨i, rfl, hi, hq, hb⟩ := hrel
     have Kb := Lib.hid hb
     have Kq := Lib.hid hq
     have hszr2 := hb.size
     clear hb hq
     by_cases hlt : i < Bs.length
     ·have q1 : (0 : Int) ≤ (i : Int) := by omega
      have q2 : (i : Int) < (Bs.length : Int) := by omega
      have q3 : ((i : Int)).toNat = i := by omega
      obtain ⟨la, hla⟩ : ∃ la, la = all (Ss i) := ⟨_, rfl⟩
      have Kla := Lib.hid (show (lists Ss Bs.length)[i]? = some la by rw [hla]; exact lists_get Ss hlt)
      have Klt := Lib.hid (show (lists Ts Bs.length)[i]? = some (wo x la) by
       have hg2 := KG2.out
       rw [lists_get Ts hlt, hla, least KG.out hg2 hlt])
      have hlan : la.length ≤ 1024 := by
       rw [hla, all, mem_filter_range, ints_length]
       exact Nat.le_trans (List.length_filter_le _ _) (by rw [List.length_range]; exact Nat.le_refl _)
      have hsml : Small la := (Kr1.out.small) la (List.mem_of_getElem? Kla.out)
      have Ksl := Lib.hid hsml
      clear hla hsml
      obtain ⟨wq, rfl⟩ : ∃ wq, wq = wr := ⟨wr, rfl⟩
      go_wp2_with fail
      go_loopg [18, 19] la.length (fun q t18 t19 wx => ∃ k : Nat, t19 = .int .i64 (k : Int) ∧ k ≤ la.length ∧ q = la.length - k ∧ wx.ownsRow wq.heap.size 3 1 t18 (wo x (la.take k)).length (vals (wo x (la.take k))) ∧ Below wq.heap.size wq wx)
      case atStart => exact ⟨0, rfl, by omega, by omega, by simpa [wo, vals] using World.ownsRow_nil _ _ _ _, Below.refl _ _⟩
      case round =>
       obtain ⟨k, rfl, hk, hq2, ho2, hb2⟩ := hrel
       have Ko2 := Lib.hid ho2
       have Kb2 := Lib.hid hb2
       have Kq2 := Lib.hid hq2
       obtain ⟨a2, c5, rfl, _⟩ := own_slice ho2
       have hwl := wo_le x la k
       have hszx := hb2.size
       obtain ⟨b, o, rfl, A3, c3, cb, hrow1⟩ := ((Kr1.out.below Kb.out).below hb2).get Kla.out
       clear ho2 hb2 hq2
       by_cases hkl : k < la.length
       ·obtain ⟨b3, o3, rfl, _, cx⟩ := hrow1.cells hkl
        obtain ⟨y, hy⟩ : ∃ y, la[k]? = some y := ⟨_, List.getElem?_eq_getElem hkl⟩
        rw [show la.getD k 0 = y by rw [List.getD, hy]; rfl] at cx
        have r1 : (0 : Int) ≤ (k : Int) := by omega
        have r2 : (k : Int) < (la.length : Int) := by omega
        have r3 : ((k : Int)).toNat = k := by omega
        cases hne : (y != x)
        ·have Kst := Lib.hid (wo_take_no hy hne)
         clear hy hrow1
         go_wp2_with fail
         go_roundg (la.length - (k + 1))
         case measure => have := Kq2.out; omega
         case rel => exact ⟨k + 1, by go_num, by omega, rfl, by rw [Kst.out]; exact Ko2.out, Kb2.out⟩
        ·have Kst := Lib.hid (wo_take_yes hy hne)
         clear hy hrow1
         go_wp2_with (at_builtin; refine wpList_append_own2 _ rfl (.tmp 107) (.tmp 115) 28 rfl wq.heap.size 3 i0 _ 1 8 Tryd.underlying28 hi0 hz0 hz1 hz2 rfl (by decide) (.slice a2 (wo x (la.take k)).length c5) (wo x (la.take k)).length (vals (wo x (la.take k))) rfl (Ko2.out.alloc _) ⟨wr.heap.size, 0, none⟩ 1 1 [.int .i64 y] rfl rfl (cell_one_new _ _ _) (by simp [Value.oneCell']) (by unfold maxLen; omega) (by omega) (by simp; omega) ?_; intro v' w5 hown hgrow hsn)
         obtain ⟨a4, c4, rfl, _⟩ := own_slice hown
         have Kb5 := Lib.hid ((Kb2.out.alloc hszx (.cells #[.int .i64 y] 3)).grown hgrow (by simp; omega) (fun q hq => (Ko2.out.lt q hq).1))
         have Ko4 := Lib.hid hown
         clear hown hgrow hsn hwl hne
         go_wp2_with fail
         go_roundg (la.length - (k + 1))
         case measure => have := Kq2.out; omega
         case rel =>
          refine ⟨k + 1, by go_num, by omega, rfl, ?_, Kb5.out⟩
          rw [Kst.out, vals_snoc, List.length_append]
          exact Ko4.out
       ·obtain rfl : k = la.length := by omega
        obtain ⟨b6, o6, rfl, A6, c6, cm, hrow6⟩ := ((Kr2.out.below Kb.out).below Kb2.out).get Klt.out
        have ho3 := Ko2.out
        rw [List.take_length] at ho3
        have hc := ints_says _ _ _ _ _ (hrow6.row (Nat.le_refl _)) (row_own ho3 (wo_small Ksl.out))
        rw [decide_eq_true rfl] at hc
        have Kc := Lib.hid hc
        clear hrow1 hrow6 ho3 hc
        rw [List.take_length]
        go_wp2_with fail
        refine Kc.out.mono ?_
        rintro e w5 ⟨rfl, j, hw5⟩
        have Kb5 := Lib.hid (show Below w4.heap.size w4 w5 by rw [hw5]; exact below_drewN (Kb.out.trans (below_le Kb2.out hszr2)) _)
        clear hw5
        go_wp2_with fail
        go_roundg (Bs.length - (i + 1))
        case measure => have := Kq.out; omega
        case rel => exact ⟨i + 1, by go_num, by omega, rfl, Kb5.out⟩
     ·obtain rfl : i = Bs.length := by omega
      go_wp2_with fail
      go_ret
      exact ⟨rfl, Kb4.out.trans (below_le Kb.out Kb4.out.size)⟩
end Go.Proofs.YtdlplmbdkjkeiaaDoor
