import Derived.Test.YtjcijffhcmbhnaaDoorTbL
import Derived.Test.YtjcijffhcmbhnaaDoorTbK
namespace Go.Proofs.YtjcijffhcmbhnaaDoor
set_option maxRecDepth 100000
open Go.RowKit
open BitKit
set_option linter.unusedVariables false
set_option linter.unusedSimpArgs false
structure RefPacked (w w' : World) (u : Value) (R : List (List Int)) : Prop where
 ex : ∃ g v1 bv nv ov, u = .pointer (some ⟨g, 0, none⟩) ∧ At w' g 35 #[v1, bv, nv, ov] ∧ OwnI w' w.heap.size v1 (Tb.idsI R) ∧ OwnI w' w.heap.size bv (Tb.base R) ∧ OwnI w' w.heap.size nv (Tb.pack (Tb.outs R)).nx ∧ OwnI w' w.heap.size ov (Tb.pack (Tb.outs R)).ow
 below : Below w.heap.size w w'
theorem outs_small_pack {O : List (List Int)} (h : ∀ l ∈ O, Small l) : Small (Tb.pack O).nx := Tb.nx_small (q := fun x => -9223372036854775808 ≤ x ∧ x ≤ 9223372036854775807) (by decide) h
theorem ow_small (O : List (List Int)) (h : O.length ≤ 60000) : Small (Tb.pack O).ow := by
 intro x hx
 obtain ⟨i, hi⟩ := List.mem_iff_getElem?.1 hx
 have h1 := (Tb.ow_cell O i).2
 have h2 : (Tb.pack O).ow.getD i 0 = x := by rw [List.getD, hi]; rfl
 rw [h2] at h1
 omega
theorem cell_new_set (w : World) (p : Addr) (y u : Value) (t : TypeId) : ∀ (j : Nat) (x : Value), [u][j]? = some x → ((w.setCell p y).alloc (.cells #[u] t)).cell? ((⟨w.heap.size, 0, none⟩ : Addr).add j) = some x := by
 intro j x hx
 have h := cell_one_new (w.setCell p y) u t j x hx
 have e : (w.setCell p y).heap.size = w.heap.size := by simp [World.setCell]
 rwa [e] at h
theorem allNot_place {ow r : List Int} {q : Nat} (h : ∀ x, x < q → ¬ Tb.Free ow r x) : q ≤ Tb.place ow r := by
 have h1 := (Tb.place_least ow r).free
 by_cases h2 : q ≤ Tb.place ow r
 ·exact h2
 ·exact absurd h1 (h _ (by omega))
set_option maxHeartbeats 8000000 in
theorem refpack_any (v : Value) (R : List (List Int)) (w : World) (h : RowsL w v R) (hS : Short R) :
  Calls Tryd.prog 13 #[v] w fun e w' => ∃ u, e = .returned u ∧ RefPacked w w' u R := by
 obtain ⟨i0, hi, hz0, hz1, hz2⟩ := info_parts Tryd.infoInt
 have Ksh := Lib.hid (refshare_any v R w h hS)
 have Kos := Lib.hid (outs_smalls h.smalls)
 have Kou := Lib.hid (outs_short hS)
 have hOl := (outs_short hS).1
 have hR25 := hS.1
 have Ktr := Lib.hid (fun l (hl : l ∈ Tb.outs R) => Tb.outs_trim hl)
 clear h hS
 go_enter Tryd.func13, Tryd.ntmps13
 go_wp2_with fail
 refine Ksh.out.mono ?_
 rintro e w2 ⟨v1, v2, rfl, hSh⟩
 have Kb2 := Lib.hid hSh.below
 have hrows := hSh.rows Kos.out
 obtain ⟨A, c, rfl⟩ := hrows.shape
 have KR := Lib.hid hrows
 have KI := Lib.hid hSh.ids
 have hil := Tb.ids_length R
 obtain ⟨a1, c1, rfl⟩ := hSh.ids.shape
 clear hrows hSh Ksh
 rw [ints_length, hil] at KI ⊢
 generalize hO : Tb.outs R = O at KR Kos Kou hOl Ktr
 have KO := Lib.hid hO
 generalize hB : w2.heap.size = B
 have KB := Lib.hid hB
 have hsz2 := Kb2.out.size
 rw [hB] at hsz2
 clear hO hB hil
 go_wp2_with fail
 rw [KB.out]
 go_loopg [6, 7] O.length (fun q t6 t7 wr => ∃ (k : Nat) (nv ov : Value), t7 = .int .i64 (k : Int) ∧ k ≤ O.length ∧ q = O.length - k ∧
  PkS B B 35 wr #[.slice a1 R.length c1, .slice none 0 0, nv, ov] nv ov t6 (Tb.pack (O.take k)).nx (Tb.pack (O.take k)).ow (ints (Tb.pack (O.take k)).pl) ∧ Below B w2 wr)
 case atStart =>
  have hA := At.new w2 35 #[.slice a1 R.length c1, .slice none 0 0, .slice none 0 0, .slice none 0 0]
  rw [KB.out] at hA
  exact ⟨0, .slice none 0 0, .slice none 0 0, rfl, by omega, by omega, ⟨hA, OwnI.nil _ _, OwnI.nil _ _, OwnI.nil _ _, Ap.nil _, Ap.nil _, Ap.nil _, Nat.le_refl _, by decide⟩, (Below.refl _ _).alloc (by rw [KB.out]; exact Nat.le_refl _) _⟩
 case round =>
  obtain ⟨k, nv, ov, rfl, hk, hq, hPk, hb⟩ := hrel
  have KPk := Lib.hid hPk
  have Kb := Lib.hid hb
  have Kq := Lib.hid hq
  obtain ⟨ap, cp, rfl⟩ := hPk.pl.shape
  have hszr := hPk.size
  clear hPk hb hq
  by_cases hlt : k < O.length
  ·obtain ⟨r, hr⟩ : ∃ r, O[k]? = some r := ⟨_, List.getElem?_eq_getElem hlt⟩
   have hrm : r ∈ O := List.mem_of_getElem? hr
   have hr25 := Kou.out.2 r hrm
   have hrt := Ktr.out r hrm
   obtain ⟨b, oo, c', A', c'', he, hc0, hrow0⟩ := KR.out.cell hr
   have hbB : b < B := by have := (cell_spot hc0).1; rw [KB.out] at this; exact this
   have Kc0 := Lib.hid hc0
   rw [KB.out] at hrow0
   simp only [Value.slice.injEq, true_and] at he
   obtain ⟨rfl, rfl⟩ := he
   have q1 : (0 : Int) ≤ (k : Int) := by omega
   have q2 : (k : Int) < (O.length : Int) := by omega
   have q3 : ((k : Int)).toNat = k := by omega
   have hpk := Tb.pack_snoc (O.take k) r
   rw [← Tb.take_snoc hr] at hpk
   have hsp := Tb.pl_length (O.take k)
   rw [List.length_take, Nat.min_eq_left hk] at hsp
   have hnl := Tb.nx_length (O.take k)
   have how := Tb.ow_length (O.take k) 25 (fun x hx => Kou.out.2 x (List.mem_of_mem_take hx))
   rw [List.length_take, Nat.min_eq_left hk] at how
   have hows := ow_small (O.take k) (by rw [List.length_take]; omega)
   generalize Tb.pack (O.take k) = s at KPk hpk hsp hnl how hows ⊢
   have hpll : s.pl.length ≤ 25 := by omega
   have hnl2 : s.nx.length ≤ 25 * k := by omega
   have Knl := Lib.hid hnl
   have Ksp := Lib.hid hsp
   have Krow := Lib.hid hrow0
   have Kpk := Lib.hid hpk
   have Krt := Lib.hid hrt
   have Kows := Lib.hid hows
   have Kspot := Lib.hid (fun (q : Nat) (h1 : Tb.Free s.ow r q) (h2 : ∀ x, x < q → ¬ Tb.Free s.ow r x) => (Tb.Least.uniq ⟨h1, h2⟩ (Tb.place_least s.ow r) : q = Tb.place s.ow r))
   have Kple := Lib.hid (fun (q : Nat) (h : ∀ x, x < q → ¬ Tb.Free s.ow r x) => Nat.le_trans (allNot_place h) (Tb.place_le s.ow r))
   rw [ints_length] at ⊢
   clear hr hrm hrt hc0 hrow0 hpk hsp hnl hows
   have hplo : wr.ownsRow B 3 1 (.slice ap s.pl.length cp) s.pl.length (vals (ints s.pl)) := by
    have h1 := KPk.out.pl
    unfold OwnI at h1
    rw [ints_length] at h1
    exact h1
   have Kplo := Lib.hid hplo
   clear hplo
   go_wp2_with fail
   go_loopg [8] (s.ow.length + 1) (fun q t8 wz => ∃ p : Nat, t8 = .int .i64 (p : Int) ∧ p ≤ s.ow.length ∧ q = s.ow.length + 1 - p ∧ (∀ x, x < p → ¬ Tb.Free s.ow r x) ∧ wz = wr)
   case atStart => exact ⟨0, rfl, by omega, by omega, (fun x hx => by omega), rfl⟩
   case round =>
    obtain ⟨p, rfl, hp, hq2, hno, hwz⟩ := hrel
    subst hwz
    have Kq2 := Lib.hid hq2
    have Kno := Lib.hid hno
    have hc := (Kb.out.cell (p := ⟨b, oo + k, none⟩) hbB).trans Kc0.out
    have hrow := Krow.out.below Kb.out
    have hfr := free_any B B (.slice a1 R.length c1) (.slice none 0 0) nv ov A' c'' s.ow r p _ KPk.out.at_ KPk.out.ow (by obtain ⟨x, y, z1, z2, z3⟩ := hrow; exact ⟨x, y, z1, z2, z3.upto hszr⟩) (by omega) (by omega) (by omega) Kows.out
    have Kfr := Lib.hid hfr
    clear hq2 hno hrow hfr
    by_cases hfree : Tb.Free s.ow r p
    ·have Kpl := Lib.hid (Kspot.out p hfree Kno.out)
     have Kfree := Lib.hid hfree
     clear hfree
     go_wp2_with fail
     refine Kfr.out.mono ?_
     rintro e w4 ⟨⟨bb, rfl, hbb⟩, rfl⟩
     obtain rfl : bb = true := hbb.2 Kfree.out
     clear hbb
     have Kcell := Lib.hid (fun (wz : World) (hb : Below B w2 wz) => ((hb.cell (p := ⟨b, oo + k, none⟩) hbB).trans Kc0.out : wz.cell? ⟨b, oo + k, none⟩ = some (.slice A' r.length c'')))
     have Kelem := Lib.hid (fun (wz : World) (hb : Below B w2 wz) (c : Nat) (x : Int) (hx : r[c]? = some x) => (by
      obtain ⟨rb, ro, e1, _, e2⟩ := (Krow.out.below hb).nums.each c (List.getElem?_eq_some_iff.1 hx).1
      refine ⟨rb, ro, e1, ?_⟩
      rw [e2, List.getD, hx]; rfl : ∃ rb ro, A' = some ⟨rb, ro, none⟩ ∧ wz.cell? ⟨rb, ro + c, none⟩ = some (.int .i64 x)))
     clear hc
     go_wp2_with (at_builtin; refine wpList_append_own2 _ rfl (.tmp 35) (.tmp 37) 25 rfl B 3 i0 _ 1 8 Tryd.underlying25 hi hz0 hz1 hz2 rfl (by decide) (.slice ap s.pl.length cp) _ (vals (ints s.pl)) rfl (World.ownsRow.alloc Kplo.out _) ⟨_, 0, none⟩ 1 1 [.int .i64 (p : Int)] rfl rfl (cell_one_new _ _ _) (one_one rfl) ?d1 ?d2 ?d3 ?_)
     case d1 => unfold maxLen; omega
     case d2 => omega
     case d3 => rw [World.size_alloc]; exact Nat.le_succ_of_le hszr
     intro v5 w5 hown hgrow hsn
     have KPk5 := Lib.hid ((KPk.out.alloc _).place (v' := v5) (l := ints (s.pl ++ [p])) (show OwnI w5 B v5 (ints (s.pl ++ [p])) by
      rw [ints_snoc]
      unfold OwnI
      rw [vals_snoc, List.length_append, ints_length]; exact hown) (by rw [ints_length]; exact hgrow) (by rw [ints_length]; exact hsn))
     have Kb5 := Lib.hid ((Kb.out.alloc hszr _).grown hgrow (by rw [World.size_alloc]; exact Nat.le_succ_of_le hszr) (fun q hq => (Kplo.out.lt q hq).1))
     clear hown hgrow hsn Kfr Kq2
     go_wp2_with fail
     go_loopg [9] r.length (fun q t9 wz => ∃ (c : Nat) (nv2 ov2 : Value), t9 = .int .i64 (c : Int) ∧ c ≤ r.length ∧ q = r.length - c ∧
      PkS B B 35 wz #[.slice a1 R.length c1, .slice none 0 0, nv2, ov2] nv2 ov2 v5 (Tb.part s.nx r p id c) (Tb.part s.ow r p (fun _ => (k : Int) + 1) c) (ints (s.pl ++ [p])) ∧ Below B w2 wz)
     case atStart =>
      refine ⟨0, nv, ov, rfl, by omega, by omega, ?_, Kb5.out⟩
      rw [Tb.part_zero s.nx r p id (by have := Knl.out; omega), Tb.part_zero s.ow r p _ hp]
      exact KPk5.out
     case round =>
      obtain ⟨c, nv2, ov2, rfl, hcl, hq3, hPc, hbc⟩ := hrel
      have KPc := Lib.hid hPc
      have Kbc := Lib.hid hbc
      have Kq3 := Lib.hid hq3
      have hszc := hPc.size
      have hNl := Tb.part_length s.nx r p id c
      have hWl := Tb.part_length s.ow r p (fun _ => (k : Int) + 1) c
      have hNW : (Tb.part s.nx r p id c).length = (Tb.part s.ow r p (fun _ => (k : Int) + 1) c).length := by
       unfold Tb.part
       rw [Tb.lay_length, Tb.lay_length, Knl.out]
      have kc := Kcell.out _ hbc
      clear hPc hbc hq3
      by_cases hclt : c < r.length
      ·obtain ⟨x, hx⟩ : ∃ x, r[c]? = some x := ⟨_, List.getElem?_eq_getElem hclt⟩
       obtain ⟨rb, ro, rfl, cx⟩ := Kelem.out _ Kbc.out c x hx
       have s1 : (0 : Int) ≤ (c : Int) := by omega
       have s2 : (c : Int) < (r.length : Int) := by omega
       have s3 : ((c : Int)).toNat = c := by omega
       by_cases hx0 : x = 0
       ·subst hx0
        have KpN := Lib.hid (Tb.part_none (l := s.nx) (p := p) (f := id) hx)
        have KpW := Lib.hid (Tb.part_none (l := s.ow) (p := p) (f := fun _ => (k : Int) + 1) hx)
        clear hx hNl hWl hNW
        go_wp2_with fail
        go_loopg [] 1 (fun q wz => q = 1 ∧ wz = wr)
        case atStart => exact ⟨rfl, rfl⟩
        case round =>
         obtain ⟨hq4, hwz⟩ := hrel
         subst hwz
         clear hq4
         go_wp2_with fail
         go_roundg (r.length - (c + 1))
         case measure => have := Kq3.out; omega
         case rel =>
          refine ⟨c + 1, nv2, ov2, by go_num, by omega, rfl, ?_, Kbc.out⟩
          rw [KpN.out, KpW.out]; exact KPc.out
       ·have KpN := Lib.hid (Tb.part_next (l := s.nx) (p := p) (f := id) hx hx0 (by have := Knl.out; omega))
        have KpW := Lib.hid (Tb.part_next (l := s.ow) (p := p) (f := fun _ => (k : Int) + 1) hx hx0 hp)
        have hx0b : (x != 0) = true := by simpa using hx0
        have Kx := Lib.hid hx
        generalize Tb.part s.nx r p id c = N2 at KPc KpN hNl hNW
        generalize Tb.part s.ow r p (fun _ => (k : Int) + 1) c = W2 at KPc KpW hWl hNW
        have hN2l : N2.length ≤ 1000 := by omega
        have KNW := Lib.hid hNW
        obtain ⟨L0, hL0⟩ : ∃ L0, N2.length = L0 := ⟨_, rfl⟩
        have KL0 := Lib.hid hL0
        rw [hL0] at hN2l
        have hpI : (p : Int) ≤ 1000 := by omega
        have hp0 : (0 : Int) ≤ (p : Int) := by omega
        have hcI : (c : Int) ≤ 1000 := by omega
        clear hx hx0 hNl hWl hNW hL0 cx
        go_wp2_with fail
        clear kc
        go_loopg [] ((p + c + 1) - L0) (fun q wz => ∃ (e n : Nat) (N3 W3 : List Int) (nv3 ov3 : Value), q = (p + c + 1) - L0 - e ∧ e ≤ (p + c + 1) - L0 ∧ n = L0 + e ∧ N3 = N2 ++ List.replicate e 0 ∧ W3 = W2 ++ List.replicate e 0 ∧ N3.length = n ∧ W3.length = n ∧
         PkS B B 35 wz #[.slice a1 R.length c1, .slice none 0 0, nv3, ov3] nv3 ov3 v5 N3 W3 (ints (s.pl ++ [p])) ∧ Below B w2 wz)
        case atStart => exact ⟨0, L0, N2, W2, nv2, ov2, rfl, by omega, rfl, by simp, by simp, KL0.out, by rw [← KNW.out]; exact KL0.out, KPc.out, Kbc.out⟩
        case round =>
         obtain ⟨e, n, N3, W3, nv3, ov3, hq4, he, hn, hN3, hW3, hn3, hw3, hP3, hb3⟩ := hrel
         have KP3 := Lib.hid hP3
         have Kb3 := Lib.hid hb3
         have Kq4 := Lib.hid hq4
         have Kn := Lib.hid hn
         have KN3 := Lib.hid hN3
         have KW3 := Lib.hid hW3
         have Kn3 := Lib.hid hn3
         have Kw3 := Lib.hid hw3
         have hnb : n ≤ 3000 := by omega
         have hsz3 := hP3.size
         have hnN : wr.ownsRow B 3 1 nv3 n (vals N3) := by rw [← hn3]; exact hP3.nx
         have hnW : wr.ownsRow B 3 1 ov3 n (vals W3) := by rw [← hw3]; exact hP3.ow
         obtain ⟨an, cn, rfl, _⟩ := own_slice hnN
         obtain ⟨ao, co, rfl, _⟩ := own_slice hnW
         have KnN := Lib.hid hnN
         have KnW := Lib.hid hnW
         have kc := Kcell.out _ hb3
         obtain ⟨rb', ro', he', cx⟩ := Kelem.out _ hb3 c x Kx.out
         obtain ⟨rfl, rfl⟩ := same_addr he'
         have l2 := hP3.at_.cell 2
         have l3 := hP3.at_.cell 3
         have fz := hP3.at_.frozen
         simp only [List.getElem?_toArray, List.getElem?_cons_zero, List.getElem?_cons_succ] at l2 l3
         by_cases hfit : n ≤ p + c
         ·have hfitI : (n : Int) ≤ (p : Int) + (c : Int) := by omega
          clear hq4 hn hN3 hW3 hn3 hw3 hP3 hb3 hnN hnW he'
          go_wp2_with (at_builtin; refine wpList_append_own2 _ rfl (.tmp 71) (.tmp 72) 25 rfl B 3 i0 _ 1 8 Tryd.underlying25 hi hz0 hz1 hz2 rfl (by decide) (.slice an n cn) _ (vals N3) rfl (World.ownsRow.alloc KnN.out _) ⟨_, 0, none⟩ 1 1 [.int .i64 0] rfl rfl (cell_one_new _ _ _) (one_one rfl) ?d1 ?d2 ?d3 ?_)
          case d1 => unfold maxLen; omega
          case d2 => omega
          case d3 => rw [World.size_alloc]; omega
          intro v6 w6 hown hgrow hsn
          have KP6 := Lib.hid ((KP3.out.alloc _).next (show OwnI w6 B v6 (N3 ++ [0]) by
           unfold OwnI
           rw [vals_snoc, List.length_append, Kn3.out]; exact hown) hgrow hsn)
          have Kb6 := Lib.hid ((Kb3.out.alloc hsz3 _).grown hgrow (by rw [World.size_alloc]; omega) (fun q hq => (KnN.out.lt q hq).1))
          obtain ⟨a6, c6, rfl, _⟩ := own_slice hown
          have hP7 := KP6.out.set 2 (.slice a6 (n + 1) c6)
          have hb7 := below_set Kb6.out (p := ⟨B, 2, none⟩) (Nat.le_refl _) (.slice a6 (n + 1) c6)
          simp only [List.setIfInBounds_toArray, List.set_cons_zero, List.set_cons_succ] at hP7
          have hnW7 : (w6.setCell ⟨B, 2, none⟩ (.slice a6 (n + 1) c6)).ownsRow B 3 1 (.slice ao n co) n (vals W3) := by
           have h1 := hP7.ow
           unfold OwnI at h1
           rw [Kw3.out] at h1
           exact h1
          have m2 := KP6.out.at_.cell 2
          have m3 := KP6.out.at_.cell 3
          have mf := KP6.out.at_.frozen
          simp only [List.getElem?_toArray, List.getElem?_cons_zero, List.getElem?_cons_succ] at m2 m3
          have hsz7 := hP7.size
          have KP7 := Lib.hid hP7
          have Kb7 := Lib.hid hb7
          have KnW7 := Lib.hid hnW7
          clear hown hgrow hsn hP7 hb7 hnW7 l2 l3 fz KP3 Kb3
          go_wp2_with (at_builtin; refine wpList_append_own2 _ rfl (.tmp 80) (.tmp 81) 25 rfl B 3 i0 _ 1 8 Tryd.underlying25 hi hz0 hz1 hz2 rfl (by decide) (.slice ao n co) _ (vals W3) rfl (World.ownsRow.alloc KnW7.out _) ⟨_, 0, none⟩ 1 1 [.int .i64 0] rfl rfl (cell_new_set _ _ _ _ _) (one_one rfl) ?e1 ?e2 ?e3 ?_)
          case e1 => unfold maxLen; omega
          case e2 => omega
          case e3 => rw [World.size_alloc]; omega
          intro v8 w8 hown hgrow hsn
          have KP8 := Lib.hid ((KP7.out.alloc _).owner (show OwnI w8 B v8 (W3 ++ [0]) by
           unfold OwnI
           rw [vals_snoc, List.length_append, Kw3.out]; exact hown) hgrow hsn)
          have Kb8 := Lib.hid ((Kb7.out.alloc hsz7 _).grown hgrow (by rw [World.size_alloc]; omega) (fun q hq => (KnW7.out.lt q hq).1))
          obtain ⟨a8, c8, rfl, _⟩ := own_slice hown
          have hP9 := KP8.out.set 3 (.slice a8 (n + 1) c8)
          simp only [List.setIfInBounds_toArray, List.set_cons_zero, List.set_cons_succ] at hP9
          have KP9 := Lib.hid hP9
          have Kb9 := Lib.hid (below_set Kb8.out (p := ⟨B, 3, none⟩) (Nat.le_refl _) (.slice a8 (n + 1) c8))
          have n3 := KP8.out.at_.cell 3
          have nf := KP8.out.at_.frozen
          simp only [List.getElem?_toArray, List.getElem?_cons_zero, List.getElem?_cons_succ] at n3
          clear hown hgrow hsn hP9 m2 m3 mf
          go_wp2_with fail
          go_roundg ((p + c + 1) - L0 - (e + 1))
          case measure => have := Kq4.out; have := Kn.out; omega
          case rel =>
           refine ⟨e + 1, n + 1, N3 ++ [0], W3 ++ [0], .slice a6 (n + 1) c6, .slice a8 (n + 1) c8, rfl, by have := Kn.out; omega, by have := Kn.out; omega, ?_, ?_, by rw [List.length_append, Kn3.out]; rfl, by rw [List.length_append, Kw3.out]; rfl, KP9.out, Kb9.out⟩
           ·rw [KN3.out, List.append_assoc, ← List.replicate_succ']
           ·rw [KW3.out, List.append_assoc, ← List.replicate_succ']
         ·have hfitI : ¬ (n : Int) ≤ (p : Int) + (c : Int) := by omega
          have he2 : e = (p + c + 1) - L0 := by omega
          have hNf : N3 = Tb.longer 0 N2 (p + c + 1) := by unfold Tb.longer; rw [KN3.out, he2, KL0.out]
          have hWf : W3 = Tb.longer 0 W2 (p + c + 1) := by unfold Tb.longer; rw [KW3.out, he2, ← KNW.out, KL0.out]
          have KNf := Lib.hid hNf
          have KWf := Lib.hid hWf
          obtain ⟨J, hJ⟩ : ∃ J, p + c = J := ⟨_, rfl⟩
          have hJn : J < n := by omega
          obtain ⟨gn, cgn, hen, _, hgnB⟩ := own_pos hnN (by omega)
          obtain ⟨go, cgo, heo, _, hgoB⟩ := own_pos hnW (by omega)
          simp only [Value.slice.injEq, true_and] at hen heo
          obtain ⟨rfl, rfl⟩ := hen
          obtain ⟨rfl, rfl⟩ := heo
          obtain ⟨xn, hxn⟩ : ∃ xn, N3[J]? = some xn := ⟨_, List.getElem?_eq_getElem (by rw [hn3]; exact hJn)⟩
          obtain ⟨xo, hxo⟩ : ∃ xo, W3[J]? = some xo := ⟨_, List.getElem?_eq_getElem (by rw [hw3]; exact hJn)⟩
          have cn3 := hnN.cellAt J (by omega)
          rw [vals_get hxn] at cn3
          have fn3 := hnN.frozenAt J
          have t1 : IntKind.i64.wrap ((p : Int) + (c : Int)) = (J : Int) := by rw [← hJ, Int.natCast_add]; exact IntWalk.i64_in _ (by omega)
          have t2 : IntKind.i64.wrap ((k : Int) + 1) = (k : Int) + 1 := IntWalk.i64_in _ (by omega)
          have t3 : (0 : Int) ≤ (J : Int) := by omega
          have t4 : (J : Int) < (n : Int) := by omega
          have t6 : ((J : Int)).toNat = J := by omega
          have cW3 := hnW.cellAt J (by omega)
          rw [vals_get hxo] at cW3
          have fW3 := hnW.frozenAt J
          have u1 : ¬ gn = B := fun e => own_apart hP3.nx hP3.at_ (by decide) (by rw [← e]; rfl)
          have u2 : ¬ B = gn := fun e => u1 e.symm
          have u3 : ¬ gn = go := fun e => hP3.no gn rfl (by rw [e]; rfl)
          have u4 : ¬ go = gn := fun e => u3 e.symm
          have Kxo := Lib.hid hxo
          have KJ := Lib.hid hJ
          clear hq4 hn hN3 hW3 hn3 hw3 hP3 hb3 hnN hnW he' he he2 hNf hWf hxn hxo hJ
          go_wp2_with fail
          go_still_tail 15, (by kernel_rfl)
          change wpList _ _ _ _ _ wr.drew
          go_wp2_with fail
          have hst := (show OwnI wr.drew B (.slice (some ⟨gn, 0, none⟩) N3.length cn) N3 by rw [Kn3.out]; exact KP3.out.nx).store J x
          have hnx10 : OwnI (wr.drew.setCell ⟨gn, J, none⟩ (.int .i64 x)) B (.slice (some ⟨gn, 0, none⟩) n cn) (N3.set J x) := by
           have h1 := hst.1
           rw [Kn3.out] at h1
           exact h1
          have KP10 := Lib.hid (KP3.out.drew.next hnx10 hst.2 (SameOrNew.refl _ _))
          have Kb10 := Lib.hid (below_set (below_drew Kb3.out) (p := ⟨gn, J, none⟩) hgnB (.int .i64 x))
          have hst2 := (show OwnI (wr.drew.setCell ⟨gn, J, none⟩ (.int .i64 x)) B (.slice (some ⟨go, 0, none⟩) W3.length co) W3 by rw [Kw3.out]; exact KP10.out.ow).store J ((k : Int) + 1)
          have how11 : OwnI ((wr.drew.setCell ⟨gn, J, none⟩ (.int .i64 x)).setCell ⟨go, J, none⟩ (.int .i64 ((k : Int) + 1))) B (.slice (some ⟨go, 0, none⟩) n co) (W3.set J ((k : Int) + 1)) := by
           have h1 := hst2.1
           rw [Kw3.out] at h1
           exact h1
          have KP11 := Lib.hid (KP10.out.owner how11 hst2.2 (SameOrNew.refl _ _))
          have Kb11 := Lib.hid (below_set Kb10.out (p := ⟨go, J, none⟩) hgoB (.int .i64 ((k : Int) + 1)))
          clear hst hst2 hnx10 how11
          go_roundg (r.length - (c + 1))
          case measure => have := Kq3.out; omega
          case rel =>
           refine ⟨c + 1, .slice (some ⟨gn, 0, none⟩) n cn, .slice (some ⟨go, 0, none⟩) n co, by go_num, by omega, rfl, ?_, Kb11.out⟩
           rw [KpN.out, KpW.out, ← KNf.out, ← KWf.out, KJ.out]
           exact KP11.out
      ·obtain rfl : c = r.length := by omega
       have hput : Tb.pack (O.take (k + 1)) = ⟨Tb.part s.nx r p id r.length, Tb.part s.ow r p (fun _ => (k : Int) + 1) r.length, s.pl ++ [p]⟩ := by
        rw [Kpk.out, Tb.part_all p id Krt.out, Tb.part_all p (fun _ => (k : Int) + 1) Krt.out]
        unfold Tb.put
        rw [← Kpl.out, Ksp.out]
       have Kput := Lib.hid hput
       clear hput hNl hWl hNW
       go_wp2_with fail
       go_roundg (O.length - (k + 1))
       case measure => have := Kq.out; omega
       case rel =>
        refine ⟨k + 1, nv2, ov2, by go_num, by omega, rfl, ?_, Kbc.out⟩
        rw [Kput.out]; exact KPc.out
    ·have Kfree := Lib.hid hfree
     have hp2 := Kple.out (p + 1) (fun x hx => by
      by_cases he : x = p
      ·subst he; exact hfree
      ·exact Kno.out x (by omega))
     clear hfree
     go_wp2_with fail
     refine Kfr.out.mono ?_
     rintro e w4 ⟨⟨bb, rfl, hbb⟩, rfl⟩
     cases bb
     ·clear hbb
      go_wp2_with fail
      go_roundg (s.ow.length + 1 - (p + 1))
      case measure => have := Kq2.out; omega
      case rel =>
       refine ⟨p + 1, by go_num, hp2, rfl, fun x hx => ?_, rfl⟩
       by_cases he : x = p
       ·subst he; exact Kfree.out
       ·exact Kno.out x (by omega)
     ·exact absurd (hbb.1 rfl) Kfree.out
  ·obtain rfl : k = O.length := by omega
   rw [List.take_length] at KPk ⊢
   have hsp := Tb.pl_length O
   have hspl : (Tb.pack O).pl.length ≤ 25 := by omega
   have Ksp := Lib.hid hsp
   have hidl := KO.out
   have Kidl := Lib.hid (fun (j id : Nat) (h : (Tb.ids R)[j]? = some id) => (by have h1 := Tb.ids_lt h; rw [KO.out] at h1; exact h1 : id < O.length))
   have Kbase := Lib.hid (show Tb.base R = (Tb.ids R).map (fun q => (((Tb.pack O).pl.getD q 0 : Nat) : Int)) by unfold Tb.base; rw [KO.out])
   have hbl := Tb.base_length R
   have hill := Tb.ids_length R
   generalize hps : Tb.pack O = s at KPk Ksp hspl Kbase ⊢
   have Kps := Lib.hid hps
   clear hps
   rw [ints_length] at ⊢
   generalize hBs : Tb.base R = BS at Kbase hbl
   generalize hIs : Tb.ids R = IS at KI Kidl Kbase hill
   have KBs := Lib.hid hBs
   have KIs := Lib.hid hIs
   have Kbl := Lib.hid hbl
   have Kill := Lib.hid hill
   obtain ⟨D, hD⟩ : ∃ D, wr.heap.size = D := ⟨_, rfl⟩
   have KD := Lib.hid hD
   have Kkp := Lib.hid (fun (wz : World) (hK : Keeps [B] wr wz) => (⟨own_keeps KPk.out.nx hK (fun q hq hm => by
     simp at hm
     subst hm
     exact own_apart KPk.out.nx KPk.out.at_ (by decide) hq), own_keeps KPk.out.ow hK (fun q hq hm => by
     simp at hm
     subst hm
     exact own_apart KPk.out.ow KPk.out.at_ (by decide) hq)⟩ : OwnI wz B nv s.nx ∧ OwnI wz B ov s.ow))
   have hBD : B < D := by have := KPk.out.at_.lt; omega
   clear hsp hidl hbl hill hBs hIs hD
   go_wp2_with fail
   go_loopg [10] R.length (fun q t92 wz => ∃ (j : Nat) (bv : Value), t92 = .int .i64 (j : Int) ∧ j ≤ R.length ∧ q = R.length - j ∧ At wz B 35 #[.slice a1 R.length c1, bv, nv, ov] ∧ OwnI wz D bv (BS.take j) ∧ Keeps [B] wr wz)
   case atStart => exact ⟨0, .slice none 0 0, rfl, by omega, by omega, KPk.out.at_, by rw [List.take_zero]; exact OwnI.nil _ _, Keeps.refl _ _⟩
   case round =>
    obtain ⟨j, bv, rfl, hj, hq3, hA, hBv, hK⟩ := hrel
    have KA := Lib.hid hA
    have KBv := Lib.hid hBv
    have KK := Lib.hid hK
    have Kq3 := Lib.hid hq3
    have hszz : D ≤ wr.heap.size := by have := hK.size; rw [KD.out] at this; exact this
    have Kbz := Lib.hid (below_keeps Kb.out hK (fun x hx => by simp at hx; omega) (by have := KPk.out.size; exact this))
    clear hq3 hK
    by_cases hjl : j < R.length
    ·obtain ⟨id, hid⟩ : ∃ id, IS[j]? = some id := ⟨_, List.getElem?_eq_getElem (by rw [Kill.out]; exact hjl)⟩
     have hidO := Kidl.out j id hid
     obtain ⟨pp, hpp⟩ : ∃ pp, s.pl[id]? = some pp := ⟨_, List.getElem?_eq_getElem (by rw [Ksp.out]; exact hidO)⟩
     have hIz := KI.out
     unfold OwnI at hIz
     rw [ints_length, Kill.out] at hIz
     obtain ⟨gi, ci, he, _⟩ := own_pos hIz (by omega)
     simp only [Value.slice.injEq, true_and] at he
     obtain ⟨rfl, rfl⟩ := he
     have cI := hIz.cellAt j (by omega)
     rw [vals_get (ints_get hid)] at cI
     have hgi := own_block hIz gi rfl
     rw [KB.out] at hgi
     have cI := (Kbz.out.cell (p := ⟨gi, j, none⟩) hgi).trans cI
     have hPz := own_keeps KPk.out.pl KK.out (fun q hq hm => by
      simp at hm
      subst hm
      exact own_apart KPk.out.pl KPk.out.at_ (by decide) hq)
     rw [ints_length] at hPz
     obtain ⟨gp, cgp, he, _⟩ := own_pos hPz (by rw [Ksp.out]; omega)
     simp only [Value.slice.injEq] at he
     obtain ⟨rfl, hbad, rfl⟩ := he
     clear hbad
     have hidl : id < s.pl.length := by rw [Ksp.out]; exact hidO
     have cP := hPz.cellAt id (by omega)
     rw [vals_get (ints_get hpp)] at cP
     obtain ⟨nb, hnb⟩ : ∃ nb, (BS.take j).length = nb := ⟨_, rfl⟩
     obtain ⟨ab, cb, rfl⟩ := hBv.shape
     have hBv2 : wr.ownsRow D 3 1 (.slice ab (BS.take j).length cb) (BS.take j).length (vals (BS.take j)) := hBv
     rw [hnb] at hBv2 hA KA
     have KBv2 := Lib.hid hBv2
     have Knb := Lib.hid hnb
     have hppd : (s.pl.getD id 0 : Nat) = pp := by rw [List.getD, hpp]; rfl
     have hBj : BS[j]? = some (pp : Int) := by rw [Kbase.out, List.getElem?_map, hid]; simp only [Option.map_some]; rw [hppd]
     have Ktake := Lib.hid (Tb.take_snoc hBj)
     have htl : nb ≤ 25 := by rw [← hnb, List.length_take]; omega
     have l1 := hA.cell 1
     simp only [List.getElem?_toArray, List.getElem?_cons_zero, List.getElem?_cons_succ] at l1
     have zz0 : (fun w' : World => w'.cell? ⟨B, 1, none⟩ = some (.slice ab nb cb) ∧ w'.cell? ⟨gi, j, none⟩ = some (.int .i64 (id : Int)) ∧ w'.cell? ⟨gp, id, none⟩ = some (.int .i64 (pp : Int))) wr.drew := ⟨l1, cI, cP⟩
     have KLI := Lib.hid cI
     have s1 : (0 : Int) ≤ (j : Int) := by omega
     have s2 : (j : Int) < (R.length : Int) := by omega
     have s3 : ((j : Int)).toNat = j := by omega
     have s4 : (0 : Int) ≤ (id : Int) := by omega
     have s5 : (id : Int) < (s.pl.length : Int) := by omega
     have s6 : ((id : Int)).toNat = id := by omega
     have KL1 := Lib.hid l1
     have KLP := Lib.hid cP
     have hBlt := KA.out.lt
     have hgplt : gp < wr.heap.size := own_block hPz gp rfl
     have hgpD : gp < D := by have := own_block KPk.out.pl gp rfl; rw [KD.out] at this; exact this
     clear hid hidO hpp hIz hPz hppd hBj hA hBv hBv2 KBv hnb l1 cP cI hidl
     go_wp2_with fail
     refine Zed.begin_ (fun w' => w'.cell? ⟨B, 1, none⟩ = some (.slice ab nb cb) ∧ w'.cell? ⟨gi, j, none⟩ = some (.int .i64 (id : Int)) ∧ w'.cell? ⟨gp, id, none⟩ = some (.int .i64 (pp : Int))) [16] (by kernel_rfl) ?_
     refine Zed.pure (i := 0) (v := ?vy0) rfl (by kernel_rfl) (by kernel_rfl) (by kernel_rfl) (by kernel_rfl) (by kernel_rfl) (fun _ _ _ h => h) (Or.inl ⟨by rfl, ?hyy0⟩) (.inr zz0) ?resty0
     case hyy0 => (intro w _; go_simp; try with_reducible rfl)
     try simp only [Act.put, List.setIfInBounds_toArray, List.set_cons_zero, List.set_cons_succ]
     refine Zed.pure (i := 1) (v := ?vy1) rfl (by kernel_rfl) (by kernel_rfl) (by kernel_rfl) (by kernel_rfl) (by kernel_rfl) (fun _ _ _ h => h) (Or.inl ⟨by rfl, ?hyy1⟩) (.inr zz0) ?resty1
     case hyy1 => (intro w _; go_simp; try with_reducible rfl)
     try simp only [Act.put, List.setIfInBounds_toArray, List.set_cons_zero, List.set_cons_succ]
     refine Zed.pure (i := 2) (v := ?vy2) rfl (by kernel_rfl) (by kernel_rfl) (by kernel_rfl) (by kernel_rfl) (by kernel_rfl) (fun _ _ _ h => h) (Or.inl ⟨by rfl, ?hyy2⟩) (.inr zz0) ?resty2
     case hyy2 => (intro w _; go_simp; try with_reducible rfl)
     try simp only [Act.put, List.setIfInBounds_toArray, List.set_cons_zero, List.set_cons_succ]
     refine Zed.pure (i := 3) (v := ?vy3) rfl (by kernel_rfl) (by kernel_rfl) (by kernel_rfl) (by kernel_rfl) (by kernel_rfl) (fun _ _ _ h => h) (Or.inl ⟨by rfl, ?hyy3⟩) (.inr zz0) ?resty3
     case hyy3 => (intro w _; go_simp; try with_reducible rfl)
     try simp only [Act.put, List.setIfInBounds_toArray, List.set_cons_zero, List.set_cons_succ]
     refine Zed.take (i := 4) (v := ?vy4) rfl (by kernel_rfl) (by kernel_rfl) (by kernel_rfl) (by kernel_rfl) (by kernel_rfl) (fun _ _ _ h => h) (Or.inl ⟨by rfl, ?hyy4⟩) zz0 ?resty4
     case hyy4 => (intro w hSw; (try dsimp only at hSw); have hc := hSw.1; go_simp; try with_reducible rfl)
     try simp only [Act.put, List.setIfInBounds_toArray, List.set_cons_zero, List.set_cons_succ]
     refine Zed.pure (i := 5) (v := ?vy5) rfl (by kernel_rfl) (by kernel_rfl) (by kernel_rfl) (by kernel_rfl) (by kernel_rfl) (fun _ _ _ h => h) (Or.inl ⟨by rfl, ?hyy5⟩) (.inr zz0) ?resty5
     case hyy5 => (intro w _; go_simp; try with_reducible rfl)
     try simp only [Act.put, List.setIfInBounds_toArray, List.set_cons_zero, List.set_cons_succ]
     refine Zed.pure (i := 6) (v := ?vy6) rfl (by kernel_rfl) (by kernel_rfl) (by kernel_rfl) (by kernel_rfl) (by kernel_rfl) (fun _ _ _ h => h) (Or.inl ⟨by rfl, ?hyy6⟩) (.inr zz0) ?resty6
     case hyy6 => (intro w _; go_simp; try with_reducible rfl)
     try simp only [Act.put, List.setIfInBounds_toArray, List.set_cons_zero, List.set_cons_succ]
     refine Zed.pure (i := 7) (v := ?vy7) rfl (by kernel_rfl) (by kernel_rfl) (by kernel_rfl) (by kernel_rfl) (by kernel_rfl) (fun _ _ _ h => h) (Or.inl ⟨by rfl, ?hyy7⟩) (.inr zz0) ?resty7
     case hyy7 => (intro w _; go_simp; try with_reducible rfl)
     try simp only [Act.put, List.setIfInBounds_toArray, List.set_cons_zero, List.set_cons_succ]
     refine Zed.pure (i := 8) (v := ?vy8) rfl (by kernel_rfl) (by kernel_rfl) (by kernel_rfl) (by kernel_rfl) (by kernel_rfl) (fun _ _ _ h => h) (Or.inl ⟨by rfl, ?hyy8⟩) (.inr zz0) ?resty8
     case hyy8 => (intro w _; go_simp; try with_reducible rfl)
     try simp only [Act.put, List.setIfInBounds_toArray, List.set_cons_zero, List.set_cons_succ]
     refine Zed.take (i := 9) (v := ?vy9) rfl (by kernel_rfl) (by kernel_rfl) (by kernel_rfl) (by kernel_rfl) (by kernel_rfl) (fun _ _ _ h => h) (Or.inl ⟨by rfl, ?hyy9⟩) zz0 ?resty9
     case hyy9 => (intro w hSw; (try dsimp only at hSw); have hc := hSw.2.1; go_simp; try with_reducible rfl)
     try simp only [Act.put, List.setIfInBounds_toArray, List.set_cons_zero, List.set_cons_succ]
     refine Zed.pure (i := 10) (v := ?vy10) rfl (by kernel_rfl) (by kernel_rfl) (by kernel_rfl) (by kernel_rfl) (by kernel_rfl) (fun _ _ _ h => h) (Or.inl ⟨by rfl, ?hyy10⟩) (.inr zz0) ?resty10
     case hyy10 => (intro w _; go_simp; try with_reducible rfl)
     try simp only [Act.put, List.setIfInBounds_toArray, List.set_cons_zero, List.set_cons_succ]
     refine Zed.take (i := 11) (v := ?vy11) rfl (by kernel_rfl) (by kernel_rfl) (by kernel_rfl) (by kernel_rfl) (by kernel_rfl) (fun _ _ _ h => h) (Or.inl ⟨by rfl, ?hyy11⟩) zz0 ?resty11
     case hyy11 => (intro w hSw; (try dsimp only at hSw); have hc := hSw.2.2; go_simp; try with_reducible rfl)
     try simp only [Act.put, List.setIfInBounds_toArray, List.set_cons_zero, List.set_cons_succ]
     refine Zed.one (i := 12) (by kernel_rfl) rfl (fun K hK => ?_)
     go_simp
     have hbl1 : Below wr.heap.size wr (wr.alloc (.cells #[.int .i64 (pp : Int)] 3)).drew := below_drew ((Below.refl _ _).alloc (Nat.le_refl _) _)
     have zz1 : (fun w' => w'.cell? ⟨B, 1, none⟩ = some (.slice ab nb cb) ∧ w'.cell? ⟨gi, j, none⟩ = some (.int .i64 (id : Int)) ∧ w'.cell? ⟨gp, id, none⟩ = some (.int .i64 (pp : Int))) (wr.alloc (.cells #[.int .i64 (pp : Int)] 3)).drew := ⟨(hbl1.cell (p := ⟨B, 1, none⟩) hBlt).trans KL1.out, (hbl1.cell (p := ⟨gi, j, none⟩) (show gi < wr.heap.size by omega)).trans KLI.out, (hbl1.cell (p := ⟨gp, id, none⟩) hgplt).trans KLP.out⟩
     refine hK.out _ _ (.inr zz1) ?_
     clear hK K
     try simp only [Act.put, List.setIfInBounds_toArray, List.set_cons_zero, List.set_cons_succ]
     refine Zed.one (i := 13) (by kernel_rfl) rfl (fun K hK => ?_)
     refine step_append_own2 rfl _ _ 25 rfl D 3 i0 (.int .i64 0) 1 8 Tryd.underlying25 hi hz0 hz1 hz2 rfl (by decide) (.slice ab nb cb) nb (vals (BS.take j)) rfl (World.ownsRow.alloc KBv2.out _) ⟨wr.heap.size, 0, none⟩ 1 1 [.int .i64 (pp : Int)] rfl rfl (cell_one_new wr _ _) (one_one rfl) (by unfold maxLen; omega) (by omega) (show D ≤ (wr.alloc (.cells #[.int .i64 (pp : Int)] 3)).heap.size by rw [World.size_alloc]; omega) ?_
     intro v7 w7 hown7 hg7 hs7
     have KBv7 := Lib.hid (show OwnI w7 D v7 (BS.take (j + 1)) by
      rw [Ktake.out]
      unfold OwnI
      rw [vals_append, List.length_append, Knb.out]
      exact hown7)
     have hgr : ∀ q, (Value.slice ab nb cb).ownBlock = some q → D ≤ q := fun q hq => (KBv2.out.lt q hq).1
     have hA7 := ((KA.out.alloc (.cells #[.int .i64 (pp : Int)] 3)).drew.grown hg7 (fun e => by have := hgr B e.symm; omega))
     have KA7 := Lib.hid hA7
     have KK7 := Lib.hid (((KK.out.alloc (.cells #[.int .i64 (pp : Int)] 3)).drew).grown hg7 (fun q hq => .inr (by have := hgr q hq; rw [KD.out]; omega)))
     have l1 := hA7.cell 1
     have rf := hA7.frozen
     simp only [List.getElem?_toArray, List.getElem?_cons_zero, List.getElem?_cons_succ] at l1
     have hsza : (wr.alloc (.cells #[.int .i64 (pp : Int)] 3)).drew.heap.size = wr.heap.size + 1 := World.size_alloc _ _
     have zz2 : (fun w' => w'.cell? ⟨B, 1, none⟩ = some (.slice ab nb cb) ∧ w'.cell? ⟨gi, j, none⟩ = some (.int .i64 (id : Int)) ∧ w'.cell? ⟨gp, id, none⟩ = some (.int .i64 (pp : Int))) w7 := ⟨l1, (grown_cell hg7 (p := ⟨gi, j, none⟩) (by rw [hsza]; show gi < _; omega) (fun e => by have := hgr gi e.symm; omega)).trans zz1.2.1, (grown_cell hg7 (p := ⟨gp, id, none⟩) (by rw [hsza]; show gp < _; omega) (fun e => by have := hgr gp e.symm; omega)).trans zz1.2.2⟩
     obtain ⟨nb7, hnb7⟩ : ∃ nb7, (BS.take (j + 1)).length = nb7 := ⟨_, rfl⟩
     have hB7 : w7.ownsRow D 3 1 v7 nb7 (vals (BS.take (j + 1))) := by rw [← hnb7]; exact KBv7.out
     obtain ⟨a7, c7, rfl, _⟩ := own_slice hB7
     have KB7 := Lib.hid hB7
     have Knb7 := Lib.hid hnb7
     clear KBv7 hB7 hnb7 hown7 hgr hA7 hsza
     refine hK.out _ _ (.inr zz2) ?_
     clear hK K
     try simp only [Act.put, List.setIfInBounds_toArray, List.set_cons_zero, List.set_cons_succ]
     refine Zed.pure (i := 14) (v := ?vy14) rfl (by kernel_rfl) (by kernel_rfl) (by kernel_rfl) (by kernel_rfl) (by kernel_rfl) (fun _ _ _ h => h) (Or.inl ⟨by rfl, ?hyy14⟩) (.inr zz2) ?resty14
     case hyy14 => (intro w _; go_simp; try with_reducible rfl)
     try simp only [Act.put, List.setIfInBounds_toArray, List.set_cons_zero, List.set_cons_succ]
     refine Zed.pure (i := 15) (v := ?vy15) rfl (by kernel_rfl) (by kernel_rfl) (by kernel_rfl) (by kernel_rfl) (by kernel_rfl) (fun _ _ _ h => h) (Or.inl ⟨by rfl, ?hyy15⟩) (.inr zz2) ?resty15
     case hyy15 => (intro w _; go_simp; try with_reducible rfl)
     try simp only [Act.put, List.setIfInBounds_toArray, List.set_cons_zero, List.set_cons_succ]
     refine Zed.one (i := 16) (by kernel_rfl) rfl (fun K hK => ?_)
     go_simp
     refine hK.out _ _ (.inl (by kernel_rfl)) ?_
     clear hK K
     try simp only [Act.put, List.setIfInBounds_toArray, List.set_cons_zero, List.set_cons_succ]
     refine Zed.all (by kernel_rfl) ?_ _
     have KA8 := Lib.hid ((KA7.out.set 1 (.slice a7 nb7 c7)).to (show _ = #[.slice (some ⟨gi, 0, none⟩) R.length c1, .slice a7 nb7 c7, nv, ov] from rfl))
     have KBv8 := Lib.hid (show OwnI (w7.setCell ⟨B, 1, none⟩ (.slice a7 nb7 c7)) D (.slice a7 nb7 c7) (BS.take (j + 1)) by
      have h1 := own_far KB7.out KA7.out (by decide) 1 (.slice a7 nb7 c7)
      unfold OwnI
      rw [Knb7.out]; exact h1)
     have KK8 := Lib.hid (KK7.out.set (p := ⟨B, 1, none⟩) (.inl (by simp)) (.slice a7 nb7 c7))
     clear zz0 zz1 zz2 l1 rf hbl1
     go_wp2_with fail
     go_roundg (R.length - (j + 1))
     case measure => have := Kq3.out; omega
     case rel => exact ⟨j + 1, _, by go_num, by omega, rfl, KA8.out, KBv8.out, KK8.out⟩
    ·obtain rfl : j = R.length := by omega
     have hBf : OwnI wr D bv BS := by
      have h1 := KBv.out
      rw [List.take_of_length_le (by rw [Kbl.out]; exact Nat.le_refl _)] at h1
      exact h1
     have KBf := Lib.hid hBf
     clear hBf
     go_wp2_with fail
     go_ret
     refine ⟨_, rfl, ⟨⟨B, _, bv, nv, ov, rfl, KA.out, ?_, ?_, ?_, ?_⟩, ?_⟩⟩
     ·have h2 := own_below KI.out Kbz.out (fun q hq => by have := own_block KI.out q hq; rw [KB.out] at this; exact this)
      show OwnI wr w.heap.size (.slice a1 R.length c1) (ints (Tb.ids R))
      rw [KIs.out]; exact h2
     ·rw [KBs.out]
      exact own_base KBf.out (by omega)
     ·rw [KO.out, Kps.out]
      exact own_base (Kkp.out _ KK.out).1 hsz2
     ·rw [KO.out, Kps.out]
      exact own_base (Kkp.out _ KK.out).2 hsz2
     ·exact Kb2.out.trans (below_le Kbz.out hsz2)
end Go.Proofs.YtjcijffhcmbhnaaDoor
