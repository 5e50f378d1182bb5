import Derived.Test.YtjcijffhcmbhnaaDoorTbQ
import Derived.Test.YtjcijffhcmbhnaaDoorTbN
namespace Go.Proofs.YtjcijffhcmbhnaaDoor
set_option maxRecDepth 100000
open Go.RowKit
open BitKit
set_option linter.unusedVariables false
set_option linter.unusedSimpArgs false
theorem Zed.call {P : Program} {md : Region.Mode} {ops : Array Oper} {Q : Exit → Act → World → Prop} {S : World → Prop} {Z : List Nat} {i : Nat} {o : Oper} {f : Nat} {listed : Array Bool} {a : Act} {w : World} {fn : FuncId} {vs : Array Value} {F : Ending → World → Prop}
  (hr : Region.ready md ops listed = [i]) (ho : ops[i]? = some o) (hw : Region.wanted o (yielded ops a.tmps) = true) (hrun : (execOp a.eval o).run P w = .ok (.enter fn vs) w) (hc : Calls P fn vs w F)
  (hF : ∀ e w', F e w' → ∃ v, e = .returned v ∧ S w' ∧ Zed.AnyZ P md ops Q S Z f (listed.setIfInBounds i true) (a.put o.dst v) w') : Zed.AnyZ P md ops Q S Z (f + 1) listed a w := by
 refine Zed.one hr ho (fun K' hK => ?_)
 rw [if_pos hw]
 unfold Oper.wp
 rw [hrun, Oper.upon_enter]
 refine hc.mono fun e w' h => ?_
 obtain ⟨v, rfl, hS, hA⟩ := hF e w' h
 exact hK.out _ _ (.inr hS) hA
theorem ids_le {R : List (List Int)} (h : Short R) : ∀ x ∈ Tb.ids R, x ≤ 25 := fun x hx => by
 obtain ⟨i, hi⟩ := List.getElem?_of_mem hx
 have h1 := Tb.ids_lt hi
 have h2 := (outs_short h).1
 omega
theorem packed_cells {w : World} {g : Nat} {t : TypeId} {a b c d : Value} (h : At w g t #[a, b, c, d]) : w.cell? ⟨g, 0, none⟩ = some a ∧ w.cell? ⟨g, 1, none⟩ = some b ∧ w.cell? ⟨g, 2, none⟩ = some c ∧ w.cell? ⟨g, 3, none⟩ = some d := by
 have p0 := h.cell 0
 have p1 := h.cell 1
 have p2 := h.cell 2
 have p3 := h.cell 3
 simp only [List.getElem?_toArray, List.getElem?_cons_zero, List.getElem?_cons_succ] at p0 p1 p2 p3
 exact ⟨p0, p1, p2, p3⟩
theorem base_small (R : List (List Int)) (h : Short R) : Small (Tb.base R) := by
 intro x hx
 unfold Tb.base at hx
 obtain ⟨k, hk, rfl⟩ := List.mem_map.1 hx
 have ho := outs_short h
 have hw := Tb.ow_length (Tb.outs R) 25 ho.2
 have : (Tb.pack (Tb.outs R)).pl.getD k 0 ≤ 625 := by
  rw [List.getD]
  cases hp : (Tb.pack (Tb.outs R)).pl[k]? with
  | none => exact Nat.zero_le _
  | some p =>
   have hlt := (List.getElem?_eq_some_iff.1 hp).1
   rw [Tb.pl_length] at hlt
   obtain ⟨r, hr⟩ : ∃ r, (Tb.outs R)[k]? = some r := ⟨_, List.getElem?_eq_getElem hlt⟩
   rw [Tb.pl_at _ _ _ hr, Option.some.injEq] at hp
   subst hp
   have h1 := Tb.place_le (Tb.pack ((Tb.outs R).take k)).ow r
   have h2 := Tb.ow_length ((Tb.outs R).take k) 25 (fun x hx => ho.2 x (List.mem_of_mem_take hx))
   have h3 : ((Tb.outs R).take k).length ≤ 25 := by rw [List.length_take]; omega
   simp only [Option.getD_some]
   omega
 omega
set_option maxHeartbeats 4000000 in
theorem packs15_law (v : Value) (R : List (List Int)) (w : World) (h : RowsL w v R) (hT : Tab w) (hT0 : 0 < w.heap.size) (hP : Pow w.heap.size w) :
  Calls Tryd.prog 3 #[v] w fun e w' => e = .returned (.bool true) ∧ Below w.heap.size w w' := by
 have KR := Lib.hid h
 have KT := Lib.hid hT
 have KP := Lib.hid hP
 have Kaw := Lib.hid (awake_any w hT hT0 hP)
 obtain ⟨A, c, rfl⟩ := h.shape
 clear h hT hP
 go_enter Tryd.func3, Tryd.ntmps3
 go_wp2_with fail
 refine Kaw.out.mono ?_
 rintro e w1 ⟨rfl, hb1⟩
 have hR1 := KR.out.below hb1
 have Kfew := Lib.hid (few_any _ R w1 hR1)
 have KR1 := Lib.hid hR1
 have Kb1 := Lib.hid hb1
 clear hR1 hb1 Kaw KR
 go_wp2_with fail
 refine Kfew.out.mono ?_
 rintro e w1 ⟨⟨r, rfl, hr⟩, rfl⟩
 cases r
 ·go_wp2_with fail
  go_ret
  exact ⟨rfl, Kb1.out⟩
 have KS := Lib.hid (hr.1 rfl)
 have Ksh := Lib.hid (share_any _ R w1 KR1.out KS.out (KP.out.up Kb1.out Kb1.out.size))
 clear hr Kfew
 go_wp2_with fail
 refine Ksh.out.mono ?_
 rintro e w2 ⟨v1, v2, rfl, hSh⟩
 have Kb2 := Lib.hid (Kb1.out.trans (below_le hSh.below Kb1.out.size))
 have KR2 := Lib.hid (KR1.out.below hSh.below)
 have KSh := Lib.hid hSh
 have Krsh := Lib.hid (refshare_any _ R w2 (KR1.out.below hSh.below) KS.out)
 clear hSh Ksh
 go_wp2_with fail
 refine Krsh.out.mono ?_
 rintro e w3 ⟨u1, u2, rfl, hRh⟩
 have Kb3 := Lib.hid (Kb2.out.trans (below_le hRh.below Kb2.out.size))
 have KR3 := Lib.hid (KR2.out.below hRh.below)
 have KRh := Lib.hid hRh
 have Kpk := Lib.hid (pack_any _ R w3 (KR2.out.below hRh.below) KS.out (KP.out.up Kb3.out Kb3.out.size) (KT.out.below Kb3.out hT0) (Nat.lt_of_lt_of_le hT0 Kb3.out.size))
 clear hRh Krsh
 go_wp2_with fail
 refine Kpk.out.mono ?_
 rintro e w4 ⟨u, rfl, hPk⟩
 have hb4 := hPk.below
 obtain ⟨a1, bv, nv, ov, rfl, hI, hB, hN, hO⟩ := hPk.ex
 obtain ⟨A3, c3, hva⟩ := hI.shape
 obtain ⟨A4, c4, hvb⟩ := hB.shape
 obtain ⟨A5, c5, hvn⟩ := hN.shape
 obtain ⟨A6, c6, hvo⟩ := hO.shape
 obtain ⟨l1, hl1⟩ : ∃ l, (Tb.idsI R).length = l := ⟨_, rfl⟩
 obtain ⟨l2, hl2⟩ : ∃ l, (Tb.base R).length = l := ⟨_, rfl⟩
 obtain ⟨l3, hl3⟩ : ∃ l, (Tb.pack (Tb.outs R)).nx.length = l := ⟨_, rfl⟩
 obtain ⟨l4, hl4⟩ : ∃ l, (Tb.pack (Tb.outs R)).ow.length = l := ⟨_, rfl⟩
 rw [hl1] at hva
 rw [hl2] at hvb
 rw [hl3] at hvn
 rw [hl4] at hvo
 subst hva hvb hvn hvo
 have Kb5 := Lib.hid (below_up (Kb3.out.trans (below_le hb4 Kb3.out.size)) (.cells #[.slice A3 l1 c3, .slice A4 l2 c4, .slice A5 l3 c5, .slice A6 l4 c6] 29))
 have KR5 := Lib.hid ((KR3.out.below hb4).alloc (.cells #[.slice A3 l1 c3, .slice A4 l2 c4, .slice A5 l3 c5, .slice A6 l4 c6] 29))
 have KA5 := Lib.hid (At.new w4 29 #[.slice A3 l1 c3, .slice A4 l2 c4, .slice A5 l3 c5, .slice A6 l4 c6])
 have Ki5 := Lib.hid (hI.alloc (.cells #[.slice A3 l1 c3, .slice A4 l2 c4, .slice A5 l3 c5, .slice A6 l4 c6] 29))
 have Kbs5 := Lib.hid (hB.alloc (.cells #[.slice A3 l1 c3, .slice A4 l2 c4, .slice A5 l3 c5, .slice A6 l4 c6] 29))
 have Kn5 := Lib.hid (hN.alloc (.cells #[.slice A3 l1 c3, .slice A4 l2 c4, .slice A5 l3 c5, .slice A6 l4 c6] 29))
 have Ko5 := Lib.hid (hO.alloc (.cells #[.slice A3 l1 c3, .slice A4 l2 c4, .slice A5 l3 c5, .slice A6 l4 c6] 29))
 have Krp := Lib.hid (refpack_any _ R _ KR5.out KS.out)
 have Kl := Lib.hid (And.intro hl1 (And.intro hl2 (And.intro hl3 hl4)))
 have Kb4 := Lib.hid hb4
 clear hb4 hPk hI hB hN hO hl1 hl2 hl3 hl4 Kpk
 go_wp2_with fail
 refine Krp.out.mono ?_
 rintro e w6 ⟨u, rfl, hRp⟩
 have hb6 := hRp.below
 rw [World.size_alloc] at hb6
 obtain ⟨gr, b1, b2, b3, b4, rfl, hAr, hI6, hB6, hN6, hO6⟩ := hRp.ex
 obtain ⟨B3, d3, hva⟩ := hI6.shape
 obtain ⟨B4, d4, hvb⟩ := hB6.shape
 obtain ⟨B5, d5, hvn⟩ := hN6.shape
 obtain ⟨B6, d6, hvo⟩ := hO6.shape
 rw [Kl.out.1] at hva
 rw [Kl.out.2.1] at hvb
 rw [Kl.out.2.2.1] at hvn
 rw [Kl.out.2.2.2] at hvo
 subst hva hvb hvn hvo
 have KR6 := Lib.hid (KR5.out.below hRp.below)
 have hA6 := KA5.out.below hRp.below KA5.out.lt
 have hI5 := Ki5.out.below hRp.below
 have hB5 := Kbs5.out.below hRp.below
 have hN5 := Kn5.out.below hRp.below
 have hO5 := Ko5.out.below hRp.below
 have Kb6 := Lib.hid (Kb5.out.trans (below_le hRp.below Kb5.out.size))
 have hb46 := (below_up (below_le (Kb4.out) (Nat.le_refl _)) (.cells #[.slice A3 l1 c3, .slice A4 l2 c4, .slice A5 l3 c5, .slice A6 l4 c6] 29))
 have hb36 : Below w3.heap.size w3 w6 := hb46.trans (below_le hRp.below hb46.size)
 have hb26 : Below w2.heap.size w2 w6 := KRh.out.below.trans (below_le hb36 KRh.out.below.size)
 have hRs := KR6.out.smalls
 have Kv1 := Lib.hid (own_row (KSh.out.ids.below hb26) (ints_small (fun x hx => by have := ids_le KS.out x hx; omega)))
 have Kv2 := Lib.hid ((KSh.out.rows (outs_smalls hRs)).below hb26)
 have Ku1 := Lib.hid (own_row (KRh.out.ids.below hb36) (ints_small (fun x hx => by have := ids_le KS.out x hx; omega)))
 have Ku2 := Lib.hid ((KRh.out.rows (outs_smalls hRs)).below hb36)
 have sI : Small (Tb.idsI R) := ints_small (fun x hx => by have := ids_le KS.out x hx; omega)
 have sB : Small (Tb.base R) := base_small R KS.out
 have sN : Small (Tb.pack (Tb.outs R)).nx := outs_small_pack (outs_smalls hRs)
 have sO : Small (Tb.pack (Tb.outs R)).ow := ow_small _ (by have := (outs_short KS.out).1; omega)
 have Kp0 := Lib.hid (own_row hI5 sI)
 have Kp1 := Lib.hid (own_row hB5 sB)
 have Kp2 := Lib.hid (own_row hN5 sN)
 have Kp3 := Lib.hid (own_row hO5 sO)
 have Kr0 := Lib.hid (own_row hI6 sI)
 have Kr1 := Lib.hid (own_row hB6 sB)
 have Kr2 := Lib.hid (own_row hN6 sN)
 have Kr3 := Lib.hid (own_row hO6 sO)
 have Kc := Lib.hid (packed_cells hA6)
 have Kd := Lib.hid (packed_cells hAr)
 have Kgl := Lib.hid hA6.lt
 have Kgr := Lib.hid hAr.lt
 have hR25 := KS.out.1
 clear hb6 hA6 hI5 hB5 hN5 hO5 hb46 hb36 hb26 hRs sI sB sN sO hI6 hB6 hN6 hO6 hAr hRp Krp KSh KRh KA5 Ki5 Kbs5 Kn5 Ko5 KR5 Kb5 KR1 KR2 KR3 Kb1 Kb2 Kb3 Kb4 KT KP hT0
 go_wp2_with fail
 go_loopg [11, 12] R.length (fun q t11 t12 wr => ∃ k d : Nat, t12 = .int .i64 (k : Int) ∧ t11 = .int .i64 (d : Int) ∧ k ≤ R.length ∧ q = R.length - k ∧ d = Tb.dense (R.take k) ∧ d ≤ 25 * k ∧ Below w6.heap.size w6 wr)
 case atStart => exact ⟨0, 0, rfl, rfl, by omega, by omega, rfl, by omega, Below.refl _ _⟩
 case round =>
  obtain ⟨k, d, rfl, rfl, hk, hq, hd, hdl, hb⟩ := hrel
  have Kd' := Lib.hid hd
  have Kb := Lib.hid hb
  have Kq := Lib.hid hq
  clear hd hb hq
  by_cases hlt : k < R.length
  ·obtain ⟨r, hr⟩ : ∃ r, R[k]? = some r := ⟨_, List.getElem?_eq_getElem hlt⟩
   have hr25 := KS.out.2 r (List.mem_of_getElem? hr)
   obtain ⟨b, o, c', A', c'', he, hc0, hrow0⟩ := KR6.out.cell hr
   have Khc := Lib.hid hc0
   have Klt := Lib.hid (cell_spot hc0).1
   simp only [Value.slice.injEq, true_and] at he
   obtain ⟨rfl, rfl⟩ := he
   have q1 : (0 : Int) ≤ (k : Int) := by omega
   have q2 : (k : Int) < (R.length : Int) := by omega
   have q3 : ((k : Int)).toNat = k := by omega
   have Krow := Lib.hid hrow0.nums
   have Ktk := Lib.hid (Tb.take_snoc hr)
   clear hr hc0 hrow0
   go_wp2_with fail
   go_loopg [11, 13] r.length (fun q t11 t13 wz => ∃ j e : Nat, t13 = .int .i64 (j : Int) ∧ t11 = .int .i64 (e : Int) ∧ j ≤ r.length ∧ q = r.length - j ∧ e = d + cnt (fun i => r.getD i 0 != 0) j ∧ e ≤ d + j ∧ Below w6.heap.size w6 wz)
   case atStart => exact ⟨0, d, rfl, rfl, by omega, by omega, rfl, by omega, Kb.out⟩
   case round =>
    obtain ⟨j, e, rfl, rfl, hj, hq2, he, hel, hbz⟩ := hrel
    have Ke := Lib.hid he
    have Kbz := Lib.hid hbz
    have Kq2 := Lib.hid hq2
    have hc := (hbz.cell (p := ⟨b, o + k, none⟩) Klt.out).trans Khc.out
    clear he hbz hq2
    by_cases hlj : j < r.length
    ·obtain ⟨x, hx⟩ : ∃ x, r[j]? = some x := ⟨_, List.getElem?_eq_getElem hlj⟩
     have hxd : r.getD j 0 = x := by rw [List.getD, hx]; rfl
     obtain ⟨b', o', rfl, hbB, c0⟩ := Krow.out.each j hlj
     rw [hxd] at c0
     have c0 := (Kbz.out.cell (p := ⟨b', o' + j, none⟩) hbB).trans c0
     have q4 : (0 : Int) ≤ (j : Int) := by omega
     have q5 : (j : Int) < (r.length : Int) := by omega
     have q6 : ((j : Int)).toNat = j := by omega
     have q7 : (e : Int) ≤ 1000 := by omega
     have Kxd := Lib.hid hxd
     clear hx hxd
     cases hx : (x != 0)
     ·go_wp2_with fail
      go_roundg (r.length - (j + 1))
      case measure => have := Kq2.out; omega
      case rel => exact ⟨j + 1, e, by go_num, rfl, by omega, rfl, by rw [Ke.out]; simp only [cnt, Kxd.out, hx]; rfl, by omega, Kbz.out⟩
     ·go_wp2_with fail
      go_roundg (r.length - (j + 1))
      case measure => have := Kq2.out; omega
      case rel => exact ⟨j + 1, e + 1, by go_num, by go_num, by omega, rfl, by rw [Ke.out]; simp only [cnt, Kxd.out, hx]; rfl, by omega, Kbz.out⟩
    ·obtain rfl : j = r.length := by omega
     go_wp2_with fail
     go_roundg (R.length - (k + 1))
     case measure => have := Kq.out; omega
     case rel =>
      refine ⟨k + 1, e, by go_num, rfl, by omega, rfl, ?_, by omega, Kbz.out⟩
      rw [Ktk.out, Tb.dense_snoc, ← Kd'.out, Ke.out]
      rfl
  ·obtain rfl : k = R.length := by omega
   rw [List.take_length] at Kd'
   obtain rfl := Kd'.out
   have hz0 := below_drew Kb.out
   obtain ⟨p0, p1, p2, p3⟩ := Kc.out
   obtain ⟨r0, r1, r2, r3⟩ := Kd.out
   have hgp := Kgl.out
   have hgr := Kgr.out
   go_wp2_with fail
   refine Zed.begin_ (fun w' => Below w6.heap.size w6 w') [] (by kernel_rfl) ?_
   refine Zed.pure (i := 0) (v := ?vz0) rfl (by kernel_rfl) (by kernel_rfl) (by kernel_rfl) (by kernel_rfl) (by kernel_rfl) (fun _ _ _ h => h) (Or.inl ⟨by kernel_rfl, ?hyz0⟩) (.inr hz0) ?restz0
   case hyz0 => (intro w _; go_simp; try with_reducible rfl)
   try simp only [Act.put, List.setIfInBounds_toArray, List.set_cons_zero, List.set_cons_succ]
   refine Zed.pure (i := 1) (v := ?vz1) rfl (by kernel_rfl) (by kernel_rfl) (by kernel_rfl) (by kernel_rfl) (by kernel_rfl) (fun _ _ _ h => h) (Or.inl ⟨by kernel_rfl, ?hyz1⟩) (.inr hz0) ?restz1
   case hyz1 => (intro w _; go_simp; try with_reducible rfl)
   try simp only [Act.put, List.setIfInBounds_toArray, List.set_cons_zero, List.set_cons_succ]
   refine Zed.pure (i := 2) (v := ?vz2) rfl (by kernel_rfl) (by kernel_rfl) (by kernel_rfl) (by kernel_rfl) (by kernel_rfl) (fun _ _ _ h => h) (Or.inl ⟨by kernel_rfl, ?hyz2⟩) (.inr hz0) ?restz2
   case hyz2 => (intro w _; go_simp; try with_reducible rfl)
   try simp only [Act.put, List.setIfInBounds_toArray, List.set_cons_zero, List.set_cons_succ]
   refine Zed.pure (i := 3) (v := ?vz3) rfl (by kernel_rfl) (by kernel_rfl) (by kernel_rfl) (by kernel_rfl) (by kernel_rfl) (fun _ _ _ h => h) (Or.inl ⟨by kernel_rfl, ?hyz3⟩) (.inr hz0) ?restz3
   case hyz3 => (intro w _; go_simp; try with_reducible rfl)
   try simp only [Act.put, List.setIfInBounds_toArray, List.set_cons_zero, List.set_cons_succ]
   have hcall := ints_says v1 u1 (ints (Tb.ids R)) (ints (Tb.ids R)) _ (Kv1.out.below hz0) (Ku1.out.below hz0)
   rw [decide_eq_true rfl] at hcall
   refine Zed.call (i := 4) (fn := 14) (vs := #[v1, u1]) (by kernel_rfl) rfl (by kernel_rfl) ?hrun4 hcall ?_
   case hrun4 => kernel_rfl
   clear hcall
   rintro e wz ⟨rfl, kz, hwz⟩
   have hz1 : Below w6.heap.size w6 wz := by rw [hwz]; exact below_drewN hz0 kz
   clear hwz
   refine ⟨_, rfl, hz1, ?_⟩
   try simp only [Act.put, List.setIfInBounds_toArray, List.set_cons_zero, List.set_cons_succ]
   refine Zed.pure (i := 5) (v := ?vz5) rfl (by kernel_rfl) (by kernel_rfl) (by kernel_rfl) (by kernel_rfl) (by kernel_rfl) (fun _ _ _ h => h) (Or.inl ⟨by kernel_rfl, ?hyz5⟩) (.inr hz1) ?restz5
   case hyz5 => (intro w _; go_simp; try with_reducible rfl)
   try simp only [Act.put, List.setIfInBounds_toArray, List.set_cons_zero, List.set_cons_succ]
   refine Zed.pure (i := 6) (v := ?vz6) rfl (by kernel_rfl) (by kernel_rfl) (by kernel_rfl) (by kernel_rfl) (by kernel_rfl) (fun _ _ _ h => h) (Or.inl ⟨by kernel_rfl, ?hyz6⟩) (.inr hz1) ?restz6
   case hyz6 => (intro w _; go_simp; try with_reducible rfl)
   try simp only [Act.put, List.setIfInBounds_toArray, List.set_cons_zero, List.set_cons_succ]
   refine Zed.pure (i := 7) (v := ?vz7) rfl (by kernel_rfl) (by kernel_rfl) (by kernel_rfl) (by kernel_rfl) (by kernel_rfl) (fun _ _ _ h => h) (Or.inl ⟨by kernel_rfl, ?hyz7⟩) (.inr hz1) ?restz7
   case hyz7 => (intro w _; go_simp; try with_reducible rfl)
   try simp only [Act.put, List.setIfInBounds_toArray, List.set_cons_zero, List.set_cons_succ]
   refine Zed.pure (i := 8) (v := ?vz8) rfl (by kernel_rfl) (by kernel_rfl) (by kernel_rfl) (by kernel_rfl) (by kernel_rfl) (fun _ _ _ h => h) (Or.inl ⟨by kernel_rfl, ?hyz8⟩) (.inr hz1) ?restz8
   case hyz8 => (intro w _; go_simp; try with_reducible rfl)
   try simp only [Act.put, List.setIfInBounds_toArray, List.set_cons_zero, List.set_cons_succ]
   have hcall := lists_any v2 u2 (Tb.outs R) (Tb.outs R) _ (Kv2.out.below hz1) (Ku2.out.below hz1)
   rw [decide_eq_true rfl] at hcall
   refine Zed.call (i := 9) (fn := 15) (vs := #[v2, u2]) (by kernel_rfl) rfl (by kernel_rfl) ?hrun9 hcall ?_
   case hrun9 => kernel_rfl
   clear hcall
   rintro e wz ⟨rfl, kz, hwz⟩
   have hz2 : Below w6.heap.size w6 wz := by rw [hwz]; exact below_drewN hz1 kz
   clear hwz
   refine ⟨_, rfl, hz2, ?_⟩
   try simp only [Act.put, List.setIfInBounds_toArray, List.set_cons_zero, List.set_cons_succ]
   refine Zed.pure (i := 10) (v := ?vz10) rfl (by kernel_rfl) (by kernel_rfl) (by kernel_rfl) (by kernel_rfl) (by kernel_rfl) (fun _ _ _ h => h) (Or.inl ⟨by kernel_rfl, ?hyz10⟩) (.inr hz2) ?restz10
   case hyz10 => (intro w _; go_simp; try with_reducible rfl)
   try simp only [Act.put, List.setIfInBounds_toArray, List.set_cons_zero, List.set_cons_succ]
   refine Zed.pure (i := 11) (v := ?vz11) rfl (by kernel_rfl) (by kernel_rfl) (by kernel_rfl) (by kernel_rfl) (by kernel_rfl) (fun _ _ _ h => h) (Or.inl ⟨by kernel_rfl, ?hyz11⟩) (.inr hz2) ?restz11
   case hyz11 => (intro w _; go_simp; try with_reducible rfl)
   try simp only [Act.put, List.setIfInBounds_toArray, List.set_cons_zero, List.set_cons_succ]
   refine Zed.pure (i := 12) (v := ?vz12) rfl (by kernel_rfl) (by kernel_rfl) (by kernel_rfl) (by kernel_rfl) (by kernel_rfl) (fun _ _ _ h => h) (Or.inl ⟨by kernel_rfl, ?hyz12⟩) (.inr hz2) ?restz12
   case hyz12 => (intro w _; go_simp; try with_reducible rfl)
   try simp only [Act.put, List.setIfInBounds_toArray, List.set_cons_zero, List.set_cons_succ]
   refine Zed.take (i := 13) (v := ?vz13) rfl (by kernel_rfl) (by kernel_rfl) (by kernel_rfl) (by kernel_rfl) (by kernel_rfl) (fun _ _ _ h => h) (Or.inl ⟨by kernel_rfl, ?hyz13⟩) hz2 ?restz13
   case hyz13 => (intro w hSw; (try dsimp only at hSw); have hc := (hSw.cell (p := ⟨w4.heap.size, 0, none⟩) hgp).trans p0; go_simp; try with_reducible rfl)
   try simp only [Act.put, List.setIfInBounds_toArray, List.set_cons_zero, List.set_cons_succ]
   refine Zed.pure (i := 14) (v := ?vz14) rfl (by kernel_rfl) (by kernel_rfl) (by kernel_rfl) (by kernel_rfl) (by kernel_rfl) (fun _ _ _ h => h) (Or.inl ⟨by kernel_rfl, ?hyz14⟩) (.inr hz2) ?restz14
   case hyz14 => (intro w _; go_simp; try with_reducible rfl)
   try simp only [Act.put, List.setIfInBounds_toArray, List.set_cons_zero, List.set_cons_succ]
   refine Zed.pure (i := 15) (v := ?vz15) rfl (by kernel_rfl) (by kernel_rfl) (by kernel_rfl) (by kernel_rfl) (by kernel_rfl) (fun _ _ _ h => h) (Or.inl ⟨by kernel_rfl, ?hyz15⟩) (.inr hz2) ?restz15
   case hyz15 => (intro w _; go_simp; try with_reducible rfl)
   try simp only [Act.put, List.setIfInBounds_toArray, List.set_cons_zero, List.set_cons_succ]
   refine Zed.pure (i := 16) (v := ?vz16) rfl (by kernel_rfl) (by kernel_rfl) (by kernel_rfl) (by kernel_rfl) (by kernel_rfl) (fun _ _ _ h => h) (Or.inl ⟨by kernel_rfl, ?hyz16⟩) (.inr hz2) ?restz16
   case hyz16 => (intro w _; go_simp; try with_reducible rfl)
   try simp only [Act.put, List.setIfInBounds_toArray, List.set_cons_zero, List.set_cons_succ]
   refine Zed.take (i := 17) (v := ?vz17) rfl (by kernel_rfl) (by kernel_rfl) (by kernel_rfl) (by kernel_rfl) (by kernel_rfl) (fun _ _ _ h => h) (Or.inl ⟨by kernel_rfl, ?hyz17⟩) hz2 ?restz17
   case hyz17 => (intro w hSw; (try dsimp only at hSw); have hc := (hSw.cell (p := ⟨gr, 0, none⟩) hgr).trans r0; go_simp; try with_reducible rfl)
   try simp only [Act.put, List.setIfInBounds_toArray, List.set_cons_zero, List.set_cons_succ]
   have hcall := ints_says _ _ (Tb.idsI R) (Tb.idsI R) _ (Kp0.out.below hz2) (Kr0.out.below hz2)
   rw [decide_eq_true rfl] at hcall
   refine Zed.call (i := 18) (fn := 14) (vs := #[.slice A3 l1 c3, .slice B3 l1 d3]) (by kernel_rfl) rfl (by kernel_rfl) ?hrun18 hcall ?_
   case hrun18 => kernel_rfl
   clear hcall
   rintro e wz ⟨rfl, kz, hwz⟩
   have hz3 : Below w6.heap.size w6 wz := by rw [hwz]; exact below_drewN hz2 kz
   clear hwz
   refine ⟨_, rfl, hz3, ?_⟩
   try simp only [Act.put, List.setIfInBounds_toArray, List.set_cons_zero, List.set_cons_succ]
   refine Zed.pure (i := 19) (v := ?vz19) rfl (by kernel_rfl) (by kernel_rfl) (by kernel_rfl) (by kernel_rfl) (by kernel_rfl) (fun _ _ _ h => h) (Or.inl ⟨by kernel_rfl, ?hyz19⟩) (.inr hz3) ?restz19
   case hyz19 => (intro w _; go_simp; try with_reducible rfl)
   try simp only [Act.put, List.setIfInBounds_toArray, List.set_cons_zero, List.set_cons_succ]
   refine Zed.pure (i := 20) (v := ?vz20) rfl (by kernel_rfl) (by kernel_rfl) (by kernel_rfl) (by kernel_rfl) (by kernel_rfl) (fun _ _ _ h => h) (Or.inl ⟨by kernel_rfl, ?hyz20⟩) (.inr hz3) ?restz20
   case hyz20 => (intro w _; go_simp; try with_reducible rfl)
   try simp only [Act.put, List.setIfInBounds_toArray, List.set_cons_zero, List.set_cons_succ]
   refine Zed.pure (i := 21) (v := ?vz21) rfl (by kernel_rfl) (by kernel_rfl) (by kernel_rfl) (by kernel_rfl) (by kernel_rfl) (fun _ _ _ h => h) (Or.inl ⟨by kernel_rfl, ?hyz21⟩) (.inr hz3) ?restz21
   case hyz21 => (intro w _; go_simp; try with_reducible rfl)
   try simp only [Act.put, List.setIfInBounds_toArray, List.set_cons_zero, List.set_cons_succ]
   refine Zed.take (i := 22) (v := ?vz22) rfl (by kernel_rfl) (by kernel_rfl) (by kernel_rfl) (by kernel_rfl) (by kernel_rfl) (fun _ _ _ h => h) (Or.inl ⟨by kernel_rfl, ?hyz22⟩) hz3 ?restz22
   case hyz22 => (intro w hSw; (try dsimp only at hSw); have hc := (hSw.cell (p := ⟨w4.heap.size, 1, none⟩) hgp).trans p1; go_simp; try with_reducible rfl)
   try simp only [Act.put, List.setIfInBounds_toArray, List.set_cons_zero, List.set_cons_succ]
   refine Zed.pure (i := 23) (v := ?vz23) rfl (by kernel_rfl) (by kernel_rfl) (by kernel_rfl) (by kernel_rfl) (by kernel_rfl) (fun _ _ _ h => h) (Or.inl ⟨by kernel_rfl, ?hyz23⟩) (.inr hz3) ?restz23
   case hyz23 => (intro w _; go_simp; try with_reducible rfl)
   try simp only [Act.put, List.setIfInBounds_toArray, List.set_cons_zero, List.set_cons_succ]
   refine Zed.pure (i := 24) (v := ?vz24) rfl (by kernel_rfl) (by kernel_rfl) (by kernel_rfl) (by kernel_rfl) (by kernel_rfl) (fun _ _ _ h => h) (Or.inl ⟨by kernel_rfl, ?hyz24⟩) (.inr hz3) ?restz24
   case hyz24 => (intro w _; go_simp; try with_reducible rfl)
   try simp only [Act.put, List.setIfInBounds_toArray, List.set_cons_zero, List.set_cons_succ]
   refine Zed.pure (i := 25) (v := ?vz25) rfl (by kernel_rfl) (by kernel_rfl) (by kernel_rfl) (by kernel_rfl) (by kernel_rfl) (fun _ _ _ h => h) (Or.inl ⟨by kernel_rfl, ?hyz25⟩) (.inr hz3) ?restz25
   case hyz25 => (intro w _; go_simp; try with_reducible rfl)
   try simp only [Act.put, List.setIfInBounds_toArray, List.set_cons_zero, List.set_cons_succ]
   refine Zed.take (i := 26) (v := ?vz26) rfl (by kernel_rfl) (by kernel_rfl) (by kernel_rfl) (by kernel_rfl) (by kernel_rfl) (fun _ _ _ h => h) (Or.inl ⟨by kernel_rfl, ?hyz26⟩) hz3 ?restz26
   case hyz26 => (intro w hSw; (try dsimp only at hSw); have hc := (hSw.cell (p := ⟨gr, 1, none⟩) hgr).trans r1; go_simp; try with_reducible rfl)
   try simp only [Act.put, List.setIfInBounds_toArray, List.set_cons_zero, List.set_cons_succ]
   have hcall := ints_says _ _ (Tb.base R) (Tb.base R) _ (Kp1.out.below hz3) (Kr1.out.below hz3)
   rw [decide_eq_true rfl] at hcall
   refine Zed.call (i := 27) (fn := 14) (vs := #[.slice A4 l2 c4, .slice B4 l2 d4]) (by kernel_rfl) rfl (by kernel_rfl) ?hrun27 hcall ?_
   case hrun27 => kernel_rfl
   clear hcall
   rintro e wz ⟨rfl, kz, hwz⟩
   have hz4 : Below w6.heap.size w6 wz := by rw [hwz]; exact below_drewN hz3 kz
   clear hwz
   refine ⟨_, rfl, hz4, ?_⟩
   try simp only [Act.put, List.setIfInBounds_toArray, List.set_cons_zero, List.set_cons_succ]
   refine Zed.pure (i := 28) (v := ?vz28) rfl (by kernel_rfl) (by kernel_rfl) (by kernel_rfl) (by kernel_rfl) (by kernel_rfl) (fun _ _ _ h => h) (Or.inl ⟨by kernel_rfl, ?hyz28⟩) (.inr hz4) ?restz28
   case hyz28 => (intro w _; go_simp; try with_reducible rfl)
   try simp only [Act.put, List.setIfInBounds_toArray, List.set_cons_zero, List.set_cons_succ]
   refine Zed.pure (i := 29) (v := ?vz29) rfl (by kernel_rfl) (by kernel_rfl) (by kernel_rfl) (by kernel_rfl) (by kernel_rfl) (fun _ _ _ h => h) (Or.inl ⟨by kernel_rfl, ?hyz29⟩) (.inr hz4) ?restz29
   case hyz29 => (intro w _; go_simp; try with_reducible rfl)
   try simp only [Act.put, List.setIfInBounds_toArray, List.set_cons_zero, List.set_cons_succ]
   refine Zed.pure (i := 30) (v := ?vz30) rfl (by kernel_rfl) (by kernel_rfl) (by kernel_rfl) (by kernel_rfl) (by kernel_rfl) (fun _ _ _ h => h) (Or.inl ⟨by kernel_rfl, ?hyz30⟩) (.inr hz4) ?restz30
   case hyz30 => (intro w _; go_simp; try with_reducible rfl)
   try simp only [Act.put, List.setIfInBounds_toArray, List.set_cons_zero, List.set_cons_succ]
   refine Zed.take (i := 31) (v := ?vz31) rfl (by kernel_rfl) (by kernel_rfl) (by kernel_rfl) (by kernel_rfl) (by kernel_rfl) (fun _ _ _ h => h) (Or.inl ⟨by kernel_rfl, ?hyz31⟩) hz4 ?restz31
   case hyz31 => (intro w hSw; (try dsimp only at hSw); have hc := (hSw.cell (p := ⟨w4.heap.size, 2, none⟩) hgp).trans p2; go_simp; try with_reducible rfl)
   try simp only [Act.put, List.setIfInBounds_toArray, List.set_cons_zero, List.set_cons_succ]
   refine Zed.pure (i := 32) (v := ?vz32) rfl (by kernel_rfl) (by kernel_rfl) (by kernel_rfl) (by kernel_rfl) (by kernel_rfl) (fun _ _ _ h => h) (Or.inl ⟨by kernel_rfl, ?hyz32⟩) (.inr hz4) ?restz32
   case hyz32 => (intro w _; go_simp; try with_reducible rfl)
   try simp only [Act.put, List.setIfInBounds_toArray, List.set_cons_zero, List.set_cons_succ]
   refine Zed.pure (i := 33) (v := ?vz33) rfl (by kernel_rfl) (by kernel_rfl) (by kernel_rfl) (by kernel_rfl) (by kernel_rfl) (fun _ _ _ h => h) (Or.inl ⟨by kernel_rfl, ?hyz33⟩) (.inr hz4) ?restz33
   case hyz33 => (intro w _; go_simp; try with_reducible rfl)
   try simp only [Act.put, List.setIfInBounds_toArray, List.set_cons_zero, List.set_cons_succ]
   refine Zed.pure (i := 34) (v := ?vz34) rfl (by kernel_rfl) (by kernel_rfl) (by kernel_rfl) (by kernel_rfl) (by kernel_rfl) (fun _ _ _ h => h) (Or.inl ⟨by kernel_rfl, ?hyz34⟩) (.inr hz4) ?restz34
   case hyz34 => (intro w _; go_simp; try with_reducible rfl)
   try simp only [Act.put, List.setIfInBounds_toArray, List.set_cons_zero, List.set_cons_succ]
   refine Zed.take (i := 35) (v := ?vz35) rfl (by kernel_rfl) (by kernel_rfl) (by kernel_rfl) (by kernel_rfl) (by kernel_rfl) (fun _ _ _ h => h) (Or.inl ⟨by kernel_rfl, ?hyz35⟩) hz4 ?restz35
   case hyz35 => (intro w hSw; (try dsimp only at hSw); have hc := (hSw.cell (p := ⟨gr, 2, none⟩) hgr).trans r2; go_simp; try with_reducible rfl)
   try simp only [Act.put, List.setIfInBounds_toArray, List.set_cons_zero, List.set_cons_succ]
   have hcall := ints_says _ _ (Tb.pack (Tb.outs R)).nx (Tb.pack (Tb.outs R)).nx _ (Kp2.out.below hz4) (Kr2.out.below hz4)
   rw [decide_eq_true rfl] at hcall
   refine Zed.call (i := 36) (fn := 14) (vs := #[.slice A5 l3 c5, .slice B5 l3 d5]) (by kernel_rfl) rfl (by kernel_rfl) ?hrun36 hcall ?_
   case hrun36 => kernel_rfl
   clear hcall
   rintro e wz ⟨rfl, kz, hwz⟩
   have hz5 : Below w6.heap.size w6 wz := by rw [hwz]; exact below_drewN hz4 kz
   clear hwz
   refine ⟨_, rfl, hz5, ?_⟩
   try simp only [Act.put, List.setIfInBounds_toArray, List.set_cons_zero, List.set_cons_succ]
   refine Zed.pure (i := 37) (v := ?vz37) rfl (by kernel_rfl) (by kernel_rfl) (by kernel_rfl) (by kernel_rfl) (by kernel_rfl) (fun _ _ _ h => h) (Or.inl ⟨by kernel_rfl, ?hyz37⟩) (.inr hz5) ?restz37
   case hyz37 => (intro w _; go_simp; try with_reducible rfl)
   try simp only [Act.put, List.setIfInBounds_toArray, List.set_cons_zero, List.set_cons_succ]
   refine Zed.pure (i := 38) (v := ?vz38) rfl (by kernel_rfl) (by kernel_rfl) (by kernel_rfl) (by kernel_rfl) (by kernel_rfl) (fun _ _ _ h => h) (Or.inl ⟨by kernel_rfl, ?hyz38⟩) (.inr hz5) ?restz38
   case hyz38 => (intro w _; go_simp; try with_reducible rfl)
   try simp only [Act.put, List.setIfInBounds_toArray, List.set_cons_zero, List.set_cons_succ]
   refine Zed.pure (i := 39) (v := ?vz39) rfl (by kernel_rfl) (by kernel_rfl) (by kernel_rfl) (by kernel_rfl) (by kernel_rfl) (fun _ _ _ h => h) (Or.inl ⟨by kernel_rfl, ?hyz39⟩) (.inr hz5) ?restz39
   case hyz39 => (intro w _; go_simp; try with_reducible rfl)
   try simp only [Act.put, List.setIfInBounds_toArray, List.set_cons_zero, List.set_cons_succ]
   refine Zed.take (i := 40) (v := ?vz40) rfl (by kernel_rfl) (by kernel_rfl) (by kernel_rfl) (by kernel_rfl) (by kernel_rfl) (fun _ _ _ h => h) (Or.inl ⟨by kernel_rfl, ?hyz40⟩) hz5 ?restz40
   case hyz40 => (intro w hSw; (try dsimp only at hSw); have hc := (hSw.cell (p := ⟨w4.heap.size, 3, none⟩) hgp).trans p3; go_simp; try with_reducible rfl)
   try simp only [Act.put, List.setIfInBounds_toArray, List.set_cons_zero, List.set_cons_succ]
   refine Zed.pure (i := 41) (v := ?vz41) rfl (by kernel_rfl) (by kernel_rfl) (by kernel_rfl) (by kernel_rfl) (by kernel_rfl) (fun _ _ _ h => h) (Or.inl ⟨by kernel_rfl, ?hyz41⟩) (.inr hz5) ?restz41
   case hyz41 => (intro w _; go_simp; try with_reducible rfl)
   try simp only [Act.put, List.setIfInBounds_toArray, List.set_cons_zero, List.set_cons_succ]
   refine Zed.pure (i := 42) (v := ?vz42) rfl (by kernel_rfl) (by kernel_rfl) (by kernel_rfl) (by kernel_rfl) (by kernel_rfl) (fun _ _ _ h => h) (Or.inl ⟨by kernel_rfl, ?hyz42⟩) (.inr hz5) ?restz42
   case hyz42 => (intro w _; go_simp; try with_reducible rfl)
   try simp only [Act.put, List.setIfInBounds_toArray, List.set_cons_zero, List.set_cons_succ]
   refine Zed.pure (i := 43) (v := ?vz43) rfl (by kernel_rfl) (by kernel_rfl) (by kernel_rfl) (by kernel_rfl) (by kernel_rfl) (fun _ _ _ h => h) (Or.inl ⟨by kernel_rfl, ?hyz43⟩) (.inr hz5) ?restz43
   case hyz43 => (intro w _; go_simp; try with_reducible rfl)
   try simp only [Act.put, List.setIfInBounds_toArray, List.set_cons_zero, List.set_cons_succ]
   refine Zed.take (i := 44) (v := ?vz44) rfl (by kernel_rfl) (by kernel_rfl) (by kernel_rfl) (by kernel_rfl) (by kernel_rfl) (fun _ _ _ h => h) (Or.inl ⟨by kernel_rfl, ?hyz44⟩) hz5 ?restz44
   case hyz44 => (intro w hSw; (try dsimp only at hSw); have hc := (hSw.cell (p := ⟨gr, 3, none⟩) hgr).trans r3; go_simp; try with_reducible rfl)
   try simp only [Act.put, List.setIfInBounds_toArray, List.set_cons_zero, List.set_cons_succ]
   have hcall := ints_says _ _ (Tb.pack (Tb.outs R)).ow (Tb.pack (Tb.outs R)).ow _ (Kp3.out.below hz5) (Kr3.out.below hz5)
   rw [decide_eq_true rfl] at hcall
   refine Zed.call (i := 45) (fn := 14) (vs := #[.slice A6 l4 c6, .slice B6 l4 d6]) (by kernel_rfl) rfl (by kernel_rfl) ?hrun45 hcall ?_
   case hrun45 => kernel_rfl
   clear hcall
   rintro e wz ⟨rfl, kz, hwz⟩
   have hz6 : Below w6.heap.size w6 wz := by rw [hwz]; exact below_drewN hz5 kz
   clear hwz
   refine ⟨_, rfl, hz6, ?_⟩
   try simp only [Act.put, List.setIfInBounds_toArray, List.set_cons_zero, List.set_cons_succ]
   refine Zed.pure (i := 46) (v := ?vz46) rfl (by kernel_rfl) (by kernel_rfl) (by kernel_rfl) (by kernel_rfl) (by kernel_rfl) (fun _ _ _ h => h) (Or.inl ⟨by kernel_rfl, ?hyz46⟩) (.inr hz6) ?restz46
   case hyz46 => (intro w _; go_simp; try with_reducible rfl)
   try simp only [Act.put, List.setIfInBounds_toArray, List.set_cons_zero, List.set_cons_succ]
   refine Zed.pure (i := 47) (v := ?vz47) rfl (by kernel_rfl) (by kernel_rfl) (by kernel_rfl) (by kernel_rfl) (by kernel_rfl) (fun _ _ _ h => h) (Or.inl ⟨by kernel_rfl, ?hyz47⟩) (.inr hz6) ?restz47
   case hyz47 => (intro w _; go_simp; try with_reducible rfl)
   try simp only [Act.put, List.setIfInBounds_toArray, List.set_cons_zero, List.set_cons_succ]
   refine Zed.take (i := 48) (v := ?vz48) rfl (by kernel_rfl) (by kernel_rfl) (by kernel_rfl) (by kernel_rfl) (by kernel_rfl) (fun _ _ _ h => h) (Or.inl ⟨by kernel_rfl, ?hyz48⟩) hz6 ?restz48
   case hyz48 => (intro w hSw; (try dsimp only at hSw); have hc0 := (hSw.cell (p := ⟨w4.heap.size, 0, none⟩) hgp).trans p0; have hc1 := (hSw.cell (p := ⟨w4.heap.size, 1, none⟩) hgp).trans p1; have hc2 := (hSw.cell (p := ⟨w4.heap.size, 2, none⟩) hgp).trans p2; have hc3 := (hSw.cell (p := ⟨w4.heap.size, 3, none⟩) hgp).trans p3; go_simp; try with_reducible rfl)
   try simp only [Act.put, List.setIfInBounds_toArray, List.set_cons_zero, List.set_cons_succ]
   refine Zed.pure (i := 50) (v := ?vz50) rfl (by kernel_rfl) (by kernel_rfl) (by kernel_rfl) (by kernel_rfl) (by kernel_rfl) (fun _ _ _ h => h) (Or.inl ⟨by kernel_rfl, ?hyz50⟩) (.inr hz6) ?restz50
   case hyz50 => (intro w _; go_simp; try with_reducible rfl)
   try simp only [Act.put, List.setIfInBounds_toArray, List.set_cons_zero, List.set_cons_succ]
   refine Zed.pure (i := 51) (v := ?vz51) rfl (by kernel_rfl) (by kernel_rfl) (by kernel_rfl) (by kernel_rfl) (by kernel_rfl) (fun _ _ _ h => h) (Or.inl ⟨by kernel_rfl, ?hyz51⟩) (.inr hz6) ?restz51
   case hyz51 => (intro w _; go_simp; try with_reducible rfl)
   try simp only [Act.put, List.setIfInBounds_toArray, List.set_cons_zero, List.set_cons_succ]
   refine Zed.pure (i := 52) (v := ?vz52) rfl (by kernel_rfl) (by kernel_rfl) (by kernel_rfl) (by kernel_rfl) (by kernel_rfl) (fun _ _ _ h => h) (Or.inl ⟨by kernel_rfl, ?hyz52⟩) (.inr hz6) ?restz52
   case hyz52 => (intro w _; go_simp; try with_reducible rfl)
   try simp only [Act.put, List.setIfInBounds_toArray, List.set_cons_zero, List.set_cons_succ]
   refine Zed.take (i := 53) (v := ?vz53) rfl (by kernel_rfl) (by kernel_rfl) (by kernel_rfl) (by kernel_rfl) (by kernel_rfl) (fun _ _ _ h => h) (Or.inl ⟨by kernel_rfl, ?hyz53⟩) hz6 ?restz53
   case hyz53 => (intro w hSw; (try dsimp only at hSw); have hc := (hSw.cell (p := ⟨gr, 2, none⟩) hgr).trans r2; go_simp; try with_reducible rfl)
   try simp only [Act.put, List.setIfInBounds_toArray, List.set_cons_zero, List.set_cons_succ]
   refine Zed.pure (i := 54) (v := ?vz54) rfl (by kernel_rfl) (by kernel_rfl) (by kernel_rfl) (by kernel_rfl) (by kernel_rfl) (fun _ _ _ h => h) (Or.inl ⟨by kernel_rfl, ?hyz54⟩) (.inr hz6) ?restz54
   case hyz54 => (intro w _; go_simp; try with_reducible rfl)
   try simp only [Act.put, List.setIfInBounds_toArray, List.set_cons_zero, List.set_cons_succ]
   have hcall := cells_any (.slice A3 l1 c3) (.slice A4 l2 c4) (.slice A5 l3 c5) (.slice A6 l4 c6) l3 c5 A5 rfl wz
   refine Zed.call (i := 49) (fn := 16) (vs := #[.agg #[.slice A3 l1 c3, .slice A4 l2 c4, .slice A5 l3 c5, .slice A6 l4 c6]]) (by kernel_rfl) rfl (by kernel_rfl) ?hrun49 hcall ?_
   case hrun49 => kernel_rfl
   clear hcall
   rintro e wz ⟨rfl, hbz⟩
   have hz7 := hz6.trans (below_le hbz hz6.size)
   clear hbz
   refine ⟨_, rfl, hz7, ?_⟩
   try simp only [Act.put, List.setIfInBounds_toArray, List.set_cons_zero, List.set_cons_succ]
   refine Zed.pure (i := 55) (v := ?vz55) rfl (by kernel_rfl) (by kernel_rfl) (by kernel_rfl) (by kernel_rfl) (by kernel_rfl) (fun _ _ _ h => h) (Or.inl ⟨by kernel_rfl, ?hyz55⟩) (.inr hz7) ?restz55
   case hyz55 => (intro w _; go_simp; try with_reducible rfl)
   try simp only [Act.put, List.setIfInBounds_toArray, List.set_cons_zero, List.set_cons_succ]
   refine Zed.pure (i := 56) (v := ?vz56) rfl (by kernel_rfl) (by kernel_rfl) (by kernel_rfl) (by kernel_rfl) (by kernel_rfl) (fun _ _ _ h => h) (Or.inl ⟨by kernel_rfl, ?hyz56⟩) (.inr hz7) ?restz56
   case hyz56 => (intro w _; go_simp; try with_reducible rfl)
   try simp only [Act.put, List.setIfInBounds_toArray, List.set_cons_zero, List.set_cons_succ]
   refine Zed.pure (i := 57) (v := ?vz57) rfl (by kernel_rfl) (by kernel_rfl) (by kernel_rfl) (by kernel_rfl) (by kernel_rfl) (fun _ _ _ h => h) (Or.inl ⟨by kernel_rfl, ?hyz57⟩) (.inr hz7) ?restz57
   case hyz57 => (intro w _; go_simp; try with_reducible rfl)
   try simp only [Act.put, List.setIfInBounds_toArray, List.set_cons_zero, List.set_cons_succ]
   refine Zed.pure (i := 58) (v := ?vz58) rfl (by kernel_rfl) (by kernel_rfl) (by kernel_rfl) (by kernel_rfl) (by kernel_rfl) (fun _ _ _ h => h) (Or.inl ⟨by kernel_rfl, ?hyz58⟩) (.inr hz7) ?restz58
   case hyz58 => (intro w _; go_simp; try with_reducible rfl)
   try simp only [Act.put, List.setIfInBounds_toArray, List.set_cons_zero, List.set_cons_succ]
   refine Zed.pure (i := 60) (v := ?vz60) rfl (by kernel_rfl) (by kernel_rfl) (by kernel_rfl) (by kernel_rfl) (by kernel_rfl) (fun _ _ _ h => h) (Or.inl ⟨by kernel_rfl, ?hyz60⟩) (.inr hz7) ?restz60
   case hyz60 => (intro w _; go_simp; try with_reducible rfl)
   try simp only [Act.put, List.setIfInBounds_toArray, List.set_cons_zero, List.set_cons_succ]
   have hcall := dense_any _ R _ (KR6.out.below hz7) KS.out
   refine Zed.call (i := 59) (fn := 17) (vs := #[.slice A R.length c]) (by kernel_rfl) rfl (by kernel_rfl) ?hrun59 hcall ?_
   case hrun59 => kernel_rfl
   clear hcall
   rintro e wz ⟨rfl, hbz⟩
   have hz8 := hz7.trans (below_le hbz hz7.size)
   clear hbz
   refine ⟨_, rfl, hz8, ?_⟩
   try simp only [Act.put, List.setIfInBounds_toArray, List.set_cons_zero, List.set_cons_succ]
   refine Zed.pure (i := 61) (v := ?vz61) rfl (by kernel_rfl) (by kernel_rfl) (by kernel_rfl) (by kernel_rfl) (by kernel_rfl) (fun _ _ _ h => h) (Or.inl ⟨by kernel_rfl, ?hyz61⟩) (.inr hz8) ?restz61
   case hyz61 => (intro w _; go_simp; try with_reducible rfl)
   try simp only [Act.put, List.setIfInBounds_toArray, List.set_cons_zero, List.set_cons_succ]
   refine Zed.pure (i := 62) (v := ?vz62) rfl (by kernel_rfl) (by kernel_rfl) (by kernel_rfl) (by kernel_rfl) (by kernel_rfl) (fun _ _ _ h => h) (Or.inl ⟨by kernel_rfl, ?hyz62⟩) (.inr hz8) ?restz62
   case hyz62 => (intro w _; go_simp; try with_reducible rfl)
   try simp only [Act.put, List.setIfInBounds_toArray, List.set_cons_zero, List.set_cons_succ]
   refine Zed.pure (i := 63) (v := ?vz63) rfl (by kernel_rfl) (by kernel_rfl) (by kernel_rfl) (by kernel_rfl) (by kernel_rfl) (fun _ _ _ h => h) (Or.inl ⟨by kernel_rfl, ?hyz63⟩) (.inr hz8) ?restz63
   case hyz63 => (intro w _; go_simp; try with_reducible rfl)
   try simp only [Act.put, List.setIfInBounds_toArray, List.set_cons_zero, List.set_cons_succ]
   refine Zed.all (by kernel_rfl) ?_ _
   first
    | (go_wp2_with fail; go_ret; exact ⟨rfl, Kb6.out.trans (below_le hz8 Kb6.out.size)⟩)
    | (go_simp; go_wp2_with fail; go_ret; exact ⟨rfl, Kb6.out.trans (below_le hz8 Kb6.out.size)⟩)
    | (simp only [Act.put, List.setIfInBounds_toArray, List.set_cons_zero, List.set_cons_succ]; go_ret; exact ⟨rfl, Kb6.out.trans (below_le hz8 Kb6.out.size)⟩)
    | (go_ret; exact ⟨rfl, Kb6.out.trans (below_le hz8 Kb6.out.size)⟩)
end Go.Proofs.YtjcijffhcmbhnaaDoor
