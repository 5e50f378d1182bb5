import Derived.Test.YtjcijffhcmbhnaaDoorTbJ
namespace Go.Proofs.YtjcijffhcmbhnaaDoor
set_option maxRecDepth 100000
open Go.RowKit
open BitKit
set_option linter.unusedVariables false
set_option linter.unusedSimpArgs false
theorem longerw_int (B : Nat) (v : Value) (l : List Nat) (n : Nat) (z : Int) (hz : z = (n : Int)) (hl : l.length ≤ 60000) (hn : n ≤ 60000) (w : World) (h : OwnW w B v l) (hB : B ≤ w.heap.size) :
  Calls Tryd.prog 25 #[v, .int .i64 z] w fun e w' => ∃ v', e = .returned v' ∧ OwnW w' B v' (Tb.longer 0 l n) ∧ w.grownBy w' v.ownBlock ∧ SameOrNew w v v' := by
 subst hz; exact longerw_any B v l n hl hn w h hB
theorem longeri_int (B : Nat) (v : Value) (l : List Int) (n : Nat) (z : Int) (hz : z = (n : Int)) (hl : l.length ≤ 60000) (hn : n ≤ 60000) (w : World) (h : OwnI w B v l) (hB : B ≤ w.heap.size) :
  Calls Tryd.prog 26 #[v, .int .i64 z] w fun e w' => ∃ v', e = .returned v' ∧ OwnI w' B v' (Tb.longer 0 l n) ∧ w.grownBy w' v.ownBlock ∧ SameOrNew w v v' := by
 subst hz; exact longeri_any B v l n hl hn w h hB
theorem take_int (B : Nat) (v : Value) (L : List Nat) (i x : Nat) (z : Int) (hz : z = (i : Int)) (hi : i ≤ 50000) (hx : L[i / 64]? = some x) (w : World) (h : OwnW w B v L) :
  Calls Tryd.prog 27 #[v, .int .i64 z] w fun e w' => e = .returned (.tuple #[]) ∧ OwnW w' B v (L.set (i / 64) (x ||| 2 ^ (i % 64))) ∧ w.grownBy w' v.ownBlock := by
 subst hz; exact take_any B v L i x hi hx w h
theorem Tryd.sizePacked : (Tryd.prog.info? 29).map (·.size) = some 4 := by kernel_rfl
structure PackedIs (w w' : World) (u : Value) (R : List (List Int)) : Prop where
 ex : ∃ v1 bv nv ov, u = .agg #[v1, bv, nv, ov] ∧ OwnI w' w.heap.size v1 (Tb.idsI R) ∧ OwnI w' w.heap.size bv (Tb.base R) ∧ OwnI w' w.heap.size nv (Tb.pack (Tb.outs R)).nx ∧ OwnI w' w.heap.size ov (Tb.pack (Tb.outs R)).ow
 below : Below w.heap.size w w'
theorem Shared.rows {w w' : World} {v1 v2 : Value} {R : List (List Int)} (h : Shared w w' v1 v2 R) (hs : ∀ l ∈ Tb.outs R, Small l) : RowsL w' v2 (Tb.outs R) := by
 obtain ⟨PV, h1, h2, h3⟩ := h.ex
 exact RowsL.own (by rw [h2]; exact h1) h2 (fun i l u hl hu => (h3 i u l hu hl).row (hs l (List.mem_of_getElem? hl)))
theorem RowsL.smalls {w : World} {v : Value} {R : List (List Int)} (h : RowsL w v R) : ∀ l ∈ R, Small l := by
 intro l hl
 obtain ⟨i, hi⟩ := List.mem_iff_getElem?.1 hl
 obtain ⟨b, o, c, A', c', _, _, hr⟩ := h.cell hi
 exact hr.small
theorem outs_smalls {R : List (List Int)} (h : ∀ l ∈ R, Small l) : ∀ l ∈ Tb.outs R, Small l := by
 intro l hl
 obtain ⟨r, hr, rfl⟩ := Tb.outs_mem hl
 exact Tb.trim_small (h r hr)
theorem outs_short {R : List (List Int)} (h : Short R) : (Tb.outs R).length ≤ 25 ∧ ∀ l ∈ Tb.outs R, l.length ≤ 25 := by
 refine ⟨Nat.le_trans (Tb.outs_le R) h.1, fun l hl => ?_⟩
 obtain ⟨r, hr, rfl⟩ := Tb.outs_mem hl
 exact Nat.le_trans (Tb.trim_le r) (h.2 r hr)
set_option maxHeartbeats 8000000 in
theorem pack_any (v : Value) (R : List (List Int)) (w : World) (h : RowsL w v R) (hS : Short R) (hP : Pow w.heap.size w) (hT : Tab w) (hT0 : 0 < w.heap.size) :
  Calls Tryd.prog 12 #[v] w fun e w' => ∃ u, e = .returned u ∧ PackedIs w w' u R := by
 obtain ⟨i0, hi, hz0, hz1, hz2⟩ := info_parts Tryd.infoInt
 have hb1 : ∀ o : Obj, Below w.heap.size w (w.alloc o) := fun o => (Below.refl _ _).alloc (Nat.le_refl _) o
 have Ksh := Lib.hid (fun o : Obj => share_any v R (w.alloc o) (h.below (hb1 o)) hS (hP.up (hb1 o) (by simp)))
 have KT := Lib.hid hT
 have Kos := Lib.hid (outs_smalls h.smalls)
 have Kou := Lib.hid (outs_short hS)
 have hOl := (outs_short hS).1
 have hR25 := hS.1
 clear h hS hP hT hb1
 go_enter Tryd.func12, Tryd.ntmps12
 go_wp2_with fail
 refine (Ksh.out _).mono ?_
 rintro e w2 ⟨v1, v2, rfl, hSh⟩
 have Kres := Lib.hid ((At.new w 29 #[.slice none 0 0, .slice none 0 0, .slice none 0 0, .slice none 0 0]).below hSh.below (by rw [World.size_alloc]; omega))
 have hb2 := hSh.below
 rw [World.size_alloc] at hb2
 have Kb2 := Lib.hid (((Below.refl w.heap.size w).alloc (Nat.le_refl _) _).trans (hb2.mono (by omega)))
 have hrows := hSh.rows Kos.out
 obtain ⟨A, c, rfl⟩ := hrows.shape
 have KR := Lib.hid hrows
 have KI := Lib.hid hSh.ids
 have hil := Tb.ids_length R
 obtain ⟨a1, c1, rfl⟩ := hSh.ids.shape
 clear hrows hSh hb2 Ksh
 rw [ints_length, hil] at KI ⊢
 generalize hO : Tb.outs R = O at KR Kos Kou hOl
 have KO := Lib.hid hO
 generalize hB : w2.heap.size = B
 have KB := Lib.hid hB
 have hsz2 := Kb2.out.size
 have KT2 := Lib.hid (KT.out.below Kb2.out hT0)
 rw [hB] at hsz2
 clear hO hB hil
 go_wp2_with fail
 rw [KB.out]
 go_loopg [6, 7, 26] O.length (fun q t6 t7 t26 wr => ∃ (k : Nat) (nv ov : Value) (L : List Nat), t26 = .int .i64 (k : Int) ∧ k ≤ O.length ∧ q = O.length - k ∧
  PkS B B 29 wr #[.slice a1 R.length c1, .slice none 0 0, nv, ov] nv ov t7 (Tb.pack (O.take k)).nx (Tb.pack (O.take k)).ow (ints (Tb.pack (O.take k)).pl) ∧ OwnW wr B t6 L ∧ Tb.Cov L (Tb.pack (O.take k)).ow ∧ L.length ≤ 20 ∧ Below B w2 wr)
 case atStart =>
  have hA := At.new w2 29 #[.slice a1 R.length c1, .slice none 0 0, .slice none 0 0, .slice none 0 0]
  rw [KB.out] at hA
  exact ⟨0, .slice none 0 0, .slice none 0 0, [], rfl, by omega, by omega, ⟨hA, OwnI.nil _ _, OwnI.nil _ _, OwnI.nil _ _, Ap.nil _, Ap.nil _, Ap.nil _, Nat.le_refl _, by decide⟩, ⟨World.ownsRow_nil _ _ _ _, (fun x h => by cases h), by simp⟩, Tb.Cov.nil, by simp, (Below.refl _ _).alloc (by rw [KB.out]; exact Nat.le_refl _) _⟩
 case round =>
  obtain ⟨k, nv, ov, L, rfl, hk, hq, hPk, hW, hCov, hL20, hb⟩ := hrel
  have KPk := Lib.hid hPk
  have KW := Lib.hid hW
  have KCov := Lib.hid hCov
  have Kb := Lib.hid hb
  have Kq := Lib.hid hq
  obtain ⟨an, cn, rfl⟩ := hPk.nx.shape
  obtain ⟨ao, co, rfl⟩ := hPk.ow.shape
  obtain ⟨ap, cp, rfl⟩ := hPk.pl.shape
  obtain ⟨at_, ct, rfl⟩ := hW.shape
  have hszr := hPk.size
  clear hPk hW hCov hb hq
  by_cases hlt : k < O.length
  ·obtain ⟨r, hr⟩ : ∃ r, O[k]? = some r := ⟨_, List.getElem?_eq_getElem hlt⟩
   have hrm : r ∈ O := List.mem_of_getElem? hr
   have hr25 := Kou.out.2 r hrm
   obtain ⟨b, oo, c', A', c'', he, hc0, hrow0⟩ := KR.out.cell hr
   have hc := (Kb.out.cell (p := ⟨b, oo + k, none⟩) (by have := (cell_spot hc0).1; rw [KB.out] at this; exact this)).trans hc0
   rw [KB.out] at hrow0
   have hrow := hrow0.below Kb.out
   simp only [Value.slice.injEq, true_and] at he
   obtain ⟨rfl, rfl⟩ := he
   have q1 : (0 : Int) ≤ (k : Int) := by omega
   have q2 : (k : Int) < (O.length : Int) := by omega
   have q3 : ((k : Int)).toNat = k := by omega
   have hpk := Tb.pack_snoc (O.take k) r
   rw [← Tb.take_snoc hr] at hpk
   have hsp := Tb.pl_length (O.take k)
   rw [List.length_take, Nat.min_eq_left hk] at hsp
   have hnl := Tb.nx_length (O.take k)
   have how := Tb.ow_length (O.take k) 25 (fun x hx => Kou.out.2 x (List.mem_of_mem_take hx))
   rw [List.length_take, Nat.min_eq_left hk] at how
   have hsm := hrow.small
   generalize Tb.pack (O.take k) = s at KPk KCov hpk hsp hnl how ⊢
   have hnl2 : s.nx.length ≤ 25 * k := by omega
   have Knl := Lib.hid hnl
   have Ksp := Lib.hid hsp
   clear hnl hsp
   have Kcol := Lib.hid (columns_any A' c'' B r wr hrow hszr (by omega))
   have Krow := Lib.hid hrow0
   have Kpk := Lib.hid hpk
   have Ksm := Lib.hid hsm
   have hcl := Tb.cols_le r
   have Kcl := Lib.hid (fun c => Tb.cols_lt (l := r) (c := c))
   have Klay := Lib.hid (fun l p f => Tb.setAll_lay l r p f)
   have Kbc := Lib.hid (fun (L0 L : List Nat) (p : Nat) (ow : List Int) (n m : Nat) (h : Tb.Bits (Tb.longer 0 L0 m) L p (Tb.cols r)) (hc : Tb.Cov L0 ow) => Tb.Bits.cov (r := r) (n := n) h hc)
   have Kspot := Lib.hid (fun (L : List Nat) (ow : List Int) (p : Nat) (h : Tb.Spot L (Tb.cols r) p) (hc : Tb.Cov L ow) => h.is_ hc)
   generalize hCC : Tb.cols r = C at Kcol hcl Kcl Klay Kbc Kspot
   clear hr hrm hc0 hrow0 hrow hpk hCC hsm
   obtain ⟨BC, hBC⟩ : ∃ BC, wr.heap.size = BC := ⟨_, rfl⟩
   have KBC := Lib.hid hBC
   have hszC : B ≤ BC := by omega
   clear hBC
   go_wp2_with fail
   refine Kcol.out.mono ?_
   rintro e w3 ⟨vc, rfl, hC3, hb3⟩
   rw [KBC.out] at hC3
   have KPk3 := Lib.hid (KPk.out.below hb3)
   have KW3 := Lib.hid (KW.out.below hb3)
   have Kb3 := Lib.hid (Kb.out.trans (hb3.mono hszr))
   have hsz3 : BC ≤ w3.heap.size := by rw [← KBC.out]; exact hb3.size
   have hT3 := KT2.out.below (Kb3.out) (by omega)
   have Kpl := Lib.hid (place_any B BC (.slice at_ L.length ct) vc L C w3 KW3.out hC3 (fun c hc => by have := Kcl.out c hc; omega) (by omega) (by omega) hT3)
   have hapN : Ap (.slice an s.nx.length cn) vc := fun q h1 h2 => by
    have h3 := own_block KPk.out.nx q h1
    rw [KBC.out] at h3
    have h4 := (hC3.lt q h2).1
    omega
   have hapO : Ap (.slice ao s.ow.length co) vc := fun q h1 h2 => by
    have h3 := own_block KPk.out.ow q h1
    rw [KBC.out] at h3
    have h4 := (hC3.lt q h2).1
    omega
   have KapN := Lib.hid hapN
   have KapO := Lib.hid hapO
   have KC3 := Lib.hid hC3
   obtain ⟨ac, cc, rfl⟩ := hC3.shape
   have hil := ints_length C
   rw [hil] at KC3 Kpl KapN KapO ⊢
   clear hC3 hb3 hT3 hapN hapO Kcol KPk KW Kb hc hil
   go_wp2_with fail
   refine Kpl.out.mono ?_
   rintro e w4 ⟨⟨p, rfl, hsp4⟩, j4, hw4⟩
   have hpl := Kspot.out L s.ow p hsp4 KCov.out
   have hple := Tb.place_le s.ow r
   rw [← hpl] at hple
   have KPk4 := Lib.hid (show PkS B B 29 w4 #[.slice a1 R.length c1, .slice none 0 0, .slice an s.nx.length cn, .slice ao s.ow.length co] (.slice an s.nx.length cn) (.slice ao s.ow.length co) (.slice ap (ints s.pl).length cp) s.nx s.ow (ints s.pl) by rw [hw4]; exact KPk3.out.drewN _)
   have KW4 := Lib.hid (show OwnW w4 B (.slice at_ L.length ct) L by rw [hw4]; exact KW3.out.drewN _)
   have Kb4 := Lib.hid (show Below B w2 w4 by rw [hw4]; exact below_drewN Kb3.out _)
   have KC4 := Lib.hid (show OwnI w4 BC (.slice ac C.length cc) (ints C) by rw [hw4]; exact KC3.out.drewN _)
   have hsz4 : BC ≤ w4.heap.size := by rw [hw4]; exact hsz3
   have Kplc := Lib.hid hpl
   clear hsp4 hw4 hpl Kpl KPk3 KW3 Kb3 KC3 Kspot
   have r1 : (0 : Int) ≤ (p : Int) := by omega
   have r2 : (p : Int) ≤ 1000 := by omega
   have r3 : (r.length : Int) ≤ 25 := by omega
   have Klw := Lib.hid (longerw_int B (.slice at_ L.length ct) L ((p + r.length) / 64 + 1) (((p : Int) + (r.length : Int)) / 64 + 1) (by omega) (by omega) (by omega) w4 KW4.out (by omega))
   go_wp2_with fail
   refine Klw.out.mono ?_
   rintro e w5 ⟨tv5, rfl, hW5, hg5, hs5⟩
   have KPk5 := Lib.hid (KPk4.out.far KW4.out.own hg5 (by decide) (by decide))
   have Kb5 := Lib.hid (Kb4.out.grown hg5 (by omega) (fun q hq => (KW4.out.own.lt q hq).1))
   have KC5 := Lib.hid (show OwnI w5 BC (.slice ac C.length cc) (ints C) from own_kept_ne KC4.out hg5 (fun q hq e => own_apart2 KW4.out.own KC4.out (by decide) q e hq))
   have KW5 := Lib.hid hW5
   have hsz5 := hg5.size
   obtain ⟨at5, ct5, rfl⟩ := hW5.shape
   have hl5 := Tb.longer_length 0 L ((p + r.length) / 64 + 1)
   generalize hL5 : Tb.longer 0 L ((p + r.length) / 64 + 1) = L5 at KW5 hl5 ⊢
   have hl5a : (p + r.length) / 64 + 1 ≤ L5.length := by omega
   have hl5b : L5.length ≤ 20 := by omega
   clear hl5
   have KL5 := Lib.hid hL5
   clear hW5 hg5 hs5 hL5 Klw KPk4 KW4 Kb4 KC4
   go_wp2_with fail
   have l2 := KPk5.out.at_.cell 2
   have l3 := KPk5.out.at_.cell 3
   simp only [List.getElem?_toArray, List.getElem?_cons_zero, List.getElem?_cons_succ] at l2 l3
   have zz0 : (fun w' : World => w'.cell? ⟨B, 2, none⟩ = some (.slice an s.nx.length cn) ∧ w'.cell? ⟨B, 3, none⟩ = some (.slice ao s.ow.length co)) w5.drew := ⟨l2, l3⟩
   have Kln := Lib.hid (longeri_int B (.slice an s.nx.length cn) s.nx (p + r.length) ((p : Int) + (r.length : Int)) (by omega) (by omega) (by omega) w5.drew KPk5.out.drew.nx (by have := KPk5.out.size; exact this))
   clear l2 l3
   refine Zed.begin_ (fun w' => w'.cell? ⟨B, 2, none⟩ = some (.slice an s.nx.length cn) ∧ w'.cell? ⟨B, 3, none⟩ = some (.slice ao s.ow.length co)) [9, 11] (by kernel_rfl) ?_
   refine Zed.pure (i := 0) (v := ?vr0) rfl (by kernel_rfl) (by kernel_rfl) (by kernel_rfl) (by kernel_rfl) (by kernel_rfl) (fun _ _ _ h => h) (Or.inl ⟨by rfl, ?hyr0⟩) (.inr zz0) ?restr0
   case hyr0 => (intro w _; go_simp; try with_reducible rfl)
   try simp only [Act.put, List.setIfInBounds_toArray, List.set_cons_zero, List.set_cons_succ]
   refine Zed.take (i := 1) (v := ?vr1) rfl (by kernel_rfl) (by kernel_rfl) (by kernel_rfl) (by kernel_rfl) (by kernel_rfl) (fun _ _ _ h => h) (Or.inl ⟨by rfl, ?hyr1⟩) zz0 ?restr1
   case hyr1 => (intro w hSw; (try dsimp only at hSw); have hc := hSw.1; go_simp; try with_reducible rfl)
   try simp only [Act.put, List.setIfInBounds_toArray, List.set_cons_zero, List.set_cons_succ]
   refine Zed.pure (i := 2) (v := ?vr2) rfl (by kernel_rfl) (by kernel_rfl) (by kernel_rfl) (by kernel_rfl) (by kernel_rfl) (fun _ _ _ h => h) (Or.inl ⟨by rfl, ?hyr2⟩) (.inr zz0) ?restr2
   case hyr2 => (intro w _; go_simp; try with_reducible rfl)
   try simp only [Act.put, List.setIfInBounds_toArray, List.set_cons_zero, List.set_cons_succ]
   refine Zed.pure (i := 4) (v := ?vr4) rfl (by kernel_rfl) (by kernel_rfl) (by kernel_rfl) (by kernel_rfl) (by kernel_rfl) (fun _ _ _ h => h) (Or.inl ⟨by rfl, ?hyr4⟩) (.inr zz0) ?restr4
   case hyr4 => (intro w _; go_simp; try with_reducible rfl)
   try simp only [Act.put, List.setIfInBounds_toArray, List.set_cons_zero, List.set_cons_succ]
   refine Zed.take (i := 5) (v := ?vr5) rfl (by kernel_rfl) (by kernel_rfl) (by kernel_rfl) (by kernel_rfl) (by kernel_rfl) (fun _ _ _ h => h) (Or.inl ⟨by rfl, ?hyr5⟩) zz0 ?restr5
   case hyr5 => (intro w hSw; (try dsimp only at hSw); have hc := hSw.2; go_simp; try with_reducible rfl)
   try simp only [Act.put, List.setIfInBounds_toArray, List.set_cons_zero, List.set_cons_succ]
   refine Zed.pure (i := 6) (v := ?vr6) rfl (by kernel_rfl) (by kernel_rfl) (by kernel_rfl) (by kernel_rfl) (by kernel_rfl) (fun _ _ _ h => h) (Or.inl ⟨by rfl, ?hyr6⟩) (.inr zz0) ?restr6
   case hyr6 => (intro w _; go_simp; try with_reducible rfl)
   try simp only [Act.put, List.setIfInBounds_toArray, List.set_cons_zero, List.set_cons_succ]
   refine Zed.one (i := 3) (by kernel_rfl) rfl (fun K hK => ?_)
   go_simp
   go_at_call 26
   refine Calls.mono Kln.out ?_
   rintro e w6 ⟨nv6, rfl, hN6, hg6, hs6⟩
   have KPk6 := Lib.hid (KPk5.out.drew.next hN6 hg6 hs6)
   have Kb6 := Lib.hid ((below_drew Kb5.out).grown hg6 KPk5.out.size (fun q hq => (KPk5.out.drew.nx.lt q hq).1))
   have KapN6 := Lib.hid ((KapN.out.new (w := w5) (v' := nv6) hs6 (own_block KC5.out)))
   have KC6 := Lib.hid (show OwnI w6 BC (.slice ac C.length cc) (ints C) from own_ap (w := w5.drew) KC5.out hg6 KapN.out.symm)
   have KW6 := Lib.hid (show OwnW w6 B (.slice at5 L5.length ct5) L5 from OwnW.kept (w := w5.drew) ⟨KW5.out.own, KW5.out.lt, KW5.out.len⟩ KPk5.out.drew.nx hg6 (by decide))
   obtain ⟨an6, cn6, rfl⟩ := hN6.shape
   have l2 := KPk6.out.at_.cell 2
   have l3 := KPk6.out.at_.cell 3
   simp only [List.getElem?_toArray, List.getElem?_cons_zero, List.getElem?_cons_succ] at l2 l3
   have zz1 : (fun w' : World => w'.cell? ⟨B, 2, none⟩ = some (.slice an s.nx.length cn) ∧ w'.cell? ⟨B, 3, none⟩ = some (.slice ao s.ow.length co)) w6 := ⟨l2, l3⟩
   have Klo := Lib.hid (longeri_int B (.slice ao s.ow.length co) s.ow (p + r.length) ((p : Int) + (r.length : Int)) (by omega) (by omega) (by omega) w6 KPk6.out.ow KPk6.out.size)
   clear hN6 hg6 hs6 l2 l3 Kln KPk5 Kb5 KC5 KW5
   refine hK.out _ _ (.inr zz1) ?_
   clear hK K
   try simp only [Act.put, List.setIfInBounds_toArray, List.set_cons_zero, List.set_cons_succ]
   refine Zed.pure (i := 8) (v := ?vr8) rfl (by kernel_rfl) (by kernel_rfl) (by kernel_rfl) (by kernel_rfl) (by kernel_rfl) (fun _ _ _ h => h) (Or.inl ⟨by rfl, ?hyr8⟩) (.inr zz1) ?restr8
   case hyr8 => (intro w _; go_simp; try with_reducible rfl)
   try simp only [Act.put, List.setIfInBounds_toArray, List.set_cons_zero, List.set_cons_succ]
   refine Zed.one (i := 7) (by kernel_rfl) rfl (fun K hK => ?_)
   go_simp
   go_at_call 26
   refine Calls.mono Klo.out ?_
   rintro e w7 ⟨ov7, rfl, hO7, hg7, hs7⟩
   have KPk7 := Lib.hid (KPk6.out.owner hO7 hg7 hs7)
   have Kb7 := Lib.hid (Kb6.out.grown hg7 KPk6.out.size (fun q hq => (KPk6.out.ow.lt q hq).1))
   have KapO7 := Lib.hid ((KapO.out.new (w := w6) (v' := ov7) hs7 (own_block KC6.out)))
   have KC7 := Lib.hid (show OwnI w7 BC (.slice ac C.length cc) (ints C) from own_ap KC6.out hg7 KapO.out.symm)
   have KW7 := Lib.hid (show OwnW w7 B (.slice at5 L5.length ct5) L5 from KW6.out.kept KPk6.out.ow hg7 (by decide))
   obtain ⟨ao7, co7, rfl⟩ := hO7.shape
   have l2 := KPk7.out.at_.cell 2
   have l3 := KPk7.out.at_.cell 3
   have rf := KPk7.out.at_.frozen
   simp only [List.getElem?_toArray, List.getElem?_cons_zero, List.getElem?_cons_succ] at l2 l3
   have zz2 : (fun w' : World => w'.cell? ⟨B, 2, none⟩ = some (.slice an s.nx.length cn) ∧ w'.cell? ⟨B, 3, none⟩ = some (.slice ao s.ow.length co)) w7 := ⟨l2, l3⟩
   clear hO7 hg7 hs7 Klo KPk6 Kb6 KC6 KW6 zz1
   refine hK.out _ _ (.inr zz2) ?_
   clear hK K
   try simp only [Act.put, List.setIfInBounds_toArray, List.set_cons_zero, List.set_cons_succ]
   refine Zed.one (i := 9) (by kernel_rfl) rfl (fun K hK => ?_)
   go_simp
   refine hK.out _ _ (.inl (by kernel_rfl)) ?_
   clear hK K
   try simp only [Act.put, List.setIfInBounds_toArray, List.set_cons_zero, List.set_cons_succ]
   refine Zed.pure (i := 10) (v := ?vr10) rfl (by kernel_rfl) (by kernel_rfl) (by kernel_rfl) (by kernel_rfl) (by kernel_rfl) (fun _ _ _ h => h) (Or.inl ⟨by rfl, ?hyr10⟩) (.inl (by kernel_rfl)) ?restr10
   case hyr10 => (intro w _; go_simp; try with_reducible rfl)
   try simp only [Act.put, List.setIfInBounds_toArray, List.set_cons_zero, List.set_cons_succ]
   refine Zed.one (i := 11) (by kernel_rfl) rfl (fun K hK => ?_)
   go_simp
   refine hK.out _ _ (.inl (by kernel_rfl)) ?_
   clear hK K
   try simp only [Act.put, List.setIfInBounds_toArray, List.set_cons_zero, List.set_cons_succ]
   refine Zed.all (by kernel_rfl) ?_ _
   clear l2 l3 rf zz2 zz0
   have KN := Lib.hid (show Tb.longer 0 s.nx (p + r.length) = Tb.longer 0 s.nx (p + r.length) from rfl)
   have hn7 := Tb.longer_length 0 s.nx (p + r.length)
   have ho7 := Tb.longer_length 0 s.ow (p + r.length)
   generalize hN7 : Tb.longer 0 s.nx (p + r.length) = N7 at KPk7 hn7 KapN6 ⊢
   generalize hW7 : Tb.longer 0 s.ow (p + r.length) = W7 at KPk7 ho7 KapO7 ⊢
   have KN7 := Lib.hid hN7
   have KW7e := Lib.hid hW7
   have hn7a : p + r.length ≤ N7.length := by omega
   have ho7a : p + r.length ≤ W7.length := by omega
   have hn7b : N7.length ≤ 2000 := by omega
   have ho7b : W7.length ≤ 2000 := by omega
   clear KN hN7 hW7 hn7 ho7
   have hPk8 := (KPk7.out.set 2 (.slice an6 N7.length cn6)).set 3 (.slice ao7 W7.length co7)
   have hW8 := (KW7.out.far KPk7.out.at_ (by decide) 2 (.slice an6 N7.length cn6)).far (KPk7.out.set 2 (.slice an6 N7.length cn6)).at_ (by decide) 3 (.slice ao7 W7.length co7)
   have hC8 : OwnI _ BC (.slice ac C.length cc) (ints C) := own_far (own_far KC7.out KPk7.out.at_ (by decide) 2 (.slice an6 N7.length cn6)) (KPk7.out.set 2 (.slice an6 N7.length cn6)).at_ (by decide) 3 (.slice ao7 W7.length co7)
   have hb8 := below_set (below_set Kb7.out (p := ⟨B, 2, none⟩) (Nat.le_refl _) (.slice an6 N7.length cn6)) (p := ⟨B, 3, none⟩) (Nat.le_refl _) (.slice ao7 W7.length co7)
   simp only [List.setIfInBounds_toArray, List.set_cons_zero, List.set_cons_succ] at hPk8
   generalize ((w7.setCell ⟨B, 2, none⟩ (.slice an6 N7.length cn6)).setCell ⟨B, 3, none⟩ (.slice ao7 W7.length co7)) = w8 at hPk8 hW8 hC8 hb8 ⊢
   have KPk8 := Lib.hid hPk8
   have KW8 := Lib.hid hW8
   have KC8 := Lib.hid hC8
   have Kb8 := Lib.hid hb8
   have hszB : B ≤ w8.heap.size := hPk8.size
   have hapC : Ap (.slice an6 N7.length cn6) (.slice ac C.length cc) := KapN6.out
   have KapN8 := Lib.hid hapC
   have KapO8 := Lib.hid KapO7.out
   clear hPk8 hW8 hC8 hb8 hapC KPk7 KW7 KC7 Kb7 KapN6 KapO7
   go_wp2_with fail
   go_loopg [57] C.length (fun q t57 wz => ∃ (m : Nat) (N2 W2 : List Int) (L2 : List Nat), t57 = .int .i64 (m : Int) ∧ m ≤ C.length ∧ q = C.length - m ∧
    PkS B B 29 wz #[.slice a1 R.length c1, .slice none 0 0, .slice an6 N7.length cn6, .slice ao7 W7.length co7] (.slice an6 N7.length cn6) (.slice ao7 W7.length co7) (.slice ap (ints s.pl).length cp) N2 W2 (ints s.pl) ∧
    N2 = Tb.setAll N7 p (C.take m) (fun c => r.getD c 0) ∧ W2 = Tb.setAll W7 p (C.take m) (fun _ => (k : Int) + 1) ∧ OwnW wz B (.slice at5 L5.length ct5) L2 ∧ Tb.Bits L5 L2 p (C.take m) ∧ OwnI wz BC (.slice ac C.length cc) (ints C) ∧ Below B w2 wz)
   case atStart => exact ⟨0, N7, W7, L5, rfl, by omega, by omega, KPk8.out, rfl, rfl, KW8.out, Tb.Bits.zero _ _, KC8.out, Kb8.out⟩
   case round =>
    obtain ⟨m, N2, W2, L2, rfl, hm, hq2, hPk, hN2, hW2, hWz, hBz, hCz, hbz⟩ := hrel
    have KPz := Lib.hid hPk
    have KWz := Lib.hid hWz
    have KBz := Lib.hid hBz
    have KCz := Lib.hid hCz
    have Kbz := Lib.hid hbz
    have Kq2 := Lib.hid hq2
    have KN2 := Lib.hid hN2
    have KW2 := Lib.hid hW2
    have hNl : N2.length = N7.length := by rw [hN2, Tb.setAll_length]
    have hWl : W2.length = W7.length := by rw [hW2, Tb.setAll_length]
    have KNl := Lib.hid hNl
    have KWl := Lib.hid hWl
    by_cases hlm : m < C.length
    ·obtain ⟨c, hcm⟩ : ∃ c, C[m]? = some c := ⟨_, List.getElem?_eq_getElem hlm⟩
     have hcr := Kcl.out c (List.mem_of_getElem? hcm)
     obtain ⟨x, hx⟩ : ∃ x, r[c]? = some x := ⟨_, List.getElem?_eq_getElem hcr⟩
     have hxd : r.getD c 0 = x := by rw [List.getD, hx]; rfl
     obtain ⟨rb, ro, rfl, hrb, c0⟩ := (Krow.out.below hbz).nums.each c hcr
     rw [hxd] at c0
     unfold OwnI at hCz
     rw [ints_length] at hCz
     obtain ⟨gc, cg, he, _⟩ := own_pos hCz (by omega)
     simp only [Value.slice.injEq, true_and] at he
     obtain ⟨rfl, rfl⟩ := he
     have cC := hCz.cellAt m (by omega)
     rw [vals_get (ints_get hcm)] at cC
     have s1 : (0 : Int) ≤ (m : Int) := by omega
     have s2 : (m : Int) < (C.length : Int) := by omega
     have s3 : ((m : Int)).toNat = m := by omega
     have hL2 : L2.length = L5.length := hBz.1
     obtain ⟨y, hy⟩ : ∃ y, L2[(p + c) / 64]? = some y := ⟨_, List.getElem?_eq_getElem (by omega)⟩
     have Ktk := Lib.hid (take_int B (.slice at5 L5.length ct5) L2 (p + c) y ((p : Int) + (c : Int)) (by omega) (by omega) hy wr hWz)
     have KBn := Lib.hid (hBz.next hy)
     have Ktake := Lib.hid (Tb.take_snoc hcm)
     have Kxd := Lib.hid hxd
     have s4 : (0 : Int) ≤ (c : Int) := by omega
     have s5 : (c : Int) ≤ 25 := by omega
     clear hPk hWz hBz hCz hbz hq2 hN2 hW2 hNl hWl hcm hx hxd hL2 hy
     go_wp2_with fail
     refine Ktk.out.mono ?_
     rintro e w9 ⟨rfl, hW9, hg9⟩
     have hPk9 := KPz.out.far KWz.out.own hg9 (by decide) (by decide)
     have hC9 : OwnI w9 BC (.slice (some ⟨gc, 0, none⟩) C.length cc) (ints C) := own_kept_ne KCz.out hg9 (fun q hq e => own_apart2 KWz.out.own KCz.out (by decide) q e hq)
     have hb9 := Kbz.out.grown hg9 KPz.out.size (fun q hq => (KWz.out.own.lt q hq).1)
     obtain ⟨gn, cgn, hen, _, hgnB⟩ := own_pos hPk9.nx (by rw [KNl.out]; omega)
     obtain ⟨go, cgo, heo, _, hgoB⟩ := own_pos hPk9.ow (by rw [KWl.out]; omega)
     simp only [Value.slice.injEq] at hen heo
     obtain ⟨rfl, hbad1, rfl⟩ := hen
     obtain ⟨rfl, hbad2, rfl⟩ := heo
     clear hbad1 hbad2
     obtain ⟨J, hJ⟩ : ∃ J, p + c = J := ⟨_, rfl⟩
     have hJn : J < N7.length := by omega
     have hJo : J < W7.length := by omega
     have hnx9 : w9.ownsRow B 3 1 (.slice (some ⟨gn, 0, none⟩) N7.length cn6) N7.length (vals N2) := by
      have := hPk9.nx
      unfold OwnI at this
      rw [KNl.out] at this
      exact this
     have how9 : w9.ownsRow B 3 1 (.slice (some ⟨go, 0, none⟩) W7.length co7) W7.length (vals W2) := by
      have := hPk9.ow
      unfold OwnI at this
      rw [KWl.out] at this
      exact this
     obtain ⟨xn, hxn⟩ : ∃ xn, N2[J]? = some xn := ⟨_, List.getElem?_eq_getElem (by rw [KNl.out]; exact hJn)⟩
     obtain ⟨xo, hxo⟩ : ∃ xo, W2[J]? = some xo := ⟨_, List.getElem?_eq_getElem (by rw [KWl.out]; exact hJo)⟩
     have cn9 := hnx9.cellAt J (by omega)
     have co9 := how9.cellAt J (by omega)
     rw [vals_get hxn] at cn9
     rw [vals_get hxo] at co9
     have fn9 := hnx9.frozenAt J
     have fo9 := how9.frozenAt J
     have l2 := hPk9.at_.cell 2
     have l3 := hPk9.at_.cell 3
     simp only [List.getElem?_toArray, List.getElem?_cons_zero, List.getElem?_cons_succ] at l2 l3
     have l4 : w9.cell? ⟨rb, ro + c, none⟩ = some (.int .i64 x) := by
      obtain ⟨rb', ro', he', _, h4⟩ := (Krow.out.below hb9).nums.each c hcr
      obtain ⟨rfl, rfl⟩ := same_addr he'
      rw [Kxd.out] at h4; exact h4
     have hgne : gn ≠ go := fun e => hPk9.no gn rfl (by rw [e]; rfl)
     have hgnB2 : B ≠ gn := fun e => own_apart hPk9.nx hPk9.at_ (by decide) (by rw [e]; rfl)
     have zz0 : (fun w' : World => w'.cell? ⟨B, 2, none⟩ = some (.slice (some ⟨gn, 0, none⟩) N7.length cn6) ∧ w'.cell? ⟨B, 3, none⟩ = some (.slice (some ⟨go, 0, none⟩) W7.length co7) ∧ w'.cell? ⟨rb, ro + c, none⟩ = some (.int .i64 x)) w9.drew := ⟨l2, l3, l4⟩
     have t1 : IntKind.i64.wrap ((p : Int) + (c : Int)) = (J : Int) := by rw [← hJ, Int.natCast_add]; exact IntWalk.i64_in _ (by omega)
     have t2 : IntKind.i64.wrap ((k : Int) + 1) = (k : Int) + 1 := IntWalk.i64_in _ (by omega)
     have t3 : (0 : Int) ≤ (J : Int) := by omega
     have t4 : (J : Int) < (N7.length : Int) := by omega
     have t5 : (J : Int) < (W7.length : Int) := by omega
     have t6 : ((J : Int)).toNat = J := by omega
     have t7 : (c : Int) < (r.length : Int) := by omega
     have t8 : ((c : Int)).toNat = c := by omega
     have KPk9 := Lib.hid hPk9
     have KW9 := Lib.hid hW9
     have KC9 := Lib.hid hC9
     have Kb9 := Lib.hid hb9
     have KJ := Lib.hid hJ
     clear hPk9 hW9 hC9 hb9 hg9 hJ hnx9 how9 hxn hxo l2 l3 l4 KPz KWz KCz Kbz Ktk KBz cC c0
     go_wp2_with fail
     refine Zed.begin_ (fun w' => w'.cell? ⟨B, 2, none⟩ = some (.slice (some ⟨gn, 0, none⟩) N7.length cn6) ∧ w'.cell? ⟨B, 3, none⟩ = some (.slice (some ⟨go, 0, none⟩) W7.length co7) ∧ w'.cell? ⟨rb, ro + c, none⟩ = some (.int .i64 x)) [] (by kernel_rfl) ?_
     refine Zed.pure (i := 0) (v := ?vu0) rfl (by kernel_rfl) (by kernel_rfl) (by kernel_rfl) (by kernel_rfl) (by kernel_rfl) (fun _ _ _ h => h) (Or.inl ⟨by rfl, ?hyu0⟩) (.inr zz0) ?restu0
     case hyu0 => (intro w _; go_simp; try with_reducible rfl)
     try simp only [Act.put, List.setIfInBounds_toArray, List.set_cons_zero, List.set_cons_succ]
     refine Zed.take (i := 1) (v := ?vu1) rfl (by kernel_rfl) (by kernel_rfl) (by kernel_rfl) (by kernel_rfl) (by kernel_rfl) (fun _ _ _ h => h) (Or.inl ⟨by rfl, ?hyu1⟩) zz0 ?restu1
     case hyu1 => (intro w hSw; (try dsimp only at hSw); have hc := hSw.1; go_simp; try with_reducible rfl)
     try simp only [Act.put, List.setIfInBounds_toArray, List.set_cons_zero, List.set_cons_succ]
     refine Zed.pure (i := 2) (v := ?vu2) rfl (by kernel_rfl) (by kernel_rfl) (by kernel_rfl) (by kernel_rfl) (by kernel_rfl) (fun _ _ _ h => h) (Or.inl ⟨by rfl, ?hyu2⟩) (.inr zz0) ?restu2
     case hyu2 => (intro w _; go_simp; try with_reducible rfl)
     try simp only [Act.put, List.setIfInBounds_toArray, List.set_cons_zero, List.set_cons_succ]
     refine Zed.pure (i := 3) (v := ?vu3) rfl (by kernel_rfl) (by kernel_rfl) (by kernel_rfl) (by kernel_rfl) (by kernel_rfl) (fun _ _ _ h => h) (Or.inl ⟨by rfl, ?hyu3⟩) (.inr zz0) ?restu3
     case hyu3 => (intro w _; go_simp; try with_reducible rfl)
     try simp only [Act.put, List.setIfInBounds_toArray, List.set_cons_zero, List.set_cons_succ]
     refine Zed.pure (i := 4) (v := ?vu4) rfl (by kernel_rfl) (by kernel_rfl) (by kernel_rfl) (by kernel_rfl) (by kernel_rfl) (fun _ _ _ h => h) (Or.inl ⟨by rfl, ?hyu4⟩) (.inr zz0) ?restu4
     case hyu4 => (intro w _; go_simp; try with_reducible rfl)
     try simp only [Act.put, List.setIfInBounds_toArray, List.set_cons_zero, List.set_cons_succ]
     refine Zed.pure (i := 5) (v := ?vu5) rfl (by kernel_rfl) (by kernel_rfl) (by kernel_rfl) (by kernel_rfl) (by kernel_rfl) (fun _ _ _ h => h) (Or.inl ⟨by rfl, ?hyu5⟩) (.inr zz0) ?restu5
     case hyu5 => (intro w _; go_simp; try with_reducible rfl)
     try simp only [Act.put, List.setIfInBounds_toArray, List.set_cons_zero, List.set_cons_succ]
     refine Zed.take (i := 6) (v := ?vu6) rfl (by kernel_rfl) (by kernel_rfl) (by kernel_rfl) (by kernel_rfl) (by kernel_rfl) (fun _ _ _ h => h) (Or.inl ⟨by rfl, ?hyu6⟩) zz0 ?restu6
     case hyu6 => (intro w hSw; (try dsimp only at hSw); have hc := hSw.2.1; go_simp; try with_reducible rfl)
     try simp only [Act.put, List.setIfInBounds_toArray, List.set_cons_zero, List.set_cons_succ]
     refine Zed.pure (i := 7) (v := ?vu7) rfl (by kernel_rfl) (by kernel_rfl) (by kernel_rfl) (by kernel_rfl) (by kernel_rfl) (fun _ _ _ h => h) (Or.inl ⟨by rfl, ?hyu7⟩) (.inr zz0) ?restu7
     case hyu7 => (intro w _; go_simp; try with_reducible rfl)
     try simp only [Act.put, List.setIfInBounds_toArray, List.set_cons_zero, List.set_cons_succ]
     refine Zed.pure (i := 8) (v := ?vu8) rfl (by kernel_rfl) (by kernel_rfl) (by kernel_rfl) (by kernel_rfl) (by kernel_rfl) (fun _ _ _ h => h) (Or.inl ⟨by rfl, ?hyu8⟩) (.inr zz0) ?restu8
     case hyu8 => (intro w _; go_simp; try with_reducible rfl)
     try simp only [Act.put, List.setIfInBounds_toArray, List.set_cons_zero, List.set_cons_succ]
     refine Zed.pure (i := 9) (v := ?vu9) rfl (by kernel_rfl) (by kernel_rfl) (by kernel_rfl) (by kernel_rfl) (by kernel_rfl) (fun _ _ _ h => h) (Or.inl ⟨by rfl, ?hyu9⟩) (.inr zz0) ?restu9
     case hyu9 => (intro w _; go_simp; try with_reducible rfl)
     try simp only [Act.put, List.setIfInBounds_toArray, List.set_cons_zero, List.set_cons_succ]
     refine Zed.pure (i := 10) (v := ?vu10) rfl (by kernel_rfl) (by kernel_rfl) (by kernel_rfl) (by kernel_rfl) (by kernel_rfl) (fun _ _ _ h => h) (Or.inl ⟨by rfl, ?hyu10⟩) (.inr zz0) ?restu10
     case hyu10 => (intro w _; go_simp; try with_reducible rfl)
     try simp only [Act.put, List.setIfInBounds_toArray, List.set_cons_zero, List.set_cons_succ]
     refine Zed.pure (i := 11) (v := ?vu11) rfl (by kernel_rfl) (by kernel_rfl) (by kernel_rfl) (by kernel_rfl) (by kernel_rfl) (fun _ _ _ h => h) (Or.inl ⟨by rfl, ?hyu11⟩) (.inr zz0) ?restu11
     case hyu11 => (intro w _; go_simp; try with_reducible rfl)
     try simp only [Act.put, List.setIfInBounds_toArray, List.set_cons_zero, List.set_cons_succ]
     refine Zed.pure (i := 12) (v := ?vu12) rfl (by kernel_rfl) (by kernel_rfl) (by kernel_rfl) (by kernel_rfl) (by kernel_rfl) (fun _ _ _ h => h) (Or.inl ⟨by rfl, ?hyu12⟩) (.inr zz0) ?restu12
     case hyu12 => (intro w _; go_simp; try with_reducible rfl)
     try simp only [Act.put, List.setIfInBounds_toArray, List.set_cons_zero, List.set_cons_succ]
     refine Zed.take (i := 13) (v := ?vu13) rfl (by kernel_rfl) (by kernel_rfl) (by kernel_rfl) (by kernel_rfl) (by kernel_rfl) (fun _ _ _ h => h) (Or.inl ⟨by rfl, ?hyu13⟩) zz0 ?restu13
     case hyu13 => (intro w hSw; (try dsimp only at hSw); have hc := hSw.2.2; go_simp; try with_reducible rfl)
     try simp only [Act.put, List.setIfInBounds_toArray, List.set_cons_zero, List.set_cons_succ]
     refine Zed.pure (i := 14) (v := ?vu14) rfl (by kernel_rfl) (by kernel_rfl) (by kernel_rfl) (by kernel_rfl) (by kernel_rfl) (fun _ _ _ h => h) (Or.inl ⟨by rfl, ?hyu14⟩) (.inr zz0) ?restu14
     case hyu14 => (intro w _; go_simp; try with_reducible rfl)
     try simp only [Act.put, List.setIfInBounds_toArray, List.set_cons_zero, List.set_cons_succ]
     refine Zed.pure (i := 15) (v := ?vu15) rfl (by kernel_rfl) (by kernel_rfl) (by kernel_rfl) (by kernel_rfl) (by kernel_rfl) (fun _ _ _ h => h) (Or.inl ⟨by rfl, ?hyu15⟩) (.inr zz0) ?restu15
     case hyu15 => (intro w _; go_simp; try with_reducible rfl)
     try simp only [Act.put, List.setIfInBounds_toArray, List.set_cons_zero, List.set_cons_succ]
     refine Zed.pure (i := 16) (v := ?vu16) rfl (by kernel_rfl) (by kernel_rfl) (by kernel_rfl) (by kernel_rfl) (by kernel_rfl) (fun _ _ _ h => h) (Or.inl ⟨by rfl, ?hyu16⟩) (.inr zz0) ?restu16
     case hyu16 => (intro w _; go_simp; try with_reducible rfl)
     try simp only [Act.put, List.setIfInBounds_toArray, List.set_cons_zero, List.set_cons_succ]
     refine Zed.one (i := 17) (by kernel_rfl) rfl (fun K hK => ?_)
     go_simp
     have hst := (show OwnI w9.drew B (.slice (some ⟨gn, 0, none⟩) N2.length cn6) N2 by rw [KNl.out]; exact KPk9.out.nx).store J x
     have hnx10 : OwnI (w9.drew.setCell ⟨gn, J, none⟩ (.int .i64 x)) B (.slice (some ⟨gn, 0, none⟩) N7.length cn6) (N2.set J x) := by
      have h1 := hst.1
      rw [KNl.out] at h1
      exact h1
     have KPk10 := Lib.hid (KPk9.out.drew.next hnx10 hst.2 (SameOrNew.refl _ _))
     have KW10 := Lib.hid (show OwnW (w9.drew.setCell ⟨gn, J, none⟩ (.int .i64 x)) B (.slice at5 L5.length ct5) _ from OwnW.kept (w := w9.drew) ⟨KW9.out.own, KW9.out.lt, KW9.out.len⟩ KPk9.out.drew.nx hst.2 (by decide))
     have KC10 := Lib.hid (show OwnI (w9.drew.setCell ⟨gn, J, none⟩ (.int .i64 x)) BC (.slice (some ⟨gc, 0, none⟩) C.length cc) (ints C) from own_ap (w := w9.drew) (u := .slice (some ⟨gn, 0, none⟩) N7.length cn6) KC9.out hst.2 KapN8.out.symm)
     have Kb10 := Lib.hid (below_set (below_drew Kb9.out) (p := ⟨gn, J, none⟩) hgnB (.int .i64 x))
     have l2 := KPk10.out.at_.cell 2
     have l3 := KPk10.out.at_.cell 3
     simp only [List.getElem?_toArray, List.getElem?_cons_zero, List.getElem?_cons_succ] at l2 l3
     have l4 : (w9.drew.setCell ⟨gn, J, none⟩ (.int .i64 x)).cell? ⟨rb, ro + c, none⟩ = some (.int .i64 x) := by
      obtain ⟨rb', ro', he', _, h4⟩ := (Krow.out.below Kb10.out).nums.each c hcr
      obtain ⟨rfl, rfl⟩ := same_addr he'
      rw [Kxd.out] at h4; exact h4
     have zz1 : (fun w' => w'.cell? ⟨B, 2, none⟩ = some (.slice (some ⟨gn, 0, none⟩) N7.length cn6) ∧ w'.cell? ⟨B, 3, none⟩ = some (.slice (some ⟨go, 0, none⟩) W7.length co7) ∧ w'.cell? ⟨rb, ro + c, none⟩ = some (.int .i64 x)) (w9.drew.setCell ⟨gn, J, none⟩ (.int .i64 x)) := ⟨l2, l3, l4⟩
     clear hst hnx10 l2 l3 l4
     refine hK.out _ _ (.inr zz1) ?_
     clear hK K
     try simp only [Act.put, List.setIfInBounds_toArray, List.set_cons_zero, List.set_cons_succ]
     refine Zed.pure (i := 18) (v := ?vu18) rfl (by kernel_rfl) (by kernel_rfl) (by kernel_rfl) (by kernel_rfl) (by kernel_rfl) (fun _ _ _ h => h) (Or.inl ⟨by rfl, ?hyu18⟩) (.inr zz1) ?restu18
     case hyu18 => (intro w _; go_simp; try with_reducible rfl)
     try simp only [Act.put, List.setIfInBounds_toArray, List.set_cons_zero, List.set_cons_succ]
     refine Zed.one (i := 19) (by kernel_rfl) rfl (fun K hK => ?_)
     go_simp
     have hst := (show OwnI (w9.drew.setCell ⟨gn, J, none⟩ (.int .i64 x)) B (.slice (some ⟨go, 0, none⟩) W2.length co7) W2 by rw [KWl.out]; exact KPk10.out.ow).store J ((k : Int) + 1)
     have how11 : OwnI ((w9.drew.setCell ⟨gn, J, none⟩ (.int .i64 x)).setCell ⟨go, J, none⟩ (.int .i64 ((k : Int) + 1))) B (.slice (some ⟨go, 0, none⟩) W7.length co7) (W2.set J ((k : Int) + 1)) := by
      have h1 := hst.1
      rw [KWl.out] at h1
      exact h1
     have KPk11 := Lib.hid (KPk10.out.owner how11 hst.2 (SameOrNew.refl _ _))
     have KW11 := Lib.hid (show OwnW ((w9.drew.setCell ⟨gn, J, none⟩ (.int .i64 x)).setCell ⟨go, J, none⟩ (.int .i64 ((k : Int) + 1))) B (.slice at5 L5.length ct5) _ from KW10.out.kept KPk10.out.ow hst.2 (by decide))
     have KC11 := Lib.hid (show OwnI ((w9.drew.setCell ⟨gn, J, none⟩ (.int .i64 x)).setCell ⟨go, J, none⟩ (.int .i64 ((k : Int) + 1))) BC (.slice (some ⟨gc, 0, none⟩) C.length cc) (ints C) from own_ap (u := .slice (some ⟨go, 0, none⟩) W7.length co7) KC10.out hst.2 KapO8.out.symm)
     have Kb11 := Lib.hid (below_set Kb10.out (p := ⟨go, J, none⟩) hgoB (.int .i64 ((k : Int) + 1)))
     have zz2 : (fun w' => w'.cell? ⟨B, 2, none⟩ = some (.slice (some ⟨gn, 0, none⟩) N7.length cn6) ∧ w'.cell? ⟨B, 3, none⟩ = some (.slice (some ⟨go, 0, none⟩) W7.length co7) ∧ w'.cell? ⟨rb, ro + c, none⟩ = some (.int .i64 x)) ((w9.drew.setCell ⟨gn, J, none⟩ (.int .i64 x)).setCell ⟨go, J, none⟩ (.int .i64 ((k : Int) + 1))) := by
      have l2 := KPk11.out.at_.cell 2
      have l3 := KPk11.out.at_.cell 3
      simp only [List.getElem?_toArray, List.getElem?_cons_zero, List.getElem?_cons_succ] at l2 l3
      refine ⟨l2, l3, ?_⟩
      obtain ⟨rb', ro', he', _, h4⟩ := (Krow.out.below Kb11.out).nums.each c hcr
      obtain ⟨rfl, rfl⟩ := same_addr he'
      rw [Kxd.out] at h4; exact h4
     clear hst how11
     refine hK.out _ _ (.inr zz2) ?_
     clear hK K
     try simp only [Act.put, List.setIfInBounds_toArray, List.set_cons_zero, List.set_cons_succ]
     refine Zed.all (by kernel_rfl) ?_ _
     clear zz0 zz1 zz2 cn9 co9 fn9 fo9 t1 t2 t3 t4 t5 t6
     go_wp2_with fail
     go_roundg (C.length - (m + 1))
     case measure => have := Kq2.out; omega
     case rel =>
      refine ⟨m + 1, N2.set J x, W2.set J ((k : Int) + 1), _, by go_num, by omega, rfl, KPk11.out, ?_, ?_, KW11.out, ?_, KC11.out, Kb11.out⟩
      ·rw [Ktake.out, Tb.setAll_snoc, KJ.out, ← KN2.out, Kxd.out]
      ·rw [Ktake.out, Tb.setAll_snoc, KJ.out, ← KW2.out]
      ·rw [Ktake.out]; exact KBn.out
    ·obtain rfl : m = C.length := by omega
     have hNf : N2 = Tb.lay s.nx r p id := by
      have h1 := Klay.out s.nx p id
      rw [KN7.out] at h1
      rw [KN2.out, List.take_length]; exact h1
     have hWf : W2 = Tb.lay s.ow r p (fun _ => (k : Int) + 1) := by
      have h1 := Klay.out s.ow p (fun _ => (k : Int) + 1)
      rw [KW7e.out] at h1
      rw [KW2.out, List.take_length]; exact h1
     have hBf : Tb.Bits (Tb.longer 0 L ((p + r.length) / 64 + 1)) L2 p C := by
      have h1 := KBz.out
      rw [List.take_length] at h1
      rw [KL5.out]; exact h1
     have KCov2 := Lib.hid (Kbc.out L L2 p s.ow k ((p + r.length) / 64 + 1) hBf KCov.out)
     have hL2 : L2.length ≤ 20 := by have := KBz.out.1; omega
     have hput : Tb.pack (O.take (k + 1)) = ⟨N2, W2, s.pl ++ [p]⟩ := by
      rw [Kpk.out, hNf, hWf]
      unfold Tb.put
      rw [← Kplc.out, Ksp.out]
     have Kput := Lib.hid hput
     have KWf := Lib.hid hWf
     have hpll : s.pl.length ≤ 25 := by have := Ksp.out; omega
     have hbz2 := KPz.out.size
     clear hNf hWf hBf hput
     go_wp2_with (at_builtin; refine wpList_append_own2 _ rfl (.tmp 85) (.tmp 87) 25 rfl B 3 i0 _ 1 8 Tryd.underlying25 hi hz0 hz1 hz2 rfl (by decide) (.slice ap (ints s.pl).length cp) _ (vals (ints s.pl)) rfl (KPz.out.alloc _).pl ⟨wr.heap.size, 0, none⟩ 1 1 [.int .i64 (p : Int)] rfl rfl (cell_one_new _ _ _) (one_one rfl) ?d1 ?d2 ?d3 ?_)
     case d1 => rw [ints_length]; unfold maxLen; omega
     case d2 => rw [ints_length]; omega
     case d3 => rw [World.size_alloc]; omega
     intro v5 w12 hown hgrow hsn
     have KPk12 := Lib.hid ((KPz.out.alloc _).place (show OwnI w12 B v5 (ints (s.pl ++ [p])) by
      rw [ints_snoc]
      unfold OwnI
      rw [vals_snoc, List.length_append]; exact hown) hgrow hsn)
     have KW12 := Lib.hid ((KWz.out.below ((Below.refl _ _).alloc (Nat.le_refl _) _)).kept (KPz.out.alloc _).pl hgrow (by decide))
     have Kb12 := Lib.hid ((Kbz.out.alloc hbz2 _).grown hgrow (by rw [World.size_alloc]; omega) (fun q hq => (KPz.out.pl.lt q hq).1))
     clear hown hgrow hsn
     go_wp2_with fail
     go_roundg (O.length - (k + 1))
     case measure => have := Kq.out; omega
     case rel =>
      refine ⟨k + 1, .slice an6 N7.length cn6, .slice ao7 W7.length co7, L2, by go_num, by omega, rfl, ?_, KW12.out, ?_, hL2, Kb12.out⟩
      ·rw [Kput.out]; exact KPk12.out
      ·rw [Kput.out, KWf.out]; exact KCov2.out
  ·obtain rfl : k = O.length := by omega
   rw [List.take_length] at KPk KCov ⊢
   have hsp := Tb.pl_length O
   have hspl : (Tb.pack O).pl.length ≤ 25 := by omega
   have Ksp := Lib.hid hsp
   have hidl := KO.out
   have Kidl := Lib.hid (fun (j id : Nat) (h : (Tb.ids R)[j]? = some id) => (by have h1 := Tb.ids_lt h; rw [KO.out] at h1; exact h1 : id < O.length))
   have Kbase := Lib.hid (show Tb.base R = (Tb.ids R).map (fun q => (((Tb.pack O).pl.getD q 0 : Nat) : Int)) by unfold Tb.base; rw [KO.out])
   have hbl := Tb.base_length R
   have hill := Tb.ids_length R
   generalize hps : Tb.pack O = s at KPk KCov Ksp hspl Kbase ⊢
   have Kps := Lib.hid hps
   clear hps
   rw [ints_length] at ⊢
   generalize hBs : Tb.base R = BS at Kbase hbl
   generalize hIs : Tb.ids R = IS at KI Kidl Kbase hill
   have KBs := Lib.hid hBs
   have KIs := Lib.hid hIs
   have Kbl := Lib.hid hbl
   have Kill := Lib.hid hill
   obtain ⟨D, hD⟩ : ∃ D, wr.heap.size = D := ⟨_, rfl⟩
   have KD := Lib.hid hD
   have Kkp := Lib.hid (fun (wz : World) (hK : Keeps [B] wr wz) => (⟨own_keeps KPk.out.nx hK (fun q hq hm => by
     simp at hm
     subst hm
     exact own_apart KPk.out.nx KPk.out.at_ (by decide) hq), own_keeps KPk.out.ow hK (fun q hq hm => by
     simp at hm
     subst hm
     exact own_apart KPk.out.ow KPk.out.at_ (by decide) hq)⟩ : OwnI wz B (.slice an s.nx.length cn) s.nx ∧ OwnI wz B (.slice ao s.ow.length co) s.ow))
   have hBD : B < D := by have := KPk.out.at_.lt; omega
   clear hsp hidl hbl hill hBs hIs hD
   go_wp2_with fail
   go_loopg [92] R.length (fun q t92 wz => ∃ (j : Nat) (bv : Value), t92 = .int .i64 (j : Int) ∧ j ≤ R.length ∧ q = R.length - j ∧ At wz B 29 #[.slice a1 R.length c1, bv, .slice an s.nx.length cn, .slice ao s.ow.length co] ∧ OwnI wz D bv (BS.take j) ∧ Keeps [B] wr wz)
   case atStart => exact ⟨0, .slice none 0 0, rfl, by omega, by omega, KPk.out.at_, by rw [List.take_zero]; exact OwnI.nil _ _, Keeps.refl _ _⟩
   case round =>
    obtain ⟨j, bv, rfl, hj, hq3, hA, hBv, hK⟩ := hrel
    have KA := Lib.hid hA
    have KBv := Lib.hid hBv
    have KK := Lib.hid hK
    have Kq3 := Lib.hid hq3
    have hszz : D ≤ wr.heap.size := by have := hK.size; rw [KD.out] at this; exact this
    have Kbz := Lib.hid (below_keeps Kb.out hK (fun x hx => by simp at hx; omega) (by have := KPk.out.size; exact this))
    clear hq3 hK
    by_cases hjl : j < R.length
    ·obtain ⟨id, hid⟩ : ∃ id, IS[j]? = some id := ⟨_, List.getElem?_eq_getElem (by rw [Kill.out]; exact hjl)⟩
     have hidO := Kidl.out j id hid
     obtain ⟨pp, hpp⟩ : ∃ pp, s.pl[id]? = some pp := ⟨_, List.getElem?_eq_getElem (by rw [Ksp.out]; exact hidO)⟩
     have hIz := KI.out
     unfold OwnI at hIz
     rw [ints_length, Kill.out] at hIz
     obtain ⟨gi, ci, he, _⟩ := own_pos hIz (by omega)
     simp only [Value.slice.injEq, true_and] at he
     obtain ⟨rfl, rfl⟩ := he
     have cI := hIz.cellAt j (by omega)
     rw [vals_get (ints_get hid)] at cI
     have hgi := own_block hIz gi rfl
     rw [KB.out] at hgi
     have cI := (Kbz.out.cell (p := ⟨gi, j, none⟩) hgi).trans cI
     have hPz := own_keeps KPk.out.pl KK.out (fun q hq hm => by
      simp at hm
      subst hm
      exact own_apart KPk.out.pl KPk.out.at_ (by decide) hq)
     rw [ints_length] at hPz
     obtain ⟨gp, cgp, he, _⟩ := own_pos hPz (by rw [Ksp.out]; omega)
     simp only [Value.slice.injEq] at he
     obtain ⟨rfl, hbad, rfl⟩ := he
     clear hbad
     have hidl : id < s.pl.length := by rw [Ksp.out]; exact hidO
     have cP := hPz.cellAt id (by omega)
     rw [vals_get (ints_get hpp)] at cP
     obtain ⟨nb, hnb⟩ : ∃ nb, (BS.take j).length = nb := ⟨_, rfl⟩
     obtain ⟨ab, cb, rfl⟩ := hBv.shape
     have hBv2 : wr.ownsRow D 3 1 (.slice ab (BS.take j).length cb) (BS.take j).length (vals (BS.take j)) := hBv
     rw [hnb] at hBv2 hA KA
     have KBv2 := Lib.hid hBv2
     have Knb := Lib.hid hnb
     have hppd : (s.pl.getD id 0 : Nat) = pp := by rw [List.getD, hpp]; rfl
     have hBj : BS[j]? = some (pp : Int) := by rw [Kbase.out, List.getElem?_map, hid]; simp only [Option.map_some]; rw [hppd]
     have Ktake := Lib.hid (Tb.take_snoc hBj)
     have htl : nb ≤ 25 := by rw [← hnb, List.length_take]; omega
     have l1 := hA.cell 1
     simp only [List.getElem?_toArray, List.getElem?_cons_zero, List.getElem?_cons_succ] at l1
     have zz0 : (fun w' : World => w'.cell? ⟨B, 1, none⟩ = some (.slice ab nb cb) ∧ w'.cell? ⟨gp, id, none⟩ = some (.int .i64 (pp : Int))) wr.drew := ⟨l1, cP⟩
     have s1 : (0 : Int) ≤ (j : Int) := by omega
     have s2 : (j : Int) < (R.length : Int) := by omega
     have s3 : ((j : Int)).toNat = j := by omega
     have s4 : (0 : Int) ≤ (id : Int) := by omega
     have s5 : (id : Int) < (s.pl.length : Int) := by omega
     have s6 : ((id : Int)).toNat = id := by omega
     have KL1 := Lib.hid l1
     have KLP := Lib.hid cP
     have hBlt := KA.out.lt
     have hgplt : gp < wr.heap.size := own_block hPz gp rfl
     have hgpD : gp < D := by have := own_block KPk.out.pl gp rfl; rw [KD.out] at this; exact this
     clear hid hidO hpp hIz hPz hppd hBj hA hBv hBv2 KBv hnb l1 cP hidl
     go_wp2_with fail
     refine Zed.begin_ (fun w' => w'.cell? ⟨B, 1, none⟩ = some (.slice ab nb cb) ∧ w'.cell? ⟨gp, id, none⟩ = some (.int .i64 (pp : Int))) [9] (by kernel_rfl) ?_
     refine Zed.pure (i := 0) (v := ?vy0) rfl (by kernel_rfl) (by kernel_rfl) (by kernel_rfl) (by kernel_rfl) (by kernel_rfl) (fun _ _ _ h => h) (Or.inl ⟨by rfl, ?hyy0⟩) (.inr zz0) ?resty0
     case hyy0 => (intro w _; go_simp; try with_reducible rfl)
     try simp only [Act.put, List.setIfInBounds_toArray, List.set_cons_zero, List.set_cons_succ]
     refine Zed.take (i := 1) (v := ?vy1) rfl (by kernel_rfl) (by kernel_rfl) (by kernel_rfl) (by kernel_rfl) (by kernel_rfl) (fun _ _ _ h => h) (Or.inl ⟨by rfl, ?hyy1⟩) zz0 ?resty1
     case hyy1 => (intro w hSw; (try dsimp only at hSw); have hc := hSw.1; go_simp; try with_reducible rfl)
     try simp only [Act.put, List.setIfInBounds_toArray, List.set_cons_zero, List.set_cons_succ]
     refine Zed.pure (i := 2) (v := ?vy2) rfl (by kernel_rfl) (by kernel_rfl) (by kernel_rfl) (by kernel_rfl) (by kernel_rfl) (fun _ _ _ h => h) (Or.inl ⟨by rfl, ?hyy2⟩) (.inr zz0) ?resty2
     case hyy2 => (intro w _; go_simp; try with_reducible rfl)
     try simp only [Act.put, List.setIfInBounds_toArray, List.set_cons_zero, List.set_cons_succ]
     refine Zed.pure (i := 3) (v := ?vy3) rfl (by kernel_rfl) (by kernel_rfl) (by kernel_rfl) (by kernel_rfl) (by kernel_rfl) (fun _ _ _ h => h) (Or.inl ⟨by rfl, ?hyy3⟩) (.inr zz0) ?resty3
     case hyy3 => (intro w _; go_simp; try with_reducible rfl)
     try simp only [Act.put, List.setIfInBounds_toArray, List.set_cons_zero, List.set_cons_succ]
     refine Zed.pure (i := 4) (v := ?vy4) rfl (by kernel_rfl) (by kernel_rfl) (by kernel_rfl) (by kernel_rfl) (by kernel_rfl) (fun _ _ _ h => h) (Or.inl ⟨by rfl, ?hyy4⟩) (.inr zz0) ?resty4
     case hyy4 => (intro w _; go_simp; try with_reducible rfl)
     try simp only [Act.put, List.setIfInBounds_toArray, List.set_cons_zero, List.set_cons_succ]
     refine Zed.take (i := 5) (v := ?vy5) rfl (by kernel_rfl) (by kernel_rfl) (by kernel_rfl) (by kernel_rfl) (by kernel_rfl) (fun _ _ _ h => h) (Or.inl ⟨by rfl, ?hyy5⟩) zz0 ?resty5
     case hyy5 => (intro w hSw; (try dsimp only at hSw); have hc := hSw.2; go_simp; try with_reducible rfl)
     try simp only [Act.put, List.setIfInBounds_toArray, List.set_cons_zero, List.set_cons_succ]
     refine Zed.one (i := 6) (by kernel_rfl) rfl (fun K hK => ?_)
     go_simp
     have hbl1 : Below wr.heap.size wr (wr.alloc (.cells #[.int .i64 (pp : Int)] 3)).drew := below_drew ((Below.refl _ _).alloc (Nat.le_refl _) _)
     have zz1 : (fun w' => w'.cell? ⟨B, 1, none⟩ = some (.slice ab nb cb) ∧ w'.cell? ⟨gp, id, none⟩ = some (.int .i64 (pp : Int))) (wr.alloc (.cells #[.int .i64 (pp : Int)] 3)).drew := ⟨(hbl1.cell (p := ⟨B, 1, none⟩) hBlt).trans KL1.out, (hbl1.cell (p := ⟨gp, id, none⟩) hgplt).trans KLP.out⟩
     refine hK.out _ _ (.inr zz1) ?_
     clear hK K
     try simp only [Act.put, List.setIfInBounds_toArray, List.set_cons_zero, List.set_cons_succ]
     refine Zed.one (i := 7) (by kernel_rfl) rfl (fun K hK => ?_)
     refine step_append_own2 rfl _ _ 25 rfl D 3 i0 (.int .i64 0) 1 8 Tryd.underlying25 hi hz0 hz1 hz2 rfl (by decide) (.slice ab nb cb) nb (vals (BS.take j)) rfl (World.ownsRow.alloc KBv2.out _) ⟨wr.heap.size, 0, none⟩ 1 1 [.int .i64 (pp : Int)] rfl rfl (cell_one_new wr _ _) (one_one rfl) (by unfold maxLen; omega) (by omega) (show D ≤ (wr.alloc (.cells #[.int .i64 (pp : Int)] 3)).heap.size by rw [World.size_alloc]; omega) ?_
     intro v7 w7 hown7 hg7 hs7
     have KBv7 := Lib.hid (show OwnI w7 D v7 (BS.take (j + 1)) by
      rw [Ktake.out]
      unfold OwnI
      rw [vals_append, List.length_append, Knb.out]
      exact hown7)
     have hgr : ∀ q, (Value.slice ab nb cb).ownBlock = some q → D ≤ q := fun q hq => (KBv2.out.lt q hq).1
     have hA7 := ((KA.out.alloc (.cells #[.int .i64 (pp : Int)] 3)).drew.grown hg7 (fun e => by have := hgr B e.symm; omega))
     have KA7 := Lib.hid hA7
     have KK7 := Lib.hid (((KK.out.alloc (.cells #[.int .i64 (pp : Int)] 3)).drew).grown hg7 (fun q hq => .inr (by have := hgr q hq; rw [KD.out]; omega)))
     have l1 := hA7.cell 1
     have rf := hA7.frozen
     simp only [List.getElem?_toArray, List.getElem?_cons_zero, List.getElem?_cons_succ] at l1
     have zz2 : (fun w' => w'.cell? ⟨B, 1, none⟩ = some (.slice ab nb cb) ∧ w'.cell? ⟨gp, id, none⟩ = some (.int .i64 (pp : Int))) w7 := ⟨l1, (grown_cell hg7 (p := ⟨gp, id, none⟩) (show gp < (wr.alloc (.cells #[.int .i64 (pp : Int)] 3)).heap.size by rw [World.size_alloc]; omega) (fun e => by have := hgr gp e.symm; omega)).trans zz1.2⟩
     obtain ⟨nb7, hnb7⟩ : ∃ nb7, (BS.take (j + 1)).length = nb7 := ⟨_, rfl⟩
     have hB7 : w7.ownsRow D 3 1 v7 nb7 (vals (BS.take (j + 1))) := by rw [← hnb7]; exact KBv7.out
     obtain ⟨a7, c7, rfl, _⟩ := own_slice hB7
     have KB7 := Lib.hid hB7
     have Knb7 := Lib.hid hnb7
     clear KBv7 hB7 hnb7
     clear hown7 hgr hA7
     refine hK.out _ _ (.inr zz2) ?_
     clear hK K
     try simp only [Act.put, List.setIfInBounds_toArray, List.set_cons_zero, List.set_cons_succ]
     refine Zed.pure (i := 8) (v := ?vy8) rfl (by kernel_rfl) (by kernel_rfl) (by kernel_rfl) (by kernel_rfl) (by kernel_rfl) (fun _ _ _ h => h) (Or.inl ⟨by rfl, ?hyy8⟩) (.inr zz2) ?resty8
     case hyy8 => (intro w _; go_simp; try with_reducible rfl)
     try simp only [Act.put, List.setIfInBounds_toArray, List.set_cons_zero, List.set_cons_succ]
     refine Zed.one (i := 9) (by kernel_rfl) rfl (fun K hK => ?_)
     go_simp
     refine hK.out _ _ (.inl (by kernel_rfl)) ?_
     clear hK K
     try simp only [Act.put, List.setIfInBounds_toArray, List.set_cons_zero, List.set_cons_succ]
     refine Zed.all (by kernel_rfl) ?_ _
     have KA8 := Lib.hid ((KA7.out.set 1 (.slice a7 nb7 c7)).to (show _ = #[.slice (some ⟨gi, 0, none⟩) R.length c1, .slice a7 nb7 c7, .slice an s.nx.length cn, .slice ao s.ow.length co] from rfl))
     have KBv8 := Lib.hid (show OwnI (w7.setCell ⟨B, 1, none⟩ (.slice a7 nb7 c7)) D (.slice a7 nb7 c7) (BS.take (j + 1)) by
      have h1 := own_far KB7.out KA7.out (by decide) 1 (.slice a7 nb7 c7)
      unfold OwnI
      rw [Knb7.out]; exact h1)
     have KK8 := Lib.hid (KK7.out.set (p := ⟨B, 1, none⟩) (.inl (by simp)) (.slice a7 nb7 c7))
     clear zz0 zz1 zz2 l1 rf hbl1
     go_wp2_with fail
     go_roundg (R.length - (j + 1))
     case measure => have := Kq3.out; omega
     case rel => exact ⟨j + 1, _, by go_num, by omega, rfl, KA8.out, KBv8.out, KK8.out⟩
    ·obtain rfl : j = R.length := by omega
     have hBf : OwnI wr D bv BS := by
      have h1 := KBv.out
      rw [List.take_of_length_le (by rw [Kbl.out]; exact Nat.le_refl _)] at h1
      exact h1
     have KBf := Lib.hid hBf
     have hA0 : At w2 w.heap.size 29 #[.slice none 0 0, .slice none 0 0, .slice none 0 0, .slice none 0 0] := Kres.out
     have hA0z := hA0.below Kbz.out (by have := hA0.lt; rw [KB.out] at this; exact this)
     have k0 := hA0z.cell 0
     have k1 := hA0z.cell 1
     have k2 := hA0z.cell 2
     have k3 := hA0z.cell 3
     have kf := hA0z.frozen
     have m0 := KA.out.cell 0
     have m1 := KA.out.cell 1
     have m2 := KA.out.cell 2
     have m3 := KA.out.cell 3
     simp only [List.getElem?_toArray, List.getElem?_cons_zero, List.getElem?_cons_succ] at k0 k1 k2 k3 m0 m1 m2 m3
     obtain ⟨ab, cb, rfl⟩ := hBf.shape
     clear hBf hA0
     go_wp2_with fail
     have hat : At ((((wr.setCell ⟨w.heap.size, 0, none⟩ (.slice a1 R.length c1)).setCell ⟨w.heap.size, 1, none⟩ (.slice ab BS.length cb)).setCell ⟨w.heap.size, 2, none⟩ (.slice an s.nx.length cn)).setCell ⟨w.heap.size, 3, none⟩ (.slice ao s.ow.length co)) w.heap.size 29 #[.slice a1 R.length c1, .slice ab BS.length cb, .slice an s.nx.length cn, .slice ao s.ow.length co] := ((((hA0z.set 0 _).set 1 _).set 2 _).set 3 _).to rfl
     have hfar : ∀ {b : Nat} {x : Value} {l : List Int}, OwnI wr b x l → OwnI ((((wr.setCell ⟨w.heap.size, 0, none⟩ (.slice a1 R.length c1)).setCell ⟨w.heap.size, 1, none⟩ (.slice ab BS.length cb)).setCell ⟨w.heap.size, 2, none⟩ (.slice an s.nx.length cn)).setCell ⟨w.heap.size, 3, none⟩ (.slice ao s.ow.length co)) b x l :=
      fun hx => own_far (own_far (own_far (own_far hx hA0z (by decide) 0 _) (hA0z.set 0 _) (by decide) 1 _) ((hA0z.set 0 _).set 1 _) (by decide) 2 _) (((hA0z.set 0 _).set 1 _).set 2 _) (by decide) 3 _
     refine bodyPost_ret (results_cell_row rfl _ _ w.heap.size _ _ (0, 0) _ rfl hat Tryd.underlying29 rfl Tryd.sizePacked) rfl ⟨_, rfl, ⟨⟨_, _, _, _, rfl, ?_, ?_, ?_, ?_⟩, ?_⟩⟩
     ·have h1 : OwnI wr w.heap.size (.slice a1 R.length c1) (Tb.idsI R) := by
       have h2 := own_below KI.out Kbz.out (fun q hq => by have := own_block KI.out q hq; rw [KB.out] at this; exact this)
       have h3 := own_base (B' := w.heap.size) h2 (by rw [World.size_alloc]; omega)
       show OwnI wr w.heap.size (.slice a1 R.length c1) (ints (Tb.ids R))
       rw [KIs.out]; exact h3
      exact hfar h1
     ·rw [KBs.out]
      exact hfar (own_base KBf.out (by omega))
     ·rw [KO.out, Kps.out]
      exact hfar (own_base (Kkp.out _ KK.out).1 hsz2)
     ·rw [KO.out, Kps.out]
      exact hfar (own_base (Kkp.out _ KK.out).2 hsz2)
     ·exact below_set (below_set (below_set (below_set (Kb2.out.trans (below_le Kbz.out hsz2)) (Nat.le_refl _) _) (Nat.le_refl _) _) (Nat.le_refl _) _) (Nat.le_refl _) _
end Go.Proofs.YtjcijffhcmbhnaaDoor
