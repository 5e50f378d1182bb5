import Derived.Test.YtjcijffhcmbhnaaDoorTbR
namespace Go.Proofs.YtjcijffhcmbhnaaDoor
set_option maxRecDepth 100000
open Go.ChangeShapes Go.WideShapes Go.ChangeAt Go.RowKit
open BitKit
set_option linter.unusedVariables false
set_option linter.unusedSimpArgs false
section
variable {H : Type} {enc : TypeId × Value → H} {P : Program} {W : World} {base : Nat} {v : Value} {d : DataW H} {p : List MemPlace}
theorem open_row {t e : TypeId} (ht : P.underlying t = some (.slice e)) (he : P.underlying e = some (.int .i64)) (ce : P.cellsOf e = 1)
  (hv : Value.okWide P W .any base t v) (h : DataW.Trod enc P W 0 (fun _ => true) true t v d p) :
  ∃ L, RowIn W W.heap.size v L := by
 obtain ⟨A, n, c, rfl⟩ := okWide_slice ht hv
 obtain ⟨fuel, hf⟩ := h
 rcases Go.Deep.open_slice1 ht ce hf with ⟨hcs, _⟩ | ⟨a, len, cap, m, k, V, D, Pl, hcs, hb, hl, hm, hmm, hx, hi⟩
 ·simp [Value.cells] at hcs
  obtain ⟨rfl, rfl, rfl⟩ := hcs
  exact ⟨[], none, 0, rfl, Nat.le_refl _, Nums.nil _ _ _ _⟩
 ·simp [Value.cells] at hcs
  obtain ⟨rfl, rfl, rfl⟩ := hcs
  have hlm : n ≤ m := by rw [hmm]; split <;> omega
  have hread : ∀ i, i < n → ∃ x : Int, V i = .int .i64 x ∧ (Lit.int .i64 x).wf = true := by
   intro i hin
   obtain ⟨_, t0⟩ := hi i (by omega)
   obtain ⟨x0, e0, _, w0⟩ := DataW.trod_int he t0
   simp at e0
   exact ⟨x0, e0, w0⟩
  obtain ⟨Z, hZ⟩ := Go.Deep.choose_lt hread
  have hlen : ((List.range n).map Z).length = n := by simp
  have hget : ∀ i, i < n → ((List.range n).map Z).getD i 0 = Z i := fun i hi => by simp [List.getD, hi]
  refine ⟨(List.range n).map Z, _, c, by rw [hlen], by rw [hlen]; exact hl, ?_⟩
  rw [hlen]
  refine ⟨fun i hin => ?_, fun i hin => ?_, maxLen_le (by omega)⟩
  ·obtain ⟨g0, _⟩ := hi i (by omega)
   rw [(hZ i hin).1] at g0
   obtain ⟨g00, _⟩ := hi 0 (by omega)
   obtain ⟨ab, ao, rfl, hlt⟩ := at_zero (a := a) (by simpa [Addr.add] using g00)
   rw [Go.WideShapes.add_plain] at g0
   rw [hget i hin]
   exact ⟨ab, ao, rfl, hlt, g0⟩
  ·rw [hget i hin]
   simpa [Lit.wf, IntKind.min, IntKind.max, IntKind.signed, IntKind.bits] using (hZ i hin).2
end
theorem outs_more (R : List (List Int)) (m : List Int) : ∃ M, Tb.outs (R ++ [m]) = Tb.outs R ++ M := by
 obtain ⟨M, hM⟩ := Tb.outs_pre R m
 exact ⟨M, hM.symm⟩
theorem short_more {R : List (List Int)} {m : List Int} (h : Short R) (h24 : R.length ≤ 24) (hm : m.length ≤ 25) : Short (R ++ [m]) := by
 refine ⟨by simp; omega, fun l hl => ?_⟩
 rcases List.mem_append.1 hl with h1 | h1
 ·exact h.2 l h1
 ·rw [List.mem_singleton.1 h1]; exact hm
theorem ids_more (R : List (List Int)) (m : List Int) : (Tb.ids (R ++ [m])).take R.length = Tb.ids R := by
 rw [Tb.ids_snoc, List.take_append_of_le_length (by rw [Tb.ids_length]; exact Nat.le_refl _), ← Tb.ids_length R, List.take_length]
theorem idsI_more (R : List (List Int)) (m : List Int) : Tb.idsI R = (Tb.idsI (R ++ [m])).take R.length := by
 unfold Tb.idsI
 rw [← List.map_take, ids_more]
theorem base_more (R : List (List Int)) (m : List Int) : Tb.base R = (Tb.base (R ++ [m])).take R.length := by
 unfold Tb.base
 rw [← List.map_take, ids_more]
 refine List.map_congr_left fun k hk => ?_
 obtain ⟨i, hi⟩ := List.mem_iff_getElem?.1 hk
 have hlt := Tb.ids_lt hi
 obtain ⟨M, hM⟩ := outs_more R m
 obtain ⟨x, hx⟩ : ∃ x, (Tb.pack (Tb.outs R)).pl[k]? = some x := ⟨_, List.getElem?_eq_getElem (by rw [Tb.pl_length]; exact hlt)⟩
 have h1 := Tb.pre_at (Tb.pl_pre (Tb.outs R) M) hx
 rw [hM]
 simp [List.getD, hx, h1]
theorem cells_more (R : List (List Int)) (m : List Int) (i : Nat) (h : (Tb.pack (Tb.outs R)).ow.getD i 0 ≠ 0) :
  (Tb.pack (Tb.outs (R ++ [m]))).ow.getD i 0 = (Tb.pack (Tb.outs R)).ow.getD i 0 ∧ (Tb.pack (Tb.outs (R ++ [m]))).nx.getD i 0 = (Tb.pack (Tb.outs R)).nx.getD i 0 := by
 obtain ⟨M, hM⟩ := outs_more R m
 rw [hM]
 exact Tb.pack_old _ _ h
theorem length_more (R : List (List Int)) (m : List Int) : (Tb.pack (Tb.outs R)).nx.length ≤ (Tb.pack (Tb.outs (R ++ [m]))).nx.length := by
 obtain ⟨M, hM⟩ := outs_more R m
 rw [hM, Tb.nx_length, Tb.nx_length]
 exact Tb.pack_longer _ _
theorem RowIn.upto {w : World} {B B' : Nat} {v : Value} {l : List Int} (h : RowIn w B v l) (hB : B ≤ B') : RowIn w B' v l := by
 obtain ⟨A, c, h1, h2, h3⟩ := h
 exact ⟨A, c, h1, h2, h3.upto hB⟩
theorem row_cut {w : World} {A : Option Addr} {c : Nat} {l : List Int} (h : Row w (.slice A l.length c) l) (k : Nat) (hk : k ≤ l.length) : Row w (.slice A k c) (l.take k) := by
 obtain ⟨A', c', h1, h3⟩ := h.shape
 simp only [Value.slice.injEq, true_and] at h1
 obtain ⟨rfl, rfl⟩ := h1
 have hl : (l.take k).length = k := by rw [List.length_take]; omega
 refine ⟨⟨_, _, by rw [hl], ?_⟩⟩
 rw [hl]
 have hg : ∀ i, i < k → (l.take k).getD i 0 = l.getD i 0 := fun i hi => by simp [List.getD, List.getElem?_take, hi]
 refine ⟨fun i hi => ?_, fun i hi => ?_, by have := h3.len; omega⟩
 ·rw [hg i hi]; exact h3.each i (by omega)
 ·rw [hg i hi]; exact h3.rx i (by omega)
theorem Zed.pureD {P : Program} {md : Region.Mode} {ops : Array Oper} {Q : Exit → Act → World → Prop} {S : World → Prop} {Z : List Nat} {i : Nat} {d : Option Nat} {oi : Oper} {v : Value} {f : Nat} {listed : Array Bool} {a : Act} {w : World} (hi : ops[i]? = some oi) (hd : oi.dst = d)
  (hs : Region.noSelect ops = true) (hf : Region.free md ops listed i = true) (hr : (Region.ready md ops listed).contains i = true) (hc : Zed.closedB md ops listed = true) (hn : Z.contains i = false)
  (hQ : ∀ c a w, Q (.panic c) (a.put oi.dst v) w → Q (.panic c) a w) (hy : YieldsIf P ops (fun _ => True) oi v a) (hS : Zed.off Z listed = true ∨ S w)
  (h : Zed.AnyZ P md ops Q S Z f (listed.setIfInBounds i true) (a.put d v) w) : Zed.AnyZ P md ops Q S Z (f + 1) listed a w := by
 subst hd
 exact Zed.pure hi hs hf hr hc hn hQ hy hS h
theorem Zed.takeD {P : Program} {md : Region.Mode} {ops : Array Oper} {Q : Exit → Act → World → Prop} {S : World → Prop} {Z : List Nat} {i : Nat} {d : Option Nat} {oi : Oper} {v : Value} {f : Nat} {listed : Array Bool} {a : Act} {w : World} (hi : ops[i]? = some oi) (hd : oi.dst = d)
  (hs : Region.noSelect ops = true) (hf : Region.free md ops listed i = true) (hr : (Region.ready md ops listed).contains i = true) (hc : Zed.closedB md ops listed = true) (hn : Zed.needsB md ops Z i = true)
  (hQ : ∀ c a w, Q (.panic c) (a.put oi.dst v) w → Q (.panic c) a w) (hy : YieldsIf P ops S oi v a) (hS : S w)
  (h : Zed.AnyZ P md ops Q S Z f (listed.setIfInBounds i true) (a.put d v) w) : Zed.AnyZ P md ops Q S Z (f + 1) listed a w := by
 subst hd
 exact Zed.take hi hs hf hr hc hn hQ hy hS h
theorem Zed.callD {P : Program} {md : Region.Mode} {ops : Array Oper} {Q : Exit → Act → World → Prop} {S : World → Prop} {Z : List Nat} {i : Nat} {d : Option Nat} {o : Oper} {f : Nat} {listed : Array Bool} {a : Act} {w : World} {fn : FuncId} {vs : Array Value} {F : Ending → World → Prop}
  (hr : Region.ready md ops listed = [i]) (ho : ops[i]? = some o) (hd : o.dst = d) (hw : Region.wanted o (yielded ops a.tmps) = true) (hrun : (execOp a.eval o).run P w = .ok (.enter fn vs) w) (hc : Calls P fn vs w F)
  (hF : ∀ e w', F e w' → ∃ v, e = .returned v ∧ S w' ∧ Zed.AnyZ P md ops Q S Z f (listed.setIfInBounds i true) (a.put d v) w') : Zed.AnyZ P md ops Q S Z (f + 1) listed a w := by
 subst hd
 exact Zed.call hr ho hw hrun hc hF
set_option maxHeartbeats 8000000 in
theorem goeson15_law (v : Value) (R : List (List Int)) (u : Value) (M : List Int) (w : World) (h : RowsL w v R) (hM : RowIn w w.heap.size u M) (hT : Tab w) (hT0 : 0 < w.heap.size) (hP : Pow w.heap.size w) :
  Calls Tryd.prog 6 #[v, u] w fun e w' => e = .returned (.bool true) ∧ Below w.heap.size w w' := by
 obtain ⟨i1, hj, hy0, hy1, hy2⟩ := info_parts Tryd.infoIs
 have KR := Lib.hid h
 have KM := Lib.hid hM
 have KT := Lib.hid hT
 have KP := Lib.hid hP
 have Kaw := Lib.hid (awake_any w hT hT0 hP)
 obtain ⟨A, c, rfl⟩ := h.shape
 obtain ⟨AM, cM, rfl, hMc, hMn⟩ := hM
 clear h hT hP hMc hMn
 go_enter Tryd.func6, Tryd.ntmps6
 go_wp2_with fail
 refine Kaw.out.mono ?_
 rintro e w1 ⟨rfl, hb1⟩
 have hR1 := KR.out.below hb1
 have Kfew := Lib.hid (few_any _ R w1 hR1)
 have KR1 := Lib.hid hR1
 have Kb1 := Lib.hid hb1
 clear hR1 hb1 Kaw KR
 go_wp2_with fail
 refine Kfew.out.mono ?_
 rintro e w1 ⟨⟨r, rfl, hr⟩, rfl⟩
 cases r
 ·go_wp2_with fail
  go_ret
  exact ⟨rfl, Kb1.out⟩
 have KS := Lib.hid (hr.1 rfl)
 clear hr Kfew
 by_cases h24 : (24 : Int) < (R.length : Int)
 ·go_wp2_with fail
  go_ret
  exact ⟨rfl, Kb1.out⟩
 by_cases h25 : (25 : Int) < (M.length : Int)
 ·go_wp2_with fail
  go_ret
  exact ⟨rfl, Kb1.out⟩
 have h24' : R.length ≤ 24 := by omega
 have h25' : M.length ≤ 25 := by omega
 have Kpk := Lib.hid (pack_any _ R w1 KR1.out KS.out (KP.out.up Kb1.out Kb1.out.size) (KT.out.below Kb1.out hT0) (Nat.lt_of_lt_of_le hT0 Kb1.out.size))
 go_wp2_with fail
 refine Kpk.out.mono ?_
 rintro e w4 ⟨u1, rfl, hPk⟩
 have hb4 := hPk.below
 obtain ⟨a1, bv, nv, ov, rfl, hI, hB, hN, hO⟩ := hPk.ex
 have hsh := outs_short KS.out
 have sI : Small (Tb.idsI R) := ints_small (fun x hx => by have := ids_le KS.out x hx; omega)
 have sB : Small (Tb.base R) := base_small R KS.out
 have sN : Small (Tb.pack (Tb.outs R)).nx := outs_small_pack (outs_smalls KR1.out.smalls)
 have sO : Small (Tb.pack (Tb.outs R)).ow := ow_small _ (by have := hsh.1; omega)
 obtain ⟨A3, c3, hva⟩ := hI.shape
 obtain ⟨A4, c4, hvb⟩ := hB.shape
 obtain ⟨A5, c5, hvn⟩ := hN.shape
 obtain ⟨A6, c6, hvo⟩ := hO.shape
 obtain ⟨n, hn⟩ : ∃ n, (Tb.pack (Tb.outs R)).nx.length = n := ⟨_, rfl⟩
 have hn2 := Tb.nx_length (Tb.outs R)
 rw [hn] at hn2 hvn
 rw [Tb.idsI_length] at hva
 rw [Tb.base_length] at hvb
 rw [← hn2] at hvo
 subst hva hvb hvn hvo
 have hn3 := Tb.ow_length (Tb.outs R) 25 hsh.2
 rw [← hn2] at hn3
 have hn4 : n ≤ 625 := by have := hsh.1; omega
 have hA := At.new w4 29 #[.slice A3 R.length c3, .slice A4 R.length c4, .slice A5 n c5, .slice A6 n c6]
 have Kgl := Lib.hid hA.lt
 have KA := Lib.hid hA
 have Ki := Lib.hid (hI.alloc (.cells #[.slice A3 R.length c3, .slice A4 R.length c4, .slice A5 n c5, .slice A6 n c6] 29))
 have Kbs := Lib.hid (hB.alloc (.cells #[.slice A3 R.length c3, .slice A4 R.length c4, .slice A5 n c5, .slice A6 n c6] 29))
 have Kn := Lib.hid (hN.alloc (.cells #[.slice A3 R.length c3, .slice A4 R.length c4, .slice A5 n c5, .slice A6 n c6] 29))
 have Ko := Lib.hid (hO.alloc (.cells #[.slice A3 R.length c3, .slice A4 R.length c4, .slice A5 n c5, .slice A6 n c6] 29))
 have KR4 := Lib.hid ((KR1.out.below hb4).alloc (.cells #[.slice A3 R.length c3, .slice A4 R.length c4, .slice A5 n c5, .slice A6 n c6] 29))
 have Kb4 := Lib.hid (below_up (Kb1.out.trans (below_le hb4 Kb1.out.size)) (.cells #[.slice A3 R.length c3, .slice A4 R.length c4, .slice A5 n c5, .slice A6 n c6] 29))
 obtain ⟨W, hW⟩ : ∃ W, W = w4.alloc (.cells #[.slice A3 R.length c3, .slice A4 R.length c4, .slice A5 n c5, .slice A6 n c6] 29) := ⟨_, rfl⟩
 rw [← hW] at Kgl KA Ki Kbs Kn Ko KR4 Kb4
 have hsz : W.heap.size = w4.heap.size + 1 := by rw [hW, World.size_alloc]
 have Kl := Lib.hid (And.intro hn hn2)
 have Ks := Lib.hid (And.intro (And.intro sI sB) (And.intro sN sO))
 have hSm := short_more KS.out h24' h25'
 have KSm := Lib.hid hSm
 obtain ⟨A', c', RV, hsv, hRVl, hRV⟩ := KR4.out.ex
 simp only [Value.slice.injEq, true_and] at hsv
 obtain ⟨rfl, rfl⟩ := hsv
 have KRV := Lib.hid hRV
 have KRVl := Lib.hid hRVl
 have KW := Lib.hid hW
 have Ksz := Lib.hid hsz
 have hR25 := h24'
 clear hb4 hPk hI hB hN hO hA hn hn2 hn3 hsh sI sB sN sO Kpk KR1 Kb1 hSm hRV hRVl hsz hW h24 h25
 go_wp2_with (at_builtin; (rw [← KW.out]); refine (wpList_append_own3 _ rfl (.tmp 28) (.tmp 29) 22 rfl W.heap.size 25 i1 _ 1 24 Tryd.underlying22 hj hy0 hy1 hy2 rfl (by decide) (.slice (some ⟨w4.heap.size + 1, 0, none⟩) 0 0) 0 [] rfl ?c1 A R.length c RV rfl ?c2 ?c3 ?c4 ?c5 ?c6 ?c7 ?_))
 case c1 => rw [← Ksz.out]; exact own_empty _ _ _ (Nat.le_refl _)
 case c2 => rw [KRVl.out, Nat.mul_one]
 case c3 => exact (KRV.out.below ((Below.refl _ _).alloc (Nat.le_refl _) _)).at_
 case c4 => exact KRV.out.one
 case c5 => unfold maxLen; omega
 case c6 => omega
 case c7 => simp
 intro v5 w5 hown hgrow hsn
 have hown : w5.ownsRow W.heap.size 25 1 v5 R.length RV := by simpa using hown
 have hgrow : (W.alloc (.cells #[] 25)).grownBy w5 (some W.heap.size) := by rw [Ksz.out]; exact hgrow
 have Kb5 := Lib.hid (((Below.refl W.heap.size W).alloc (Nat.le_refl _) (.cells #[] 25)).grown hgrow (by simp) (fun k hk => by injection hk with hk; omega))
 obtain ⟨a5, c5', rfl, _⟩ := own_slice hown
 have Kown := Lib.hid hown
 clear hown hgrow hsn
 go_wp2_with (at_builtin; refine wpList_append_own2 _ rfl (.tmp 30) (.tmp 32) 22 rfl W.heap.size 25 i1 _ 1 24 Tryd.underlying22 hj hy0 hy1 hy2 rfl (by decide) (.slice a5 R.length c5') R.length RV rfl (World.ownsRow.alloc Kown.out _) ⟨w5.heap.size, 0, none⟩ 1 1 [.slice AM M.length cM] rfl rfl (cell_one_new _ _ _) (one_one rfl) ?d1 ?d2 ?d3 ?_)
 case d1 => unfold maxLen; omega
 case d2 => omega
 case d3 => have := Kb5.out.size; rw [World.size_alloc]; omega
 intro v6 w6 hown hgrow hsn
 have hb6 := (Kb5.out.alloc Kb5.out.size (.cells #[.slice AM M.length cM] 25)).grown hgrow (by have := Kb5.out.size; rw [World.size_alloc]; omega) (fun k hk => (Kown.out.lt k hk).1)
 have hrows : RowsL w6 v6 (R ++ [M]) := by
  refine RowsL.own (B := W.heap.size) (PV := RV ++ [.slice AM M.length cM]) (by rw [List.length_append, KRVl.out]; exact hown) (by rw [List.length_append, List.length_append, KRVl.out]; rfl) (fun i l u hl hu => ?_)
  by_cases hi : i < R.length
  ·rw [List.getElem?_append_left (by rw [KRVl.out]; exact hi)] at hu
   rw [List.getElem?_append_left hi] at hl
   have h1 := KRV.out.row i u hu
   have h2 : fnL R i = l := by unfold fnL; rw [List.getD, hl]; rfl
   rw [h2] at h1
   exact (h1.below hb6).upto hb6.size
  ·rw [List.getElem?_append_right (by rw [KRVl.out]; omega), KRVl.out] at hu
   rw [List.getElem?_append_right (by omega)] at hl
   have hi0 : i - R.length = 0 := by
    have := (List.getElem?_eq_some_iff.1 hl).1
    simp at this; omega
   rw [hi0] at hl hu
   obtain rfl : M = l := by simpa using hl
   obtain rfl : (.slice AM M.length cM : Value) = u := by simpa using hu
   have hbw := Kb4.out.trans (below_le hb6 Kb4.out.size)
   exact (KM.out.below hbw).upto hbw.size
 obtain ⟨a6, c6', rfl, _⟩ := own_slice hown
 have hbw6 := Kb4.out.trans (below_le hb6 Kb4.out.size)
 have Kpk2 := Lib.hid (pack_any _ (R ++ [M]) w6 hrows KSm.out (KP.out.up hbw6 hbw6.size) (KT.out.below hbw6 hT0) (Nat.lt_of_lt_of_le hT0 hbw6.size))
 have Krows := Lib.hid hrows
 have Kb6 := Lib.hid hb6
 clear hown hgrow hsn hb6 hrows hbw6 Kown Kb5
 go_wp2_with fail
 refine Kpk2.out.mono ?_
 rintro e w7 ⟨u2, rfl, hPk⟩
 have hb7 := Kb6.out.trans (below_le hPk.below Kb6.out.size)
 obtain ⟨e1, e2, e3, e4, rfl, hI, hB, hN, hO⟩ := hPk.ex
 have hsh := outs_short KSm.out
 have sI : Small (Tb.idsI (R ++ [M])) := ints_small (fun x hx => by have := ids_le KSm.out x hx; omega)
 have sB : Small (Tb.base (R ++ [M])) := base_small (R ++ [M]) KSm.out
 have sN : Small (Tb.pack (Tb.outs (R ++ [M]))).nx := outs_small_pack (outs_smalls Krows.out.smalls)
 have sO : Small (Tb.pack (Tb.outs (R ++ [M]))).ow := ow_small _ (by have := hsh.1; omega)
 obtain ⟨B3, d3, hva, hca⟩ := own_slice hI
 obtain ⟨B4, d4, hvb, hcb⟩ := own_slice hB
 obtain ⟨B5, d5, hvn⟩ := hN.shape
 obtain ⟨B6, d6, hvo⟩ := hO.shape
 obtain ⟨n2, hn⟩ : ∃ n2, (Tb.pack (Tb.outs (R ++ [M]))).nx.length = n2 := ⟨_, rfl⟩
 obtain ⟨l1, hl1⟩ : ∃ l1, (R ++ [M]).length = l1 := ⟨_, rfl⟩
 have hn2 := Tb.nx_length (Tb.outs (R ++ [M]))
 rw [hn] at hn2 hvn
 rw [Tb.idsI_length, hl1] at hva hca
 rw [Tb.base_length, hl1] at hvb hcb
 rw [← hn2] at hvo
 subst hva hvb hvn hvo
 have hn3 := Tb.ow_length (Tb.outs (R ++ [M])) 25 hsh.2
 rw [← hn2] at hn3
 have hn4' : n2 ≤ 625 := by have := hsh.1; omega
 have hnn : n ≤ n2 := by have := length_more R M; rw [Kl.out.1, hn] at this; exact this
 have hl1' : R.length + 1 = l1 := by rw [← hl1, List.length_append]; rfl
 have hA := At.new w7 29 #[.slice B3 l1 d3, .slice B4 l1 d4, .slice B5 n2 d5, .slice B6 n2 d6]
 have hb8 : Below W.heap.size W (w7.alloc (.cells #[.slice B3 l1 d3, .slice B4 l1 d4, .slice B5 n2 d5, .slice B6 n2 d6] 29)) := below_up hb7 _
 have Kg2 := Lib.hid hA.lt
 have Kc2 := Lib.hid (packed_cells hA)
 have Ku0 := Lib.hid (own_row (hI.alloc (.cells #[.slice B3 l1 d3, .slice B4 l1 d4, .slice B5 n2 d5, .slice B6 n2 d6] 29)) sI)
 have Ku1 := Lib.hid (own_row (hB.alloc (.cells #[.slice B3 l1 d3, .slice B4 l1 d4, .slice B5 n2 d5, .slice B6 n2 d6] 29)) sB)
 obtain ⟨_, _, hx2, _, hN2⟩ := (hN.alloc (.cells #[.slice B3 l1 d3, .slice B4 l1 d4, .slice B5 n2 d5, .slice B6 n2 d6] 29)).row sN
 obtain ⟨_, _, hx3, _, hO2⟩ := (hO.alloc (.cells #[.slice B3 l1 d3, .slice B4 l1 d4, .slice B5 n2 d5, .slice B6 n2 d6] 29)).row sO
 rw [hn] at hx2 hN2
 rw [← hn2] at hx3 hO2
 simp only [Value.slice.injEq, true_and] at hx2 hx3
 obtain ⟨rfl, rfl⟩ := hx2
 obtain ⟨rfl, rfl⟩ := hx3
 have KN2 := Lib.hid hN2
 have KO2 := Lib.hid hO2
 have Kgl8 := Lib.hid (Nat.lt_of_lt_of_le Kgl.out hb8.size)
 have Kc1 := Lib.hid (packed_cells (KA.out.below hb8 KA.out.lt))
 have Kv0 := Lib.hid (own_row (Ki.out.below hb8) Ks.out.1.1)
 have Kv1 := Lib.hid (own_row (Kbs.out.below hb8) Ks.out.1.2)
 obtain ⟨_, _, hx2, _, hN1⟩ := (Kn.out.below hb8).row Ks.out.2.1
 obtain ⟨_, _, hx3, _, hO1⟩ := (Ko.out.below hb8).row Ks.out.2.2
 rw [Kl.out.1] at hx2 hN1
 rw [← Kl.out.2] at hx3 hO1
 simp only [Value.slice.injEq, true_and] at hx2 hx3
 obtain ⟨rfl, rfl⟩ := hx2
 obtain ⟨rfl, rfl⟩ := hx3
 have KN1 := Lib.hid hN1
 have KO1 := Lib.hid hO1
 have Kb8 := Lib.hid (Kb4.out.trans (below_le hb8 Kb4.out.size))
 obtain ⟨X, hX⟩ : ∃ X, X = w7.alloc (.cells #[.slice B3 l1 d3, .slice B4 l1 d4, .slice B5 n2 d5, .slice B6 n2 d6] 29) := ⟨_, rfl⟩
 rw [← hX] at Kg2 Kc2 Ku0 Ku1 KN2 KO2 Kgl8 Kc1 Kv0 Kv1 KN1 KO1 Kb8
 have KX := Lib.hid hX
 have hgp := Kgl8.out
 have hgq := Kg2.out
 have Kln := Lib.hid (And.intro hn hn2)
 have Kl1 := Lib.hid hl1
 have e0 : (Tb.idsI (R ++ [M])).length = l1 := by rw [Tb.idsI_length, hl1]
 have e1 : (Tb.base (R ++ [M])).length = l1 := by rw [Tb.base_length, hl1]
 have k0 := Ku0.out
 have k1 := Ku1.out
 rw [← e0] at k0
 rw [← e1] at k1
 have k0 := row_cut k0 R.length (by rw [e0]; omega)
 have k1 := row_cut k1 R.length (by rw [e1]; omega)
 rw [← idsI_more] at k0
 rw [← base_more] at k1
 have Kx0 := Lib.hid k0
 have Kx1 := Lib.hid k1
 have Kcut := Lib.hid (And.intro (fun wx => cut_hi B3 l1 R.length d3 (by omega) wx) (fun wx => cut_hi B4 l1 R.length d4 (by omega) wx))
 have Kcm := Lib.hid (cells_more R M)
 clear hPk hI hB hN hO hA hn hn2 hn3 hsh sI sB sN sO hb7 hb8 hN2 hO2 hN1 hO1 hl1 hX Kpk2 KA Ki Kbs Kn Ko KR4 Krows Kb4 Kb6 KRV KRVl KSm KS KM KT KP hT0 hj hy0 hy1 hy2 Kgl8 Kg2 Kgl Ks e0 e1 k0 k1 hca hcb Ku0 Ku1
 go_wp2_with fail
 rw [← KX.out]
 obtain ⟨p0, p1, p2, p3⟩ := Kc1.out
 obtain ⟨r0, r1, r2, r3⟩ := Kc2.out
 have hq1 : (R.length : Int) + 1 = (l1 : Int) := by omega
 have hq2 : IntKind.i64.wrap ((R.length : Int) + 1) = (l1 : Int) := by rw [hq1]; exact IntWalk.i64_in _ (by omega)
 have hq5 : IntKind.i64.wrap (l1 : Int) = (l1 : Int) := IntWalk.i64_in _ (by omega)
 have hq3 : decide ((n2 : Int) < (n : Int)) = false := decide_eq_false (by omega)
 have hq4 : decide (n2 < n) = false := decide_eq_false (by omega)
 have hz0 : Below X.heap.size X X.drew := below_drew (Below.refl _ _)
 refine Zed.begin_ (fun w' => Below X.heap.size X w') [] (by kernel_rfl) ?_
 refine Zed.pureD (i := 0) (d := some 35) (v := ?vz0) rfl rfl (by kernel_rfl) (by kernel_rfl) (by kernel_rfl) (by kernel_rfl) (by kernel_rfl) (fun _ _ _ h => h) (Or.inl ⟨by kernel_rfl, ?hyz0⟩) (.inr hz0) ?restz0
 case hyz0 => (intro w _; go_simp; try with_reducible rfl)
 try simp only [Act.put, List.setIfInBounds_toArray, List.set_cons_zero, List.set_cons_succ]
 refine Zed.takeD (i := 1) (d := some 36) (v := ?vz1) rfl rfl (by kernel_rfl) (by kernel_rfl) (by kernel_rfl) (by kernel_rfl) (by kernel_rfl) (fun _ _ _ h => h) (Or.inl ⟨by kernel_rfl, ?hyz1⟩) hz0 ?restz1
 case hyz1 => (intro w hSw; (try dsimp only at hSw); have hc := (hSw.cell (p := ⟨w7.heap.size, 1, none⟩) hgq).trans r1; go_simp; try with_reducible rfl)
 try simp only [Act.put, List.setIfInBounds_toArray, List.set_cons_zero, List.set_cons_succ]
 refine Zed.pureD (i := 2) (d := some 37) (v := ?vz2) rfl rfl (by kernel_rfl) (by kernel_rfl) (by kernel_rfl) (by kernel_rfl) (by kernel_rfl) (fun _ _ _ h => h) (Or.inl ⟨by kernel_rfl, ?hyz2⟩) (.inr hz0) ?restz2
 case hyz2 => (intro w _; go_simp; try with_reducible rfl)
 try simp only [Act.put, List.setIfInBounds_toArray, List.set_cons_zero, List.set_cons_succ]
 refine Zed.pureD (i := 3) (d := some 38) (v := ?vz3) rfl rfl (by kernel_rfl) (by kernel_rfl) (by kernel_rfl) (by kernel_rfl) (by kernel_rfl) (fun _ _ _ h => h) (Or.inl ⟨by kernel_rfl, ?hyz3⟩) (.inr hz0) ?restz3
 case hyz3 => (intro w _; go_simp; try with_reducible rfl)
 try simp only [Act.put, List.setIfInBounds_toArray, List.set_cons_zero, List.set_cons_succ]
 refine Zed.pureD (i := 4) (d := some 39) (v := ?vz4) rfl rfl (by kernel_rfl) (by kernel_rfl) (by kernel_rfl) (by kernel_rfl) (by kernel_rfl) (fun _ _ _ h => h) (Or.inl ⟨by kernel_rfl, ?hyz4⟩) (.inr hz0) ?restz4
 case hyz4 => (intro w _; go_simp; try with_reducible rfl)
 try simp only [Act.put, List.setIfInBounds_toArray, List.set_cons_zero, List.set_cons_succ]
 refine Zed.pureD (i := 5) (d := some 40) (v := ?vz5) rfl rfl (by kernel_rfl) (by kernel_rfl) (by kernel_rfl) (by kernel_rfl) (by kernel_rfl) (fun _ _ _ h => h) (Or.inl ⟨by kernel_rfl, ?hyz5⟩) (.inr hz0) ?restz5
 case hyz5 => (intro w _; go_simp; try with_reducible rfl)
 try simp only [Act.put, List.setIfInBounds_toArray, List.set_cons_zero, List.set_cons_succ]
 refine Zed.pureD (i := 6) (d := some 41) (v := ?vz6) rfl rfl (by kernel_rfl) (by kernel_rfl) (by kernel_rfl) (by kernel_rfl) (by kernel_rfl) (fun _ _ _ h => h) (Or.inl ⟨by kernel_rfl, ?hyz6⟩) (.inr hz0) ?restz6
 case hyz6 => (intro w _; go_simp; try with_reducible rfl)
 try simp only [Act.put, List.setIfInBounds_toArray, List.set_cons_zero, List.set_cons_succ]
 refine Zed.pureD (i := 7) (d := some 42) (v := ?vz7) rfl rfl (by kernel_rfl) (by kernel_rfl) (by kernel_rfl) (by kernel_rfl) (by kernel_rfl) (fun _ _ _ h => h) (Or.inl ⟨by kernel_rfl, ?hyz7⟩) (.inr hz0) ?restz7
 case hyz7 => (intro w _; go_simp; try with_reducible rfl)
 try simp only [Act.put, List.setIfInBounds_toArray, List.set_cons_zero, List.set_cons_succ]
 refine Zed.pureD (i := 8) (d := some 43) (v := ?vz8) rfl rfl (by kernel_rfl) (by kernel_rfl) (by kernel_rfl) (by kernel_rfl) (by kernel_rfl) (fun _ _ _ h => h) (Or.inl ⟨by kernel_rfl, ?hyz8⟩) (.inr hz0) ?restz8
 case hyz8 => (intro w _; go_simp; try with_reducible rfl)
 try simp only [Act.put, List.setIfInBounds_toArray, List.set_cons_zero, List.set_cons_succ]
 refine Zed.takeD (i := 9) (d := some 44) (v := ?vz9) rfl rfl (by kernel_rfl) (by kernel_rfl) (by kernel_rfl) (by kernel_rfl) (by kernel_rfl) (fun _ _ _ h => h) (Or.inl ⟨by kernel_rfl, ?hyz9⟩) hz0 ?restz9
 case hyz9 => (intro w hSw; (try dsimp only at hSw); have hc := (hSw.cell (p := ⟨w4.heap.size, 1, none⟩) hgp).trans p1; go_simp; try with_reducible rfl)
 try simp only [Act.put, List.setIfInBounds_toArray, List.set_cons_zero, List.set_cons_succ]
 refine Zed.pureD (i := 10) (d := some 45) (v := ?vz10) rfl rfl (by kernel_rfl) (by kernel_rfl) (by kernel_rfl) (by kernel_rfl) (by kernel_rfl) (fun _ _ _ h => h) (Or.inl ⟨by kernel_rfl, ?hyz10⟩) (.inr hz0) ?restz10
 case hyz10 => (intro w _; go_simp; try with_reducible rfl)
 try simp only [Act.put, List.setIfInBounds_toArray, List.set_cons_zero, List.set_cons_succ]
 refine Zed.pureD (i := 11) (d := some 46) (v := ?vz11) rfl rfl (by kernel_rfl) (by kernel_rfl) (by kernel_rfl) (by kernel_rfl) (by kernel_rfl) (fun _ _ _ h => h) (Or.inl ⟨by kernel_rfl, ?hyz11⟩) (.inr hz0) ?restz11
 case hyz11 => (intro w _; go_simp; try with_reducible rfl)
 try simp only [Act.put, List.setIfInBounds_toArray, List.set_cons_zero, List.set_cons_succ]
 refine Zed.pureD (i := 12) (d := some 47) (v := ?vz12) rfl rfl (by kernel_rfl) (by kernel_rfl) (by kernel_rfl) (by kernel_rfl) (by kernel_rfl) (fun _ _ _ h => h) (Or.inl ⟨by kernel_rfl, ?hyz12⟩) (.inr hz0) ?restz12
 case hyz12 => (intro w _; go_simp; try with_reducible rfl)
 try simp only [Act.put, List.setIfInBounds_toArray, List.set_cons_zero, List.set_cons_succ]
 refine Zed.pureD (i := 13) (d := some 48) (v := ?vz13) rfl rfl (by kernel_rfl) (by kernel_rfl) (by kernel_rfl) (by kernel_rfl) (by kernel_rfl) (fun _ _ _ h => h) (Or.inl ⟨by kernel_rfl, ?hyz13⟩) (.inr hz0) ?restz13
 case hyz13 => (intro w _; go_simp; try with_reducible rfl)
 try simp only [Act.put, List.setIfInBounds_toArray, List.set_cons_zero, List.set_cons_succ]
 refine Zed.pureD (i := 14) (d := some 49) (v := ?vz14) rfl rfl (by kernel_rfl) (by kernel_rfl) (by kernel_rfl) (by kernel_rfl) (by kernel_rfl) (fun _ _ _ h => h) (Or.inl ⟨by kernel_rfl, ?hyz14⟩) (.inr hz0) ?restz14
 case hyz14 => (intro w _; go_simp; try with_reducible rfl)
 try simp only [Act.put, List.setIfInBounds_toArray, List.set_cons_zero, List.set_cons_succ]
 refine Zed.pureD (i := 15) (d := some 50) (v := ?vz15) rfl rfl (by kernel_rfl) (by kernel_rfl) (by kernel_rfl) (by kernel_rfl) (by kernel_rfl) (fun _ _ _ h => h) (Or.inl ⟨by kernel_rfl, ?hyz15⟩) (.inr hz0) ?restz15
 case hyz15 => (intro w _; go_simp; try with_reducible rfl)
 try simp only [Act.put, List.setIfInBounds_toArray, List.set_cons_zero, List.set_cons_succ]
 refine Zed.takeD (i := 16) (d := some 51) (v := ?vz16) rfl rfl (by kernel_rfl) (by kernel_rfl) (by kernel_rfl) (by kernel_rfl) (by kernel_rfl) (fun _ _ _ h => h) (Or.inl ⟨by kernel_rfl, ?hyz16⟩) hz0 ?restz16
 case hyz16 => (intro w hSw; (try dsimp only at hSw); have hc0 := (hSw.cell (p := ⟨w7.heap.size, 0, none⟩) hgq).trans r0; have hc1 := (hSw.cell (p := ⟨w7.heap.size, 1, none⟩) hgq).trans r1; have hc2 := (hSw.cell (p := ⟨w7.heap.size, 2, none⟩) hgq).trans r2; have hc3 := (hSw.cell (p := ⟨w7.heap.size, 3, none⟩) hgq).trans r3; go_simp; try with_reducible rfl)
 try simp only [Act.put, List.setIfInBounds_toArray, List.set_cons_zero, List.set_cons_succ]
 refine Zed.takeD (i := 18) (d := some 53) (v := ?vz18) rfl rfl (by kernel_rfl) (by kernel_rfl) (by kernel_rfl) (by kernel_rfl) (by kernel_rfl) (fun _ _ _ h => h) (Or.inl ⟨by kernel_rfl, ?hyz18⟩) hz0 ?restz18
 case hyz18 => (intro w hSw; (try dsimp only at hSw); have hc0 := (hSw.cell (p := ⟨w4.heap.size, 0, none⟩) hgp).trans p0; have hc1 := (hSw.cell (p := ⟨w4.heap.size, 1, none⟩) hgp).trans p1; have hc2 := (hSw.cell (p := ⟨w4.heap.size, 2, none⟩) hgp).trans p2; have hc3 := (hSw.cell (p := ⟨w4.heap.size, 3, none⟩) hgp).trans p3; go_simp; try with_reducible rfl)
 try simp only [Act.put, List.setIfInBounds_toArray, List.set_cons_zero, List.set_cons_succ]
 have hcall := cells_any (.slice B3 l1 d3) (.slice B4 l1 d4) (.slice B5 n2 d5) (.slice B6 n2 d6) n2 d5 B5 rfl X.drew
 refine Zed.callD (i := 17) (d := some 52) (fn := 16) (vs := #[.agg #[.slice B3 l1 d3, .slice B4 l1 d4, .slice B5 n2 d5, .slice B6 n2 d6]]) (by kernel_rfl) rfl rfl (by kernel_rfl) ?hrun17 hcall ?_
 case hrun17 => kernel_rfl
 clear hcall
 rintro e wz ⟨rfl, hbz⟩
 have hz1 := hz0.trans (below_le hbz hz0.size)
 clear hbz
 refine ⟨_, rfl, hz1, ?_⟩
 try simp only [Act.put, List.setIfInBounds_toArray, List.set_cons_zero, List.set_cons_succ]
 have hcall := cells_any (.slice A3 R.length c3) (.slice A4 R.length c4) (.slice A5 n c5) (.slice A6 n c6) n c5 A5 rfl wz
 refine Zed.callD (i := 19) (d := some 54) (fn := 16) (vs := #[.agg #[.slice A3 R.length c3, .slice A4 R.length c4, .slice A5 n c5, .slice A6 n c6]]) (by kernel_rfl) rfl rfl (by kernel_rfl) ?hrun19 hcall ?_
 case hrun19 => kernel_rfl
 clear hcall
 rintro e wz ⟨rfl, hbz⟩
 have hz2 := hz1.trans (below_le hbz hz1.size)
 clear hbz
 refine ⟨_, rfl, hz2, ?_⟩
 try simp only [Act.put, List.setIfInBounds_toArray, List.set_cons_zero, List.set_cons_succ]
 refine Zed.pureD (i := 20) (d := some 55) (v := ?vz20) rfl rfl (by kernel_rfl) (by kernel_rfl) (by kernel_rfl) (by kernel_rfl) (by kernel_rfl) (fun _ _ _ h => h) (Or.inl ⟨by kernel_rfl, ?hyz20⟩) (.inr hz2) ?restz20
 case hyz20 => (intro w _; go_simp; try with_reducible rfl)
 try simp only [Act.put, List.setIfInBounds_toArray, List.set_cons_zero, List.set_cons_succ]
 refine Zed.pureD (i := 21) (d := some 56) (v := ?vz21) rfl rfl (by kernel_rfl) (by kernel_rfl) (by kernel_rfl) (by kernel_rfl) (by kernel_rfl) (fun _ _ _ h => h) (Or.inl ⟨by kernel_rfl, ?hyz21⟩) (.inr hz2) ?restz21
 case hyz21 => (intro w _; go_simp; try with_reducible rfl)
 try simp only [Act.put, List.setIfInBounds_toArray, List.set_cons_zero, List.set_cons_succ]
 refine Zed.all (by kernel_rfl) ?_ _
 clear p0 p1 p2 p3 r0 r1 r2 r3 hq1 hq2 hq3 hq4 hq5
 go_wp2_with fail
 go_loopg [9] n (fun q t9 wr => ∃ i : Nat, t9 = .int .i64 (i : Int) ∧ i ≤ n ∧ q = n - i ∧ Below X.heap.size X wr)
 case atStart => exact ⟨0, rfl, by omega, by omega, hz2⟩
 case round =>
  obtain ⟨i, rfl, hi, hq, hb⟩ := hrel
  have Kb := Lib.hid hb
  have Kq := Lib.hid hq
  clear hb hq
  by_cases hlt : i < n
  ·obtain ⟨bo, oo, rfl, hbo, c0⟩ := KO1.out.each i hlt
   have p2 := (Kb.out.cell (p := ⟨w4.heap.size, 2, none⟩) hgp).trans Kc1.out.2.2.1
   have p3 := (Kb.out.cell (p := ⟨w4.heap.size, 3, none⟩) hgp).trans Kc1.out.2.2.2
   have c0 := (Kb.out.cell (p := ⟨bo, oo + i, none⟩) hbo).trans c0
   have hcm := Kcm.out i
   obtain ⟨y, hy⟩ : ∃ y, (Tb.pack (Tb.outs R)).ow.getD i 0 = y := ⟨_, rfl⟩
   rw [hy] at c0 hcm
   have q1 : (0 : Int) ≤ (i : Int) := by omega
   have q2 : (i : Int) < (n : Int) := by omega
   have q3 : ((i : Int)).toNat = i := by omega
   clear hy
   by_cases hz : y = 0
   ·subst hz
    clear hcm
    go_wp2_with fail
    go_quiet (fail)
    go_wp2_with fail
    go_roundg (n - (i + 1))
    case measure => have := Kq.out; omega
    case rel => exact ⟨i + 1, by go_num, by omega, rfl, below_drewN Kb.out _⟩
   ·obtain ⟨hm1, hm2⟩ := hcm hz
    obtain ⟨b1, o1, rfl, hb1, c1⟩ := KN1.out.each i hlt
    obtain ⟨b2, o2, rfl, hb2, c2⟩ := KN2.out.each i (by omega)
    obtain ⟨b3, o3, rfl, hb3, c3'⟩ := KO2.out.each i (by omega)
    rw [hm2] at c2
    rw [hm1] at c3'
    obtain ⟨x, hx⟩ : ∃ x, (Tb.pack (Tb.outs R)).nx.getD i 0 = x := ⟨_, rfl⟩
    rw [hx] at c1 c2
    have r2 := (Kb.out.cell (p := ⟨w7.heap.size, 2, none⟩) hgq).trans Kc2.out.2.2.1
    have r3 := (Kb.out.cell (p := ⟨w7.heap.size, 3, none⟩) hgq).trans Kc2.out.2.2.2
    have c1 := (Kb.out.cell (p := ⟨b1, o1 + i, none⟩) hb1).trans c1
    have c2 := (Kb.out.cell (p := ⟨b2, o2 + i, none⟩) hb2).trans c2
    have c3' := (Kb.out.cell (p := ⟨b3, o3 + i, none⟩) hb3).trans c3'
    have q4 : (i : Int) < (n2 : Int) := by omega
    have z1 : (y == 0) = false := by simpa using hz
    have z2 : (y != 0) = true := by simpa using hz
    clear hm1 hm2 hx hcm
    go_wp2_with fail
    go_quiet (fail)
    go_wp2_with fail
    go_roundg (n - (i + 1))
    case measure => have := Kq.out; omega
    case rel => exact ⟨i + 1, by go_num, by omega, rfl, below_drewN Kb.out _⟩
  ·obtain rfl : i = n := by omega
   have hz0 := below_drew Kb.out
   have s2 := (Kb.out.cell (p := ⟨w4.heap.size, 2, none⟩) hgp).trans Kc1.out.2.2.1
   go_wp2_with fail
   clear s2
   obtain ⟨p0, p1, p2, p3⟩ := Kc1.out
   obtain ⟨r0, r1, r2, r3⟩ := Kc2.out
   obtain ⟨cut0, cut1⟩ := Kcut.out
   refine Zed.begin_ (fun w' => Below X.heap.size X w') [] (by kernel_rfl) ?_
   refine Zed.pureD (i := 0) (d := some 96) (v := ?vy0) rfl rfl (by kernel_rfl) (by kernel_rfl) (by kernel_rfl) (by kernel_rfl) (by kernel_rfl) (fun _ _ _ h => h) (Or.inl ⟨by kernel_rfl, ?hyy0⟩) (.inr hz0) ?resty0
   case hyy0 => (intro w _; go_simp; try with_reducible rfl)
   try simp only [Act.put, List.setIfInBounds_toArray, List.set_cons_zero, List.set_cons_succ]
   refine Zed.pureD (i := 1) (d := some 97) (v := ?vy1) rfl rfl (by kernel_rfl) (by kernel_rfl) (by kernel_rfl) (by kernel_rfl) (by kernel_rfl) (fun _ _ _ h => h) (Or.inl ⟨by kernel_rfl, ?hyy1⟩) (.inr hz0) ?resty1
   case hyy1 => (intro w _; go_simp; try with_reducible rfl)
   try simp only [Act.put, List.setIfInBounds_toArray, List.set_cons_zero, List.set_cons_succ]
   refine Zed.pureD (i := 2) (d := some 98) (v := ?vy2) rfl rfl (by kernel_rfl) (by kernel_rfl) (by kernel_rfl) (by kernel_rfl) (by kernel_rfl) (fun _ _ _ h => h) (Or.inl ⟨by kernel_rfl, ?hyy2⟩) (.inr hz0) ?resty2
   case hyy2 => (intro w _; go_simp; try with_reducible rfl)
   try simp only [Act.put, List.setIfInBounds_toArray, List.set_cons_zero, List.set_cons_succ]
   refine Zed.takeD (i := 3) (d := some 99) (v := ?vy3) rfl rfl (by kernel_rfl) (by kernel_rfl) (by kernel_rfl) (by kernel_rfl) (by kernel_rfl) (fun _ _ _ h => h) (Or.inl ⟨by kernel_rfl, ?hyy3⟩) hz0 ?resty3
   case hyy3 => (intro w hSw; (try dsimp only at hSw); have hc := (hSw.cell (p := ⟨w4.heap.size, 1, none⟩) hgp).trans p1; go_simp; try with_reducible rfl)
   try simp only [Act.put, List.setIfInBounds_toArray, List.set_cons_zero, List.set_cons_succ]
   refine Zed.pureD (i := 4) (d := some 100) (v := ?vy4) rfl rfl (by kernel_rfl) (by kernel_rfl) (by kernel_rfl) (by kernel_rfl) (by kernel_rfl) (fun _ _ _ h => h) (Or.inl ⟨by kernel_rfl, ?hyy4⟩) (.inr hz0) ?resty4
   case hyy4 => (intro w _; go_simp; try with_reducible rfl)
   try simp only [Act.put, List.setIfInBounds_toArray, List.set_cons_zero, List.set_cons_succ]
   refine Zed.takeD (i := 5) (d := some 101) (v := ?vy5) rfl rfl (by kernel_rfl) (by kernel_rfl) (by kernel_rfl) (by kernel_rfl) (by kernel_rfl) (fun _ _ _ h => h) (Or.inl ⟨by kernel_rfl, ?hyy5⟩) hz0 ?resty5
   case hyy5 => (intro w hSw; (try dsimp only at hSw); have hc := (hSw.cell (p := ⟨w7.heap.size, 1, none⟩) hgq).trans r1; go_simp; try with_reducible rfl)
   try simp only [Act.put, List.setIfInBounds_toArray, List.set_cons_zero, List.set_cons_succ]
   refine Zed.pureD (i := 6) (d := some 102) (v := ?vy6) rfl rfl (by kernel_rfl) (by kernel_rfl) (by kernel_rfl) (by kernel_rfl) (by kernel_rfl) (fun _ _ _ h => h) (Or.inl ⟨by kernel_rfl, ?hyy6⟩) (.inr hz0) ?resty6
   case hyy6 => (intro w _; go_simp; try with_reducible rfl)
   try simp only [Act.put, List.setIfInBounds_toArray, List.set_cons_zero, List.set_cons_succ]
   refine Zed.pureD (i := 7) (d := some 103) (v := ?vy7) rfl rfl (by kernel_rfl) (by kernel_rfl) (by kernel_rfl) (by kernel_rfl) (by kernel_rfl) (fun _ _ _ h => h) (Or.inl ⟨by kernel_rfl, ?hyy7⟩) (.inr hz0) ?resty7
   case hyy7 => (intro w _; go_simp; try with_reducible rfl)
   try simp only [Act.put, List.setIfInBounds_toArray, List.set_cons_zero, List.set_cons_succ]
   refine Zed.pureD (i := 8) (d := some 104) (v := ?vy8) rfl rfl (by kernel_rfl) (by kernel_rfl) (by kernel_rfl) (by kernel_rfl) (by kernel_rfl) (fun _ _ _ h => h) (Or.inl ⟨by kernel_rfl, ?hyy8⟩) (.inr hz0) ?resty8
   case hyy8 => (intro w _; go_simp; try with_reducible rfl)
   try simp only [Act.put, List.setIfInBounds_toArray, List.set_cons_zero, List.set_cons_succ]
   have hcall := ints_says _ _ (Tb.base R) (Tb.base R) _ (Kv1.out.below hz0) (Kx1.out.below hz0)
   rw [decide_eq_true rfl] at hcall
   refine Zed.callD (i := 9) (d := some 105) (fn := 14) (vs := #[.slice A4 R.length c4, .slice B4 R.length d4]) (by kernel_rfl) rfl rfl (by kernel_rfl) ?hrun9 hcall ?_
   case hrun9 => kernel_rfl
   clear hcall
   rintro e wz ⟨rfl, kz, hwz⟩
   have hz1 : Below X.heap.size X wz := by rw [hwz]; exact below_drewN hz0 kz
   clear hwz
   refine ⟨_, rfl, hz1, ?_⟩
   try simp only [Act.put, List.setIfInBounds_toArray, List.set_cons_zero, List.set_cons_succ]
   refine Zed.pureD (i := 10) (d := some 106) (v := ?vy10) rfl rfl (by kernel_rfl) (by kernel_rfl) (by kernel_rfl) (by kernel_rfl) (by kernel_rfl) (fun _ _ _ h => h) (Or.inl ⟨by kernel_rfl, ?hyy10⟩) (.inr hz1) ?resty10
   case hyy10 => (intro w _; go_simp; try with_reducible rfl)
   try simp only [Act.put, List.setIfInBounds_toArray, List.set_cons_zero, List.set_cons_succ]
   refine Zed.pureD (i := 11) (d := some 107) (v := ?vy11) rfl rfl (by kernel_rfl) (by kernel_rfl) (by kernel_rfl) (by kernel_rfl) (by kernel_rfl) (fun _ _ _ h => h) (Or.inl ⟨by kernel_rfl, ?hyy11⟩) (.inr hz1) ?resty11
   case hyy11 => (intro w _; go_simp; try with_reducible rfl)
   try simp only [Act.put, List.setIfInBounds_toArray, List.set_cons_zero, List.set_cons_succ]
   refine Zed.pureD (i := 12) (d := some 108) (v := ?vy12) rfl rfl (by kernel_rfl) (by kernel_rfl) (by kernel_rfl) (by kernel_rfl) (by kernel_rfl) (fun _ _ _ h => h) (Or.inl ⟨by kernel_rfl, ?hyy12⟩) (.inr hz1) ?resty12
   case hyy12 => (intro w _; go_simp; try with_reducible rfl)
   try simp only [Act.put, List.setIfInBounds_toArray, List.set_cons_zero, List.set_cons_succ]
   refine Zed.takeD (i := 13) (d := some 109) (v := ?vy13) rfl rfl (by kernel_rfl) (by kernel_rfl) (by kernel_rfl) (by kernel_rfl) (by kernel_rfl) (fun _ _ _ h => h) (Or.inl ⟨by kernel_rfl, ?hyy13⟩) hz1 ?resty13
   case hyy13 => (intro w hSw; (try dsimp only at hSw); have hc := (hSw.cell (p := ⟨w4.heap.size, 0, none⟩) hgp).trans p0; go_simp; try with_reducible rfl)
   try simp only [Act.put, List.setIfInBounds_toArray, List.set_cons_zero, List.set_cons_succ]
   refine Zed.pureD (i := 14) (d := some 110) (v := ?vy14) rfl rfl (by kernel_rfl) (by kernel_rfl) (by kernel_rfl) (by kernel_rfl) (by kernel_rfl) (fun _ _ _ h => h) (Or.inl ⟨by kernel_rfl, ?hyy14⟩) (.inr hz1) ?resty14
   case hyy14 => (intro w _; go_simp; try with_reducible rfl)
   try simp only [Act.put, List.setIfInBounds_toArray, List.set_cons_zero, List.set_cons_succ]
   refine Zed.takeD (i := 15) (d := some 111) (v := ?vy15) rfl rfl (by kernel_rfl) (by kernel_rfl) (by kernel_rfl) (by kernel_rfl) (by kernel_rfl) (fun _ _ _ h => h) (Or.inl ⟨by kernel_rfl, ?hyy15⟩) hz1 ?resty15
   case hyy15 => (intro w hSw; (try dsimp only at hSw); have hc := (hSw.cell (p := ⟨w7.heap.size, 0, none⟩) hgq).trans r0; go_simp; try with_reducible rfl)
   try simp only [Act.put, List.setIfInBounds_toArray, List.set_cons_zero, List.set_cons_succ]
   refine Zed.pureD (i := 16) (d := some 112) (v := ?vy16) rfl rfl (by kernel_rfl) (by kernel_rfl) (by kernel_rfl) (by kernel_rfl) (by kernel_rfl) (fun _ _ _ h => h) (Or.inl ⟨by kernel_rfl, ?hyy16⟩) (.inr hz1) ?resty16
   case hyy16 => (intro w _; go_simp; try with_reducible rfl)
   try simp only [Act.put, List.setIfInBounds_toArray, List.set_cons_zero, List.set_cons_succ]
   refine Zed.pureD (i := 17) (d := some 113) (v := ?vy17) rfl rfl (by kernel_rfl) (by kernel_rfl) (by kernel_rfl) (by kernel_rfl) (by kernel_rfl) (fun _ _ _ h => h) (Or.inl ⟨by kernel_rfl, ?hyy17⟩) (.inr hz1) ?resty17
   case hyy17 => (intro w _; go_simp; try with_reducible rfl)
   try simp only [Act.put, List.setIfInBounds_toArray, List.set_cons_zero, List.set_cons_succ]
   refine Zed.pureD (i := 18) (d := some 114) (v := ?vy18) rfl rfl (by kernel_rfl) (by kernel_rfl) (by kernel_rfl) (by kernel_rfl) (by kernel_rfl) (fun _ _ _ h => h) (Or.inl ⟨by kernel_rfl, ?hyy18⟩) (.inr hz1) ?resty18
   case hyy18 => (intro w _; go_simp; try with_reducible rfl)
   try simp only [Act.put, List.setIfInBounds_toArray, List.set_cons_zero, List.set_cons_succ]
   have hcall := ints_says _ _ (Tb.idsI R) (Tb.idsI R) _ (Kv0.out.below hz1) (Kx0.out.below hz1)
   rw [decide_eq_true rfl] at hcall
   refine Zed.callD (i := 19) (d := some 115) (fn := 14) (vs := #[.slice A3 R.length c3, .slice B3 R.length d3]) (by kernel_rfl) rfl rfl (by kernel_rfl) ?hrun19 hcall ?_
   case hrun19 => kernel_rfl
   clear hcall
   rintro e wz ⟨rfl, kz, hwz⟩
   have hz2 : Below X.heap.size X wz := by rw [hwz]; exact below_drewN hz1 kz
   clear hwz
   refine ⟨_, rfl, hz2, ?_⟩
   try simp only [Act.put, List.setIfInBounds_toArray, List.set_cons_zero, List.set_cons_succ]
   refine Zed.pureD (i := 20) (d := some 116) (v := ?vy20) rfl rfl (by kernel_rfl) (by kernel_rfl) (by kernel_rfl) (by kernel_rfl) (by kernel_rfl) (fun _ _ _ h => h) (Or.inl ⟨by kernel_rfl, ?hyy20⟩) (.inr hz2) ?resty20
   case hyy20 => (intro w _; go_simp; try with_reducible rfl)
   try simp only [Act.put, List.setIfInBounds_toArray, List.set_cons_zero, List.set_cons_succ]
   refine Zed.pureD (i := 21) (d := some 4) (v := ?vy21) rfl rfl (by kernel_rfl) (by kernel_rfl) (by kernel_rfl) (by kernel_rfl) (by kernel_rfl) (fun _ _ _ h => h) (Or.inl ⟨by kernel_rfl, ?hyy21⟩) (.inr hz2) ?resty21
   case hyy21 => (intro w _; go_simp; try with_reducible rfl)
   try simp only [Act.put, List.setIfInBounds_toArray, List.set_cons_zero, List.set_cons_succ]
   refine Zed.all (by kernel_rfl) ?_ _
   first
    | (go_wp2_with fail; go_ret; exact ⟨rfl, Kb8.out.trans (below_le hz2 Kb8.out.size)⟩)
    | (go_simp; go_wp2_with fail; go_ret; exact ⟨rfl, Kb8.out.trans (below_le hz2 Kb8.out.size)⟩)
    | (simp only [Act.put, List.setIfInBounds_toArray, List.set_cons_zero, List.set_cons_succ]; go_ret; exact ⟨rfl, Kb8.out.trans (below_le hz2 Kb8.out.size)⟩)
    | (go_ret; exact ⟨rfl, Kb8.out.trans (below_le hz2 Kb8.out.size)⟩)
end Go.Proofs.YtjcijffhcmbhnaaDoor
