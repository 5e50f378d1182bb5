import Derived.Test.YtjcijffhcmbhnaaDoorTbR
import Derived.Test.YtjcijffhcmbhnaaDoorTbU
namespace Go.Proofs.YtjcijffhcmbhnaaDoor
set_option maxRecDepth 100000
open Go.ChangeShapes Go.WideShapes Go.ChangeAt Go.RowKit
open BitKit
set_option linter.unusedVariables false
set_option linter.unusedSimpArgs false
theorem u8_wf {n : Int} (h : (Lit.int .u8 n).wf = true) : 0 ≤ n ∧ n ≤ 255 := by
 simpa [Lit.wf, IntKind.min, IntKind.max, IntKind.signed, IntKind.bits] using h
structure Bytes8 (w : World) (B : Nat) (A : Option Addr) (n : Nat) (X : Nat → Nat) : Prop where
 each : ∀ i, i < n → ∃ b o, A = some ⟨b, o, none⟩ ∧ b < B ∧ w.cell? ⟨b, o + i, none⟩ = some (.int .u8 (X i : Int))
 rx : ∀ i, i < n → X i ≤ 255
 len : n ≤ 9223372036854775807
theorem Bytes8.below {w w' : World} {B : Nat} {A : Option Addr} {n : Nat} {X : Nat → Nat} (h : Bytes8 w B A n X) (hb : Below B w w') : Bytes8 w' B A n X :=
 ⟨fun i hi => by
  obtain ⟨b, o, h1, h2, h3⟩ := h.each i hi
  exact ⟨b, o, h1, h2, (hb.cell (p := ⟨b, _, none⟩) h2).trans h3⟩, h.rx, h.len⟩
section
variable {H : Type} {enc : TypeId × Value → H} {P : Program} {W : World} {base : Nat} {v : Value} {d : DataW H} {p : List MemPlace}
theorem open_u8s {t e : TypeId} (ht : P.underlying t = some (.slice e)) (he : P.underlying e = some (.int .u8)) (ce : P.cellsOf e = 1)
  (hv : Value.okWide P W .any base t v) (h : DataW.Trod enc P W 0 (fun _ => true) true t v d p) :
  ∃ A n c X, v = .slice A n c ∧ Bytes8 W W.heap.size A n X := by
 obtain ⟨A, n, c, rfl⟩ := okWide_slice ht hv
 obtain ⟨fuel, hf⟩ := h
 rcases Go.Deep.open_slice1 ht ce hf with ⟨hcs, _⟩ | ⟨a, len, cap, m, k, V, D, Pl, hcs, hb, hl, hm, hmm, hx, hi⟩
 ·simp [Value.cells] at hcs
  obtain ⟨rfl, rfl, rfl⟩ := hcs
  exact ⟨_, _, _, fun _ => 0, rfl, fun i hi => by omega, fun i hi => by omega, by omega⟩
 ·simp [Value.cells] at hcs
  obtain ⟨rfl, rfl, rfl⟩ := hcs
  have hlm : n ≤ m := by rw [hmm]; split <;> omega
  have hread : ∀ i, i < n → ∃ x : Nat, V i = .int .u8 (x : Int) ∧ x ≤ 255 := by
   intro i hin
   obtain ⟨_, t0⟩ := hi i (by omega)
   obtain ⟨x0, e0, _, w0⟩ := DataW.trod_int he t0
   simp at e0
   have := u8_wf w0
   exact ⟨x0.toNat, by rw [e0]; congr 1; omega, by omega⟩
  obtain ⟨Z, hZ⟩ := Go.Deep.choose_lt hread
  refine ⟨_, _, _, Z, rfl, fun i hin => ?_, fun i hin => (hZ i hin).2, maxLen_le (by omega)⟩
  obtain ⟨g0, _⟩ := hi i (by omega)
  rw [(hZ i hin).1] at g0
  obtain ⟨g00, _⟩ := hi 0 (by omega)
  obtain ⟨ab, ao, rfl, hlt⟩ := at_zero (a := a) (by simpa [Addr.add] using g00)
  rw [Go.WideShapes.add_plain] at g0
  exact ⟨ab, ao, rfl, hlt, g0⟩
end
def stepT (s : List Nat × List (List Int)) (t : List Int) : List Nat × List (List Int) :=
 (s.1 ++ [Tb.find s.2 t], if Tb.find s.2 t < s.2.length then s.2 else s.2 ++ [t])
theorem share_trims (R : List (List Int)) : Tb.share R = (R.map Tb.trim).foldl stepT ([], []) := by
 unfold Tb.share
 rw [List.foldl_map]
 rfl
theorem share_alike {R R' : List (List Int)} (h : R.map Tb.trim = R'.map Tb.trim) : Tb.share R = Tb.share R' := by rw [share_trims, share_trims, h]
def lg (R : List (List Int)) (f : Nat → Nat) (k : Nat) : List (List Int) := (List.range k).map fun j => R.getD j [] ++ List.replicate (f j) 0
theorem lg_length (R : List (List Int)) (f : Nat → Nat) (k : Nat) : (lg R f k).length = k := by simp [lg]
theorem lg_succ (R : List (List Int)) (f : Nat → Nat) (k : Nat) (r : List Int) (h : R[k]? = some r) : lg R f (k + 1) = lg R f k ++ [r ++ List.replicate (f k) 0] := by
 unfold lg
 rw [List.range_succ, List.map_append]
 simp [List.getD, h]
theorem lg_share (R : List (List Int)) (f : Nat → Nat) : Tb.share (lg R f R.length) = Tb.share R := by
 refine share_alike (List.ext_getElem? fun i => ?_)
 by_cases hi : i < R.length
 ·simp [lg, hi, List.getD, Tb.trim_noughts]
 ·simp [lg, List.getElem?_eq_none (Nat.le_of_not_lt hi), Nat.le_of_not_lt hi]
theorem lg_mem {R : List (List Int)} {f : Nat → Nat} {k : Nat} {l : List Int} (h : l ∈ lg R f k) (hk : k ≤ R.length) : ∃ r ∈ R, ∃ m, l = r ++ List.replicate m 0 ∧ ∃ j, m = f j := by
 unfold lg at h
 obtain ⟨j, hj, rfl⟩ := List.mem_map.1 h
 have hj' := List.mem_range.1 hj
 refine ⟨R.getD j [], ?_, f j, rfl, j, rfl⟩
 rw [List.getD, List.getElem?_eq_getElem (by omega)]
 exact List.getElem_mem _
theorem lg_wide {R : List (List Int)} {f : Nat → Nat} (hS : Short R) (hf : ∀ j, f j ≤ 9) : Wide (lg R f R.length) := by
 refine ⟨by rw [lg_length]; exact hS.1, fun l hl => ?_⟩
 obtain ⟨r, hr, m, rfl, j, rfl⟩ := lg_mem hl (Nat.le_refl _)
 have := hS.2 r hr
 have := hf j
 rw [List.length_append, List.length_replicate]; omega
theorem lg_small {R : List (List Int)} {f : Nat → Nat} (h : ∀ l ∈ R, Small l) : ∀ l ∈ lg R f R.length, Small l := by
 intro l hl
 obtain ⟨r, hr, m, rfl, _⟩ := lg_mem hl (Nat.le_refl _)
 refine (h r hr).append fun x hx => ?_
 rw [List.eq_of_mem_replicate hx]; decide
def behind (n : Nat) (X : Nat → Nat) (i : Nat) : Nat := if i < n then X i % 10 else 0
theorem behind_le (n : Nat) (X : Nat → Nat) (i : Nat) : behind n X i ≤ 9 := by unfold behind; split <;> omega
structure LgS (B : Nat) (w : World) (v : Value) (PV : List Value) (O : List (List Int)) : Prop where
 out : w.ownsRow B 25 1 v O.length PV
 plen : PV.length = O.length
 each : ∀ (i : Nat) (u : Value) (l : List Int), PV[i]? = some u → O[i]? = some l → OwnI w B u l
 size : B ≤ w.heap.size
section
variable {B : Nat} {w w' : World} {v : Value} {PV : List Value} {O : List (List Int)}
theorem LgS.below (h : LgS B w v PV O) (hb : Below w.heap.size w w') : LgS B w' v PV O :=
 ⟨own_below h.out hb (fun k hk => own_block h.out k hk), h.plen, fun i u l h1 h2 => (h.each i u l h1 h2).below hb, Nat.le_trans h.size hb.size⟩
theorem LgS.alloc (h : LgS B w v PV O) (o : Obj) : LgS B (w.alloc o) v PV O := h.below ((Below.refl _ _).alloc (Nat.le_refl _) o)
theorem LgS.add (h : LgS B w v PV O) {u v' : Value} {l : List Int} (hu : OwnI w B u l) (ho : w'.ownsRow B 25 1 v' (O ++ [l]).length (PV ++ [u])) (hg : w.grownBy w' v.ownBlock) :
  LgS B w' v' (PV ++ [u]) (O ++ [l]) := by
 have hne : ∀ {x : Value} {l : List Int}, OwnI w B x l → OwnI w' B x l := fun hx => own_kept_ne hx hg (fun k hk e => own_apart2 hx h.out (by decide) k hk e)
 refine ⟨ho, by simp [h.plen], fun i x r h1 h2 => ?_, Nat.le_trans h.size hg.size⟩
 by_cases hi : i < PV.length
 ·rw [List.getElem?_append_left hi] at h1
  rw [List.getElem?_append_left (by have := h.plen; omega)] at h2
  exact hne (h.each i x r h1 h2)
 ·have hil := (List.getElem?_eq_some_iff.1 h1).1
  simp only [List.length_append, List.length_cons, List.length_nil] at hil
  have he : i = PV.length := by omega
  subst he
  simp at h1
  rw [h.plen] at h2
  simp at h2
  subst h1 h2
  exact hne hu
theorem LgS.rows (h : LgS B w v PV O) (hs : ∀ l ∈ O, Small l) : RowsL w v O :=
 RowsL.own (by rw [h.plen]; exact h.out) h.plen (fun i l u hl hu => (h.each i u l hu hl).row (hs l (List.mem_of_getElem? hl)))
end
theorem row_up {w : World} {B B' : Nat} {v : Value} {l : List Int} (h : RowIn w B v l) (hB : B ≤ B') : RowIn w B' v l := by
 obtain ⟨A, c, h1, h2, h3⟩ := h
 exact ⟨A, c, h1, h2, h3.upto hB⟩
theorem Zed.pureD {P : Program} {md : Region.Mode} {ops : Array Oper} {Q : Exit → Act → World → Prop} {S : World → Prop} {Z : List Nat} {i : Nat} {d : Option Nat} {oi : Oper} {v : Value} {f : Nat} {listed : Array Bool} {a : Act} {w : World} (hi : ops[i]? = some oi) (hd : oi.dst = d)
  (hs : Region.noSelect ops = true) (hf : Region.free md ops listed i = true) (hr : (Region.ready md ops listed).contains i = true) (hc : Zed.closedB md ops listed = true) (hn : Z.contains i = false)
  (hQ : ∀ c a w, Q (.panic c) (a.put oi.dst v) w → Q (.panic c) a w) (hy : YieldsIf P ops (fun _ => True) oi v a) (hS : Zed.off Z listed = true ∨ S w)
  (h : Zed.AnyZ P md ops Q S Z f (listed.setIfInBounds i true) (a.put d v) w) : Zed.AnyZ P md ops Q S Z (f + 1) listed a w := by
 subst hd
 exact Zed.pure hi hs hf hr hc hn hQ hy hS h
theorem Zed.takeD {P : Program} {md : Region.Mode} {ops : Array Oper} {Q : Exit → Act → World → Prop} {S : World → Prop} {Z : List Nat} {i : Nat} {d : Option Nat} {oi : Oper} {v : Value} {f : Nat} {listed : Array Bool} {a : Act} {w : World} (hi : ops[i]? = some oi) (hd : oi.dst = d)
  (hs : Region.noSelect ops = true) (hf : Region.free md ops listed i = true) (hr : (Region.ready md ops listed).contains i = true) (hc : Zed.closedB md ops listed = true) (hn : Zed.needsB md ops Z i = true)
  (hQ : ∀ c a w, Q (.panic c) (a.put oi.dst v) w → Q (.panic c) a w) (hy : YieldsIf P ops S oi v a) (hS : S w)
  (h : Zed.AnyZ P md ops Q S Z f (listed.setIfInBounds i true) (a.put d v) w) : Zed.AnyZ P md ops Q S Z (f + 1) listed a w := by
 subst hd
 exact Zed.take hi hs hf hr hc hn hQ hy hS h
theorem Zed.callD {P : Program} {md : Region.Mode} {ops : Array Oper} {Q : Exit → Act → World → Prop} {S : World → Prop} {Z : List Nat} {i : Nat} {d : Option Nat} {o : Oper} {f : Nat} {listed : Array Bool} {a : Act} {w : World} {fn : FuncId} {vs : Array Value} {F : Ending → World → Prop}
  (hr : Region.ready md ops listed = [i]) (ho : ops[i]? = some o) (hd : o.dst = d) (hw : Region.wanted o (yielded ops a.tmps) = true) (hrun : (execOp a.eval o).run P w = .ok (.enter fn vs) w) (hc : Calls P fn vs w F)
  (hF : ∀ e w', F e w' → ∃ v, e = .returned v ∧ S w' ∧ Zed.AnyZ P md ops Q S Z f (listed.setIfInBounds i true) (a.put d v) w') : Zed.AnyZ P md ops Q S Z (f + 1) listed a w := by
 subst hd
 exact Zed.call hr ho hw hrun hc hF
set_option maxHeartbeats 2000000 in
theorem shares15_law (v : Value) (R : List (List Int)) (AN : Option Addr) (nn cN : Nat) (X : Nat → Nat) (w : World) (h : RowsL w v R) (hN : Bytes8 w w.heap.size AN nn X) (hT : Tab w) (hT0 : 0 < w.heap.size) (hP : Pow w.heap.size w) :
  Calls Tryd.prog 5 #[v, .slice AN nn cN] w fun e w' => e = .returned (.bool true) ∧ Below w.heap.size w w' := by
 obtain ⟨i0, hi, hz0, hz1, hz2⟩ := info_parts Tryd.infoInt
 obtain ⟨i1, hj, hy0, hy1, hy2⟩ := info_parts Tryd.infoIs
 have KR := Lib.hid h
 have KN := Lib.hid hN
 have KT := Lib.hid hT
 have KP := Lib.hid hP
 have Kaw := Lib.hid (awake_any w hT hT0 hP)
 obtain ⟨A, c, rfl⟩ := h.shape
 clear h hT hP hN
 go_enter Tryd.func5, Tryd.ntmps5
 go_wp2_with fail
 refine Kaw.out.mono ?_
 rintro e w1 ⟨rfl, hb1⟩
 have hR1 := KR.out.below hb1
 have Kfew := Lib.hid (few_any _ R w1 hR1)
 have KR1 := Lib.hid hR1
 have Kb1 := Lib.hid hb1
 clear hR1 hb1 Kaw KR
 go_wp2_with fail
 refine Kfew.out.mono ?_
 rintro e w1 ⟨⟨r, rfl, hr⟩, rfl⟩
 cases r
 ·go_wp2_with fail
  go_ret
  exact ⟨rfl, Kb1.out⟩
 have KS := Lib.hid (hr.1 rfl)
 have hR25 := KS.out.1
 have hP1 := KP.out.up Kb1.out Kb1.out.size
 have Ksh := Lib.hid (share_any _ R w1 KR1.out KS.out hP1)
 clear hr Kfew hP1
 go_wp2_with fail
 refine Ksh.out.mono ?_
 rintro e w2 ⟨v1, v2, rfl, hSh⟩
 have Kb2 := Lib.hid (Kb1.out.trans (below_le hSh.below Kb1.out.size))
 have KR2 := Lib.hid (KR1.out.below hSh.below)
 have ho2 := hSh.rows (outs_smalls KR2.out.smalls)
 have hv1 := own_row hSh.ids (ints_small (fun x hx => by have := ids_le KS.out x hx; omega))
 obtain ⟨A2, c2, rfl⟩ := ho2.shape
 obtain ⟨a1, c1, hva⟩ := hSh.ids.shape
 rw [ints_length, Tb.ids_length] at hva
 subst hva
 obtain ⟨m, hm⟩ : ∃ m, (Tb.outs R).length = m := ⟨_, rfl⟩
 have hm25 := (outs_short KS.out).1
 rw [hm] at ho2 hm25 ⊢
 have Kv2 := Lib.hid ho2
 have Kv1 := Lib.hid hv1
 have Km := Lib.hid hm
 have KN2 := Lib.hid (KN.out.below Kb2.out)
 obtain ⟨_, _, hx1, hI⟩ := hv1.shape
 rw [ints_length, Tb.ids_length] at hx1 hI
 simp only [Value.slice.injEq, true_and] at hx1
 obtain ⟨rfl, rfl⟩ := hx1
 have KI := Lib.hid hI
 have hnn := KN2.out.len
 obtain ⟨B, hB⟩ : ∃ B, B = w2.heap.size := ⟨_, rfl⟩
 clear hSh Ksh ho2 hm hv1 hI KR1 Kb1 KN
 go_wp2_with fail
 go_loopg [9, 10] R.length (fun q t9 t10 wr => ∃ (i : Nat) (PV : List Value), t10 = .int .i64 (i : Int) ∧ i ≤ R.length ∧ q = R.length - i ∧ LgS w2.heap.size wr t9 PV (lg R (behind nn X) i) ∧ Below w2.heap.size w2 wr)
 case atStart => exact ⟨0, [], rfl, by omega, by omega, ⟨World.ownsRow_nil _ _ _ _, rfl, (fun i u l h => by simp at h), Nat.le_refl _⟩, Below.refl _ _⟩
 case round =>
  obtain ⟨i, PV, rfl, hi', hq, hL, hb⟩ := hrel
  obtain ⟨wo, rfl⟩ : ∃ wo, wo = wr := ⟨_, rfl⟩
  have Kb := Lib.hid hb
  have Kq := Lib.hid hq
  have hszr := hb.size
  have hpl := hL.plen
  rw [lg_length] at hpl
  obtain ⟨a9, c9, rfl, _⟩ := own_slice hL.out
  rw [lg_length] at hL ⊢
  have KL := Lib.hid hL
  clear hL hb hq
  by_cases hlt : i < R.length
  ·obtain ⟨r, hr⟩ : ∃ r, R[i]? = some r := ⟨_, List.getElem?_eq_getElem hlt⟩
   have hr25 := KS.out.2 r (List.mem_of_getElem? hr)
   obtain ⟨b, o, c', A', c'', he, hc0, hrow0⟩ := KR2.out.cell hr
   have hc := (Kb.out.cell (p := ⟨b, o + i, none⟩) (cell_spot hc0).1).trans hc0
   simp only [Value.slice.injEq, true_and] at he
   obtain ⟨rfl, rfl⟩ := he
   have hrow := row_up (hrow0.below Kb.out) hszr
   have q1 : (0 : Int) ≤ (i : Int) := by omega
   have q2 : (i : Int) < (R.length : Int) := by omega
   have q3 : ((i : Int)).toNat = i := by omega
   have Kr := Lib.hid hr
   have Krow := Lib.hid hrow
   have Krow2 := Lib.hid hrow0
   have Kts := Lib.hid (Tb.trim_small (KR2.out.smalls r (List.mem_of_getElem? hr)))
   have hbl : b < wo.heap.size := (cell_spot hc).1
   have Khc := Lib.hid hc0
   have Klt := Lib.hid (cell_spot hc0).1
   obtain ⟨f, hf⟩ : ∃ f, behind nn X i = f := ⟨_, rfl⟩
   have hf9 := behind_le nn X i
   rw [hf] at hf9
   have Kf := Lib.hid hf
   clear hr hc0 hrow0 hrow hf
   go_wp2_with (at_builtin; refine wpList_append_own3 _ rfl (.tmp 39) (.tmp 43) 25 rfl wo.heap.size 3 i0 _ 1 8 Tryd.underlying25 hi hz0 hz1 hz2 rfl (by decide) (.slice (some ⟨wo.heap.size, 0, none⟩) 0 0) 0 [] rfl ?c1 A' r.length c'' (vals r) rfl ?c2 ?c3 (vals_one _) ?c4 ?c5 ?c6 ?_)
   case c1 => exact own_empty _ _ _ (Nat.le_refl _)
   case c2 => rw [vals_length]
   case c3 => exact row_lies (Krow.out.alloc (Nat.le_refl _) _) rfl
   case c4 => unfold maxLen; omega
   case c5 => omega
   intro v5 w5 hown hgrow hsn
   have KO5 := Lib.hid (show OwnI w5 wo.heap.size v5 (r ++ List.replicate 0 0) by
    unfold OwnI
    simpa using hown)
   have Kb5 := Lib.hid (((Below.refl wo.heap.size wo).alloc (Nat.le_refl _) (.cells #[] 3)).grown hgrow (by simp) (fun k hk => by simp [Value.ownBlock] at hk; omega))
   clear hown hgrow hsn
   go_wp2_with fail
   go_loopg [11, 12] f (fun q t11 t12 wr => ∃ k : Nat, t12 = .int .i64 (k : Int) ∧ k ≤ f ∧ q = f - k ∧ OwnI wr wo.heap.size t11 (r ++ List.replicate k 0) ∧ Below wo.heap.size wo wr)
   case atStart => exact ⟨0, rfl, by omega, by omega, KO5.out, Kb5.out⟩
   case round =>
    obtain ⟨k, rfl, hk, hq2, hO, hbx⟩ := hrel
    have KO := Lib.hid hO
    have Kbx := Lib.hid hbx
    have Kq2 := Lib.hid hq2
    have hszx := hbx.size
    obtain ⟨a11, c11, rfl⟩ := hO.shape
    have hl11 : (r ++ List.replicate k (0 : Int)).length = r.length + k := by rw [List.length_append, List.length_replicate]
    rw [hl11]
    have Kl11 := Lib.hid hl11
    clear hO hbx hq2 hl11
    rw [Kl11.out] at KO
    by_cases hlk : k < f
    ·have hin : i < nn := by
      have := Kf.out
      unfold behind at this
      split at this
      ·assumption
      ·omega
     have hfx : X i % 10 = f := by have := Kf.out; unfold behind at this; rwa [if_pos hin] at this
     have hx255 := KN2.out.rx i hin
     obtain ⟨bn, on_, rfl, hbn, cx⟩ := KN2.out.each i hin
     have hbn := Nat.lt_of_lt_of_le hbn Kb2.out.size
     have hb2x := Kb.out.trans (below_le Kbx.out hszr)
     have cx := (hb2x.cell (p := ⟨bn, on_ + i, none⟩) hbn).trans cx
     obtain ⟨x, hx⟩ : ∃ x, X i = x := ⟨_, rfl⟩
     rw [hx] at cx hfx hx255
     have q4 : (i : Int) < (nn : Int) := by omega
     have q5 : (k : Int) < (f : Int) := by omega
     have q6 : (x : Int) % 10 = (f : Int) := by omega
     have q7 : (x : Int).tmod 10 = (f : Int) := by rw [Int.tmod_eq_emod_of_nonneg (by omega)]; exact q6
     have q8 : IntKind.i64.wrap (f : Int) = (f : Int) := IntWalk.i64_in _ (by omega)
     have q9 : (k : Int) ≤ 9 := by omega
     have hown0 : wr.ownsRow wo.heap.size 3 1 (.slice a11 (r.length + k) c11) (r.length + k) (vals (r ++ List.replicate k 0)) := by
      have := KO.out
      unfold OwnI at this
      rw [Kl11.out] at this
      exact this
     have Kw0 := Lib.hid hown0
     clear hx hown0 hb2x
     go_wp2_with (at_builtin; refine wpList_append_own2 _ rfl (.tmp 61) (.tmp 62) 25 rfl wo.heap.size 3 i0 _ 1 8 Tryd.underlying25 hi hz0 hz1 hz2 rfl (by decide) (.slice a11 (r.length + k) c11) (r.length + k) (vals (r ++ List.replicate k 0)) rfl (World.ownsRow.alloc Kw0.out _) ⟨wr.heap.size, 0, none⟩ 1 1 [.int .i64 0] rfl rfl (cell_one_new _ _ _) (one_one rfl) ?d1 ?d2 ?d3 ?_)
     case d1 => unfold maxLen; omega
     case d2 => omega
     case d3 => rw [World.size_alloc]; omega
     intro v6 w6 hown hgrow hsn
     have KO6 := Lib.hid (show OwnI w6 wo.heap.size v6 (r ++ List.replicate (k + 1) 0) by
      unfold OwnI
      rw [List.replicate_succ', ← List.append_assoc, vals_snoc, List.length_append, Kl11.out]
      exact hown)
     have Kb6 := Lib.hid ((Kbx.out.alloc hszx (.cells #[.int .i64 0] 3)).grown hgrow (by rw [World.size_alloc]; omega) (fun q hq => (Kw0.out.lt q hq).1))
     clear hown hgrow hsn
     go_wp2_with fail
     go_roundg (f - (k + 1))
     case measure => have := Kq2.out; omega
     case rel => exact ⟨k + 1, by go_num, by omega, rfl, KO6.out, Kb6.out⟩
    ·obtain rfl : k = f := by omega
     by_cases hin : i < nn
     ·have hb2x := Kb.out.trans (below_le Kbx.out hszr)
      have KLx := Lib.hid (KL.out.below Kbx.out)
      have KOb := Lib.hid (show OwnI wr w2.heap.size (.slice a11 (r.length + k) c11) (r ++ List.replicate k 0) from own_base KO.out hszr)
      have Kb2x := Lib.hid hb2x
      have hsz2x := hb2x.size
      have hown9 : wr.ownsRow w2.heap.size 25 1 (.slice a9 i c9) i PV := by
       have := KLx.out.out
       rw [lg_length] at this
       exact this
      have Kw9 := Lib.hid hown9
      clear hb2x hown9
      have q4 : (i : Int) < (nn : Int) := by omega
      have hfx : X i % 10 = k := by have := Kf.out; unfold behind at this; rwa [if_pos hin] at this
      have hx255 := KN2.out.rx i hin
      obtain ⟨bn, on_, rfl, hbn, cx⟩ := KN2.out.each i hin
      have hbn := Nat.lt_of_lt_of_le hbn Kb2.out.size
      have cx := (Kb2x.out.cell (p := ⟨bn, on_ + i, none⟩) hbn).trans cx
      obtain ⟨x, hx⟩ : ∃ x, X i = x := ⟨_, rfl⟩
      rw [hx] at cx hfx hx255
      have q6 : (x : Int) % 10 = (k : Int) := by omega
      have q7 : (x : Int).tmod 10 = (k : Int) := by rw [Int.tmod_eq_emod_of_nonneg (by omega)]; exact q6
      have q8 : IntKind.i64.wrap (k : Int) = (k : Int) := IntWalk.i64_in _ (by omega)
      clear hx hfx hx255 hbn
      go_wp2_with (at_builtin; refine wpList_append_own2 _ rfl (.tmp 64) (.tmp 66) 22 rfl w2.heap.size 25 i1 _ 1 24 Tryd.underlying22 hj hy0 hy1 hy2 rfl (by decide) (.slice a9 i c9) i PV rfl (World.ownsRow.alloc Kw9.out _) ⟨wr.heap.size, 0, none⟩ 1 1 [.slice a11 (r.length + k) c11] rfl rfl (cell_one_new _ _ _) (one_one rfl) ?d1 ?d2 ?d3 ?_)
      case d1 => unfold maxLen; omega
      case d2 => omega
      case d3 => first | (rw [World.size_alloc]; omega) | omega
      intro v7 w7 hown hgrow hsn
      have KL7 := Lib.hid (show LgS w2.heap.size w7 v7 (PV ++ [.slice a11 (r.length + k) c11]) (lg R (behind nn X) (i + 1)) by
       rw [lg_succ R (behind nn X) i r Kr.out, Kf.out]
       exact (KLx.out.alloc (.cells #[.slice a11 (r.length + k) c11] 25)).add (KOb.out.alloc _) (by rw [List.length_append, lg_length]; exact hown) hgrow)
      have hb7 := (Kb2x.out.alloc hsz2x (.cells #[.slice a11 (r.length + k) c11] 25)).grown hgrow (by rw [World.size_alloc]; omega) (fun q hq => (Kw9.out.lt q hq).1)
      obtain ⟨a7, c7, rfl, _⟩ := own_slice hown
      have Kb7 := Lib.hid hb7
      obtain ⟨kd, hkd, hokd⟩ := Tb.ids_at R i r Kr.out
      have hkm := Tb.ids_lt hkd
      rw [Km.out] at hkm
      have hki : (ints (Tb.ids R)).getD i 0 = (kd : Int) := by rw [List.getD, ints_get hkd]; rfl
      obtain ⟨bi, oi, rfl, hbi, ci⟩ := KI.out.each i hlt
      rw [hki] at ci
      obtain ⟨bo, oo, co, Ao, co', heo, hco, hro⟩ := Kv2.out.cell hokd
      rw [Km.out] at heo
      simp only [Value.slice.injEq, true_and] at heo
      obtain ⟨rfl, rfl⟩ := heo
      have hbo : bo < w2.heap.size := (cell_spot hco).1
      have ci := (hb7.cell (p := ⟨bi, oi + i, none⟩) hbi).trans ci
      have co7 := (hb7.cell (p := ⟨bo, oo + kd, none⟩) hbo).trans hco
      have cr7 := (hb7.cell (p := ⟨b, o + i, none⟩) Klt.out).trans Khc.out
      have hsz7 := hb7.size
      have hgi : bi < w7.heap.size := Nat.lt_of_lt_of_le hbi hsz7
      have hgo : bo < w7.heap.size := Nat.lt_of_lt_of_le hbo hsz7
      have hgr : b < w7.heap.size := Nat.lt_of_lt_of_le Klt.out hsz7
      have Kro := Lib.hid (row_up (hro.below hb7) hsz7)
      have Krr := Lib.hid (row_up (Krow2.out.below hb7) hsz7)
      have hm1 : ¬ (kd : Int) < 0 := by omega
      have hm2 : decide ((m : Int) ≤ (kd : Int)) = false := decide_eq_false (by omega)
      have hm3 : decide (m ≤ kd) = false := decide_eq_false (by omega)
      have hm4 : decide ((kd : Int) < 0) = false := decide_eq_false hm1
      have hm5 : (0 : Int) ≤ (kd : Int) := by omega
      have hm6 : (kd : Int) < (m : Int) := by omega
      have hm7 : ((kd : Int)).toNat = kd := by omega
      have hz0 : Below w7.heap.size w7 w7.drew := below_drew (Below.refl _ _)
      clear hown hgrow hsn hkd hokd hki hbi hbo hco hro hb7 hsz2x
      go_wp2_with fail
      refine Zed.begin_ (fun w' => Below w7.heap.size w7 w') [] (by kernel_rfl) ?_
      refine Zed.pureD (i := 0) (d := some 68) (v := ?vz0) rfl rfl (by kernel_rfl) (by kernel_rfl) (by kernel_rfl) (by kernel_rfl) (by kernel_rfl) (fun _ _ _ h => h) (Or.inl ⟨by kernel_rfl, ?hyz0⟩) (.inr hz0) ?restz0
      case hyz0 => (intro w _; go_simp; try with_reducible rfl)
      try simp only [Act.put, List.setIfInBounds_toArray, List.set_cons_zero, List.set_cons_succ]
      refine Zed.pureD (i := 1) (d := some 69) (v := ?vz1) rfl rfl (by kernel_rfl) (by kernel_rfl) (by kernel_rfl) (by kernel_rfl) (by kernel_rfl) (fun _ _ _ h => h) (Or.inl ⟨by kernel_rfl, ?hyz1⟩) (.inr hz0) ?restz1
      case hyz1 => (intro w _; go_simp; try with_reducible rfl)
      try simp only [Act.put, List.setIfInBounds_toArray, List.set_cons_zero, List.set_cons_succ]
      refine Zed.pureD (i := 2) (d := some 70) (v := ?vz2) rfl rfl (by kernel_rfl) (by kernel_rfl) (by kernel_rfl) (by kernel_rfl) (by kernel_rfl) (fun _ _ _ h => h) (Or.inl ⟨by kernel_rfl, ?hyz2⟩) (.inr hz0) ?restz2
      case hyz2 => (intro w _; go_simp; try with_reducible rfl)
      try simp only [Act.put, List.setIfInBounds_toArray, List.set_cons_zero, List.set_cons_succ]
      refine Zed.takeD (i := 3) (d := some 71) (v := ?vz3) rfl rfl (by kernel_rfl) (by kernel_rfl) (by kernel_rfl) (by kernel_rfl) (by kernel_rfl) (fun _ _ _ h => h) (Or.inl ⟨by kernel_rfl, ?hyz3⟩) hz0 ?restz3
      case hyz3 => (intro w hSw; (try dsimp only at hSw); have hc := (hSw.cell (p := ⟨bi, oi + i, none⟩) hgi).trans ci; go_simp; try with_reducible rfl)
      try simp only [Act.put, List.setIfInBounds_toArray, List.set_cons_zero, List.set_cons_succ]
      refine Zed.pureD (i := 4) (d := some 72) (v := ?vz4) rfl rfl (by kernel_rfl) (by kernel_rfl) (by kernel_rfl) (by kernel_rfl) (by kernel_rfl) (fun _ _ _ h => h) (Or.inl ⟨by kernel_rfl, ?hyz4⟩) (.inr hz0) ?restz4
      case hyz4 => (intro w _; go_simp; try with_reducible rfl)
      try simp only [Act.put, List.setIfInBounds_toArray, List.set_cons_zero, List.set_cons_succ]
      refine Zed.pureD (i := 5) (d := some 73) (v := ?vz5) rfl rfl (by kernel_rfl) (by kernel_rfl) (by kernel_rfl) (by kernel_rfl) (by kernel_rfl) (fun _ _ _ h => h) (Or.inl ⟨by kernel_rfl, ?hyz5⟩) (.inr hz0) ?restz5
      case hyz5 => (intro w _; go_simp; try with_reducible rfl)
      try simp only [Act.put, List.setIfInBounds_toArray, List.set_cons_zero, List.set_cons_succ]
      refine Zed.pureD (i := 6) (d := some 74) (v := ?vz6) rfl rfl (by kernel_rfl) (by kernel_rfl) (by kernel_rfl) (by kernel_rfl) (by kernel_rfl) (fun _ _ _ h => h) (Or.inl ⟨by kernel_rfl, ?hyz6⟩) (.inr hz0) ?restz6
      case hyz6 => (intro w _; go_simp; try with_reducible rfl)
      try simp only [Act.put, List.setIfInBounds_toArray, List.set_cons_zero, List.set_cons_succ]
      refine Zed.pureD (i := 7) (d := some 75) (v := ?vz7) rfl rfl (by kernel_rfl) (by kernel_rfl) (by kernel_rfl) (by kernel_rfl) (by kernel_rfl) (fun _ _ _ h => h) (Or.inl ⟨by kernel_rfl, ?hyz7⟩) (.inr hz0) ?restz7
      case hyz7 => (intro w _; go_simp; try with_reducible rfl)
      try simp only [Act.put, List.setIfInBounds_toArray, List.set_cons_zero, List.set_cons_succ]
      refine Zed.pureD (i := 8) (d := some 76) (v := ?vz8) rfl rfl (by kernel_rfl) (by kernel_rfl) (by kernel_rfl) (by kernel_rfl) (by kernel_rfl) (fun _ _ _ h => h) (Or.inl ⟨by kernel_rfl, ?hyz8⟩) (.inr hz0) ?restz8
      case hyz8 => (intro w _; go_simp; try with_reducible rfl)
      try simp only [Act.put, List.setIfInBounds_toArray, List.set_cons_zero, List.set_cons_succ]
      refine Zed.takeD (i := 9) (d := some 77) (v := ?vz9) rfl rfl (by kernel_rfl) (by kernel_rfl) (by kernel_rfl) (by kernel_rfl) (by kernel_rfl) (fun _ _ _ h => h) (Or.inl ⟨by kernel_rfl, ?hyz9⟩) hz0 ?restz9
      case hyz9 => (intro w hSw; (try dsimp only at hSw); have hc := (hSw.cell (p := ⟨bi, oi + i, none⟩) hgi).trans ci; go_simp; try with_reducible rfl)
      try simp only [Act.put, List.setIfInBounds_toArray, List.set_cons_zero, List.set_cons_succ]
      refine Zed.pureD (i := 10) (d := some 78) (v := ?vz10) rfl rfl (by kernel_rfl) (by kernel_rfl) (by kernel_rfl) (by kernel_rfl) (by kernel_rfl) (fun _ _ _ h => h) (Or.inl ⟨by kernel_rfl, ?hyz10⟩) (.inr hz0) ?restz10
      case hyz10 => (intro w _; go_simp; try with_reducible rfl)
      try simp only [Act.put, List.setIfInBounds_toArray, List.set_cons_zero, List.set_cons_succ]
      refine Zed.pureD (i := 11) (d := some 79) (v := ?vz11) rfl rfl (by kernel_rfl) (by kernel_rfl) (by kernel_rfl) (by kernel_rfl) (by kernel_rfl) (fun _ _ _ h => h) (Or.inl ⟨by kernel_rfl, ?hyz11⟩) (.inr hz0) ?restz11
      case hyz11 => (intro w _; go_simp; try with_reducible rfl)
      try simp only [Act.put, List.setIfInBounds_toArray, List.set_cons_zero, List.set_cons_succ]
      refine Zed.pureD (i := 12) (d := some 80) (v := ?vz12) rfl rfl (by kernel_rfl) (by kernel_rfl) (by kernel_rfl) (by kernel_rfl) (by kernel_rfl) (fun _ _ _ h => h) (Or.inl ⟨by kernel_rfl, ?hyz12⟩) (.inr hz0) ?restz12
      case hyz12 => (intro w _; go_simp; try with_reducible rfl)
      try simp only [Act.put, List.setIfInBounds_toArray, List.set_cons_zero, List.set_cons_succ]
      refine Zed.pureD (i := 13) (d := some 81) (v := ?vz13) rfl rfl (by kernel_rfl) (by kernel_rfl) (by kernel_rfl) (by kernel_rfl) (by kernel_rfl) (fun _ _ _ h => h) (Or.inl ⟨by kernel_rfl, ?hyz13⟩) (.inr hz0) ?restz13
      case hyz13 => (intro w _; go_simp; try with_reducible rfl)
      try simp only [Act.put, List.setIfInBounds_toArray, List.set_cons_zero, List.set_cons_succ]
      refine Zed.pureD (i := 14) (d := some 82) (v := ?vz14) rfl rfl (by kernel_rfl) (by kernel_rfl) (by kernel_rfl) (by kernel_rfl) (by kernel_rfl) (fun _ _ _ h => h) (Or.inl ⟨by kernel_rfl, ?hyz14⟩) (.inr hz0) ?restz14
      case hyz14 => (intro w _; go_simp; try with_reducible rfl)
      try simp only [Act.put, List.setIfInBounds_toArray, List.set_cons_zero, List.set_cons_succ]
      refine Zed.pureD (i := 15) (d := some 83) (v := ?vz15) rfl rfl (by kernel_rfl) (by kernel_rfl) (by kernel_rfl) (by kernel_rfl) (by kernel_rfl) (fun _ _ _ h => h) (Or.inl ⟨by kernel_rfl, ?hyz15⟩) (.inr hz0) ?restz15
      case hyz15 => (intro w _; go_simp; try with_reducible rfl)
      try simp only [Act.put, List.setIfInBounds_toArray, List.set_cons_zero, List.set_cons_succ]
      refine Zed.pureD (i := 16) (d := some 84) (v := ?vz16) rfl rfl (by kernel_rfl) (by kernel_rfl) (by kernel_rfl) (by kernel_rfl) (by kernel_rfl) (fun _ _ _ h => h) (Or.inl ⟨by kernel_rfl, ?hyz16⟩) (.inr hz0) ?restz16
      case hyz16 => (intro w _; go_simp; try with_reducible rfl)
      try simp only [Act.put, List.setIfInBounds_toArray, List.set_cons_zero, List.set_cons_succ]
      refine Zed.pureD (i := 17) (d := some 85) (v := ?vz17) rfl rfl (by kernel_rfl) (by kernel_rfl) (by kernel_rfl) (by kernel_rfl) (by kernel_rfl) (fun _ _ _ h => h) (Or.inl ⟨by kernel_rfl, ?hyz17⟩) (.inr hz0) ?restz17
      case hyz17 => (intro w _; go_simp; try with_reducible rfl)
      try simp only [Act.put, List.setIfInBounds_toArray, List.set_cons_zero, List.set_cons_succ]
      refine Zed.pureD (i := 18) (d := some 86) (v := ?vz18) rfl rfl (by kernel_rfl) (by kernel_rfl) (by kernel_rfl) (by kernel_rfl) (by kernel_rfl) (fun _ _ _ h => h) (Or.inl ⟨by kernel_rfl, ?hyz18⟩) (.inr hz0) ?restz18
      case hyz18 => (intro w _; go_simp; try with_reducible rfl)
      try simp only [Act.put, List.setIfInBounds_toArray, List.set_cons_zero, List.set_cons_succ]
      refine Zed.takeD (i := 19) (d := some 87) (v := ?vz19) rfl rfl (by kernel_rfl) (by kernel_rfl) (by kernel_rfl) (by kernel_rfl) (by kernel_rfl) (fun _ _ _ h => h) (Or.inl ⟨by kernel_rfl, ?hyz19⟩) hz0 ?restz19
      case hyz19 => (intro w hSw; (try dsimp only at hSw); have hc := (hSw.cell (p := ⟨bi, oi + i, none⟩) hgi).trans ci; go_simp; try with_reducible rfl)
      try simp only [Act.put, List.setIfInBounds_toArray, List.set_cons_zero, List.set_cons_succ]
      refine Zed.pureD (i := 20) (d := some 88) (v := ?vz20) rfl rfl (by kernel_rfl) (by kernel_rfl) (by kernel_rfl) (by kernel_rfl) (by kernel_rfl) (fun _ _ _ h => h) (Or.inl ⟨by kernel_rfl, ?hyz20⟩) (.inr hz0) ?restz20
      case hyz20 => (intro w _; go_simp; try with_reducible rfl)
      try simp only [Act.put, List.setIfInBounds_toArray, List.set_cons_zero, List.set_cons_succ]
      refine Zed.takeD (i := 21) (d := some 89) (v := ?vz21) rfl rfl (by kernel_rfl) (by kernel_rfl) (by kernel_rfl) (by kernel_rfl) (by kernel_rfl) (fun _ _ _ h => h) (Or.inl ⟨by kernel_rfl, ?hyz21⟩) hz0 ?restz21
      case hyz21 => (intro w hSw; (try dsimp only at hSw); have hc := (hSw.cell (p := ⟨bo, oo + kd, none⟩) hgo).trans co7; go_simp; try with_reducible rfl)
      try simp only [Act.put, List.setIfInBounds_toArray, List.set_cons_zero, List.set_cons_succ]
      refine Zed.pureD (i := 22) (d := some 90) (v := ?vz22) rfl rfl (by kernel_rfl) (by kernel_rfl) (by kernel_rfl) (by kernel_rfl) (by kernel_rfl) (fun _ _ _ h => h) (Or.inl ⟨by kernel_rfl, ?hyz22⟩) (.inr hz0) ?restz22
      case hyz22 => (intro w _; go_simp; try with_reducible rfl)
      try simp only [Act.put, List.setIfInBounds_toArray, List.set_cons_zero, List.set_cons_succ]
      refine Zed.pureD (i := 23) (d := some 91) (v := ?vz23) rfl rfl (by kernel_rfl) (by kernel_rfl) (by kernel_rfl) (by kernel_rfl) (by kernel_rfl) (fun _ _ _ h => h) (Or.inl ⟨by kernel_rfl, ?hyz23⟩) (.inr hz0) ?restz23
      case hyz23 => (intro w _; go_simp; try with_reducible rfl)
      try simp only [Act.put, List.setIfInBounds_toArray, List.set_cons_zero, List.set_cons_succ]
      refine Zed.pureD (i := 24) (d := some 92) (v := ?vz24) rfl rfl (by kernel_rfl) (by kernel_rfl) (by kernel_rfl) (by kernel_rfl) (by kernel_rfl) (fun _ _ _ h => h) (Or.inl ⟨by kernel_rfl, ?hyz24⟩) (.inr hz0) ?restz24
      case hyz24 => (intro w _; go_simp; try with_reducible rfl)
      try simp only [Act.put, List.setIfInBounds_toArray, List.set_cons_zero, List.set_cons_succ]
      refine Zed.takeD (i := 25) (d := some 93) (v := ?vz25) rfl rfl (by kernel_rfl) (by kernel_rfl) (by kernel_rfl) (by kernel_rfl) (by kernel_rfl) (fun _ _ _ h => h) (Or.inl ⟨by kernel_rfl, ?hyz25⟩) hz0 ?restz25
      case hyz25 => (intro w hSw; (try dsimp only at hSw); have hc := (hSw.cell (p := ⟨b, o + i, none⟩) hgr).trans cr7; go_simp; try with_reducible rfl)
      try simp only [Act.put, List.setIfInBounds_toArray, List.set_cons_zero, List.set_cons_succ]
      have hcall := trim_any A' c'' w7.heap.size r w7.drew (Krr.out.below hz0) hz0.size (by omega)
      refine Zed.callD (i := 26) (d := some 94) (fn := 18) (vs := #[.slice A' r.length c'']) (by kernel_rfl) rfl rfl (by kernel_rfl) ?hrunz26 hcall ?_
      case hrunz26 => kernel_rfl
      clear hcall
      rintro e wz ⟨vt, rfl, hot, hbz⟩
      have hz1 := hz0.trans (below_le hbz hz0.size)
      have Kot := Lib.hid (own_row hot Kts.out)
      clear hbz hot
      refine ⟨_, rfl, hz1, ?_⟩
      try simp only [Act.put, List.setIfInBounds_toArray, List.set_cons_zero, List.set_cons_succ]
      have hcall := ints_says (.slice Ao (Tb.trim r).length co') vt (Tb.trim r) (Tb.trim r) wz ((Kro.out.below hz1).row hz1.size) Kot.out
      rw [decide_eq_true rfl] at hcall
      refine Zed.callD (i := 27) (d := some 95) (fn := 14) (vs := #[.slice Ao (Tb.trim r).length co', vt]) (by kernel_rfl) rfl rfl (by kernel_rfl) ?hrunz27 hcall ?_
      case hrunz27 => kernel_rfl
      clear hcall
      rintro e wq ⟨rfl, kz, hwz⟩
      have hz2 : Below w7.heap.size w7 wq := by rw [hwz]; exact below_drewN hz1 kz
      clear hwz
      refine ⟨_, rfl, hz2, ?_⟩
      try simp only [Act.put, List.setIfInBounds_toArray, List.set_cons_zero, List.set_cons_succ]
      refine Zed.pureD (i := 28) (d := some 96) (v := ?vz28) rfl rfl (by kernel_rfl) (by kernel_rfl) (by kernel_rfl) (by kernel_rfl) (by kernel_rfl) (fun _ _ _ h => h) (Or.inl ⟨by kernel_rfl, ?hyz28⟩) (.inr hz2) ?restz28
      case hyz28 => (intro w _; go_simp; try with_reducible rfl)
      try simp only [Act.put, List.setIfInBounds_toArray, List.set_cons_zero, List.set_cons_succ]
      refine Zed.pureD (i := 29) (d := some 97) (v := ?vz29) rfl rfl (by kernel_rfl) (by kernel_rfl) (by kernel_rfl) (by kernel_rfl) (by kernel_rfl) (fun _ _ _ h => h) (Or.inl ⟨by kernel_rfl, ?hyz29⟩) (.inr hz2) ?restz29
      case hyz29 => (intro w _; go_simp; try with_reducible rfl)
      try simp only [Act.put, List.setIfInBounds_toArray, List.set_cons_zero, List.set_cons_succ]
      refine Zed.all (by kernel_rfl) ?_ _
      go_wp2_with fail
      go_roundg (R.length - (i + 1))
      case measure => have := Kq.out; omega
      case rel => exact ⟨i + 1, _, by go_num, by omega, rfl, KL7.out.below hz2, Kb7.out.trans (below_le hz2 Kb7.out.size)⟩
     ·have hb2x := Kb.out.trans (below_le Kbx.out hszr)
      have KLx := Lib.hid (KL.out.below Kbx.out)
      have KOb := Lib.hid (show OwnI wr w2.heap.size (.slice a11 (r.length + k) c11) (r ++ List.replicate k 0) from own_base KO.out hszr)
      have Kb2x := Lib.hid hb2x
      have hsz2x := hb2x.size
      have hown9 : wr.ownsRow w2.heap.size 25 1 (.slice a9 i c9) i PV := by
       have := KLx.out.out
       rw [lg_length] at this
       exact this
      have Kw9 := Lib.hid hown9
      clear hb2x hown9
      have q4 : ¬ (i : Int) < (nn : Int) := by omega
      have q5 : decide (i < nn) = false := decide_eq_false hin
      have q6 : decide ((i : Int) < (nn : Int)) = false := decide_eq_false q4
      go_wp2_with (at_builtin; refine wpList_append_own2 _ rfl (.tmp 64) (.tmp 66) 22 rfl w2.heap.size 25 i1 _ 1 24 Tryd.underlying22 hj hy0 hy1 hy2 rfl (by decide) (.slice a9 i c9) i PV rfl (World.ownsRow.alloc Kw9.out _) ⟨wr.heap.size, 0, none⟩ 1 1 [.slice a11 (r.length + k) c11] rfl rfl (cell_one_new _ _ _) (one_one rfl) ?d1 ?d2 ?d3 ?_)
      case d1 => unfold maxLen; omega
      case d2 => omega
      case d3 => first | (rw [World.size_alloc]; omega) | omega
      intro v7 w7 hown hgrow hsn
      have KL7 := Lib.hid (show LgS w2.heap.size w7 v7 (PV ++ [.slice a11 (r.length + k) c11]) (lg R (behind nn X) (i + 1)) by
       rw [lg_succ R (behind nn X) i r Kr.out, Kf.out]
       exact (KLx.out.alloc (.cells #[.slice a11 (r.length + k) c11] 25)).add (KOb.out.alloc _) (by rw [List.length_append, lg_length]; exact hown) hgrow)
      have hb7 := (Kb2x.out.alloc hsz2x (.cells #[.slice a11 (r.length + k) c11] 25)).grown hgrow (by rw [World.size_alloc]; omega) (fun q hq => (Kw9.out.lt q hq).1)
      obtain ⟨a7, c7, rfl, _⟩ := own_slice hown
      have Kb7 := Lib.hid hb7
      obtain ⟨kd, hkd, hokd⟩ := Tb.ids_at R i r Kr.out
      have hkm := Tb.ids_lt hkd
      rw [Km.out] at hkm
      have hki : (ints (Tb.ids R)).getD i 0 = (kd : Int) := by rw [List.getD, ints_get hkd]; rfl
      obtain ⟨bi, oi, rfl, hbi, ci⟩ := KI.out.each i hlt
      rw [hki] at ci
      obtain ⟨bo, oo, co, Ao, co', heo, hco, hro⟩ := Kv2.out.cell hokd
      rw [Km.out] at heo
      simp only [Value.slice.injEq, true_and] at heo
      obtain ⟨rfl, rfl⟩ := heo
      have hbo : bo < w2.heap.size := (cell_spot hco).1
      have ci := (hb7.cell (p := ⟨bi, oi + i, none⟩) hbi).trans ci
      have co7 := (hb7.cell (p := ⟨bo, oo + kd, none⟩) hbo).trans hco
      have cr7 := (hb7.cell (p := ⟨b, o + i, none⟩) Klt.out).trans Khc.out
      have hsz7 := hb7.size
      have hgi : bi < w7.heap.size := Nat.lt_of_lt_of_le hbi hsz7
      have hgo : bo < w7.heap.size := Nat.lt_of_lt_of_le hbo hsz7
      have hgr : b < w7.heap.size := Nat.lt_of_lt_of_le Klt.out hsz7
      have Kro := Lib.hid (row_up (hro.below hb7) hsz7)
      have Krr := Lib.hid (row_up (Krow2.out.below hb7) hsz7)
      have hm1 : ¬ (kd : Int) < 0 := by omega
      have hm2 : decide ((m : Int) ≤ (kd : Int)) = false := decide_eq_false (by omega)
      have hm3 : decide (m ≤ kd) = false := decide_eq_false (by omega)
      have hm4 : decide ((kd : Int) < 0) = false := decide_eq_false hm1
      have hm5 : (0 : Int) ≤ (kd : Int) := by omega
      have hm6 : (kd : Int) < (m : Int) := by omega
      have hm7 : ((kd : Int)).toNat = kd := by omega
      have hz0 : Below w7.heap.size w7 w7.drew := below_drew (Below.refl _ _)
      clear hown hgrow hsn hkd hokd hki hbi hbo hco hro hb7 hsz2x
      go_wp2_with fail
      refine Zed.begin_ (fun w' => Below w7.heap.size w7 w') [] (by kernel_rfl) ?_
      refine Zed.pureD (i := 0) (d := some 68) (v := ?vu0) rfl rfl (by kernel_rfl) (by kernel_rfl) (by kernel_rfl) (by kernel_rfl) (by kernel_rfl) (fun _ _ _ h => h) (Or.inl ⟨by kernel_rfl, ?hyu0⟩) (.inr hz0) ?restu0
      case hyu0 => (intro w _; go_simp; try with_reducible rfl)
      try simp only [Act.put, List.setIfInBounds_toArray, List.set_cons_zero, List.set_cons_succ]
      refine Zed.pureD (i := 1) (d := some 69) (v := ?vu1) rfl rfl (by kernel_rfl) (by kernel_rfl) (by kernel_rfl) (by kernel_rfl) (by kernel_rfl) (fun _ _ _ h => h) (Or.inl ⟨by kernel_rfl, ?hyu1⟩) (.inr hz0) ?restu1
      case hyu1 => (intro w _; go_simp; try with_reducible rfl)
      try simp only [Act.put, List.setIfInBounds_toArray, List.set_cons_zero, List.set_cons_succ]
      refine Zed.pureD (i := 2) (d := some 70) (v := ?vu2) rfl rfl (by kernel_rfl) (by kernel_rfl) (by kernel_rfl) (by kernel_rfl) (by kernel_rfl) (fun _ _ _ h => h) (Or.inl ⟨by kernel_rfl, ?hyu2⟩) (.inr hz0) ?restu2
      case hyu2 => (intro w _; go_simp; try with_reducible rfl)
      try simp only [Act.put, List.setIfInBounds_toArray, List.set_cons_zero, List.set_cons_succ]
      refine Zed.takeD (i := 3) (d := some 71) (v := ?vu3) rfl rfl (by kernel_rfl) (by kernel_rfl) (by kernel_rfl) (by kernel_rfl) (by kernel_rfl) (fun _ _ _ h => h) (Or.inl ⟨by kernel_rfl, ?hyu3⟩) hz0 ?restu3
      case hyu3 => (intro w hSw; (try dsimp only at hSw); have hc := (hSw.cell (p := ⟨bi, oi + i, none⟩) hgi).trans ci; go_simp; try with_reducible rfl)
      try simp only [Act.put, List.setIfInBounds_toArray, List.set_cons_zero, List.set_cons_succ]
      refine Zed.pureD (i := 4) (d := some 72) (v := ?vu4) rfl rfl (by kernel_rfl) (by kernel_rfl) (by kernel_rfl) (by kernel_rfl) (by kernel_rfl) (fun _ _ _ h => h) (Or.inl ⟨by kernel_rfl, ?hyu4⟩) (.inr hz0) ?restu4
      case hyu4 => (intro w _; go_simp; try with_reducible rfl)
      try simp only [Act.put, List.setIfInBounds_toArray, List.set_cons_zero, List.set_cons_succ]
      refine Zed.pureD (i := 5) (d := some 73) (v := ?vu5) rfl rfl (by kernel_rfl) (by kernel_rfl) (by kernel_rfl) (by kernel_rfl) (by kernel_rfl) (fun _ _ _ h => h) (Or.inl ⟨by kernel_rfl, ?hyu5⟩) (.inr hz0) ?restu5
      case hyu5 => (intro w _; go_simp; try with_reducible rfl)
      try simp only [Act.put, List.setIfInBounds_toArray, List.set_cons_zero, List.set_cons_succ]
      refine Zed.pureD (i := 6) (d := some 74) (v := ?vu6) rfl rfl (by kernel_rfl) (by kernel_rfl) (by kernel_rfl) (by kernel_rfl) (by kernel_rfl) (fun _ _ _ h => h) (Or.inl ⟨by kernel_rfl, ?hyu6⟩) (.inr hz0) ?restu6
      case hyu6 => (intro w _; go_simp; try with_reducible rfl)
      try simp only [Act.put, List.setIfInBounds_toArray, List.set_cons_zero, List.set_cons_succ]
      refine Zed.pureD (i := 7) (d := some 75) (v := ?vu7) rfl rfl (by kernel_rfl) (by kernel_rfl) (by kernel_rfl) (by kernel_rfl) (by kernel_rfl) (fun _ _ _ h => h) (Or.inl ⟨by kernel_rfl, ?hyu7⟩) (.inr hz0) ?restu7
      case hyu7 => (intro w _; go_simp; try with_reducible rfl)
      try simp only [Act.put, List.setIfInBounds_toArray, List.set_cons_zero, List.set_cons_succ]
      refine Zed.pureD (i := 8) (d := some 76) (v := ?vu8) rfl rfl (by kernel_rfl) (by kernel_rfl) (by kernel_rfl) (by kernel_rfl) (by kernel_rfl) (fun _ _ _ h => h) (Or.inl ⟨by kernel_rfl, ?hyu8⟩) (.inr hz0) ?restu8
      case hyu8 => (intro w _; go_simp; try with_reducible rfl)
      try simp only [Act.put, List.setIfInBounds_toArray, List.set_cons_zero, List.set_cons_succ]
      refine Zed.takeD (i := 9) (d := some 77) (v := ?vu9) rfl rfl (by kernel_rfl) (by kernel_rfl) (by kernel_rfl) (by kernel_rfl) (by kernel_rfl) (fun _ _ _ h => h) (Or.inl ⟨by kernel_rfl, ?hyu9⟩) hz0 ?restu9
      case hyu9 => (intro w hSw; (try dsimp only at hSw); have hc := (hSw.cell (p := ⟨bi, oi + i, none⟩) hgi).trans ci; go_simp; try with_reducible rfl)
      try simp only [Act.put, List.setIfInBounds_toArray, List.set_cons_zero, List.set_cons_succ]
      refine Zed.pureD (i := 10) (d := some 78) (v := ?vu10) rfl rfl (by kernel_rfl) (by kernel_rfl) (by kernel_rfl) (by kernel_rfl) (by kernel_rfl) (fun _ _ _ h => h) (Or.inl ⟨by kernel_rfl, ?hyu10⟩) (.inr hz0) ?restu10
      case hyu10 => (intro w _; go_simp; try with_reducible rfl)
      try simp only [Act.put, List.setIfInBounds_toArray, List.set_cons_zero, List.set_cons_succ]
      refine Zed.pureD (i := 11) (d := some 79) (v := ?vu11) rfl rfl (by kernel_rfl) (by kernel_rfl) (by kernel_rfl) (by kernel_rfl) (by kernel_rfl) (fun _ _ _ h => h) (Or.inl ⟨by kernel_rfl, ?hyu11⟩) (.inr hz0) ?restu11
      case hyu11 => (intro w _; go_simp; try with_reducible rfl)
      try simp only [Act.put, List.setIfInBounds_toArray, List.set_cons_zero, List.set_cons_succ]
      refine Zed.pureD (i := 12) (d := some 80) (v := ?vu12) rfl rfl (by kernel_rfl) (by kernel_rfl) (by kernel_rfl) (by kernel_rfl) (by kernel_rfl) (fun _ _ _ h => h) (Or.inl ⟨by kernel_rfl, ?hyu12⟩) (.inr hz0) ?restu12
      case hyu12 => (intro w _; go_simp; try with_reducible rfl)
      try simp only [Act.put, List.setIfInBounds_toArray, List.set_cons_zero, List.set_cons_succ]
      refine Zed.pureD (i := 13) (d := some 81) (v := ?vu13) rfl rfl (by kernel_rfl) (by kernel_rfl) (by kernel_rfl) (by kernel_rfl) (by kernel_rfl) (fun _ _ _ h => h) (Or.inl ⟨by kernel_rfl, ?hyu13⟩) (.inr hz0) ?restu13
      case hyu13 => (intro w _; go_simp; try with_reducible rfl)
      try simp only [Act.put, List.setIfInBounds_toArray, List.set_cons_zero, List.set_cons_succ]
      refine Zed.pureD (i := 14) (d := some 82) (v := ?vu14) rfl rfl (by kernel_rfl) (by kernel_rfl) (by kernel_rfl) (by kernel_rfl) (by kernel_rfl) (fun _ _ _ h => h) (Or.inl ⟨by kernel_rfl, ?hyu14⟩) (.inr hz0) ?restu14
      case hyu14 => (intro w _; go_simp; try with_reducible rfl)
      try simp only [Act.put, List.setIfInBounds_toArray, List.set_cons_zero, List.set_cons_succ]
      refine Zed.pureD (i := 15) (d := some 83) (v := ?vu15) rfl rfl (by kernel_rfl) (by kernel_rfl) (by kernel_rfl) (by kernel_rfl) (by kernel_rfl) (fun _ _ _ h => h) (Or.inl ⟨by kernel_rfl, ?hyu15⟩) (.inr hz0) ?restu15
      case hyu15 => (intro w _; go_simp; try with_reducible rfl)
      try simp only [Act.put, List.setIfInBounds_toArray, List.set_cons_zero, List.set_cons_succ]
      refine Zed.pureD (i := 16) (d := some 84) (v := ?vu16) rfl rfl (by kernel_rfl) (by kernel_rfl) (by kernel_rfl) (by kernel_rfl) (by kernel_rfl) (fun _ _ _ h => h) (Or.inl ⟨by kernel_rfl, ?hyu16⟩) (.inr hz0) ?restu16
      case hyu16 => (intro w _; go_simp; try with_reducible rfl)
      try simp only [Act.put, List.setIfInBounds_toArray, List.set_cons_zero, List.set_cons_succ]
      refine Zed.pureD (i := 17) (d := some 85) (v := ?vu17) rfl rfl (by kernel_rfl) (by kernel_rfl) (by kernel_rfl) (by kernel_rfl) (by kernel_rfl) (fun _ _ _ h => h) (Or.inl ⟨by kernel_rfl, ?hyu17⟩) (.inr hz0) ?restu17
      case hyu17 => (intro w _; go_simp; try with_reducible rfl)
      try simp only [Act.put, List.setIfInBounds_toArray, List.set_cons_zero, List.set_cons_succ]
      refine Zed.pureD (i := 18) (d := some 86) (v := ?vu18) rfl rfl (by kernel_rfl) (by kernel_rfl) (by kernel_rfl) (by kernel_rfl) (by kernel_rfl) (fun _ _ _ h => h) (Or.inl ⟨by kernel_rfl, ?hyu18⟩) (.inr hz0) ?restu18
      case hyu18 => (intro w _; go_simp; try with_reducible rfl)
      try simp only [Act.put, List.setIfInBounds_toArray, List.set_cons_zero, List.set_cons_succ]
      refine Zed.takeD (i := 19) (d := some 87) (v := ?vu19) rfl rfl (by kernel_rfl) (by kernel_rfl) (by kernel_rfl) (by kernel_rfl) (by kernel_rfl) (fun _ _ _ h => h) (Or.inl ⟨by kernel_rfl, ?hyu19⟩) hz0 ?restu19
      case hyu19 => (intro w hSw; (try dsimp only at hSw); have hc := (hSw.cell (p := ⟨bi, oi + i, none⟩) hgi).trans ci; go_simp; try with_reducible rfl)
      try simp only [Act.put, List.setIfInBounds_toArray, List.set_cons_zero, List.set_cons_succ]
      refine Zed.pureD (i := 20) (d := some 88) (v := ?vu20) rfl rfl (by kernel_rfl) (by kernel_rfl) (by kernel_rfl) (by kernel_rfl) (by kernel_rfl) (fun _ _ _ h => h) (Or.inl ⟨by kernel_rfl, ?hyu20⟩) (.inr hz0) ?restu20
      case hyu20 => (intro w _; go_simp; try with_reducible rfl)
      try simp only [Act.put, List.setIfInBounds_toArray, List.set_cons_zero, List.set_cons_succ]
      refine Zed.takeD (i := 21) (d := some 89) (v := ?vu21) rfl rfl (by kernel_rfl) (by kernel_rfl) (by kernel_rfl) (by kernel_rfl) (by kernel_rfl) (fun _ _ _ h => h) (Or.inl ⟨by kernel_rfl, ?hyu21⟩) hz0 ?restu21
      case hyu21 => (intro w hSw; (try dsimp only at hSw); have hc := (hSw.cell (p := ⟨bo, oo + kd, none⟩) hgo).trans co7; go_simp; try with_reducible rfl)
      try simp only [Act.put, List.setIfInBounds_toArray, List.set_cons_zero, List.set_cons_succ]
      refine Zed.pureD (i := 22) (d := some 90) (v := ?vu22) rfl rfl (by kernel_rfl) (by kernel_rfl) (by kernel_rfl) (by kernel_rfl) (by kernel_rfl) (fun _ _ _ h => h) (Or.inl ⟨by kernel_rfl, ?hyu22⟩) (.inr hz0) ?restu22
      case hyu22 => (intro w _; go_simp; try with_reducible rfl)
      try simp only [Act.put, List.setIfInBounds_toArray, List.set_cons_zero, List.set_cons_succ]
      refine Zed.pureD (i := 23) (d := some 91) (v := ?vu23) rfl rfl (by kernel_rfl) (by kernel_rfl) (by kernel_rfl) (by kernel_rfl) (by kernel_rfl) (fun _ _ _ h => h) (Or.inl ⟨by kernel_rfl, ?hyu23⟩) (.inr hz0) ?restu23
      case hyu23 => (intro w _; go_simp; try with_reducible rfl)
      try simp only [Act.put, List.setIfInBounds_toArray, List.set_cons_zero, List.set_cons_succ]
      refine Zed.pureD (i := 24) (d := some 92) (v := ?vu24) rfl rfl (by kernel_rfl) (by kernel_rfl) (by kernel_rfl) (by kernel_rfl) (by kernel_rfl) (fun _ _ _ h => h) (Or.inl ⟨by kernel_rfl, ?hyu24⟩) (.inr hz0) ?restu24
      case hyu24 => (intro w _; go_simp; try with_reducible rfl)
      try simp only [Act.put, List.setIfInBounds_toArray, List.set_cons_zero, List.set_cons_succ]
      refine Zed.takeD (i := 25) (d := some 93) (v := ?vu25) rfl rfl (by kernel_rfl) (by kernel_rfl) (by kernel_rfl) (by kernel_rfl) (by kernel_rfl) (fun _ _ _ h => h) (Or.inl ⟨by kernel_rfl, ?hyu25⟩) hz0 ?restu25
      case hyu25 => (intro w hSw; (try dsimp only at hSw); have hc := (hSw.cell (p := ⟨b, o + i, none⟩) hgr).trans cr7; go_simp; try with_reducible rfl)
      try simp only [Act.put, List.setIfInBounds_toArray, List.set_cons_zero, List.set_cons_succ]
      have hcall := trim_any A' c'' w7.heap.size r w7.drew (Krr.out.below hz0) hz0.size (by omega)
      refine Zed.callD (i := 26) (d := some 94) (fn := 18) (vs := #[.slice A' r.length c'']) (by kernel_rfl) rfl rfl (by kernel_rfl) ?hrunu26 hcall ?_
      case hrunu26 => kernel_rfl
      clear hcall
      rintro e wz ⟨vt, rfl, hot, hbz⟩
      have hz1 := hz0.trans (below_le hbz hz0.size)
      have Kot := Lib.hid (own_row hot Kts.out)
      clear hbz hot
      refine ⟨_, rfl, hz1, ?_⟩
      try simp only [Act.put, List.setIfInBounds_toArray, List.set_cons_zero, List.set_cons_succ]
      have hcall := ints_says (.slice Ao (Tb.trim r).length co') vt (Tb.trim r) (Tb.trim r) wz ((Kro.out.below hz1).row hz1.size) Kot.out
      rw [decide_eq_true rfl] at hcall
      refine Zed.callD (i := 27) (d := some 95) (fn := 14) (vs := #[.slice Ao (Tb.trim r).length co', vt]) (by kernel_rfl) rfl rfl (by kernel_rfl) ?hrunu27 hcall ?_
      case hrunu27 => kernel_rfl
      clear hcall
      rintro e wq ⟨rfl, kz, hwz⟩
      have hz2 : Below w7.heap.size w7 wq := by rw [hwz]; exact below_drewN hz1 kz
      clear hwz
      refine ⟨_, rfl, hz2, ?_⟩
      try simp only [Act.put, List.setIfInBounds_toArray, List.set_cons_zero, List.set_cons_succ]
      refine Zed.pureD (i := 28) (d := some 96) (v := ?vu28) rfl rfl (by kernel_rfl) (by kernel_rfl) (by kernel_rfl) (by kernel_rfl) (by kernel_rfl) (fun _ _ _ h => h) (Or.inl ⟨by kernel_rfl, ?hyu28⟩) (.inr hz2) ?restu28
      case hyu28 => (intro w _; go_simp; try with_reducible rfl)
      try simp only [Act.put, List.setIfInBounds_toArray, List.set_cons_zero, List.set_cons_succ]
      refine Zed.pureD (i := 29) (d := some 97) (v := ?vu29) rfl rfl (by kernel_rfl) (by kernel_rfl) (by kernel_rfl) (by kernel_rfl) (by kernel_rfl) (fun _ _ _ h => h) (Or.inl ⟨by kernel_rfl, ?hyu29⟩) (.inr hz2) ?restu29
      case hyu29 => (intro w _; go_simp; try with_reducible rfl)
      try simp only [Act.put, List.setIfInBounds_toArray, List.set_cons_zero, List.set_cons_succ]
      refine Zed.all (by kernel_rfl) ?_ _
      go_wp2_with fail
      go_roundg (R.length - (i + 1))
      case measure => have := Kq.out; omega
      case rel => exact ⟨i + 1, _, by go_num, by omega, rfl, KL7.out.below hz2, Kb7.out.trans (below_le hz2 Kb7.out.size)⟩
  ·obtain rfl : i = R.length := by omega
   have hP9 := KP.out.up (Kb2.out.trans (below_le Kb.out Kb2.out.size)) (Kb2.out.trans (below_le Kb.out Kb2.out.size)).size
   have KP9 := Lib.hid hP9
   clear hP9
   go_wp2_with fail
   go_loopg [13] m (fun q t13 wr => ∃ a : Nat, t13 = .int .i64 (a : Int) ∧ a ≤ m ∧ q = m - a ∧ Below wo.heap.size wo wr)
   case atStart => exact ⟨0, rfl, by omega, by omega, Below.refl _ _⟩
   case round =>
    obtain ⟨a, rfl, ha, hq2, hb3⟩ := hrel
    obtain ⟨wp, rfl⟩ : ∃ wp, wp = wr := ⟨_, rfl⟩
    have Kb3 := Lib.hid hb3
    have Kq2 := Lib.hid hq2
    have hszp := hb3.size
    clear hb3 hq2
    by_cases hla : a < m
    ·go_wp2_with fail
     go_loopg [14] a (fun q t14 wr => ∃ k : Nat, t14 = .int .i64 (k : Int) ∧ k ≤ a ∧ q = a - k ∧ Below wo.heap.size wo wr)
     case atStart => exact ⟨0, rfl, by omega, by omega, Kb3.out⟩
     case round =>
      obtain ⟨k, rfl, hk, hq3, hb4⟩ := hrel
      have Kb4 := Lib.hid hb4
      have Kq3 := Lib.hid hq3
      have hb24 := Kb.out.trans (below_le hb4 hszr)
      have Kb24 := Lib.hid hb24
      clear hb4 hq3
      by_cases hlk : k < a
      ·obtain ⟨la, hla'⟩ : ∃ la, (Tb.outs R)[a]? = some la := ⟨_, List.getElem?_eq_getElem (by rw [Km.out]; exact hla)⟩
       obtain ⟨lb, hlb'⟩ : ∃ lb, (Tb.outs R)[k]? = some lb := ⟨_, List.getElem?_eq_getElem (by rw [Km.out]; omega)⟩
       have hne : ¬ la = lb := fun e => Tb.outs_apart R k a lb hlk hlb' (e ▸ hla')
       obtain ⟨bo, oo, co, Aa, ca, heo, hca, hra⟩ := Kv2.out.cell hla'
       rw [Km.out] at heo
       simp only [Value.slice.injEq, true_and] at heo
       obtain ⟨rfl, rfl⟩ := heo
       obtain ⟨bo', oo', co', Ab, cb, heo, hcb, hrb⟩ := Kv2.out.cell hlb'
       rw [Km.out] at heo
       simp only [Value.slice.injEq, Option.some.injEq, Addr.mk.injEq, true_and, and_true] at heo
       obtain ⟨⟨rfl, rfl⟩, rfl⟩ := heo
       have hbo : bo < w2.heap.size := (cell_spot hca).1
       have ca4 := (hb24.cell (p := ⟨bo, oo + a, none⟩) hbo).trans hca
       have cb4 := (hb24.cell (p := ⟨bo, oo + k, none⟩) hbo).trans hcb
       have r1 := hra.below hb24
       have r2 := hrb.below hb24
       have hs24 := hb24.size
       have Kc := Lib.hid (show ∀ n, Calls Tryd.prog 14 #[.slice Aa la.length ca, .slice Ab lb.length cb] (wr.drewN n) fun e w'' => e = .returned (.bool false) ∧ ∃ m, w'' = (wr.drewN n).drewN m from fun n => by
        have hcall := ints_says (.slice Aa la.length ca) (.slice Ab lb.length cb) la lb (wr.drewN n) ((r1.drewN n).row hs24) ((r2.drewN n).row hs24)
        rw [decide_eq_false hne] at hcall
        exact hcall)
       have q1 : (0 : Int) ≤ (a : Int) := by omega
       have q2 : (a : Int) < (m : Int) := by omega
       have q3 : ((a : Int)).toNat = a := by omega
       have q4 : (0 : Int) ≤ (k : Int) := by omega
       have q5 : (k : Int) < (m : Int) := by omega
       have q6 : ((k : Int)).toNat = k := by omega
       have q7 : (k : Int) < (a : Int) := by omega
       clear hla' hlb' hne hca hcb hra hrb r1 r2 hs24 hb24
       go_wp2_with fail
       go_quiet (exact Calls.quiet_of (Kc.out _))
       go_wp2_with fail
       go_roundg (a - (k + 1))
       case measure => have := Kq3.out; omega
       case rel => exact ⟨k + 1, by go_num, by omega, rfl, below_drewN Kb4.out _⟩
      ·obtain rfl : k = a := by omega
       clear hb24
       go_wp2_with fail
       go_roundg (m - (k + 1))
       case measure => have := Kq2.out; omega
       case rel => exact ⟨k + 1, by go_num, by omega, rfl, Kb4.out⟩
    ·obtain rfl : a = m := by omega
     have hLp := KL.out.below Kb3.out
     have hrows := hLp.rows (lg_small KR2.out.smalls)
     have hb2p := Kb.out.trans (below_le Kb3.out hszr)
     have hPp : Pow wp.heap.size wp := Pow.up KP9.out Kb3.out hszp
     have Ksw := Lib.hid (share_wide _ _ wp hrows (lg_wide KS.out (behind_le nn X)) hPp)
     have Kb2p := Lib.hid hb2p
     clear hLp hrows hb2p hPp
     go_wp2_with fail
     refine Ksw.out.mono ?_
     rintro e wy ⟨u1, u2, rfl, hSw⟩
     have hb2y := Kb2p.out.trans (below_le hSw.below Kb2p.out.size)
     have hids : Tb.ids (lg R (behind nn X) R.length) = Tb.ids R := by unfold Tb.ids; rw [lg_share]
     have houts : Tb.outs (lg R (behind nn X) R.length) = Tb.outs R := by unfold Tb.outs; rw [lg_share]
     have s2 := hSw.rows (by rw [houts]; exact outs_smalls KR2.out.smalls)
     have s1 := hSw.ids
     rw [houts] at s2
     rw [hids] at s1
     have s1 := own_row s1 (ints_small (fun x hx => by have := ids_le KS.out x hx; omega))
     have Kin := Lib.hid (ints_says _ _ (ints (Tb.ids R)) (ints (Tb.ids R)) wy (Kv1.out.below hb2y) s1)
     rw [decide_eq_true rfl] at Kin
     have Ks2 := Lib.hid s2
     have Kb2y := Lib.hid hb2y
     have Kv2y := Lib.hid (Kv2.out.below hb2y)
     clear hb2y hids houts s1 s2 hSw Ksw
     go_wp2_with fail
     refine Kin.out.mono ?_
     rintro e wz ⟨rfl, n1, hwz⟩
     have Kli := Lib.hid (lists_any _ _ (Tb.outs R) (Tb.outs R) wz (by rw [hwz]; exact Kv2y.out.drewN _) (by rw [hwz]; exact Ks2.out.drewN _))
     rw [decide_eq_true rfl] at Kli
     have Kb2z := Lib.hid (show Below w2.heap.size w2 wz by rw [hwz]; exact below_drewN Kb2y.out _)
     clear hwz Kin
     go_wp2_with fail
     refine Kli.out.mono ?_
     rintro e wt ⟨rfl, n2, hwt⟩
     have Kb2t := Lib.hid (show Below w2.heap.size w2 wt by rw [hwt]; exact below_drewN Kb2z.out _)
     clear hwt Kli
     go_wp2_with fail
     go_ret
     exact ⟨rfl, Kb2.out.trans (below_le Kb2t.out Kb2.out.size)⟩
end Go.Proofs.YtjcijffhcmbhnaaDoor
