import Derived.Test.YtjcijffhcmbhnaaDoorTbF
namespace Go.Proofs.YtjcijffhcmbhnaaDoor
set_option maxRecDepth 100000
open Go.RowKit
open BitKit
set_option linter.unusedVariables false
set_option linter.unusedSimpArgs false
def Known (w : World) (m : Nat) (L : List (List Int)) : Prop := ∃ D : DataW Unit, w.ownsMap Tryd.prog 9 (plainElem Tryd.prog 3) m L.length D ∧
 ∀ t : List Int, Maps.has D (.string (Tb.txt t)) = decide (Tb.find L t < L.length) ∧ (Tb.find L t < L.length → D.atKey (.string (Tb.txt t)) (.lit (.int .i64 0)) = .lit (.int .i64 ((Tb.find L t : Nat) : Int)))
theorem Known.kept {w w' : World} {m : Nat} {L : List (List Int)} {row : Option Nat} (h : Known w m L) (hg : w.grownBy w' row) (hne : some m ≠ row) : Known w' m L := by
 obtain ⟨D, h1, h2⟩ := h; exact ⟨D, h1.kept hg hne, h2⟩
theorem Known.lt {w : World} {m : Nat} {L : List (List Int)} (h : Known w m L) : m < w.heap.size := by obtain ⟨D, h1, _⟩ := h; exact h1.lt
theorem Known.made (w : World) : Known (w.alloc (.map #[] 0)) w.heap.size [] := ⟨_, World.ownsMap_made w _ _ _, fun t => ⟨by simp [Maps.has, Tb.find], fun h => by simp at h⟩⟩
theorem Known.own {w : World} {m : Nat} {L : List (List Int)} (h : Known w m L) {B e size n : Nat} {v : Value} {xs : List Value} (ho : w.ownsRow B e size v n xs) : some m ≠ v.ownBlock := by
 obtain ⟨D, ⟨es, c, h1, _⟩, _⟩ := h
 rcases ho.2 with ⟨rfl, _⟩ | ⟨g, cap, cur, rfl, _, hg, _⟩
 ·simp [Value.ownBlock]
 ·intro e
  simp [Value.ownBlock] at e
  subst e
  rw [hg] at h1; simp at h1
theorem key_of (t : List Int) (ht : (Tb.txt t).length ≤ 100000) : keyOf Tryd.prog 9 (.string ⟨(Tb.txt t).toArray⟩) = some (.string (Tb.txt t)) :=
 Go.WideMaps.keyOf_string_mk Tryd.underlying9 (s := ⟨(Tb.txt t).toArray⟩) (by
  have : (⟨(Tb.txt t).toArray⟩ : ByteArray).size = (Tb.txt t).length := by simp [ByteArray.size]
  rw [this]; unfold maxLen; omega)
theorem Known.look {w : World} {m : Nat} {L : List (List Int)} (h : Known w m L) (t : List Int) (ht : (Tb.txt t).length ≤ 100000) :
  ∃ c : Int, (Instr.lookup 43 (.map (some m)) (.string ⟨(Tb.txt t).toArray⟩) true).run Tryd.prog w = .ok (.tuple #[.int .i64 c, .bool (decide (Tb.find L t < L.length))]) w ∧ (Tb.find L t < L.length → c = ((Tb.find L t : Nat) : Int)) := by
 obtain ⟨D, h1, h2⟩ := h
 obtain ⟨v, ps, hrun, hv⟩ := h1.look_ok (Go.Maps.string_keyed Tryd.underlying9) Tryd.underlying43 (z := .int .i64 0) (by kernel_rfl) (zd := .lit (.int .i64 0)) (zp := []) (plainElem_int Tryd.underlying3 (by decide)) (key_of t ht)
 obtain ⟨c, rfl, hc, _⟩ := plainElem_int_inv Tryd.underlying3 hv
 refine ⟨c, by rw [hrun, (h2 t).1], fun hf => ?_⟩
 have := (h2 t).2 hf
 simp only [Prod.mk.injEq] at hc
 rw [hc.1] at this
 simpa using this
theorem Known.put {w : World} {m : Nat} {L : List (List Int)} (h : Known w m L) (t : List Int) (ht : (Tb.txt t).length ≤ 100000) (hf : Tb.find L t = L.length) (hl : L.length ≤ 100000) :
  ∃ w', (Instr.mapUpdate 43 (.map (some m)) (.string ⟨(Tb.txt t).toArray⟩) (.int .i64 (L.length : Int))).run Tryd.prog w = .ok () w' ∧ Known w' m (L ++ [t]) ∧ w.grownBy w' (some m) := by
 obtain ⟨D, h1, h2⟩ := h
 obtain ⟨w', hrun, ho, hg⟩ := h1.update (Go.Maps.string_keyed Tryd.underlying9) Tryd.underlying43 (by unfold maxLen; omega) (key_of t ht) (val := .int .i64 (L.length : Int)) (d := .lit (.int .i64 (L.length : Int))) (ps := [])
  (plainElem_int Tryd.underlying3 (by simp [Lit.wf, IntKind.min, IntKind.max, IntKind.signed, IntKind.bits]; omega))
 refine ⟨w', hrun, ⟨D.put (.string (Tb.txt t)) (.lit (.int .i64 (L.length : Int))), by rw [List.length_append]; exact ho, fun s => ?_⟩, hg⟩
 by_cases e : s = t
 ·subst e
  rw [Go.Maps.has_put_same h1.isMap (by simp [WideAt.IsKeyLit]), Go.Maps.atKey_put_same h1.isMap (by simp [WideAt.IsKeyLit]), Tb.find_snoc L s hf]
  simp
 ·have hne : Lit.string (Tb.txt s) ≠ Lit.string (Tb.txt t) := fun h => e (Tb.txt_inj (by simpa using h))
  rw [Go.Maps.has_put_other hne, Go.Maps.atKey_put_other hne, (h2 s).1]
  have hiff : Tb.find (L ++ [t]) s < (L ++ [t]).length ↔ Tb.find L s < L.length := by
   rw [Tb.find_mem, Tb.find_mem, List.mem_append, List.mem_singleton]
   exact ⟨fun h => h.resolve_right e, .inl⟩
  refine ⟨by rw [decide_eq_decide]; exact hiff.symm, fun h => ?_⟩
  have h3 := hiff.1 h
  rw [Tb.find_snoc_old h3]
  exact (h2 s).2 h3
structure ShrS (B m : Nat) (w : World) (v1 v2 : Value) (PV : List Value) (I : List Int) (O M : List (List Int)) : Prop where
 ids : OwnI w B v1 I
 out : w.ownsRow B 25 1 v2 O.length PV
 plen : PV.length = O.length
 each : ∀ (i : Nat) (u : Value) (l : List Int), PV[i]? = some u → O[i]? = some l → OwnI w B u l ∧ Ap v1 u
 map : Known w m M
 mB : B ≤ m
 size : B ≤ w.heap.size
section
variable {B m : Nat} {w w' : World} {v1 v2 : Value} {PV : List Value} {I : List Int} {O M : List (List Int)}
theorem ShrS.below (h : ShrS B m w v1 v2 PV I O M) (hb : Below w.heap.size w w') : ShrS B m w' v1 v2 PV I O M :=
 ⟨h.ids.below hb, own_below h.out hb (fun k hk => own_block h.out k hk), h.plen, fun i u l h1 h2 => ⟨(h.each i u l h1 h2).1.below hb, (h.each i u l h1 h2).2⟩,
  h.map.kept (row := none) ⟨hb.os, hb.tape, hb.output, hb.size, fun i hi _ => hb.block i hi⟩ (by simp), h.mB, Nat.le_trans h.size hb.size⟩
theorem ShrS.alloc (h : ShrS B m w v1 v2 PV I O M) (o : Obj) : ShrS B m (w.alloc o) v1 v2 PV I O M := h.below ((Below.refl _ _).alloc (Nat.le_refl _) o)
theorem own_kept_ne {e size n : Nat} {v : Value} {xs : List Value} {row : Option Nat} (h : w.ownsRow B e size v n xs) (hg : w.grownBy w' row) (hne : ∀ k, v.ownBlock = some k → row ≠ some k) : w'.ownsRow B e size v n xs :=
 h.kept hg (by
  cases hv : v.ownBlock with
  | none => exact .inl rfl
  | some k => exact .inr (fun e => hne k hv e.symm))
theorem ShrS.put (h : ShrS B m w v1 v2 PV I O M) {M' : List (List Int)} (hg : w.grownBy w' (some m)) (hk : Known w' m M') : ShrS B m w' v1 v2 PV I O M' :=
 ⟨own_kept_ne h.ids hg (fun k hk e => h.map.own h.ids (by rw [hk]; exact e)), own_kept_ne h.out hg (fun k hk e => h.map.own h.out (by rw [hk]; exact e)), h.plen,
  fun i u l h1 h2 => ⟨own_kept_ne (h.each i u l h1 h2).1 hg (fun k hk e => h.map.own (h.each i u l h1 h2).1 (by rw [hk]; exact e)), (h.each i u l h1 h2).2⟩, hk, h.mB, Nat.le_trans h.size hg.size⟩
theorem ShrS.add (h : ShrS B m w v1 v2 PV I O M) {u v2' : Value} {l : List Int} (hu : OwnI w B u l) (ha : Ap v1 u) (ho : w'.ownsRow B 25 1 v2' (O ++ [l]).length (PV ++ [u])) (hg : w.grownBy w' v2.ownBlock) :
  ShrS B m w' v1 v2' (PV ++ [u]) I (O ++ [l]) M := by
 have hne : ∀ {x : Value} {l : List Int}, OwnI w B x l → OwnI w' B x l := fun hx => own_kept_ne hx hg (fun k hk e => own_apart2 hx h.out (by decide) k hk e)
 refine ⟨hne h.ids, ho, by simp [h.plen], fun i x r h1 h2 => ?_, h.map.kept hg (h.map.own h.out), h.mB, Nat.le_trans h.size hg.size⟩
 by_cases hi : i < PV.length
 ·rw [List.getElem?_append_left hi] at h1
  rw [List.getElem?_append_left (by have := h.plen; omega)] at h2
  exact ⟨hne (h.each i x r h1 h2).1, (h.each i x r h1 h2).2⟩
 ·have hil := (List.getElem?_eq_some_iff.1 h1).1
  simp only [List.length_append, List.length_cons, List.length_nil] at hil
  have he : i = PV.length := by omega
  subst he
  simp at h1
  rw [h.plen] at h2
  simp at h2
  subst h1 h2
  exact ⟨hne hu, ha⟩
theorem ShrS.num (h : ShrS B m w v1 v2 PV I O M) {v1' : Value} {x : Int} (ho : OwnI w' B v1' (I ++ [x])) (hg : w.grownBy w' v1.ownBlock) (hs : SameOrNew w v1 v1') : ShrS B m w' v1' v2 PV (I ++ [x]) O M :=
 ⟨ho, own_kept_ne h.out hg (fun k hk e => own_apart2 h.ids h.out (by decide) k e hk), h.plen, fun i u l h1 h2 => ⟨own_ap (h.each i u l h1 h2).1 hg (h.each i u l h1 h2).2.symm, (h.each i u l h1 h2).2.new hs (own_block (h.each i u l h1 h2).1)⟩,
  h.map.kept hg (h.map.own h.ids), h.mB, Nat.le_trans h.size hg.size⟩
end
theorem clone_any (A : Option Addr) (c B : Nat) (l : List Int) (w : World) (h : RowIn w B (.slice A l.length c) l) (hl : l.length ≤ 60000) :
  Calls Tryd.prog 22 #[.slice A l.length c] w fun e w' => ∃ v, e = .returned v ∧ OwnI w' w.heap.size v l ∧ Below w.heap.size w w' := by
 cases A with
 | none =>
  have h0 : l = [] := by
   cases l with
   | nil => rfl
   | cons x t => obtain ⟨b, o, he, _⟩ := h.nums.each 0 (by simp); cases he
  subst h0
  refine (clone_none _ c w).mono ?_
  rintro e w' ⟨rfl, rfl⟩
  exact ⟨_, rfl, OwnI.nil _ _, Below.refl _ _⟩
 | some ad =>
  by_cases h0 : l = []
  ·subst h0
   refine (clone_zero ad c w).mono ?_
   rintro e w' ⟨v, rfl, h1, _, h2⟩
   exact ⟨v, rfl, h1, h2⟩
  ·obtain ⟨b, o, he, _, _⟩ := h.nums.each 0 (List.length_pos_iff.2 h0)
   injection he with he
   subst he
   refine (clone_ints b o l.length c l w (Nat.le_refl _) (by omega) (fun j hj => by
    obtain ⟨b', o', he, _, h1⟩ := h.nums.each j hj
    obtain ⟨rfl, rfl⟩ := same_addr he
    exact h1)).mono ?_
   rintro e w' ⟨v, rfl, h1, _, h2⟩
   rw [List.take_length] at h1
   exact ⟨v, rfl, h1, h2⟩
theorem Tryd.infoIs : (Tryd.prog.info? 25).map (fun i => (i.zero, i.size, i.bytes)) = some (some (.slice none 0 0), 1, 24) := by kernel_rfl
theorem cell_new_alloc (w : World) (u : Value) (t : TypeId) : ∀ (j : Nat) (x : Value), [u][j]? = some x → (w.alloc (.cells #[u] t)).cell? ((⟨w.heap.size, 0, none⟩ : Addr).add j) = some x := cell_one_new w u t
structure Shared (w w' : World) (v1 v2 : Value) (rs : List (List Int)) : Prop where
 ids : OwnI w' w.heap.size v1 (ints (Tb.ids rs))
 ex : ∃ PV, w'.ownsRow w.heap.size 25 1 v2 (Tb.outs rs).length PV ∧ PV.length = (Tb.outs rs).length ∧ ∀ (i : Nat) (u : Value) (l : List Int), PV[i]? = some u → (Tb.outs rs)[i]? = some l → OwnI w' w.heap.size u l
 below : Below w.heap.size w w'
def SmallAll (R : List (List Int)) : Prop := ∀ l ∈ R, Small l
def Short (R : List (List Int)) : Prop := R.length ≤ 25 ∧ ∀ l ∈ R, l.length ≤ 25
set_option maxHeartbeats 4000000 in
theorem share_any (v : Value) (R : List (List Int)) (w : World) (h : RowsL w v R) (hS : Short R) (hP : Pow w.heap.size w) :
  Calls Tryd.prog 10 #[v] w fun e w' => ∃ v1 v2, e = .returned (.tuple #[v1, v2]) ∧ Shared w w' v1 v2 R := by
 obtain ⟨i0, hi, hz0, hz1, hz2⟩ := info_parts Tryd.infoInt
 obtain ⟨i1, hj, hy0, hy1, hy2⟩ := info_parts Tryd.infoIs
 have KR := Lib.hid h
 have KS := Lib.hid hS
 have KP := Lib.hid hP
 have hR25 := hS.1
 obtain ⟨A, c, rfl⟩ := h.shape
 clear h hS hP
 go_enter Tryd.func10, Tryd.ntmps10
 have hmm := @run_makeMap Tryd.prog
 go_wp2_with fail
 clear hmm
 go_loopg [4, 5, 15] R.length (fun q t4 t5 t15 wr => ∃ (k : Nat) (PV : List Value), t15 = .int .i64 (k : Int) ∧ k ≤ R.length ∧ q = R.length - k ∧ ShrS w.heap.size w.heap.size wr t4 t5 PV (ints (Tb.ids (R.take k))) (Tb.outs (R.take k)) (Tb.outs (R.take k)) ∧ Below w.heap.size w wr)
 case atStart => exact ⟨0, [], rfl, by omega, by omega, ⟨OwnI.nil _ _, World.ownsRow_nil _ _ _ _, rfl, (fun i u l h => by simp at h), Known.made w, Nat.le_refl _, by simp⟩, (Below.refl _ _).alloc (Nat.le_refl _) _⟩
 case round =>
  obtain ⟨k, PV, rfl, hk, hq, hSh, hb⟩ := hrel
  have KSh := Lib.hid hSh
  have Kb := Lib.hid hb
  have Kq := Lib.hid hq
  obtain ⟨a1, c1, rfl⟩ := hSh.ids.shape
  obtain ⟨a2, c2, rfl, _⟩ := own_slice hSh.out
  have hpl := hSh.plen
  have hszr := hb.size
  clear hSh hb hq
  by_cases hlt : k < R.length
  ·obtain ⟨l, hl⟩ : ∃ l, R[k]? = some l := ⟨_, List.getElem?_eq_getElem hlt⟩
   have hlm : l ∈ R := List.mem_of_getElem? hl
   have hl25 := KS.out.2 l hlm
   obtain ⟨b, o, c', A', c'', he, hc0, hrow0⟩ := KR.out.cell hl
   have hc := (Kb.out.cell (p := ⟨b, o + k, none⟩) (cell_spot hc0).1).trans hc0
   have hrow := hrow0.below Kb.out
   simp only [Value.slice.injEq, true_and] at he
   obtain ⟨rfl, rfl⟩ := he
   have q1 : (0 : Int) ≤ (k : Int) := by omega
   have q2 : (k : Int) < (R.length : Int) := by omega
   have q3 : ((k : Int)).toNat = k := by omega
   have hids := Tb.ids_snoc (R.take k) l
   rw [← Tb.take_snoc hl] at hids
   have hil : (Tb.ids (R.take k)).length ≤ 25 := by rw [Tb.ids_length, List.length_take]; omega
   have hol : (Tb.outs (R.take k)).length ≤ 25 := by have := Tb.outs_le (R.take k); rw [List.length_take] at this; omega
   have hold : Tb.find (Tb.outs (R.take k)) (Tb.trim l) < (Tb.outs (R.take k)).length → Tb.outs (R.take (k + 1)) = Tb.outs (R.take k) := fun hf => by rw [Tb.take_snoc hl, Tb.outs_old hf]
   have hnew : ¬ Tb.find (Tb.outs (R.take k)) (Tb.trim l) < (Tb.outs (R.take k)).length → Tb.outs (R.take (k + 1)) = Tb.outs (R.take k) ++ [Tb.trim l] := fun hf => by rw [Tb.take_snoc hl, Tb.outs_new hf]
   have htl : (Tb.trim l).length ≤ 25 := by have := Tb.trim_le l; omega
   have htx : (Tb.txt (Tb.trim l)).length ≤ 100000 := by
    have := Tb.txt_length (l := Tb.trim l) (hrow.trimmed.small)
    omega
   have hle := Tb.find_le (Tb.outs (R.take k)) (Tb.trim l)
   generalize Tb.ids (R.take k) = I at KSh hids hil ⊢
   generalize Tb.outs (R.take k) = O at KSh hids hol hold hnew hle hpl ⊢
   have Kwo := Lib.hid (without_any A' c'' w.heap.size l wr hrow)
   have hrt := hrow.trimmed
   generalize ht : Tb.trim l = t at Kwo hrt hids hold hnew htl htx hle
   have Kte := Lib.hid (text_any A' c'' w.heap.size t wr hrt hszr (by omega) (KP.out.up Kb.out hszr))
   have Kids := Lib.hid hids
   have Krt := Lib.hid hrt
   clear hl hlm hl25 hc0 hrow0 hrow hids hrt ht
   by_cases hf : Tb.find O t < O.length
   ·have Kout := Lib.hid (hold hf)
    have hdf : decide (Tb.find O t < O.length) = true := decide_eq_true hf
    clear hold hnew
    go_wp2_with fail
    refine Kwo.out.mono ?_
    rintro e w0 ⟨rfl, rfl⟩
    go_wp2_with fail
    refine Kte.out.mono ?_
    rintro e w1 ⟨rfl, hb1⟩
    have KSh1 := Lib.hid (KSh.out.below hb1)
    have Kb1 := Lib.hid (Kb.out.trans (below_le hb1 hszr))
    obtain ⟨c0, hrun, hc0⟩ := KSh1.out.map.look t htx
    rw [hdf] at hrun
    obtain rfl := hc0 hf
    clear hb1 KSh Kb Kte hc0 hdf
    go_wp2_with (at_builtin; refine wpList_append_own2 _ rfl (.tmp 41) (.tmp 43) 25 rfl w.heap.size 3 i0 _ 1 8 Tryd.underlying25 hi hz0 hz1 hz2 rfl (by decide) (.slice a1 (ints I).length c1) _ (vals (ints I)) rfl (KSh1.out.alloc _).ids ⟨w1.heap.size, 0, none⟩ 1 1 [.int .i64 ((Tb.find O t : Nat) : Int)] rfl rfl (cell_one_new _ _ _) (one_one rfl) ?d1 ?d2 ?d3 ?_)
    case d1 => rw [ints_length]; unfold maxLen; omega
    case d2 => rw [ints_length]; omega
    case d3 => have := KSh1.out.size; rw [World.size_alloc]; omega
    intro v5 w5 hown hgrow hsn
    have KSh5 := Lib.hid ((KSh1.out.alloc _).num (x := ((Tb.find O t : Nat) : Int)) (show OwnI w5 w.heap.size v5 (ints I ++ [((Tb.find O t : Nat) : Int)]) by
     unfold OwnI
     rw [vals_snoc, List.length_append]; exact hown) hgrow hsn)
    have Kb5 := Lib.hid ((Kb1.out.alloc KSh1.out.size _).grown hgrow (by have := KSh1.out.size; rw [World.size_alloc]; omega) (fun q hq => (KSh1.out.ids.lt q hq).1))
    clear hown hgrow hsn
    go_wp2_with fail
    go_roundg (R.length - (k + 1))
    case measure => have := Kq.out; omega
    case rel =>
     refine ⟨k + 1, PV, by go_num, by omega, rfl, ?_, Kb5.out⟩
     rw [Kids.out, ints_snoc]
     rw [Kout.out]; exact KSh5.out
   ·have hfl : Tb.find O t = O.length := by omega
    have Kout := Lib.hid (hnew hf)
    have hdf : decide (Tb.find O t < O.length) = false := decide_eq_false hf
    have Kfl := Lib.hid hfl
    clear hold hnew
    go_wp2_with fail
    refine Kwo.out.mono ?_
    rintro e w0 ⟨rfl, rfl⟩
    go_wp2_with fail
    refine Kte.out.mono ?_
    rintro e w1 ⟨rfl, hb1⟩
    have KSh1 := Lib.hid (KSh.out.below hb1)
    have Kb1 := Lib.hid (Kb.out.trans (below_le hb1 hszr))
    obtain ⟨c0, hrun, hc0⟩ := KSh1.out.map.look t htx
    rw [hdf] at hrun
    obtain ⟨w2, hrun2, hk2, hg2⟩ := KSh1.out.map.put t htx hfl (by omega)
    have KSh2 := Lib.hid (KSh1.out.put hg2 hk2)
    have Kb2 := Lib.hid (Kb1.out.grown hg2 KSh1.out.size (fun q hq => by injection hq with hq; omega))
    have hsz1 := hb1.size
    have hsz2 := hg2.size
    have hrt2 : RowIn w2 w.heap.size (.slice A' t.length c'') t := by
     have h1 := Krt.out.below (hb1.mono hszr)
     exact h1.below ((Below.refl _ _).grown hg2 KSh1.out.size (fun q hq => by injection hq with hq; omega))
    have Kcl := Lib.hid (clone_any A' c'' w.heap.size t w2 hrt2 (by omega))
    clear hb1 KSh Kb Kte hc0 hdf hf hfl hk2 hg2 hrt2
    go_wp2_with fail
    refine Kcl.out.mono ?_
    rintro e w3 ⟨u, rfl, hO3, hb3⟩
    have hap : Ap (.slice a1 (ints I).length c1) u := fun q h1 h2 => by
     have h3 := own_block KSh2.out.ids q h1
     have h4 := (hO3.lt q h2).1
     omega
    have KSh3 := Lib.hid (KSh2.out.below hb3)
    have Kb3 := Lib.hid (Kb2.out.trans (below_le hb3 KSh2.out.size))
    have KO3 := Lib.hid (show OwnI w3 w.heap.size u t from own_base hO3 KSh2.out.size)
    have Kap := Lib.hid hap
    obtain ⟨au, cu, rfl⟩ := hO3.shape
    clear hO3 hb3 hap Kcl KSh1 Kb1 hrun hrun2
    go_wp2_with (at_builtin; refine wpList_append_own2 _ rfl (.tmp 36) (.tmp 39) 22 rfl w.heap.size 25 i1 _ 1 24 Tryd.underlying22 hj hy0 hy1 hy2 rfl (by decide) (.slice a2 O.length c2) _ PV rfl (KSh3.out.alloc _).out ⟨w3.heap.size, 0, none⟩ 1 1 [.slice au t.length cu] rfl rfl (cell_one_new _ _ _) (one_one rfl) ?c1 ?c2 ?c3 ?_)
    case c1 => unfold maxLen; omega
    case c2 => omega
    case c3 => have := KSh3.out.size; rw [World.size_alloc]; omega
    intro v4 w4 hown hgrow hsn
    have KSh4 := Lib.hid ((KSh3.out.alloc _).add (KO3.out.alloc _) Kap.out (by rw [List.length_append]; exact hown) hgrow)
    have Kb4 := Lib.hid ((Kb3.out.alloc KSh3.out.size _).grown hgrow (by have := KSh3.out.size; rw [World.size_alloc]; omega) (fun q hq => (KSh3.out.out.lt q hq).1))
    obtain ⟨a4, c4, rfl, _⟩ := own_slice hown
    clear hown hgrow hsn KSh3 Kb3 KO3 Kap
    go_wp2_with (at_builtin; refine wpList_append_own2 _ rfl (.tmp 41) (.tmp 43) 25 rfl w.heap.size 3 i0 _ 1 8 Tryd.underlying25 hi hz0 hz1 hz2 rfl (by decide) (.slice a1 (ints I).length c1) _ (vals (ints I)) rfl (KSh4.out.alloc _).ids ⟨w4.heap.size, 0, none⟩ 1 1 [.int .i64 (O.length : Int)] rfl rfl (cell_one_new _ _ _) (one_one rfl) ?d1 ?d2 ?d3 ?_)
    case d1 => rw [ints_length]; unfold maxLen; omega
    case d2 => rw [ints_length]; omega
    case d3 => have := KSh4.out.size; rw [World.size_alloc]; omega
    intro v5 w5 hown hgrow hsn
    have KSh5 := Lib.hid ((KSh4.out.alloc _).num (x := (O.length : Int)) (show OwnI w5 w.heap.size v5 (ints I ++ [(O.length : Int)]) by
     unfold OwnI
     rw [vals_snoc, List.length_append]; exact hown) hgrow hsn)
    have Kb5 := Lib.hid ((Kb4.out.alloc KSh4.out.size _).grown hgrow (by have := KSh4.out.size; rw [World.size_alloc]; omega) (fun q hq => (KSh4.out.ids.lt q hq).1))
    clear hown hgrow hsn
    go_wp2_with fail
    go_roundg (R.length - (k + 1))
    case measure => have := Kq.out; omega
    case rel =>
     refine ⟨k + 1, PV ++ [.slice au t.length cu], by go_num, by omega, rfl, ?_, Kb5.out⟩
     rw [Kids.out, ints_snoc]
     rw [Kout.out, Kfl.out]; exact KSh5.out
  ·obtain rfl : k = R.length := by omega
   rw [List.take_length] at KSh ⊢
   go_wp2_with fail
   go_ret2
   exact ⟨_, _, rfl, KSh.out.ids, ⟨PV, KSh.out.out, KSh.out.plen, fun i u l h1 h2 => (KSh.out.each i u l h1 h2).1⟩, Kb.out⟩
end Go.Proofs.YtjcijffhcmbhnaaDoor
