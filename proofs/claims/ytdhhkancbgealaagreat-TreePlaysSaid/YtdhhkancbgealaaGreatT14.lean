import Derived.Test.YtdhhkancbgealaaGreatT13
namespace Go.Proofs.YtdhhkancbgealaaGreat
open Go.RowKit Go.Shelf
open Lx
set_option linter.unusedVariables false
set_option linter.unusedSimpArgs false
set_option maxRecDepth 100000
def Tr.below (L : List Tr.Nd) (i : Int) : List Int := if Tr.has L i = true then Tr.Bel L i else []
set_option maxHeartbeats 1600000 in
theorem walk_no (i : Int) (w : World) (B tg g mb : Nat) (l m : Int) (S : List Sl) (fe fl : Value) (h : TreeIs w B tg g mb l m S) (hi : Tr.has (nds S) i = false) :
  Calls Tryz.prog 51 #[.pointer (some ⟨tg, 0, none⟩), .int .i64 i, fe, fl] w fun e w' => e = .returned (.tuple #[]) ∧ Below w.heap.size w w' := by
 have HHAS := Lib.hid (thas_any i w B tg g mb l m S h)
 rw [hi] at HHAS
 clear h hi
 go_enter Tryz.func51, Tryz.ntmps51
 go_wp2_with fail
 refine HHAS.out.mono ?_
 rintro e w1 ⟨rfl, hb⟩
 go_wp2_with fail
 refine bodyPost_ret (results_none rfl _ _ _) rfl ⟨rfl, hb⟩
structure BelJ (w : World) (lb : Nat) (pre : List (Int × Bool)) (F : List Nat) (W : World) : Prop where
 ex : ∃ v, At W lb 32 #[v] ∧ W.ownsRow w.heap.size 3 1 v (Tr.lefts pre).length (vals (Tr.lefts pre)) ∧ F = lb :: v.ownBlock.toList
 keeps : Keeps [lb] w W
theorem keeps_tree {w W : World} {B tg g mb lb : Nat} {l m : Int} {S : List Sl} {t : TypeId} {cs : Array Value} (h : TreeIs w B tg g mb l m S) (hA : At w lb t cs) (ht : t ∉ treeT) (hk : Keeps [lb] w W) : TreeIs W B tg g mb l m S :=
 h.spares (ts := [t]) (hk.spares (fun k hk cs' t' hh => by
  simp at hk; subst hk
  rw [hA.type hh]; simp)) (fun q hq hm => by simp at hm; subst hm; exact ht hq)
theorem lefts_enter (pre : List (Int × Bool)) (k : Int) : Tr.lefts (pre ++ [(k, true)]) = Tr.lefts pre := by rw [Tr.lefts_append]; simp [Tr.lefts]
theorem lefts_leave (pre : List (Int × Bool)) (k : Int) : Tr.lefts (pre ++ [(k, false)]) = Tr.lefts pre ++ [k] := by rw [Tr.lefts_append]; simp [Tr.lefts]
set_option maxHeartbeats 1600000 in
theorem below1_any (k : Int) (W : World) : Calls Tryz.prog 52 #[.int .i64 k] W fun e W' => e = .returned (.tuple #[]) ∧ W' = W := by
 go_enter Tryz.func52, Tryz.ntmps52
 go_wp2_with fail
 go_end0
 exact ⟨rfl, rfl⟩
set_option maxHeartbeats 1600000 in
theorem below2_any (k : Int) (W : World) (B lb n : Nat) (v : Value) (X : List Int) (hA : At W lb 32 #[v]) (ho : W.ownsRow B 3 1 v n (vals X)) (hn : n ≤ 1000000) (hB : B ≤ W.heap.size) :
  Calls Tryz.prog 53 #[.int .i64 k, .pointer (some ⟨lb, 0, none⟩)] W fun e W' => e = .returned (.tuple #[]) ∧
   ∃ v', At W' lb 32 #[v'] ∧ W'.ownsRow B 3 1 v' (n + 1) (vals (X ++ [k])) ∧ Keeps (lb :: v.ownBlock.toList) W W' ∧ SameOrNew W v v' := by
 obtain ⟨ao, c, rfl⟩ := own_form ho
 have hlr := own_apart ho hA (by decide)
 have c0 := hA.cell 0
 simp at c0
 have hlb := hA.lt
 have HA := Lib.hid hA
 have HO := Lib.hid ho
 obtain ⟨i0, hi, hz0, hz1, hz2⟩ := info_parts infoIntW
 clear hA ho
 go_enter Tryz.func53, Tryz.ntmps53
 go_wp2_with (at_builtin; refine wpList_append_own2 _ rfl (.tmp 3) (.tmp 5) 32 rfl B 3 i0 _ 1 8 Tryz.underlying32 hi hz0 hz1 hz2 rfl (by decide) (.slice ao n c) n (vals X) rfl (HO.out.alloc _) ⟨W.heap.size, 0, none⟩ 1 1 [.int .i64 k] rfl rfl (cells_new _ _ _) (by simp [Value.oneCell']) (by unfold maxLen; omega) (by omega) (by simp; omega) ?_; intro v5 w5 ho5 hg5 hn5; obtain ⟨a5, c5, rfl⟩ := own_form ho5; have hA5 := At.grown (HA.out.alloc _) hg5 (fun e => hlr e.symm); have p5 := hA5.cell 0; have z5 := hA5.frozen 0; simp at p5; have HO5 := Lib.hid ho5; have HN5 := Lib.hid hn5; have HG5 := Lib.hid hg5; have HA5 := Lib.hid hA5; clear ho5 hg5 hn5 hA5)
 go_end0
 refine ⟨rfl, .slice a5 (n + 1) c5, ?_, ?_, ?_, ?_⟩
 ·simpa using HA5.out.set 0 (.slice a5 (n + 1) c5)
 ·have hb5 : (Value.slice a5 (n + 1) c5).ownBlock ≠ some lb := own_apart HO5.out HA5.out (by decide)
  rw [vals_append]
  exact own_keeps HO5.out ((Keeps.refl [lb] w5).set (.inl (by simp)) _) (fun q hq hm => hb5 (by simp at hm; rw [hq, hm]))
 ·exact (((Keeps.refl (lb :: (Value.slice ao n c).ownBlock.toList) W).alloc _).grown HG5.out (fun q hq => .inl (by simp [hq]))).set (.inl (by simp)) _
 ·intro q hq
  rcases HN5.out q hq with h | h
  ·exact .inl h
  ·refine .inr ?_
   simp at h; omega
theorem belJ_ok {w : World} {B tg g mb lb : Nat} {l m : Int} {S : List Sl} (h : TreeIs w B tg g mb l m S) (hA : At w lb 32 #[.slice none 0 0]) (E : List (Int × Bool)) (hE : E.length ≤ 800000) :
  WalkOk w.heap.size B tg g mb l m S 52 53 #[] #[.pointer (some ⟨lb, 0, none⟩)] E (BelJ w lb) where
 entE := enters_of Tryz.func52 (by kernel_rfl) rfl
 entL := enters_of Tryz.func53 (by kernel_rfl) rfl
 tree := fun pre F W hJ => keeps_tree h hA (by decide) hJ.keeps
 keep := fun pre F W W' T hJ hk hT => by
  obtain ⟨v, h1, h2, h3⟩ := hJ.ex
  subst h3
  refine ⟨⟨v, h1.keeps hk (fun hm => (hT _ hm).2 (by simp)), own_keeps h2 hk (fun q hq hm => (hT _ hm).2 (by simp [hq])), rfl⟩, hJ.keeps.trans' hk (fun x hx => .inr (hT x hx).1)⟩
 own := fun pre F W W' row hJ hg hr => by
  obtain ⟨v, h1, h2, h3⟩ := hJ.ex
  refine ⟨⟨v, h1.grown hg (at_rowT h1 hr), ?_, h3⟩, hJ.keeps.grown hg (fun k hk => .inr (hr k hk).1)⟩
  refine ⟨h2.1, ?_⟩
  rcases h2.2 with hn | ⟨b, cap, cur, rfl, hb, hgg, rest⟩
  ·exact .inl hn
  ·refine .inr ⟨b, cap, cur, rfl, hb, ?_, rest⟩
   rw [hg.block b (Array.getElem?_eq_some_iff.1 hgg).1 (fun e => by
    obtain ⟨_, o, q1, q2⟩ := hr b e.symm
    rw [hgg] at q1; cases q1; cases q2)]
   exact hgg
 foot := fun pre F W hJ x hx => by
  obtain ⟨v, h1, h2, h3⟩ := hJ.ex
  subst h3
  rcases List.mem_cons.1 hx with rfl | hx
  ·unfold At at h1; exact ⟨_, _, _, h1⟩
  ·exact own_cells h2 x (by simpa using hx)
 enter := fun pre F W k hJ hp => by
  refine (below1_any k W).mono ?_
  rintro e W' ⟨rfl, rfl⟩
  obtain ⟨v, h1, h2, h3⟩ := hJ.ex
  exact ⟨rfl, F, ⟨⟨v, h1, by rw [lefts_enter]; exact h2, h3⟩, hJ.keeps⟩, Keeps.refl _ _, fun x hx => .inl hx⟩
 leave := fun pre F W k hJ hp => by
  obtain ⟨v, h1, h2, h3⟩ := hJ.ex
  subst h3
  have hl : (Tr.lefts pre).length ≤ 1000000 := by
   have q1 := hp.length_le
   have q2 : (Tr.lefts pre).length ≤ pre.length := List.length_filterMap_le _ _
   simp at q1; omega
  refine (below2_any k W w.heap.size lb _ v _ h1 h2 hl hJ.keeps.size).mono ?_
  rintro e W' ⟨rfl, v', q1, q2, q3, q4⟩
  refine ⟨rfl, lb :: v'.ownBlock.toList, ⟨⟨v', q1, ?_, rfl⟩, hJ.keeps.trans' q3 (fun x hx => ?_)⟩, q3, fun x hx => ?_⟩
  ·rw [lefts_leave, List.length_append]; exact q2
  ·rcases List.mem_cons.1 hx with rfl | hx
   ·exact .inl (by simp)
   ·exact .inr (h2.lt x (by simpa using hx)).1
  ·rcases List.mem_cons.1 hx with rfl | hx
   ·exact .inl (by simp)
   ·rcases q4 x (by simpa using hx) with h | h
    ·exact .inl (by simp [h])
    ·exact .inr h
set_option maxHeartbeats 4000000 in
theorem tbelow_any (i : Int) (w : World) (B tg g mb : Nat) (l m : Int) (S : List Sl) (h : TreeIs w B tg g mb l m S) (hD : Tr.Down (nds S)) (hN : (Tr.Bel (nds S) i).length ≤ 400000) :
  Calls Tryz.prog 26 #[.pointer (some ⟨tg, 0, none⟩), .int .i64 i] w fun e w' => ∃ A c, e = .returned (.slice A (Tr.below (nds S) i).length c) ∧ w'.ownsRow w.heap.size 3 1 (.slice A (Tr.below (nds S) i).length c) (Tr.below (nds S) i).length (vals (Tr.below (nds S) i)) ∧ Below w.heap.size w w' := by
 obtain ⟨W, hW⟩ : ∃ W, w.alloc (.cells #[.slice none 0 0] 32) = W := ⟨_, rfl⟩
 have hb : Below w.heap.size w W := by rw [← hW]; exact (Below.refl w.heap.size w).alloc (Nat.le_refl _) _
 have hA : At W w.heap.size 32 #[.slice none 0 0] := by rw [← hW]; exact At.new _ _ _
 have hT := h.below hb
 have hs := hb.size
 have HW := Lib.hid hW
 cases hh : Tr.has (nds S) i with
 | false =>
  have HWK := Lib.hid (walk_no i W B tg g mb l m S (.func (.func 52) #[] #[]) (.func (.func 53) #[] #[.pointer (some ⟨w.heap.size, 0, none⟩)]) hT hh)
  have HBL := Lib.hid (show Tr.below (nds S) i = [] by unfold Tr.below; rw [hh]; rfl)
  have HA := Lib.hid hA
  have HB := Lib.hid hb
  rw [HBL.out]
  clear h hT hh hW hA hb hD hN
  go_enter Tryz.func26, Tryz.ntmps26
  go_wp2_with fail
  rw [HW.out]
  refine HWK.out.mono ?_
  rintro e w1 ⟨rfl, hb1⟩
  have c0 := (HA.out.below hb1 HA.out.lt).cell 0
  simp at c0
  have HB1 := Lib.hid (HB.out.trans (hb1.mono HB.out.size))
  clear hb1
  go_wp2_with fail
  go_ret
  exact ⟨none, 0, rfl, World.ownsRow_nil _ _ _ _, HB1.out⟩
 | true =>
  have hel := Tr.Evs_len (nds S) i
  have hok := belJ_ok hT hA (Tr.Evs (nds S) i) (by omega)
  have hJ0 : BelJ W w.heap.size [] [w.heap.size] W := ⟨⟨.slice none 0 0, hA, World.ownsRow_nil _ _ _ _, rfl⟩, Keeps.refl _ _⟩
  have HWK := Lib.hid (walk_any i W W.heap.size B tg g mb l m S 52 53 #[] #[.pointer (some ⟨w.heap.size, 0, none⟩)] (BelJ W w.heap.size) [w.heap.size] hok hJ0 (Nat.le_refl _) hD hN hh)
  have HBL := Lib.hid (show Tr.below (nds S) i = Tr.lefts (Tr.Evs (nds S) i) by unfold Tr.below; rw [if_pos hh, Tr.lefts_Evs])
  have HB := Lib.hid hb
  rw [HBL.out]
  obtain ⟨X, hX⟩ : ∃ X, Tr.lefts (Tr.Evs (nds S) i) = X := ⟨_, rfl⟩
  have HX := Lib.hid hX
  rw [hX]
  obtain ⟨n, hn⟩ : ∃ n, X.length = n := ⟨_, rfl⟩
  rw [hn]
  have HN := Lib.hid hn
  clear hn
  clear h hT hh hW hA hb hD hN hel hok hJ0 hX
  go_enter Tryz.func26, Tryz.ntmps26
  go_wp2_with fail
  rw [HW.out]
  refine HWK.out.mono ?_
  rintro e w1 ⟨rfl, F', hJ⟩
  obtain ⟨v, h1, h2, _⟩ := hJ.ex
  rw [HX.out, HN.out] at h2
  obtain ⟨A, c, rfl⟩ := own_form h2
  have c0 := h1.cell 0
  simp at c0
  have HO := Lib.hid (own_base h2 hs)
  have HB1 := Lib.hid (HB.out.trans (hJ.keeps.below (fun x hx => by simp at hx; omega) hs))
  clear h1 h2 hJ
  go_wp2_with fail
  go_ret
  exact ⟨A, c, rfl, HO.out, HB1.out⟩
end Go.Proofs.YtdhhkancbgealaaGreat
