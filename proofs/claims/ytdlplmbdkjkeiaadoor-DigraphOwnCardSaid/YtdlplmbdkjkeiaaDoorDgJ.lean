import Derived.Test.YtdlplmbdkjkeiaaDoorDgI
import Derived.Laws.CopyOwn
namespace Go.Proofs.YtdlplmbdkjkeiaaDoor
set_option maxRecDepth 100000
open Go.RowKit
open BitKit
set_option linter.unusedVariables false
set_option linter.unusedSimpArgs false
theorem run_make_graph (n : Nat) (hn : n ≤ 1099511627776) (w : World) : (Instr.makeSlice 44 (.int .i64 (n : Int)) (.int .i64 (n : Int))).run Tryd.prog w = .ok (.slice (some ⟨w.heap.size, 0, none⟩) n n) (w.alloc (.cells (List.replicate n (.slice none 0 0)).toArray 28)) := by
 obtain ⟨i0, hi, hz0, hz1, hz2⟩ := info_parts Tryd.infoRow
 have hr := run_make (P := Tryd.prog) w 44 28 i0 (.slice none 0 0) Tryd.underlying44 hi hz0 .i64 .i64 n n (by omega) (Int.le_refl _) (by rw [hz2]; omega) (by omega)
 rw [hr, hz1]
 have e : madeCells (Value.slice none 0 0).cells (((n : Int)).toNat * 1) = (List.replicate n (.slice none 0 0)).toArray := by
  apply Array.ext'
  rw [Int.toNat_natCast, Nat.mul_one]
  show (madeCells #[.slice none 0 0] n).toList = _
  rw [toList_madeCells_one]
 rw [e, Int.toNat_natCast]
theorem Tryd.sizeRow : ((Tryd.prog.info? 28).map (·.size)) = some 1 := by kernel_rfl
set_option maxHeartbeats 4000000 in
theorem of_graph (A : Option Addr) (m c : Nat) (RV : List Value) (G : Nat → List Int) (n : Nat) (w : World) (hR : Rows w w.heap.size A RV G) (hl : RV.length = m) (hG : ∀ i, m ≤ i → G i = []) (hn : n ≤ 1099511627776) :
  Calls Tryd.prog 36 #[.slice A m c, .int .i64 (n : Int)] w fun e w' => ∃ A' RV', e = .returned (.slice A' n n) ∧ RV'.length = n ∧ Rows w' w'.heap.size A' RV' G ∧ Below w.heap.size w w' := by
 have KR := Lib.hid hR
 have KG := Lib.hid hG
 have hmk := fun wx => run_make_graph n hn wx
 clear hR hG
 obtain ⟨cs, hcs⟩ : ∃ cs, cs = RV.take n := ⟨_, rfl⟩
 obtain ⟨cur, hcur⟩ : ∃ cur : List Value, cur = List.replicate n (.slice none 0 0) := ⟨_, rfl⟩
 have hcl : cs.length = Nat.min m n := by rw [hcs, List.length_take, hl, Nat.min_comm]
 have hcurl : cur.length = n := by rw [hcur]; simp
 have hb0 : Below w.heap.size w (w.alloc (.cells cur.toArray 28)) := (Below.refl _ _).alloc (Nat.le_refl _) _
 have hlies : 0 < cs.length → ∃ ad, A = some ad ∧ ∀ (j : Nat) (v : Value), cs[j]? = some v → (w.alloc (.cells cur.toArray 28)).cell? (ad.add j) = some v := by
  intro h0
  have hj0 : ∃ v0, cs[0]? = some v0 := ⟨_, List.getElem?_eq_getElem h0⟩
  obtain ⟨v0, hv0⟩ := hj0
  have hsub : ∀ (j : Nat) (v : Value), cs[j]? = some v → RV[j]? = some v := by
   intro j v hj
   rw [hcs, List.getElem?_take] at hj
   split at hj
   ·exact hj
   ·cases hj
  obtain ⟨b, o, rfl, _, _⟩ := KR.out.lies 0 v0 (hsub 0 v0 hv0)
  refine ⟨_, rfl, fun j v hj => ?_⟩
  obtain ⟨ad, e1, e2⟩ := (KR.out.below hb0).at_ j v (hsub j v hj)
  injection e1 with e1
  rw [e1]; exact e2
 have hone : ∀ v ∈ cs, v.oneCell' = true := fun v hv => KR.out.one v (by rw [hcs] at hv; exact List.mem_of_mem_take hv)
 have Kcs := Lib.hid (And.intro hcs hcur)
 have Kl := Lib.hid hl
 rw [← hcur] at hmk
 have Kb0 := Lib.hid hb0
 have Klies := Lib.hid hlies
 have Kone := Lib.hid hone
 have Kcl := Lib.hid (And.intro hcl hcurl)
 clear hb0 hlies hone hcs hcur hl hcl hcurl
 go_enter Tryd.func36, Tryd.ntmps36
 go_wp2_with (refine wpList_copy_splice rfl (.tmp 8) (.tmp 9) 44 22 rfl 28 Tryd.underlying44 Tryd.sizeRow _ _ _ _ _ _ rfl rfl w.heap.size 0 cur 28 (heap_alloc_new w _) cs Kcl.out.1 (fun h0 => ⟨rfl, Klies.out h0⟩) (by rw [Kcl.out.1, Kcl.out.2, Nat.zero_add]; exact Nat.min_le_right _ _) Kone.out w.heap.size w Kb0.out (Nat.le_refl _) ?_; intro w2 HG2 hB2)
 go_ret
 refine ⟨_, splice cur 0 cs, rfl, ?_, ⟨fun i rv hi => ?_, fun i rv hi => ?_⟩, hB2⟩
 ·rw [length_splice _ _ _ (by rw [Kcl.out.1, Kcl.out.2, Nat.zero_add]; exact Nat.min_le_right _ _)]; exact Kcl.out.2
 ·have hat : At w2 w.heap.size 28 (splice cur 0 cs).toArray := HG2.out
  refine ⟨w.heap.size, 0, rfl, hat.lt, ?_⟩
  rw [hat.cell, Nat.zero_add]; simpa using hi
 ·have hsp : splice cur 0 cs = cs ++ cur.drop cs.length := by simp [splice]
  rw [hsp, List.getElem?_append] at hi
  split at hi
  ·rw [Kcs.out.1, List.getElem?_take] at hi
   split at hi
   ·obtain ⟨A', c', e1, e2, e3⟩ := (KR.out.below hB2).row i rv hi
    exact ⟨A', c', e1, e2, e3.upto hB2.size⟩
   ·cases hi
  ·rename_i hge
   have hm : m ≤ i := by
    rw [Kcl.out.1] at hge hi
    have h1 := (List.getElem?_eq_some_iff.1 hi).1
    rw [List.length_drop, Kcl.out.2] at h1
    have h2 : Nat.min m n = m ∨ Nat.min m n = n := by
     rcases Nat.le_total m n with h | h
     ·exact .inl (Nat.min_eq_left h)
     ·exact .inr (Nat.min_eq_right h)
    omega
   rw [List.getElem?_drop, Kcs.out.2, List.getElem?_replicate] at hi
   split at hi
   ·injection hi with hi
    subst hi
    rw [KG.out i hm]
    exact ⟨none, 0, rfl, Nat.le_refl _, Nums.nil _ _ _ _⟩
   ·cases hi
end Go.Proofs.YtdlplmbdkjkeiaaDoor
