import Derived.Test.YtdlplmbdkjkeiaaDoorDgC
import Derived.Test.YtdlplmbdkjkeiaaDoorDgApn
import Derived.WalkSpells
namespace Go.Proofs.YtdlplmbdkjkeiaaDoor
set_option maxRecDepth 100000
open Go.RowKit
set_option linter.unusedVariables false
set_option linter.unusedSimpArgs false
theorem Lies.alloc {w : World} {A : Option Addr} {news : List Value} (h : Lies w A news) (o : Obj) : Lies (w.alloc o) A news := fun j u hj => by
 obtain ⟨ad, h1, h2⟩ := h j u hj
 refine ⟨ad, h1, ?_⟩
 have := World.block_lt_of_cell? w _ h2
 rw [World.cell?_of_block (Below.heap_alloc w o _ this)]; exact h2
theorem row_empty (w : World) (base : Nat) (e : TypeId) (hb : base ≤ w.heap.size) : (w.alloc (.cells #[] e)).ownsRow base e 1 (.slice (some ⟨w.heap.size, 0, none⟩) 0 0) 0 [] :=
 ⟨rfl, .inr ⟨w.heap.size, 0, #[], rfl, hb, heap_alloc_new w _, by omega, by unfold maxLen; omega, by simp, by simp⟩⟩
theorem Tryd.infoRow : (Tryd.prog.info? 28).map (fun i => (i.zero, i.size, i.bytes)) = some (some (.slice none 0 0), 1, 24) := by kernel_rfl
set_option maxHeartbeats 4000000 in
theorem clone_ints (A : Option Addr) (n c : Nat) (l : List Nat) (w : World) (hl : l.length = n) (hL : Lies w A (valsOf l)) (hn : n ≤ 1099511627776) :
  Calls Tryd.prog 61 #[.slice A n c] w fun e w' => ∃ v, e = .returned v ∧ w'.ownsRow w.heap.size 3 1 v n (valsOf l) ∧ w.grownBy w' none := by
 obtain ⟨i0, hi, hz0, hz1, hz2⟩ := info_parts Tryd.infoInt
 have KL := Lib.hid hL
 have hnil := fun wx => Lib.run_eql_slice_nil (P := Tryd.prog) wx 28 3 A n c 0 0 Tryd.underlying28
 cases A with
 | none =>
  have h0 : l = [] := by
   cases l with
   | nil => rfl
   | cons x l => obtain ⟨_, he, _⟩ := hL 0 _ rfl; cases he
  subst h0
  obtain rfl : n = 0 := by simpa using hl.symm
  clear hL KL hl
  go_enter Tryd.func61, Tryd.ntmps61
  go_wp2_with fail
  go_ret
  exact ⟨_, rfl, World.ownsRow_nil _ _ _ _, grown_refl _ _⟩
 | some a =>
  clear hL
  go_enter Tryd.func61, Tryd.ntmps61
  go_wp2_with (at_builtin; refine wpList_append_own3 _ rfl (.tmp 5) (.tmp 6) 28 rfl w.heap.size 3 i0 _ 1 8 Tryd.underlying28 hi hz0 hz1 hz2 rfl (by decide) (.slice (some ⟨w.heap.size, 0, none⟩) 0 0) 0 [] rfl (row_empty w _ _ (Nat.le_refl _)) (some a) n c (valsOf l) rfl (by rw [valsOf_len, hl, Nat.mul_one]) (KL.out.alloc _) (valsOf_one l) (by unfold maxLen; omega) (by omega) (by simp) ?_; intro v' w1 hown hgrow hsn)
  go_ret
  rw [Nat.zero_add, List.nil_append] at hown
  refine ⟨_, rfl, hown, ?_⟩
  exact ⟨hgrow.os, hgrow.tape, hgrow.output, Nat.le_trans (by simp) hgrow.size, fun k hk _ => (hgrow.block k (by simp; omega) (by simp [Value.ownBlock]; omega)).trans (Below.heap_alloc w _ k hk)⟩
set_option maxHeartbeats 4000000 in
theorem clone_rows (A : Option Addr) (n c : Nat) (RV : List Value) (w : World) (hl : RV.length = n) (hL : Lies w A RV) (h1 : ∀ u ∈ RV, u.oneCell' = true) (hn : n ≤ 1099511627776) :
  Calls Tryd.prog 44 #[.slice A n c] w fun e w' => ∃ v, e = .returned v ∧ w'.ownsRow w.heap.size 28 1 v n RV ∧ w.grownBy w' none := by
 obtain ⟨i0, hi, hz0, hz1, hz2⟩ := info_parts Tryd.infoRow
 have KL := Lib.hid hL
 have K1 := Lib.hid h1
 have hnil := fun wx => Lib.run_eql_slice_nil (P := Tryd.prog) wx 44 28 A n c 0 0 Tryd.underlying44
 clear h1
 cases A with
 | none =>
  have h0 : RV = [] := by
   cases RV with
   | nil => rfl
   | cons x l => obtain ⟨_, he, _⟩ := hL 0 _ rfl; cases he
  subst h0
  obtain rfl : n = 0 := by simpa using hl.symm
  clear hL KL hl
  go_enter Tryd.func44, Tryd.ntmps44
  go_wp2_with fail
  go_ret
  exact ⟨_, rfl, World.ownsRow_nil _ _ _ _, grown_refl _ _⟩
 | some a =>
  clear hL
  go_enter Tryd.func44, Tryd.ntmps44
  go_wp2_with (at_builtin; refine wpList_append_own3 _ rfl (.tmp 5) (.tmp 6) 44 rfl w.heap.size 28 i0 _ 1 24 Tryd.underlying44 hi hz0 hz1 hz2 rfl (by decide) (.slice (some ⟨w.heap.size, 0, none⟩) 0 0) 0 [] rfl (row_empty w _ _ (Nat.le_refl _)) (some a) n c RV rfl (by rw [hl, Nat.mul_one]) (KL.out.alloc _) K1.out (by unfold maxLen; omega) (by omega) (by simp) ?_; intro v' w1 hown hgrow hsn)
  go_ret
  rw [Nat.zero_add, List.nil_append] at hown
  refine ⟨_, rfl, hown, ?_⟩
  exact ⟨hgrow.os, hgrow.tape, hgrow.output, Nat.le_trans (by simp) hgrow.size, fun k hk _ => (hgrow.block k (by simp; omega) (by simp [Value.ownBlock]; omega)).trans (Below.heap_alloc w _ k hk)⟩
end Go.Proofs.YtdlplmbdkjkeiaaDoor
