import Derived.Test.YtdhhkancbgealaaT15
import Derived.Lib.MinMax
import Derived.Shelf.Sort.Plain
import Derived.Shelf.Slices.In.SortNone
import Derived.Shelf.Slices.CompactI
import Derived.Shelf.Slices.Clone
import Derived.Test.YtdhhkancbgealaaT02
section
namespace Go.Proofs.Ytdhhkancbgealaa
open Go.RowKit
open Lx
set_option linter.unusedVariables false
set_option linter.unusedSimpArgs false
set_option maxRecDepth 100000
end Go.Proofs.Ytdhhkancbgealaa
end
section
namespace Go.Proofs.Ytdhhkancbgealaa
open Go.Shelf
set_option maxRecDepth 100000
set_option linter.unusedVariables false
set_option linter.unusedSimpArgs false
def shS_ren : Go.Shelf.Ren := ⟨fun | 189 => 82 | 125 => 87 | 257 => 86 | 128 => 99 | 129 => 100 | 294 => 90 | 295 => 91 | 296 => 92 | 297 => 93 | 298 => 94 | 299 => 95 | 216 => 96 | 300 => 97 | 301 => 98 | 328 => 101 | 329 => 102 | 330 => 103 | 331 => 104 | 332 => 105 | 215 => 106 | 343 => 107 | n => n, fun | 28 => 36 | 3 => 3 | 46 => 147 | 0 => 0 | 51 => 158 | 53 => 160 | 4 => 4 | 183 => 151 | 182 => 150 | 131 => 155 | 5 => 5 | 9 => 9 | 218 => 161 | 222 => 165 | 228 => 167 | 229 => 168 | n => n, fun | n => n⟩
theorem shS : Go.Proofs.Lays.n189 Try.prog shS_ren := {
 mixed := by kernel_rfl
 f125 := Try.func87.trans (congrArg some (by kernel_rfl))
 f128 := Try.func99.trans (congrArg some (by kernel_rfl))
 f129 := Try.func100.trans (congrArg some (by kernel_rfl))
 f189 := Try.func82.trans (congrArg some (by kernel_rfl))
 f215 := Try.func106.trans (congrArg some (by kernel_rfl))
 f216 := Try.func96.trans (congrArg some (by kernel_rfl))
 f257 := Try.func86.trans (congrArg some (by kernel_rfl))
 f294 := Try.func90.trans (congrArg some (by kernel_rfl))
 f295 := Try.func91.trans (congrArg some (by kernel_rfl))
 f296 := Try.func92.trans (congrArg some (by kernel_rfl))
 f297 := Try.func93.trans (congrArg some (by kernel_rfl))
 f298 := Try.func94.trans (congrArg some (by kernel_rfl))
 f299 := Try.func95.trans (congrArg some (by kernel_rfl))
 f300 := Try.func97.trans (congrArg some (by kernel_rfl))
 f301 := Try.func98.trans (congrArg some (by kernel_rfl))
 f328 := Try.func101.trans (congrArg some (by kernel_rfl))
 f329 := Try.func102.trans (congrArg some (by kernel_rfl))
 f330 := Try.func103.trans (congrArg some (by kernel_rfl))
 f331 := Try.func104.trans (congrArg some (by kernel_rfl))
 f332 := Try.func105.trans (congrArg some (by kernel_rfl))
 f343 := Try.func107.trans (congrArg some (by kernel_rfl))
 t0 := Try.underlying0
 a0 := Try.isAgg0
 z0 := Try.sizeOf0
 v0 := Try.zeroValue0
 t3 := Try.underlying3
 a3 := Try.isAgg3
 z3 := Try.sizeOf3
 v3 := Try.zeroValue3
 t4 := Try.underlying4
 a4 := Try.isAgg4
 z4 := Try.sizeOf4
 v4 := Try.zeroValue4
 t5 := Try.underlying5
 a5 := Try.isAgg5
 z5 := Try.sizeOf5
 v5 := Try.zeroValue5
 t9 := Try.underlying9
 a9 := Try.isAgg9
 z9 := Try.sizeOf9
 v9 := Try.zeroValue9
 t28 := Try.underlying36
 a28 := Try.isAgg36
 z28 := Try.sizeOf36
 v28 := Try.zeroValue36
 t46 := Try.underlying147
 a46 := Try.isAgg147
 z46 := Try.sizeOf147
 v46 := Try.zeroValue147
 t51 := Try.underlying158
 a51 := Try.isAgg158
 z51 := Try.sizeOf158
 v51 := Try.zeroValue158
 t53 := Try.underlying160
 a53 := Try.isAgg160
 z53 := Try.sizeOf160
 v53 := Try.zeroValue160
 t131 := Try.underlying155
 a131 := Try.isAgg155
 z131 := Try.sizeOf155
 v131 := Try.zeroValue155
 t182 := Try.underlying150
 a182 := Try.isAgg150
 z182 := Try.sizeOf150
 v182 := Try.zeroValue150
 t183 := Try.underlying151
 a183 := Try.isAgg151
 z183 := Try.sizeOf151
 v183 := Try.zeroValue151
 t218 := Try.underlying161
 a218 := Try.isAgg161
 z218 := Try.sizeOf161
 v218 := Try.zeroValue161
 t222 := Try.underlying165
 a222 := Try.isAgg165
 z222 := Try.sizeOf165
 v222 := Try.zeroValue165
 t228 := Try.underlying167
 a228 := Try.isAgg167
 z228 := Try.sizeOf167
 v228 := Try.zeroValue167
 t229 := Try.underlying168
 a229 := Try.isAgg168
 z229 := Try.sizeOf168
 v229 := Try.zeroValue168 }
open Go.Sort Go.RowKit in
theorem sort_ints (blk off cap : Nat) (zs : List Int) (w : World) (hH : Holds (Value.int .i64) w blk off zs.toArray) (hblk : blk < w.heap.size) (hsz : zs.length < 4611686018427387904) :
  Calls Try.prog 82 #[.slice (some ⟨blk, off, none⟩) zs.length cap] w fun e w' =>
   e = .returned (.tuple #[]) ∧ ∃ n os, w' = grow (putRow (Value.int .i64) (Sort.ahead w n) blk off (zs.mergeSort fun x y => decide (x ≤ y)).toArray) os := Any.slices_Sort_int shS blk off cap zs w hH hblk hsz
open Go.RowKit Go.Sort in
theorem sort_none (p : Option Addr) (cap : Nat) (w : World) :
  Calls Try.prog 82 #[.slice p 0 cap] w fun e w' => e = .returned (.tuple #[]) ∧ w' = w := Any.slices_Sort_int_none shS p cap w
def shCo_ren : Go.Shelf.Ren := ⟨fun | 20 => 83 | n => n, fun | 22 => 36 | 3 => 3 | 4 => 4 | 0 => 0 | n => n, fun | n => n⟩
theorem shCo : Go.Proofs.Lays2.n20 Try.prog shCo_ren := {
 mixed := by kernel_rfl
 f20 := Try.func83.trans (congrArg some (by kernel_rfl))
 t0 := Try.underlying0
 a0 := Try.isAgg0
 z0 := Try.sizeOf0
 v0 := Try.zeroValue0
 t3 := Try.underlying3
 a3 := Try.isAgg3
 z3 := Try.sizeOf3
 v3 := Try.zeroValue3
 t4 := Try.underlying4
 a4 := Try.isAgg4
 z4 := Try.sizeOf4
 v4 := Try.zeroValue4
 t22 := Try.underlying36
 a22 := Try.isAgg36
 z22 := Try.sizeOf36
 v22 := Try.zeroValue36
 i3 := by kernel_rfl }
def shCl_ren : Go.Shelf.Ren := ⟨fun | 15 => 33 | n => n, fun | 22 => 36 | 3 => 3 | 4 => 4 | n => n, fun | n => n⟩
theorem shCl : Go.Proofs.Lays2.n15 Try.prog shCl_ren := {
 mixed := by kernel_rfl
 f15 := Try.func33.trans (congrArg some (by kernel_rfl))
 t3 := Try.underlying3
 a3 := Try.isAgg3
 z3 := Try.sizeOf3
 v3 := Try.zeroValue3
 t4 := Try.underlying4
 a4 := Try.isAgg4
 z4 := Try.sizeOf4
 v4 := Try.zeroValue4
 t22 := Try.underlying36
 a22 := Try.isAgg36
 z22 := Try.sizeOf36
 v22 := Try.zeroValue36
 i3 := by kernel_rfl }
open Go.Sort Go.RowKit in
theorem compact_ints (blk off cap : Nat) (zs : List Int) (w : World) (hH : Holds (Value.int .i64) w blk off zs.toArray) (hsz : zs.length ≤ 9223372036854775807) (hcap : zs.length ≤ cap) :
  Calls Try.prog 83 #[.slice (some ⟨blk, off, none⟩) zs.length cap] w fun e w' => e = .returned (.slice (some ⟨blk, off, none⟩) (Go.Lib.compact zs).length cap) ∧ ∃ q, w' = putRow (Value.int .i64) (Sort.ahead w q) blk off (Go.Lib.compact zs ++ List.replicate (zs.length - (Go.Lib.compact zs).length) 0).toArray := Any.slices_Compact_int shCo blk off cap zs w hH hsz hcap
theorem compact_none (a : Option Addr) (cap : Nat) (w : World) :
  Calls Try.prog 83 #[.slice a 0 cap] w fun e w' => e = .returned (.slice a 0 cap) ∧ w' = w := Any.slices_Compact_int_empty shCo a cap w
open Go.RowKit in
theorem clone_some (b off n c : Nat) (zs : List Int) (w : World) (hz : n ≤ zs.length) (hbig : n * 8 ≤ 140737488355328) (hc : ∀ j, j < zs.length → w.cell? ⟨b, off + j, none⟩ = some (.int .i64 (zs.getD j 0))) :
  Calls Try.prog 33 #[.slice (some ⟨b, off, none⟩) n c] w fun e w' => ∃ v', e = .returned v' ∧ w'.ownsRow w.heap.size 3 1 v' n ((zs.take n).map (Value.int .i64)) ∧ v' ≠ .slice none 0 0 ∧ Below w.heap.size w w' := Any.slices_Clone_int shCl b off n c zs w hz hbig hc
theorem clone_nil (n c : Nat) (w : World) :
  Calls Try.prog 33 #[.slice none n c] w fun e w' => e = .returned (.slice none 0 0) ∧ w' = w := Any.slices_Clone_int_nil shCl n c w
open Go.RowKit in
theorem clone_zero (a : Addr) (c : Nat) (w : World) :
  Calls Try.prog 33 #[.slice (some a) 0 c] w fun e w' => ∃ v', e = .returned v' ∧ w'.ownsRow w.heap.size 3 1 v' 0 [] ∧ v' ≠ .slice none 0 0 ∧ Below w.heap.size w w' := Any.slices_Clone_int_zero shCl a c w
open Go.Sort Go.RowKit in
theorem put_own {α : Type} [Inhabited α] (enc : α → Value) {w : World} {B b n c : Nat} {e : TypeId} {xs : List Value} (ho : w.ownsRow B e 1 (.slice (some ⟨b, 0, none⟩) n c) n xs) (d : Array α) (hd : d.size = n) (m : Nat) (os : Array Obj) :
  (grow (putRow enc (Sort.ahead w m) b 0 d) os).ownsRow B e 1 (.slice (some ⟨b, 0, none⟩) n c) n (d.toList.map enc) ∧ w.grownBy (grow (putRow enc (Sort.ahead w m) b 0 d) os) (some b) := by
 rcases ho.2 with ⟨h', _⟩ | ⟨g', cap', cur, h', hb, hg, hnc, hcm, hcs, htake⟩
 ·simp at h'
 ·simp only [Value.slice.injEq, Option.some.injEq, Addr.mk.injEq, and_true, true_and] at h'
  obtain ⟨rfl, rfl⟩ := h'
  have hlt : b < w.heap.size := (Array.getElem?_eq_some_iff.1 hg).1
  have hblk : (grow (putRow enc (Sort.ahead w m) b 0 d) os).heap[b]? = some (.cells (putCells enc 0 d cur) e (0, 0)) := by
   have h1 : (putRow enc (Sort.ahead w m) b 0 d).heap[b]? = some (.cells (putCells enc 0 d cur) e (0, 0)) := by
    simp [putRow, mapBlock, Sort.ahead, Array.getElem?_modify, hg, onCells]
   rw [heap_grow_old _ _ (by simp [putRow, mapBlock, Sort.ahead]; exact hlt)]
   exact h1
  have hsz : (putCells enc 0 d cur).size = cur.size := by simp [putCells]
  have htk : (putCells enc 0 d cur).toList.take (n * 1) = d.toList.map enc := by
   apply List.ext_getElem?
   intro j
   rw [List.getElem?_take]
   by_cases hj : j < n
   ·have hjc : j < cur.size := by omega
    have hjd : j < d.size := by omega
    rw [if_pos (by omega)]
    simp [putCells, hjc, hjd]
   ·rw [if_neg (by omega)]
    symm
    apply List.getElem?_eq_none
    rw [List.length_map, Array.length_toList]; omega
  refine ⟨⟨by simp [hd], .inr ⟨b, c, _, rfl, hb, hblk, hnc, hcm, by rw [hsz]; exact hcs, htk⟩⟩, rfl, rfl, rfl, ?_, fun k hk hne => ?_⟩
  ·simp [grow, putRow, mapBlock, Sort.ahead]
  ·rw [heap_grow_old _ _ (by simp [putRow, mapBlock, Sort.ahead]; exact hk)]
   have hkb : ¬ b = k := fun e => hne (by rw [e])
   simp [putRow, mapBlock, Sort.ahead, Array.getElem?_modify, hkb]
open Go.Sort Go.RowKit in
theorem holds_own {α : Type} [Inhabited α] (enc : α → Value) {w : World} {B b n c : Nat} {e : TypeId} {d : Array α} (ho : w.ownsRow B e 1 (.slice (some ⟨b, 0, none⟩) n c) n (d.toList.map enc)) : Holds enc w b 0 d := by
 intro j hj
 have hn : d.size = n := by have := ho.1; simpa using this
 refine ⟨?_, ?_⟩
 ·rw [Nat.zero_add, ho.cellAt j (by omega)]
  simp [hj]
 ·rw [Nat.zero_add]; exact ho.frozenAt j
end Go.Proofs.Ytdhhkancbgealaa
end
