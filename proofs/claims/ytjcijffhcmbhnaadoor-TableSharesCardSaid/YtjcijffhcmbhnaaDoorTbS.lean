import Derived.Shelf.Strconv.AppendIntPublic10
import Derived.Shelf.Slices.Clone
import Derived.Test.YtjcijffhcmbhnaaDoorProg
namespace Go.Proofs.YtjcijffhcmbhnaaDoor
open Go.Shelf
set_option maxRecDepth 100000
def shAi_ren : Go.Shelf.Ren := ⟨fun | 176 => 29 | 249 => 32 | 288 => 34 | 283 => 35 | 284 => 36 | 285 => 37 | 286 => 38 | 129 => 40 | 317 => 39 | 318 => 41 | 319 => 42 | 320 => 43 | 337 => 44 | 338 => 31 | n => n, fun | 37 => 38 | 2 => 2 | 3 => 3 | 53 => 50 | 4 => 4 | 9 => 9 | 171 => 61 | 0 => 0 | 173 => 63 | 212 => 67 | 51 => 68 | 5 => 5 | 20 => 20 | 213 => 69 | 46 => 58 | 232 => 73 | 233 => 57 | n => n, fun | 17 => 1 | 18 => 2 | 19 => 0 | n => n⟩
theorem shAi : Go.Proofs.LaysM.n176 Tryd.prog shAi_ren := {
 mixed := by kernel_rfl
 f129 := Tryd.func40.trans (congrArg some (by kernel_rfl))
 f176 := Tryd.func29.trans (congrArg some (by kernel_rfl))
 f249 := Tryd.func32.trans (congrArg some (by kernel_rfl))
 f283 := Tryd.func35.trans (congrArg some (by kernel_rfl))
 f284 := Tryd.func36.trans (congrArg some (by kernel_rfl))
 f285 := Tryd.func37.trans (congrArg some (by kernel_rfl))
 f286 := Tryd.func38.trans (congrArg some (by kernel_rfl))
 f288 := Tryd.func34.trans (congrArg some (by kernel_rfl))
 f317 := Tryd.func39.trans (congrArg some (by kernel_rfl))
 f318 := Tryd.func41.trans (congrArg some (by kernel_rfl))
 f319 := Tryd.func42.trans (congrArg some (by kernel_rfl))
 f320 := Tryd.func43.trans (congrArg some (by kernel_rfl))
 f337 := Tryd.func44.trans (congrArg some (by kernel_rfl))
 f338 := Tryd.func31.trans (congrArg some (by kernel_rfl))
 t0 := Tryd.underlying0
 a0 := Tryd.isAgg0
 z0 := Tryd.sizeOf0
 v0 := Tryd.zeroValue0
 t2 := Tryd.underlying2
 a2 := Tryd.isAgg2
 z2 := Tryd.sizeOf2
 v2 := Tryd.zeroValue2
 t3 := Tryd.underlying3
 a3 := Tryd.isAgg3
 z3 := Tryd.sizeOf3
 v3 := Tryd.zeroValue3
 t4 := Tryd.underlying4
 a4 := Tryd.isAgg4
 z4 := Tryd.sizeOf4
 v4 := Tryd.zeroValue4
 t5 := Tryd.underlying5
 a5 := Tryd.isAgg5
 z5 := Tryd.sizeOf5
 v5 := Tryd.zeroValue5
 t9 := Tryd.underlying9
 a9 := Tryd.isAgg9
 z9 := Tryd.sizeOf9
 v9 := Tryd.zeroValue9
 t20 := Tryd.underlying20
 a20 := Tryd.isAgg20
 z20 := Tryd.sizeOf20
 v20 := Tryd.zeroValue20
 t37 := Tryd.underlying38
 a37 := Tryd.isAgg38
 z37 := Tryd.sizeOf38
 v37 := Tryd.zeroValue38
 t46 := Tryd.underlying58
 a46 := Tryd.isAgg58
 z46 := Tryd.sizeOf58
 v46 := Tryd.zeroValue58
 t51 := Tryd.underlying68
 a51 := Tryd.isAgg68
 z51 := Tryd.sizeOf68
 v51 := Tryd.zeroValue68
 t53 := Tryd.underlying50
 a53 := Tryd.isAgg50
 z53 := Tryd.sizeOf50
 v53 := Tryd.zeroValue50
 t171 := Tryd.underlying61
 a171 := Tryd.isAgg61
 z171 := Tryd.sizeOf61
 v171 := Tryd.zeroValue61
 t173 := Tryd.underlying63
 a173 := Tryd.isAgg63
 z173 := Tryd.sizeOf63
 v173 := Tryd.zeroValue63
 t212 := Tryd.underlying67
 a212 := Tryd.isAgg67
 z212 := Tryd.sizeOf67
 v212 := Tryd.zeroValue67
 t213 := Tryd.underlying69
 a213 := Tryd.isAgg69
 z213 := Tryd.sizeOf69
 t232 := Tryd.underlying73
 a232 := Tryd.isAgg73
 z232 := Tryd.sizeOf73
 v232 := Tryd.zeroValue73
 t233 := Tryd.underlying57
 a233 := Tryd.isAgg57
 z233 := Tryd.sizeOf57
 v233 := Tryd.zeroValue57
 g17 := by kernel_rfl
 g18 := by kernel_rfl
 g19 := by kernel_rfl
 i0 := by kernel_rfl
 i2 := by kernel_rfl
 i3 := by kernel_rfl
 i4 := by kernel_rfl
 i5 := by kernel_rfl
 i9 := by kernel_rfl
 i20 := by kernel_rfl
 i37 := by kernel_rfl
 i46 := by kernel_rfl
 i51 := by kernel_rfl
 i53 := by kernel_rfl
 i171 := by kernel_rfl
 i173 := by kernel_rfl
 i212 := by kernel_rfl
 i232 := by kernel_rfl
 i233 := by kernel_rfl
 m17 := by kernel_rfl
 m18 := by kernel_rfl
 m19 := by kernel_rfl }
open Go.RowKit Go.Sort Go.Lib in
theorem append_int (B n : Nat) (i : Int) (h0 : -9223372036854775808 ≤ i) (h1 : i ≤ 9223372036854775807) (sv : Value) (xs : List Value) (w : World) (hown : w.ownsRow B 5 1 sv n xs) (hBw : B ≤ w.heap.size) (hlim : n + 21 ≤ 140737488355328) (htab : Lib.TabBelow Tryd.prog B w "internal/strconv.uint64pow10" .u64 Lib.pow10Tab) :
  Calls Tryd.prog 29 #[sv, .int .i64 i, .int .i64 10] w fun e w' => ∃ v', e = .returned v' ∧ w'.ownsRow B 5 1 v' (n + (Lib.itoa i).length) (xs ++ Lib.byteCells (Lib.itoa i)) ∧ Below B w w' ∧ Lib.OthersKept 5 none w w' := Any.strconv_AppendInt_10 shAi B n i h0 h1 sv xs w hown hBw hlim htab
def shCl_ren : Go.Shelf.Ren := ⟨fun | 15 => 22 | n => n, fun | 22 => 25 | 3 => 3 | 4 => 4 | n => n, fun | n => n⟩
theorem shCl : Go.Proofs.Lays2.n15 Tryd.prog shCl_ren := {
 mixed := by kernel_rfl
 f15 := Tryd.func22.trans (congrArg some (by kernel_rfl))
 t3 := Tryd.underlying3
 a3 := Tryd.isAgg3
 z3 := Tryd.sizeOf3
 v3 := Tryd.zeroValue3
 t4 := Tryd.underlying4
 a4 := Tryd.isAgg4
 z4 := Tryd.sizeOf4
 v4 := Tryd.zeroValue4
 t22 := Tryd.underlying25
 a22 := Tryd.isAgg25
 z22 := Tryd.sizeOf25
 v22 := Tryd.zeroValue25
 i3 := by kernel_rfl }
open Go.RowKit Go.Lib in
theorem clone_ints (b off n c : Nat) (zs : List Int) (w : World) (hz : n ≤ zs.length) (hbig : n * 8 ≤ 140737488355328) (hc : ∀ j, j < zs.length → w.cell? ⟨b, off + j, none⟩ = some (.int .i64 (zs.getD j 0))) :
  Calls Tryd.prog 22 #[.slice (some ⟨b, off, none⟩) n c] w fun e w' => ∃ v', e = .returned v' ∧ w'.ownsRow w.heap.size 3 1 v' n ((zs.take n).map (Value.int .i64)) ∧ v' ≠ .slice none 0 0 ∧ Below w.heap.size w w' := Any.slices_Clone_int shCl b off n c zs w hz hbig hc
open Go.RowKit Go.Lib in
theorem clone_none (n c : Nat) (w : World) :
  Calls Tryd.prog 22 #[.slice none n c] w fun e w' => e = .returned (.slice none 0 0) ∧ w' = w := Any.slices_Clone_int_nil shCl n c w
open Go.RowKit Go.Lib in
theorem clone_zero (a : Addr) (c : Nat) (w : World) :
  Calls Tryd.prog 22 #[.slice (some a) 0 c] w fun e w' => ∃ v', e = .returned v' ∧ w'.ownsRow w.heap.size 3 1 v' 0 [] ∧ v' ≠ .slice none 0 0 ∧ Below w.heap.size w w' := Any.slices_Clone_int_zero shCl a c w
end Go.Proofs.YtjcijffhcmbhnaaDoor
