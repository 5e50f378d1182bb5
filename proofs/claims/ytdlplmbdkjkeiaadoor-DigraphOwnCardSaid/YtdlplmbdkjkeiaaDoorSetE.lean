import Derived.Test.YtdlplmbdkjkeiaaDoorSetD
import Derived.Maps.AppendAt
namespace Go.Proofs.YtdlplmbdkjkeiaaDoor
set_option maxRecDepth 100000
open Go.RowKit Go.Shelf
open BitKit
set_option linter.unusedVariables false
set_option linter.unusedSimpArgs false
theorem each_any (b n : Nat) (S : Nat → Bool) (w : World) (hs : IsSet w b n S) :
  Calls Tryd.prog 35 #[.pointer (some ⟨b, 0, none⟩)] w fun e w' => e = .returned (.func (.func 56) #[] #[.pointer (some ⟨w.heap.size, 0, none⟩)]) ∧ w' = w.alloc (.cells (wordsL S).toArray 62) := by
 have hr := hs.range
 go_enter Tryd.func35, Tryd.ntmps35
 go_wp2_with (first
  | (refine wpList_load_mid rfl 62 _ rfl b 1 rfl (wordsL S) _ hr Tryd.underlying62 rfl (size_words' S) ?_)
  | (refine wpList_store_new rfl 62 _ _ rfl _ (wordsL S).toArray rfl rfl (size_words'' S) (words_size S).symm (words_ones S) ?_))
 go_ret
 exact ⟨rfl, rfl⟩
theorem each_stops (n : Nat) (hn : 1 ≤ n) (Bn n₀ : Nat) (h0 : 0 < n₀) (S : Nat → Bool) (w : World) (hw : n₀ ≤ w.heap.size) (hB : At w Bn 62 (wordsL S).toArray) (hT : Tab w) :
  SeqStopsK Fence.wide n Tryd.prog 56 #[.pointer (some ⟨Bn, 0, none⟩)] encN (Below n₀) (fun ys => nums ys = mem S 1024) (fun pre => nums pre <+: mem S 1024) (cnt S 1024) w :=
 fun l J Jx W hW _ _ hY hJ => each1_in n hn l Bn n₀ h0 S J Jx hY W (hB.below hW hB.lt) (hT.below hW (by omega)) hJ
theorem Tryd.infoInt : (Tryd.prog.info? 3).map (fun i => (i.zero, i.size, i.bytes)) = some (some (.int .i64 0), 1, 8) := by kernel_rfl
def valsOf (l : List Nat) : List Value := l.map fun x => .int .i64 ((x : Nat) : Int)
theorem valsOf_snoc (l : List Nat) (x : Nat) : valsOf (l ++ [x]) = valsOf l ++ [.int .i64 ((x : Nat) : Int)] := by simp [valsOf]
theorem valsOf_length (l : List Nat) : (valsOf l).length = l.length := by simp [valsOf]
attribute [local go_sem] Oper.semAt_some
set_option maxRecDepth 100000 in
set_option maxHeartbeats 4000000 in
theorem list_any (b n : Nat) (S : Nat → Bool) (w : World) (hs : IsSet w b n S) (hT : Tab w) (hg0 : 0 < w.heap.size) :
  Calls Tryd.prog 22 #[.pointer (some ⟨b, 0, none⟩)] w fun e w' => ∃ v, e = .returned v ∧ w'.ownsRow w.heap.size 3 1 v (cnt S 1024) (valsOf (mem S 1024)) ∧ Below w.heap.size w w' := by
 obtain ⟨i0, hi, hz0, hz1, hz2⟩ := info_parts Tryd.infoInt
 have HS := Lib.hid hs
 have HT := Lib.hid hT
 have hc : cnt S 1024 ≤ 1024 := cnt_le S 1024
 clear hs hT
 refine (callsIn_wide (n := 4)).1 ?_
 refine callsIn_of_wp_marks Tryd.func22 rfl trivial ?_ rfl
 simp only [Tryd.ntmps22, List.size_toArray, List.length_cons, List.length_nil, Nat.reduceAdd, Nat.reduceSub, Array.replicate_succ, Array.replicate_zero, List.push_toArray, List.append_toArray, List.nil_append, List.cons_append]
 gi_wp2_with (first
  | (refine ⟨trivial, ?_⟩; gi_at_call 34; refine (callsIn_wide.2 (len_any b n S _ HS.out)).mono ?_; rintro e w' ⟨rfl, rfl⟩)
  | (refine ⟨trivial, ?_⟩; gi_at_call 35; refine (callsIn_wide.2 (each_any b n S _ ((HS.out.grown hgrow1 (by simp)).alloc _))).mono ?_; rintro e w2 ⟨rfl, hw2'⟩; have HW2 := Lib.hid hw2'; clear hw2')
  | (gi_at_make; refine wpListIn_make_own _ rfl _ _ _ rfl w'.heap.size 3 i0 _ 1 Tryd.underlying28 hi hz0 hz1 _ _ _ (cnt S 1024) rfl rfl rfl (by rw [hz2]; omega) (by unfold maxLen; omega) (Nat.le_refl _) ?_; intro w1 hown1 hgrow1))
 have hw2 := HW2.out
 have hs1 : w'.heap.size < w1.heap.size := (hown1.lt _ rfl).2
 have hsz : w2.heap.size = w1.heap.size + 2 := by rw [hw2]; simp
 have hB1 : Below w'.heap.size w' w2 := by
  rw [hw2]
  exact (((grown_below hgrow1).alloc hgrow1.size _).alloc (by simp; omega) _)
 have bO : Boxed w2 w1.heap.size 28 (.slice (some ⟨w'.heap.size, 0, none⟩) 0 (cnt S 1024)) := by rw [hw2]; exact (Boxed.new w1 _ _).alloc _
 have hB : At w2 (w1.heap.size + 1) 62 (wordsL S).toArray := by
  rw [hw2]
  have := At.new (w1.alloc (.cells #[.slice (some ⟨w'.heap.size, 0, none⟩) 0 (cnt S 1024)] 28)) 62 (wordsL S).toArray
  rwa [World.size_alloc] at this
 have hrow : w2.ownsRow w'.heap.size 3 1 (.slice (some ⟨w'.heap.size, 0, none⟩) 0 (cnt S 1024)) 0 [] := by rw [hw2]; exact (hown1.alloc _).alloc _
 have hT2 : Tab w2 := HT.out.below hB1 hg0
 clear hw2 HW2 hown1 hgrow1
 refine wpIn_rangeFunc_ownG rfl (by omega) (gf := 56) (lb := #[.pointer (some ⟨w1.heap.size + 1, 0, none⟩)]) rfl trivial (enters_of Tryd.func56 (by kernel_rfl) rfl)
  (each_stops 3 (by omega) (w1.heap.size + 1) w'.heap.size hg0 S w2 (by omega) hB hT2) belowK_t (belowK_b (by omega)) (Below.refl _ _) (fun _ => rfl)
  (fun pre W => (∃ v, Boxed W w1.heap.size 28 v ∧ W.ownsRow w'.heap.size 3 1 v pre.length (valsOf (nums pre)) ∧ True) ∧ Below w'.heap.size w' W)
  (fun _ _ _ => False)
  (OwnFrom.and (Own.from (holdsRow_own w'.heap.size w1.heap.size 28 3 1 (fun pre : List Num => pre.length) (fun pre => valsOf (nums pre)) (fun pre v => True)) _) (ownFrom_below (Nat.le_refl _) (by omega)))
  (fun _ _ _ _ _ hs _ _ => hs)
  ⟨⟨_, bO, hrow, trivial⟩, hB1⟩
  (fun x => { tmps := #[.pointer (some ⟨b, 0, none⟩), undef, .slice none 0 0, .pointer (some ⟨w1.heap.size, 0, none⟩), .int .i64 ((x.1 : Nat) : Int), .pointer (some ⟨b, 0, none⟩), .int .i64 ((cnt S 1024 : Nat) : Int), .slice (some ⟨w'.heap.size, 0, none⟩) 0 (cnt S 1024), .pointer (some ⟨b, 0, none⟩), .func (.func 56) #[] #[.pointer (some ⟨w1.heap.size + 1, 0, none⟩)], .int .i64 ((x.1 : Nat) : Int), undef, undef, undef, undef, undef], defers := [] }) ?assign ?body ?done ?stop
 case assign =>
  intro l x W K hK
  gi_wp2
  exact hK
 case body =>
  rintro l pre x W ⟨⟨v, hv, hrow, _⟩, hB⟩ hlt
  have hc := hv.cell
  gi_wp2_with (gi_at_builtin; refine wpListIn_append_own _ rfl _ _ 28 rfl w'.heap.size 3 i0 (.int .i64 0) 1 8 Tryd.underlying28 hi hz0 hz1 hz2 rfl (by decide) _ _ _ rfl (hrow.alloc _) ⟨W.heap.size, 0, none⟩ 1 1 [.int .i64 ((x.1 : Nat) : Int)] rfl rfl (cell_one_new _ _ _) (by simp [Value.oneCell']) (by unfold maxLen; omega) (by omega) (by have := hB.size; simp; omega) ?_; intro v' w1 hown' hgrow _; obtain ⟨g', cap', rfl⟩ := ownsRow_succ hown'; obtain ⟨hv1, hv2, hr2, hk2, hb2⟩ := hv.appended (by decide) hrow hB.size (by omega) hown' hgrow; have hc1 := hv1.cell; have hf1 := hv1.frozen)
  exact ⟨hk2.from _, hb2, ⟨_, hv2, by rw [nums_snoc, valsOf_snoc, List.length_append]; exact hr2, trivial⟩, hB.trans hb2⟩
 case done =>
  rintro D ys W hD hys ⟨⟨v, hv, hrow, _⟩, hB⟩ hK
  have hc := hv.cell
  gi_wp2
  refine ⟨by simp, .inl ⟨_, _, rfl, run_takeDeferred hK, ?_⟩⟩
  have hl : ys.length = cnt S 1024 := by rw [← nums_length, hys, mem_length]
  rw [hl, hys] at hrow
  exact ⟨_, results_tmp rfl _ _ _, v, rfl, ownsRow_putObj hrow _ hK rfl, hB.trans (belowK_b (w := w') (Nat.le_refl _) W D _ _ (by omega) hK rfl rfl)⟩
 case stop =>
  rintro D c pre W _ _ h _
  exact h.elim
end Go.Proofs.YtdlplmbdkjkeiaaDoor
