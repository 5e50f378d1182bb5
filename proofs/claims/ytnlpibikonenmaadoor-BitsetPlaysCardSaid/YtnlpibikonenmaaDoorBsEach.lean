/-
  The walk over tronagelaw03.BitsetEach.
-/
import Derived.Test.YtnlpibikonenmaaDoorSetR
import Derived.Test.YtnlpibikonenmaaDoorSetE
import Derived.Maps.AppendAt
namespace Go.Proofs.YtnlpibikonenmaaDoor
open Go.RowKit Go.Shelf
open BitKit
set_option linter.unusedVariables false
set_option linter.unusedSimpArgs false

theorem boxcell {W : World} {g : Nat} {t : TypeId} {v : Value} (h : At W g t #[v]) : W.cell? ⟨g, 0, none⟩ = some v := by rw [h.cell]; rfl

/-- Between two rounds of the law's loop: pre has been told. -/
structure InLoop (w : World) (Bs B1 B8 B9 n : Nat) (x : Int) (pre : List Num) (W : World) : Prop where
  out : ∃ v, Boxed W B9 22 v ∧ W.ownsRow B9 3 1 v pre.length (valsOf (nums pre)) ∧ True
  stop : At W Bs 3 #[.int .i64 x]
  ptr : At W B8 25 #[.pointer (some ⟨B1, 0, none⟩)]
  set : ∃ S, IsSet W B1 n S
  bel : Below w.heap.size w W
  len : pre.length = 0 ∨ (pre.length : Int) ≤ x

theorem at_row {W : World} {g B : Nat} {t : TypeId} {cs : Array Value} {row : Option Nat} (h : At W g t cs) (hr : ∀ r, row = some r → B ≤ r ∧ ∃ o : Obj, W.heap[r]? = some o ∧ o.isCells = false) : some g ≠ row := by
  intro e
  obtain ⟨_, o, ho, hc⟩ := hr g e.symm
  unfold At at h
  rw [h] at ho; cases ho; cases hc
theorem inLoop_own {w : World} {Bs B1 B8 B9 n B : Nat} {x : Int} (hB : w.heap.size ≤ B) : OwnFrom B (fun pre W => InLoop w Bs B1 B8 B9 n x pre W) := by
  intro pre W W' row hs hg hr
  refine ⟨?_, hs.stop.grown hg (at_row hs.stop hr), hs.ptr.grown hg (at_row hs.ptr hr), ?_, hs.bel.grown hg hs.bel.size (fun k e => Nat.le_trans hB (hr k e).1), hs.len⟩
  · exact holdsRow_own B9 B9 22 3 1 (fun p : List Num => p.length) (fun p => valsOf (nums p)) (fun _ _ => True) pre W W' row hs.out hg (fun r e => (hr r e).2)
  · obtain ⟨S, hS⟩ := hs.set
    exact ⟨S, hS.grown hg (at_row hS.at_ hr)⟩

/-- The round in which the loop is broken off: the last one has been told, and not taken. -/
structure OutLoop (w : World) (Bs B1 B8 B9 n : Nat) (x : Int) (c : Code) (pre : List Num) (W : World) : Prop where
  ex : ∃ p y, c = .exit 0 ∧ pre = p ++ [y] ∧ InLoop w Bs B1 B8 B9 n x p W ∧ x ≤ (p.length : Int)
theorem outLoop_own {w : World} {Bs B1 B8 B9 n B : Nat} {x : Int} (hB : w.heap.size ≤ B) (c : Code) : OwnFrom B (fun pre W => OutLoop w Bs B1 B8 B9 n x c pre W) := by
  intro pre W W' row hs hg hr
  obtain ⟨p, y, h1, h2, h3, h4⟩ := hs.ex
  exact ⟨⟨p, y, h1, h2, inLoop_own hB p W W' row h3 hg hr, h4⟩⟩

theorem own_slice {w : World} {B e n : Nat} {v : Value} {xs : List Value} (h : w.ownsRow B e 1 v n xs) : ∃ A c, v = .slice A n c ∧ n ≤ c := by
  rcases own_shape h with ⟨h1, h2, _⟩ | ⟨g, cap, h1, h2, _⟩
  · exact ⟨none, 0, by rw [h1, h2], by omega⟩
  · exact ⟨_, _, h1, h2⟩
theorem Row.cut {w : World} {A : Option Addr} {c q : Nat} {L : List Int} (h : Row w (.slice A L.length c) L) (hq : q ≤ L.length) : Row w (.slice A q c) (L.take q) := by
  obtain ⟨A', c', he, hn⟩ := h.shape
  injection he with h1 h2 h3
  subst h1
  have hl : (L.take q).length = q := by rw [List.length_take]; omega
  have hg : ∀ i, i < q → (L.take q).getD i 0 = L.getD i 0 := by
    intro i hi; simp [List.getD, List.getElem?_take, hi]
  refine ⟨⟨A, c, by rw [hl], ⟨fun i hi => ?_, fun i hi => ?_, by rw [hl]; have := hn.len; omega⟩⟩⟩
  · rw [hl] at hi
    obtain ⟨b, o, h1, h2, h3⟩ := hn.each i (by omega)
    exact ⟨b, o, h1, h2, by rw [hg i hi]; exact h3⟩
  · rw [hl] at hi
    rw [hg i hi]; exact hn.rx i (by omega)
theorem ints_yes (v v' : Value) (l : List Int) (w : World) (h : Row w v l) (h' : Row w v' l) :
    Calls Tryd.prog 19 #[v, v'] w fun e w' => e = .returned (.bool true) ∧ ∃ k, w' = w.drewN k :=
  (ints_row v v' l l w h h').mono fun e w' hh => by
    obtain ⟨⟨r, rfl, hr⟩, hk⟩ := hh
    obtain rfl : r = true := hr.2 rfl
    exact ⟨rfl, hk⟩
theorem cut_ints (ao : Option Addr) (n k cap : Nat) (hk : k ≤ cap) (w : World) :
    (Instr.slice 22 (.slice ao n cap) none (some (.int .i64 (k : Int))) none).run Tryd.prog w = .ok (.slice ao k cap) w := by
  have hs : (Go.sizeOf (Tryd.prog.elem 22)).run Tryd.prog w = .ok 1 w := by kernel_rfl
  rw [run_slice_h (P := Tryd.prog) w 22 ao n cap Tryd.underlying22 .i64 (k : Int) (by omega) (by omega), hs]
  cases ao <;> simp [Result.andThen, sliced, Addr.add]
theorem nums_small (p : List Num) : Small (ints (nums p)) := by
  intro z hz
  simp only [ints, nums, List.mem_map] at hz
  obtain ⟨_, ⟨a, _, rfl⟩, rfl⟩ := hz
  have := a.2
  omega
/-- What is out, when the loop is over. -/
theorem out_done {S : Nat → Bool} {L : List Int} {x : Int} {ys : List Num} (hL : L = all S) (hys : nums ys = mem S 1024) (hlen : ys.length = 0 ∨ (ys.length : Int) ≤ x) :
    ∃ q : Nat, q ≤ L.length ∧ max (0 : Int) (min x (L.length : Int)) = (q : Int) ∧ ints (nums ys) = L.take q := by
  have h1 : ints (nums ys) = L := by rw [hL, hys]; rfl
  have h2 : L.length = ys.length := by rw [← h1, ints_length, nums_length]
  exact ⟨L.length, Nat.le_refl _, by omega, by rw [List.take_length]; exact h1⟩
theorem out_stop {S : Nat → Bool} {L : List Int} {x : Int} {p : List Num} {y : Num} (hL : L = all S) (hp : nums (p ++ [y]) <+: mem S 1024) (hlen : p.length = 0 ∨ (p.length : Int) ≤ x) (hx : x ≤ (p.length : Int)) :
    ∃ q : Nat, q ≤ L.length ∧ max (0 : Int) (min x (L.length : Int)) = (q : Int) ∧ ints (nums p) = L.take q := by
  have h3 : L.length = (mem S 1024).length := by rw [hL]; exact ints_length _
  have h4 := hp.length_le
  rw [nums_length, List.length_append, List.length_singleton] at h4
  have h5 : nums p <+: mem S 1024 := by rw [nums_snoc] at hp; exact (List.prefix_append _ _).trans hp
  refine ⟨p.length, by omega, by omega, ?_⟩
  rw [List.prefix_iff_eq_take, nums_length] at h5
  rw [hL, h5]
  unfold all ints
  rw [List.map_take]
theorem leavesM_ret {F : Fence} {n : Nat} {P : Program} {fn : Func} {R : Ending → World → Prop} {a : Act} {w : World} {t : Tmp} (ht : fn.results = #[.tmp t]) (hd : a.defers = []) (h : R (.returned (a.tmps.getD t undef)) w) :
    bodyPostM F n P fn R .ret a w := by
  show LeavesInM F n P fn a.tmps R a.defers .returning w
  rw [hd]
  exact ⟨_, results_tmp ht _ _ _, h⟩

attribute [local go_sem] Oper.semAt_some

set_option maxRecDepth 100000 in
set_option maxHeartbeats 8000000 in
theorem each_law (n : Int) (bn : -9223372036854775808 ≤ n ∧ n ≤ 9223372036854775807) (A1 : Option Addr) (l1 c1 : Nat) (X1 : Nat → Int) (x : Int) (bx : -9223372036854775808 ≤ x ∧ x ≤ 9223372036854775807) (w : World) (O1 : Nums w w.heap.size A1 l1 X1) (hT : Tab w) (hg0 : 0 < w.heap.size) :
    Calls Tryd.prog 4 #[.int .i64 n, .slice A1 l1 c1, .int .i64 x] w fun e w' => e = .returned (.bool true) ∧ Below w.heap.size w w' := by
  obtain ⟨i0, hi, hz0, hz1, hz2⟩ := info_parts Tryd.infoInt
  have HO1 := Lib.hid O1
  have HT := Lib.hid hT
  have hB0 := Lib.hid ((Below.refl w.heap.size w).alloc (Nat.le_refl _) (.cells #[.int .i64 x] 3))
  have hT0 := Lib.hid (hT.below hB0.out hg0)
  have hS0 := Lib.hid (At.new w 3 #[.int .i64 x])
  clear O1 hT
  refine (callsIn_wide (n := 4)).1 ?_
  refine callsIn_of_wp_marks Tryd.func4 rfl trivial ?_ rfl
  simp only [Tryd.ntmps4, List.size_toArray, List.length_cons, List.length_nil, Nat.reduceAdd, Nat.reduceSub, Array.replicate_succ, Array.replicate_zero, List.push_toArray, List.append_toArray, List.nil_append, List.cons_append]
  gi_wp2_with fail
  refine ⟨trivial, ?_⟩
  refine (callsIn_wide.2 (awake_any _ hT0.out (by rw [World.size_alloc]; omega))).mono ?_
  rintro e w1 ⟨rfl, hg1⟩
  have B1' := Lib.hid (hB0.out.grown hg1 (by rw [World.size_alloc]; omega) (fun k hk => by cases hk))
  have hS1 := Lib.hid (hS0.out.grown hg1 (by simp))
  clear hg1 hB0 hS0
  by_cases h1 : (100 : Int) < (l1 : Int)
  · gi_wp2_with fail
    exact leavesM_ret rfl rfl ⟨rfl, B1'.out⟩
  · gi_wp2_with fail
    refine ⟨trivial, ?_⟩
    refine (callsIn_wide.2 (of_new n A1 l1 c1 X1 w1 ((HO1.out.below B1'.out).wide B1'.out.size))).mono ?_
    rintro e w2 ⟨b1, rfl, hb1, hs2, hg2⟩
    have B2 := Lib.hid (B1'.out.grown hg2 B1'.out.size (fun k hk => by cases hk))
    have hS2 := Lib.hid (hS1.out.grown hg2 (by simp))
    have S2 := Lib.hid hs2
    have hb1s : w.heap.size < b1 := by have := hS1.out.lt; omega
    clear hs2 hg2 B1' hS1
    gi_wp2_with fail
    refine ⟨trivial, ?_⟩
    refine (callsIn_wide.2 (each_any b1 _ _ _ ((S2.out.alloc _).alloc _))).mono ?_
    rintro e w3 ⟨rfl, hw3'⟩
    have hw3 := Lib.hid hw3'
    clear hw3'
    gi_wp2_with fail
    have hsz2 := B2.out.size
    obtain ⟨B8, hB8⟩ : ∃ b, b = w2.heap.size := ⟨_, rfl⟩
    have hb1t : b1 < B8 := by have := S2.out.at_.lt; omega
    have hb8 := Boxed.new w2 25 (.pointer (some ⟨b1, 0, none⟩))
    have hb9 := Boxed.new (w2.alloc (.cells #[.pointer (some ⟨b1, 0, none⟩)] 25)) 22 (.slice none 0 0)
    have hbn := At.new ((w2.alloc (.cells #[.pointer (some ⟨b1, 0, none⟩)] 25)).alloc (.cells #[.slice none 0 0] 22)) 54 (wordsL (ofs (held n) X1 l1)).toArray
    rw [World.size_alloc] at hb9
    rw [World.size_alloc, World.size_alloc] at hbn
    have hsz3 : w3.heap.size = B8 + 3 := by rw [hw3.out, hB8]; simp
    have hL3 : InLoop w w.heap.size b1 B8 (B8 + 1) (held n) x [] w3 := by
      rw [hw3.out, hB8]
      refine ⟨⟨_, hb9.alloc _, World.ownsRow_nil _ _ _ _, trivial⟩, ((hS2.out.alloc _).alloc _).alloc _, (At.alloc (At.alloc hb8 _) _), ⟨_, ((S2.out.alloc _).alloc _).alloc _⟩, ?_, .inl rfl⟩
      exact ((B2.out.alloc hsz2 _).alloc (by rw [World.size_alloc]; omega) _).alloc (by rw [World.size_alloc, World.size_alloc]; omega) _
    have hN3 : At w3 (B8 + 2) 54 (wordsL (ofs (held n) X1 l1)).toArray := by rw [hw3.out, hB8]; exact hbn
    have hT3 : Tab w3 := HT.out.below hL3.bel hg0
    rw [← hB8]
    obtain ⟨S, hSe'⟩ : ∃ S, S = ofs (held n) X1 l1 := ⟨_, rfl⟩
    rw [← hSe'] at hN3
    have hfit : ∀ i, S i = true → i < held n := by rw [hSe']; exact S2.out.fit
    have HSe := Lib.hid hSe'
    have HF := Lib.hid hfit
    have hN1000 : cnt S 1024 ≤ 1000 := by
      have hh : held n ≤ 1000 := by unfold held; omega
      rw [cnt_stay S (n := held n) (by omega) (fun i h1 _ => by
        cases h : S i
        · rfl
        · have := hfit i h; omega)]
      exact Nat.le_trans (cnt_le _ _) hh
    have hle := S2.out.le
    clear hw3 hb8 hb9 hbn hB8 hSe' hfit S2 hS2 B2 hT0
    refine wpIn_rangeFunc_ownG rfl (by omega) (gf := 35) (lb := #[.pointer (some ⟨B8 + 2, 0, none⟩)]) rfl trivial (enters_of Tryd.func35 (by kernel_rfl) rfl)
      (each_stops 3 (by omega) (B8 + 2) w.heap.size hg0 S w3 (by omega) hN3 hT3) belowK_t (belowK_b (by omega)) (Below.refl _ _) (fun _ => rfl)
      (fun pre W => InLoop w w.heap.size b1 B8 (B8 + 1) (held n) x pre W)
      (fun c pre W => OutLoop w w.heap.size b1 B8 (B8 + 1) (held n) x c pre W)
      (inLoop_own (by omega)) (outLoop_own (by omega)) hL3
      (fun y => { tmps := #[.int .i64 n, .slice A1 l1 c1, .int .i64 x, undef, undef, .pointer (some ⟨w.heap.size, 0, none⟩), .bool false, .bool true, .pointer (some ⟨B8, 0, none⟩), .pointer (some ⟨B8 + 1, 0, none⟩), .int .i64 ((y.1 : Nat) : Int), undef, undef, .bool true, .slice A1 l1 c1, .int .i64 (l1 : Int), .bool (decide ((100 : Int) < (l1 : Int))), undef, .int .i64 n, .slice A1 l1 c1, .pointer (some ⟨b1, 0, none⟩), .pointer (some ⟨b1, 0, none⟩), .bool false, .pointer (some ⟨b1, 0, none⟩), .func (.func 35) #[] #[.pointer (some ⟨B8 + 2, 0, none⟩)], .int .i64 ((y.1 : Nat) : Int), undef, undef, undef, undef, undef, undef, undef, undef, undef, undef, undef, undef, undef, undef, undef, undef, undef, undef, undef, undef, undef, undef, undef, undef, undef, undef, undef, undef, undef, undef, undef, undef, undef, undef, undef, undef, undef], defers := [] }) ?assign ?body ?done ?stop
    case assign =>
      intro l y W K hK
      gi_wp2
      exact hK
    case body =>
      rintro l pre y W hI hlt
      obtain ⟨v, hv, hrow, _⟩ := hI.out
      obtain ⟨ao, cap, rfl⟩ : ∃ ao cap, v = .slice ao pre.length cap := by
        rcases own_shape hrow with ⟨h1, h2, _⟩ | ⟨g, cap, h1, _⟩
        · exact ⟨none, 0, by rw [h1, h2]⟩
        · exact ⟨_, _, h1⟩
      have hc := hv.cell
      have hcs := boxcell hI.stop
      have hplt : pre.length < 1000 := Nat.lt_of_lt_of_le hlt hN1000
      have hd2 : decide ((1000 : Int) < (pre.length : Int)) = false := decide_eq_false (by omega)
      by_cases hge : x ≤ (pre.length : Int)
      · gi_wp2_with fail
        exact ⟨KeepsFrom.refl _ _, ⟨⟨pre, y, rfl, rfl, hI, hge⟩⟩⟩
      · have hB9 : B8 + 1 ≤ W.heap.size := Nat.le_of_lt hv.lt
        gi_wp2_with (gi_at_builtin; refine wpListIn_append_own _ rfl _ _ 22 rfl (B8 + 1) 3 i0 (.int .i64 0) 1 8 Tryd.underlying22 hi hz0 hz1 hz2 rfl (by decide) _ _ _ rfl (hrow.alloc _) ⟨W.heap.size, 0, none⟩ 1 1 [.int .i64 ((y.1 : Nat) : Int)] rfl rfl (cell_one_new _ _ _) (by simp [Value.oneCell']) (by unfold maxLen; omega) (by omega) (by simp; omega) ?_; intro v' w4 hown' hgrow _; obtain ⟨g', cap', rfl⟩ := ownsRow_succ hown'; obtain ⟨hv1, hv2, hr2, hk2, hb2⟩ := hv.appended (by decide) hrow (by omega) (Nat.le_refl _) hown' hgrow; have hc1 := hv1.cell; have hf1 := hv1.frozen; have h8 := boxcell (hI.ptr.below hb2 (by omega)))
        have hyl := y.2
        obtain ⟨S', hS'⟩ := hI.set
        have hs4 := IsSet.mk (hS'.at_.below hb2 (by omega)) hS'.le hS'.fit
        have ht4 := hI.stop.below hb2 (by omega)
        have hp4 := hI.ptr.below hb2 (by omega)
        have hv4 := Lib.hid hv2
        have hr4 := Lib.hid hr2
        have hk4 := Lib.hid hk2
        have hb4 := Lib.hid hb2
        have hbl := hI.bel
        have hb1w : b1 < w3.heap.size := by omega
        have hlen := Lib.hid hI.len
        have hsW := hI.bel.size
        clear hv1 hv2 hr2 hk2 hb2 hown' hgrow hc1 hf1 h8 hv hrow hc hcs hI hS'
        generalize hW4 : w4.setCell ⟨B8 + 1, 0, none⟩ (.slice (some ⟨g', 0, none⟩) (pre.length + 1) cap') = W4 at *
        clear hW4
        refine ⟨trivial, ?_⟩
        refine (CallsIn.inRound l (callsIn_wide.2 (drop_any b1 _ _ _ _ hs4))).mono ?_
        rintro e w5 ⟨rfl, hs5, hg5⟩
        have ht5 := ht4.grown hg5 (fun e => by injection e with e; omega)
        have hp5 := hp4.grown hg5 (fun e => by injection e with e; omega)
        have hv5 := Lib.hid (hv4.out.kept hg5 (fun e => by injection e with e; omega))
        have hr5 := Lib.hid (hr4.out.kept hg5 (.inr (fun e => by have := (hr4.out.lt b1 e).1; omega)))
        have hk5 := Lib.hid ((hk4.out.from w3.heap.size).trans (KeepsFrom.of_grownBy hg5 (fun j e => by injection e with e; omega)))
        have hb5 := Lib.hid ((hb4.out.mono (show w.heap.size ≤ B8 + 1 by omega)).grown hg5 (by have := hb4.out.size; omega) (fun k e => by injection e with e; omega))
        have h85 := boxcell hp5
        clear hs4 hg5 hv4 hr4 hk4
        gi_wp2_with fail
        refine ⟨trivial, ?_⟩
        refine (CallsIn.inRound l (callsIn_wide.2 (add_any b1 _ _ _ _ hs5))).mono ?_
        rintro e w6 ⟨rfl, hs6, hg6⟩
        have ht6 := ht5.grown hg6 (fun e => by injection e with e; omega)
        have hp6 := hp5.grown hg6 (fun e => by injection e with e; omega)
        have hv6 := hv5.out.kept hg6 (fun e => by injection e with e; omega)
        have hr6 := hr5.out.kept hg6 (.inr (fun e => by have := (hr5.out.lt b1 e).1; omega))
        have hk6 := hk5.out.trans (KeepsFrom.of_grownBy hg6 (fun j e => by injection e with e; omega))
        have hb6 := hb5.out.grown hg6 (by have := hb5.out.size; omega) (fun k e => by injection e with e; omega)
        have hfin : InLoop w w.heap.size b1 B8 (B8 + 1) (held n) x (pre ++ [y]) w6 := ⟨⟨_, hv6, by rw [nums_snoc, valsOf_snoc, List.length_append]; exact hr6, trivial⟩, ht6, hp6, ⟨_, hs6⟩, hbl.trans hb6, .inr (by rw [List.length_append, List.length_singleton]; omega)⟩
        have HF6 := Lib.hid hfin
        have HK6 := Lib.hid hk6
        have HB6 := Lib.hid hb6
        clear hfin hk6 hb6 hr6 hv6 hp6 ht6 hs6 hg6 ht5 hp5 hs5
        gi_wp2_with fail
        exact ⟨HK6.out, HB6.out, HF6.out⟩
    case done =>
      rintro D ys W hD hys hI hK
      obtain ⟨L, hL⟩ : ∃ L, L = all S := ⟨_, rfl⟩
      have HQ := Lib.hid (out_done hL hys hI.len)
      have HL := Lib.hid hL
      have hO_ := hys
      clear hL hys
      clear hO_
      obtain ⟨q, hq1, hq2, hq3⟩ := HQ.out
      have hq2' := Lib.hid hq2
      clear hq2
      gi_wp2_with fail
      refine ⟨trivial, ?_⟩
      refine (callsIn_wide.2 (rof_any n A1 l1 c1 X1 W ((HO1.out.below hI.bel).wide hI.bel.size))).mono ?_
      rintro e w5 ⟨rb, g, rfl, hr1, hr2, hr, hg5⟩
      have R5 := Lib.hid hr
      have BB := hI.bel.size
      have hDW : D < W.heap.size := (Array.getElem?_eq_some_iff.1 hK).1
      have K5 := (hg5.block D hDW (by simp)).trans hK
      have B5 := Lib.hid (hI.bel.grown hg5 hI.bel.size (fun k hk => by cases hk))
      have I5 := Lib.hid (inLoop_own (Nat.le_refl w.heap.size) _ W w5 none hI hg5 (fun r hr => by cases hr))
      clear hr hg5
      gi_wp2_with fail
      refine ⟨trivial, ?_⟩
      refine (callsIn_wide.2 (rlist_any rb g _ _ w5 R5.out)).mono ?_
      rintro e w6 ⟨v6, rfl, ho6, hg6⟩
      rw [all_upto R5.out.le R5.out.fit, ← HSe.out] at ho6
      have hrow6 := row_own ho6 (mem_small S)
      rw [show ints (mem S 1024) = L from HL.out.symm] at hrow6
      have hlen6 : (mem S 1024).length = L.length := by rw [HL.out]; exact (ints_length _).symm
      rw [hlen6] at ho6
      obtain ⟨A6, c6, rfl, hc6⟩ := own_slice ho6
      have I6 := Lib.hid (inLoop_own (Nat.le_refl w.heap.size) _ w5 w6 none I5.out hg6 (fun r hr => by cases hr))
      have K6 := (hg6.block D (Array.getElem?_eq_some_iff.1 K5).1 (by simp)).trans K5
      have B6 := Lib.hid (B5.out.grown hg6 B5.out.size (fun k hk => by cases hk))
      have RW := Lib.hid (hrow6.cut hq1)
      obtain ⟨v, hv, hrow, _⟩ := I6.out.out
      rw [valsOf_ints] at hrow
      have RO' := row_own hrow (nums_small _)
      rw [hq3] at RO'
      have RO := Lib.hid RO'
      have hc9 := hv.cell
      have hcs := boxcell I6.out.stop
      have hsl := cut_ints A6 L.length q c6 (by omega)
      obtain ⟨t, ht⟩ : ∃ t : Int, t = min x (L.length : Int) := ⟨_, rfl⟩
      have hmn : (if (L.length : Int) < x then (L.length : Int) else x) = t := by split <;> omega
      have hmx : (if (0 : Int) < t then t else 0) = (q : Int) := by have := hq2'.out; split <;> omega
      clear ht
      clear ho6 hg6 hrow6 hlen6 hrow RO' K5
      gi_wp2_with fail
      refine wpIn_wide.2 ?_
      go_quiet (first | (go_at_call 19; refine Calls.quiet_of (ints_yes _ _ _ _ (RO.out.drewN _) (RW.out.drewN _))))
      gi_wp2_with fail
      refine ⟨by simp, .inl ⟨_, _, rfl, run_takeDeferred (w := w6.drewN _) K6, ?_⟩⟩
      exact ⟨_, results_tmp rfl _ _ _, rfl, (below_drewN B6.out _).trans (belowK_b (w := w) (Nat.le_refl _) (w6.drewN _) D _ _ (by omega) K6 rfl rfl)⟩
    case stop =>
      rintro D c pre W hD hpre hO hK
      obtain ⟨p, y, rfl, rfl, hI, hx⟩ := hO.ex
      obtain ⟨L, hL⟩ : ∃ L, L = all S := ⟨_, rfl⟩
      have HQ := Lib.hid (out_stop hL hpre hI.len hx)
      have HL := Lib.hid hL
      have hO_ := hO
      clear hL hpre hO hx
      clear hO_
      obtain ⟨q, hq1, hq2, hq3⟩ := HQ.out
      have hq2' := Lib.hid hq2
      clear hq2
      gi_wp2_with fail
      refine ⟨trivial, ?_⟩
      refine (callsIn_wide.2 (rof_any n A1 l1 c1 X1 W ((HO1.out.below hI.bel).wide hI.bel.size))).mono ?_
      rintro e w5 ⟨rb, g, rfl, hr1, hr2, hr, hg5⟩
      have R5 := Lib.hid hr
      have BB := hI.bel.size
      have hDW : D < W.heap.size := (Array.getElem?_eq_some_iff.1 hK).1
      have K5 := (hg5.block D hDW (by simp)).trans hK
      have B5 := Lib.hid (hI.bel.grown hg5 hI.bel.size (fun k hk => by cases hk))
      have I5 := Lib.hid (inLoop_own (Nat.le_refl w.heap.size) _ W w5 none hI hg5 (fun r hr => by cases hr))
      clear hr hg5
      gi_wp2_with fail
      refine ⟨trivial, ?_⟩
      refine (callsIn_wide.2 (rlist_any rb g _ _ w5 R5.out)).mono ?_
      rintro e w6 ⟨v6, rfl, ho6, hg6⟩
      rw [all_upto R5.out.le R5.out.fit, ← HSe.out] at ho6
      have hrow6 := row_own ho6 (mem_small S)
      rw [show ints (mem S 1024) = L from HL.out.symm] at hrow6
      have hlen6 : (mem S 1024).length = L.length := by rw [HL.out]; exact (ints_length _).symm
      rw [hlen6] at ho6
      obtain ⟨A6, c6, rfl, hc6⟩ := own_slice ho6
      have I6 := Lib.hid (inLoop_own (Nat.le_refl w.heap.size) _ w5 w6 none I5.out hg6 (fun r hr => by cases hr))
      have K6 := (hg6.block D (Array.getElem?_eq_some_iff.1 K5).1 (by simp)).trans K5
      have B6 := Lib.hid (B5.out.grown hg6 B5.out.size (fun k hk => by cases hk))
      have RW := Lib.hid (hrow6.cut hq1)
      obtain ⟨v, hv, hrow, _⟩ := I6.out.out
      rw [valsOf_ints] at hrow
      have RO' := row_own hrow (nums_small _)
      rw [hq3] at RO'
      have RO := Lib.hid RO'
      have hc9 := hv.cell
      have hcs := boxcell I6.out.stop
      have hsl := cut_ints A6 L.length q c6 (by omega)
      obtain ⟨t, ht⟩ : ∃ t : Int, t = min x (L.length : Int) := ⟨_, rfl⟩
      have hmn : (if (L.length : Int) < x then (L.length : Int) else x) = t := by split <;> omega
      have hmx : (if (0 : Int) < t then t else 0) = (q : Int) := by have := hq2'.out; split <;> omega
      clear ht
      clear ho6 hg6 hrow6 hlen6 hrow RO' K5
      gi_wp2_with fail
      refine wpIn_wide.2 ?_
      go_quiet (first | (go_at_call 19; refine Calls.quiet_of (ints_yes _ _ _ _ (RO.out.drewN _) (RW.out.drewN _))))
      gi_wp2_with fail
      refine ⟨by simp, .inl ⟨_, _, rfl, run_takeDeferred (w := w6.drewN _) K6, ?_⟩⟩
      exact ⟨_, results_tmp rfl _ _ _, rfl, (below_drewN B6.out _).trans (belowK_b (w := w) (Nat.le_refl _) (w6.drewN _) D _ _ (by omega) K6 rfl rfl)⟩

end Go.Proofs.YtnlpibikonenmaaDoor
