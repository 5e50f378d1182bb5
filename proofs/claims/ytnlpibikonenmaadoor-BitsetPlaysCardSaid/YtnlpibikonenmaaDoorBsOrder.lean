/-
  The walk over tronagelaw03.BitsetOrder.
-/
import Derived.Test.YtnlpibikonenmaaDoorBsUnion
import Derived.Deep.RegionLaw
namespace Go.Proofs.YtnlpibikonenmaaDoor
open Go.RowKit
open BitKit
set_option linter.unusedVariables false
set_option linter.unusedSimpArgs false

/-- From the last one of l on, c of them, each twice. -/
def back (X : Nat → Int) (l : Nat) : Nat → List Int
  | 0 => []
  | c + 1 => back X l c ++ [X (l - 1 - c), X (l - 1 - c)]
theorem back_length (X : Nat → Int) (l : Nat) : ∀ c, (back X l c).length = 2 * c
  | 0 => rfl
  | c + 1 => by rw [back, List.length_append, back_length X l c]; simp; omega
theorem back_mem (X : Nat → Int) (l : Nat) (y : Int) : ∀ c, c ≤ l → (y ∈ back X l c ↔ ∃ j, l - c ≤ j ∧ j < l ∧ X j = y)
  | 0, _ => by simp [back]; intro j h1 h2; omega
  | c + 1, hc => by
    rw [back, List.mem_append, back_mem X l y c (by omega)]
    constructor
    · rintro (⟨j, h1, h2, h3⟩ | h)
      · exact ⟨j, by omega, h2, h3⟩
      · simp at h; exact ⟨l - 1 - c, by omega, by omega, h.symm⟩
    · rintro ⟨j, h1, h2, h3⟩
      by_cases he : j = l - 1 - c
      · subst he; right; simp [h3]
      · exact .inl ⟨j, by omega, h2, h3⟩
theorem back_small (X : Nat → Int) (l c : Nat) (hc : c ≤ l) (hX : ∀ i, i < l → -9223372036854775808 ≤ X i ∧ X i ≤ 9223372036854775807) : Small (back X l c) := by
  intro y hy
  obtain ⟨j, _, h2, rfl⟩ := (back_mem X l y c hc).1 hy
  exact hX j h2
theorem mem_getD (l : List Int) (y : Int) : (∃ j, j < l.length ∧ fn l j = y) ↔ y ∈ l := by
  rw [List.mem_iff_getElem]
  constructor
  · rintro ⟨j, h1, h2⟩
    exact ⟨j, h1, by simpa [fn, List.getD, h1] using h2⟩
  · rintro ⟨j, h1, h2⟩
    exact ⟨j, h1, by simpa [fn, List.getD, h1] using h2⟩
theorem ofs_back (m : Nat) (X : Nat → Int) (l : Nat) : ofs m (fn (back X l l)) (back X l l).length = ofs m X l := by
  funext i
  rw [Bool.eq_iff_iff, ofs_iff, ofs_iff, mem_getD, back_mem X l _ l (Nat.le_refl _)]
  constructor
  · rintro ⟨h, j, _, h2, h3⟩; exact ⟨h, j, h2, h3⟩
  · rintro ⟨h, j, h2, h3⟩; exact ⟨h, j, by omega, h2, h3⟩
theorem all_at {S : Nat → Bool} {L : List Int} (hL : L = all S) {k : Nat} (hk : k < L.length) : ∃ y : Nat, L.getD k 0 = (y : Int) ∧ y < 1024 ∧ S y = true := by
  have h1 : L.getD k 0 ∈ L := by simp [List.getD, hk]
  rw [hL] at h1
  unfold all ints at h1
  rw [List.mem_map] at h1
  obtain ⟨y, hy, he⟩ := h1
  obtain ⟨h2, h3⟩ := (mem_mem _ _ _).1 hy
  exact ⟨y, by rw [hL]; exact he.symm, h2, h3⟩
theorem all_up {S : Nat → Bool} {L : List Int} (hL : L = all S) {k : Nat} (hk : k + 1 < L.length) : L.getD k 0 < L.getD (k + 1) 0 := by
  have h1 : L.Pairwise (· < ·) := by
    rw [hL]; unfold all ints
    rw [List.pairwise_map]
    exact (BitKit.mem_sorted S 1024).imp (fun h => by omega)
  have h2 := List.pairwise_iff_getElem.1 h1 k (k + 1) (by omega) hk (by omega)
  simpa [List.getD, hk, show k < L.length by omega] using h2
theorem Nums.drewN {w : World} {B : Nat} {A : Option Addr} {n : Nat} {X : Nat → Int} (h : Nums w B A n X) (k : Nat) : Nums (w.drewN k) B A n X := ⟨h.each, h.rx, h.len⟩
theorem in_yes (A : Option Addr) (n c : Nat) (X : Nat → Int) (B : Nat) (x : Int) (w : World) (O : Nums w B A n X) (h : InTo X x n) :
    Calls Tryd.prog 27 #[.slice A n c, .int .i64 x] w fun e w' => e = .returned (.bool true) ∧ ∃ k, w' = w.drewN k :=
  (in_any A n c X B x w O).mono fun e w' hh => by
    obtain ⟨⟨r, rfl, hr⟩, k, rfl⟩ := hh
    obtain rfl : r = true := hr.2 h
    exact ⟨rfl, _, rfl⟩

theorem quiet_draw2 {P : Program} {f : FuncId} {args : Array Value} {w : World} {q n : Nat} {v : Value}
    (h : Calls P f args (w.drewN (q + n)) fun e w' => e = .returned v ∧ ∃ m, w' = (w.drewN (q + n)).drewN m) : Calls P f args (w.drewN (q + n)) fun e w'' => e = .returned v ∧ ∃ m, w'' = w.drewN (q + m) :=
  h.mono fun _ _ ⟨he, m, hm⟩ => ⟨he, n + m, by rw [hm, World.drewN_drewN, Nat.add_assoc]⟩

/-- append onto a row of one's own, as one step of a region that draws. -/
theorem step_append_own2 {P : Program} {ops : Array Oper} {o : Oper} {a : Act} {w : World} {K : Act → World → Prop} {Q : Exit → Act → World → Prop} {E : Prop}
    (hg : o.guard = none) (s x : Operand) (t : TypeId) (hop : o.op = Op.call { callee := Callee.builtin Builtin.append, args := #[s, x], argTypes := #[t, t] })
    (base : Nat) (e : TypeId) (i : TypeInfo) (z : Value) (size bytes : Nat) (h1 : P.underlying t = some (.slice e)) (h2 : P.info? e = some i) (h3 : i.zero = some z) (h4 : i.size = size) (h5 : i.bytes = bytes) (h6 : z.cells.size = size) (h7 : 0 < size)
    (v : Value) (n : Nat) (xs : List Value) (hs : a.eval s = v) (hown : w.ownsRow base e size v n xs)
    (ad : Addr) (m c : Nat) (news : List Value) (hx : a.eval x = .slice (some ad) m c) (hn : news.length = m * size) (hc : ∀ j u, news[j]? = some u → w.cell? (ad.add j) = some u) (h1c : ∀ u ∈ news, u.oneCell' = true)
    (b1 : n + m ≤ maxLen) (b2 : (n + m) * bytes ≤ 140737488355328) (b3 : base ≤ w.heap.size)
    (hK : ∀ v' w', w'.ownsRow base e size v' (n + m) (xs ++ news) → w.grownBy w' v.ownBlock → SameOrNew w v v' → K (a.put o.dst v') w') :
    if Region.wanted o (yielded ops a.tmps) = true then Oper.wp P o a w K Q else E := by
  have hw : Region.wanted o (yielded ops a.tmps) = true := by simp [Region.wanted, hg]
  rw [if_pos hw]
  obtain ⟨v', w', hr, r1, r2, r3⟩ := run_append_own2 (P := P) w base t o.type e i z size bytes h1 h2 h3 h4 h5 h6 h7 v n xs hown ad m c news hn hc h1c b1 b2 b3
  unfold Oper.wp
  simp [execOp, hop, resolve, invoke, builtin, hs, hx, hr, Result.andThen]
  exact hK _ _ r1 r2 r3
theorem cell_two_new (w : World) (a b : Value) (t : TypeId) : ∀ j u, [a, b][j]? = some u → (w.alloc (.cells #[a, b] t)).cell? ((⟨w.heap.size, 0, none⟩ : Addr).add j) = some u := by
  intro j u h
  rw [Addr.add_mid, Nat.zero_add, (At.new w t #[a, b]).cell]
  simpa using h

theorem grown_row {a w w' : World} {row : Option Nat} (h : a.grownBy w none) (k : w.grownBy w' row) (hr : ∀ b, row = some b → a.heap.size ≤ b) : a.grownBy w' none :=
  ⟨k.os.trans h.os, k.tape.trans h.tape, k.output.trans h.output, Nat.le_trans h.size k.size, fun i hi hne =>
    (k.block i (Nat.lt_of_lt_of_le hi h.size) (fun e => by have := hr i e.symm; omega)).trans (h.block i hi hne)⟩

set_option maxRecDepth 100000 in
set_option maxHeartbeats 16000000 in
theorem order_law (n : Int) (bn : -9223372036854775808 ≤ n ∧ n ≤ 9223372036854775807) (A1 : Option Addr) (l1 c1 : Nat) (X1 : Nat → Int) (w : World) (O1 : Nums w w.heap.size A1 l1 X1) (hT : Tab w) (hg0 : 0 < w.heap.size) :
    Calls Tryd.prog 6 #[.int .i64 n, .slice A1 l1 c1] w fun e w' => e = .returned (.bool true) ∧ Below w.heap.size w w' := by
  have HO1 := Lib.hid O1
  have HT := Lib.hid hT
  have hrx := Lib.hid O1.rx
  obtain ⟨i0, hi, hz0, hz1, hz2⟩ := info_parts Tryd.infoInt
  clear O1 hT
  go_enter Tryd.func6, Tryd.ntmps6
  go_wp2_with fail
  refine (awake_any w HT.out hg0).mono ?_
  rintro e w1 ⟨rfl, hg1⟩
  have G1 := Lib.hid hg1
  clear hg1
  by_cases h1 : (100 : Int) < (l1 : Int)
  · go_wp2_with fail
    go_ret
    exact ⟨rfl, grown_below G1.out⟩
  · go_wp2_with fail
    go_loopw [6, 7] (fun v i wr => ∃ r c : Nat, r + c = l1 ∧ i = .int .i64 ((r : Int) - 1) ∧ wr.ownsRow w.heap.size 3 1 v (2 * c) (vals (back X1 l1 c)) ∧ w.grownBy wr none) (fun _ i _ => (intOf i + 1).toNat)
    case atStart => exact ⟨l1, 0, by omega, rfl, World.ownsRow_nil _ _ _ _, G1.out⟩
    case round =>
      obtain ⟨r, c, hrc, rfl, hown, hG⟩ := hrel
      have HW := Lib.hid hown
      have HG := Lib.hid hG
      have hzs : w.heap.size ≤ wr.heap.size := hG.size
      clear hown hG
      cases r with
      | zero =>
        have hc : c = l1 := by omega
        subst hc
        have hneg : ((0 : Nat) : Int) - 1 = -1 := by omega
        rw [hneg]
        go_wp2_with fail
        refine (of_new n A1 c c1 X1 wr ((HO1.out.below (grown_below HG.out)).wide HG.out.size)).mono ?_
        rintro e w2 ⟨b1, rfl, hb1, hs2, hg2⟩
        have G2 := Lib.hid (grown_none HG.out hg2)
        have S2 := Lib.hid hs2
        have R2 := Lib.hid ((row_own HW.out (back_small X1 c c (Nat.le_refl _) hrx.out)).below (grown_below hg2))
        clear hs2 hg2 HW
        go_wp2_with fail
        refine (of_ex n _ _ w2 R2.out).mono ?_
        rw [ofs_back]
        rintro e w3 ⟨b2, rfl, hb2, hs3, hg3⟩
        have G3 := Lib.hid (grown_none G2.out hg3)
        have S3 := Lib.hid (S2.out.grown hg3 (by simp))
        have T3 := Lib.hid hs3
        clear hs3 hg3 S2 G2 R2
        have HS : RowKit.Hid (∀ i, ofs (held n) X1 c i = true → InTo X1 (i : Int) c) := Lib.hid (fun i hi => by
          obtain ⟨_, j, h2, h3⟩ := (ofs_iff _ _ _ _).1 hi
          exact ⟨j, h2, h3⟩)
        generalize ofs (held n) X1 c = S at S3 T3 HS
        have HL := Lib.hid (HT.out.below (grown_below G3.out) hg0)
        go_wp2_with fail
        obtain ⟨L, hL⟩ : ∃ L, L = all S := ⟨_, rfl⟩
        obtain ⟨N, hN⟩ : ∃ N, N = cnt S 1024 := ⟨_, rfl⟩
        have hlen : L.length = N := by rw [hL, hN]; exact all_length S
        have hN1 : N ≤ 1024 := by rw [hN]; exact cnt_le _ _
        have hfit := S3.out.fit
        have HK : RowKit.Hid (∀ k, k < L.length → 0 ≤ L.getD k 0 ∧ L.getD k 0 < n ∧ InTo X1 (L.getD k 0) c) := Lib.hid (fun k hk => by
          obtain ⟨y, h1, _, h3⟩ := all_at hL hk
          have h4 := hfit y h3
          unfold held at h4
          rw [h1]
          exact ⟨by omega, by omega, HS.out y h3⟩)
        have HU : RowKit.Hid (∀ k, k + 1 < L.length → L.getD k 0 < L.getD (k + 1) 0) := Lib.hid (fun k hk => all_up hL hk)
        refine (list_row b1 _ _ w3 S3.out HL.out (by have := G3.out.size; omega)).mono ?_
        rw [← hL]
        have HN := Lib.hid hN
        clear hL hN hfit HS
        rintro e w4 ⟨⟨A, c', rfl, hr4, _⟩, hg4⟩
        obtain ⟨A', c'', he4, hn4⟩ := hr4.shape
        have R4 : RowKit.Hid (Nums w4 w4.heap.size A L.length (fun i => L.getD i 0)) := Lib.hid (by injection he4 with q1 q2 q3; subst q1; exact hn4)
        have G4 := Lib.hid (grown_none G3.out hg4)
        have S4 := Lib.hid (S3.out.grown hg4 (by simp))
        have T4 := Lib.hid (T3.out.grown hg4 (by simp))
        clear hr4 hg4 he4 hn4 S3 T3 G3 HL
        go_wp2_with fail
        go_loopw [11] (fun i w5 => ∃ k : Nat, k ≤ L.length ∧ i = .int .i64 (k : Int) ∧ ∃ d, w5 = w4.drewN d) (fun i _ => L.length - (intOf i).toNat)
        case atStart => exact ⟨0, by omega, rfl, 0, rfl⟩
        case round =>
          obtain ⟨k, hk, rfl, d, rfl⟩ := hrel
          by_cases hlt : k < L.length
          · have hltI : (k : Int) < (L.length : Int) := by omega
            have h0I : (0 : Int) ≤ (k : Int) := by omega
            have hkI : ((k : Int)).toNat = k := by omega
            obtain ⟨hk1, hk2, hk3⟩ := HK.out k hlt
            have HI := Lib.hid hk3
            obtain ⟨b', o', hA, _, c0'⟩ := R4.out.each k hlt
            have c0 : w4.cell? ⟨b', o' + k, none⟩ = some (.int .i64 (L.getD k 0)) := c0'
            obtain ⟨y, hy⟩ : ∃ y, y = L.getD k 0 := ⟨_, rfl⟩
            rw [← hy] at hk1 hk2 c0 HI
            have O := Lib.hid ((HO1.out.below (grown_below G4.out)))
            have hz4 : w.heap.size ≤ w4.heap.size := G4.out.size
            have HY := Lib.hid hy
            clear c0' hk3
            by_cases hk0 : k = 0
            · subst hk0
              subst hA
              rw [Nat.add_zero] at c0
              clear hy
              go_wp2_with fail
              have hd1 : decide (y < 0) = false := decide_eq_false (by omega)
              have hd2 : decide (n ≤ y) = false := decide_eq_false (by omega)
              have hd3 : decide ((0 : Int) < 0) = false := by decide
              go_quiet (first | (go_at_call 27; refine quiet_draw2 (in_yes A1 c c1 X1 _ y _ (O.out.drewN _) HI.out)))
              go_wp2_with fail
              go_roundw
              case rel => first | exact ⟨0 + 1, by omega, by go_num, _, rfl⟩ | exact ⟨0 + 1, by omega, by go_num, _, World.drewN_drewN ..⟩
              case measure => first | (simp [intOf]; done) | (simp [intOf]; omega)
            · obtain ⟨j, hj'⟩ : ∃ j, k = j + 1 := ⟨k - 1, by omega⟩
              have hu := HU.out j (by omega)
              obtain ⟨b'', o'', hA', _, c1'⟩ := R4.out.each j (by omega)
              rw [hA] at hA'
              obtain ⟨rfl, rfl⟩ := same_addr hA'
              subst hA
              have c1x : w4.cell? ⟨b', o' + j, none⟩ = some (.int .i64 (L.getD j 0)) := c1'
              obtain ⟨z, hz⟩ : ∃ z, z = L.getD j 0 := ⟨_, rfl⟩
              rw [← hj'] at hu
              rw [← hz] at hu c1x
              rw [← hy] at hu
              clear hy
              have hj0 : (0 : Int) ≤ (k : Int) - 1 := by omega
              have hj1 : (k : Int) - 1 < (L.length : Int) := by omega
              have hj2 : ((k : Int) - 1).toNat = j := by omega
              have hyz : z < y := hu
              have hkp : 0 < k := by omega
              clear hj' hz c1' hA'
              go_wp2_with fail
              have hd1 : decide (y < 0) = false := decide_eq_false (by omega)
              have hd2 : decide (n ≤ y) = false := decide_eq_false (by omega)
              have hd3 : decide ((0 : Int) < (k : Int)) = true := decide_eq_true (by omega)
              have hd4 : decide (y ≤ z) = false := decide_eq_false (by omega)
              go_quiet (first | (go_at_call 27; refine quiet_draw2 (in_yes A1 c c1 X1 _ y _ (O.out.drewN _) HI.out)))
              go_wp2_with fail
              go_roundw
              case rel => first | exact ⟨k + 1, by omega, by go_num, _, rfl⟩ | exact ⟨k + 1, by omega, by go_num, _, World.drewN_drewN ..⟩
              case measure => first | (simp [intOf]; done) | (simp [intOf]; omega)
          · have hkl : L.length = k := by omega
            go_wp2_with fail
            refine (same_any b1 _ _ b2 _ _ _ (S4.out.drewN _) (T4.out.drewN _)).mono ?_
            rintro e w6 ⟨⟨r1, rfl, hr1⟩, hg6⟩
            obtain rfl : r1 = true := hr1.2 rfl
            have S6 := Lib.hid ((S4.out.drewN _).grown hg6 (by simp))
            have T6 := Lib.hid ((T4.out.drewN _).grown hg6 (by simp))
            have G6 := Lib.hid (grown_none (grown_drewN G4.out _) hg6)
            clear hr1 hg6
            go_wp2_with fail
            refine (same_any b2 _ _ b1 _ _ _ T6.out S6.out).mono ?_
            rintro e w7 ⟨⟨r2, rfl, hr2⟩, hg7⟩
            obtain rfl : r2 = true := hr2.2 rfl
            have S7 := Lib.hid (S6.out.grown hg7 (by simp))
            have G7 := Lib.hid (grown_none G6.out hg7)
            clear hr2 hg7
            go_wp2_with fail
            refine (len_any b1 _ _ _ S7.out).mono ?_
            rw [← HN.out]
            rintro e w8 ⟨rfl, rfl⟩
            go_wp2_with fail
            go_ret
            exact ⟨rfl, grown_below G7.out⟩
      | succ r =>
        have hpos : ((r + 1 : Nat) : Int) - 1 = (r : Int) := by omega
        rw [hpos]
        obtain ⟨b, o, rfl, hbo, c0⟩ := (HO1.out.below (grown_below HG.out)).each r (by omega)
        have hr1 : (r : Int) < (l1 : Int) := by omega
        have hr0 : (0 : Int) ≤ (r : Int) := by omega
        have hr2 : ((r : Int)).toNat = r := by omega
        go_wp2_with fail
        go_region_law (refine step_append_own2 rfl _ _ 22 rfl w.heap.size 3 i0 (.int .i64 0) 1 8 Tryd.underlying22 hi hz0 hz1 hz2 rfl (by decide) _ _ _ rfl (HW.out.drew.alloc _) ⟨wr.heap.size, 0, none⟩ 2 2 [.int .i64 (X1 r), .int .i64 (X1 r)] rfl rfl (cell_two_new _ _ _ _) (by simp [Value.oneCell']) (by unfold maxLen; omega) (by omega) (by simp; omega) ?_; intro v' w5 hown5 hg5 hn5)
        all_goals
          have HW5 := Lib.hid hown5
          have HG5 := Lib.hid (grown_row (grown_alloc (grown_drew HG.out) _) hg5 (fun k hk => (HW.out.lt k hk).1))
          clear hown5 hg5 hn5
          go_wp2_with fail
          go_roundw
          case rel =>
            refine ⟨r, c + 1, by omega, by go_num, ?_, HG5.out⟩
            have h5 := HW5.out
            rw [show vals (back X1 l1 (c + 1)) = vals (back X1 l1 c) ++ [.int .i64 (X1 r), .int .i64 (X1 r)] by
              rw [back, show l1 - 1 - c = r by omega]; simp [vals]]
            exact h5
          case measure => first | (simp [intOf]; done) | (simp [intOf]; omega)

end Go.Proofs.YtnlpibikonenmaaDoor
