/-
  The walk over tronagelaw04.MailboxMoves.
-/
import Derived.Test.YtdgjfpdfjnkmaaaMb3
import Derived.Test.YtdgjfpdfjnkmaaaIrow
import Derived.Deep.RegionHeld3
import Derived.Deep.DrawnRows
import Derived.IntWalk
namespace Go.Proofs.Ytdgjfpdfjnkmaaa
open Go.RowKit
set_option linter.unusedVariables false

attribute [local go_sem ↓] Go.wp_at_zero Go.wp_at_succ

theorem step_append_own3 {P : Program} {ops : Array Oper} {o : Oper} {a : Act} {w : World} {K : Act → World → Prop} {Q : Exit → Act → World → Prop} {E : Prop}
    (hw : Region.wanted o (yielded ops a.tmps) = true) (s x : Operand) (t : TypeId) (hop : o.op = Op.call { callee := Callee.builtin Builtin.append, args := #[s, x], argTypes := #[t, t] })
    (base : Nat) (e : TypeId) (i : TypeInfo) (z : Value) (size bytes : Nat) (h1 : P.underlying t = some (.slice e)) (h2 : P.info? e = some i) (h3 : i.zero = some z) (h4 : i.size = size) (h5 : i.bytes = bytes) (h6 : z.cells.size = size) (h7 : 0 < size)
    (v : Value) (n : Nat) (xs : List Value) (hs : a.eval s = v) (hown : w.ownsRow base e size v n xs)
    (A : Option Addr) (m c : Nat) (news : List Value) (hx : a.eval x = .slice A m c) (hn : news.length = m * size) (hc : Lies w A news) (h1c : ∀ u ∈ news, u.oneCell' = true)
    (b1 : n + m ≤ maxLen) (b2 : (n + m) * bytes ≤ 140737488355328) (b3 : base ≤ w.heap.size)
    (hK : ∀ v' w', w'.ownsRow base e size v' (n + m) (xs ++ news) → w.grownBy w' v.ownBlock → SameOrNew w v v' → K (a.put o.dst v') w') :
    if Region.wanted o (yielded ops a.tmps) = true then Oper.wp P o a w K Q else E := by
  rw [if_pos hw]
  obtain ⟨v', w', hr, r1, r2, r3⟩ := run_append_own3 (P := P) w base t o.type e i z size bytes h1 h2 h3 h4 h5 h6 h7 v n xs hown A m c news hn hc h1c b1 b2 b3
  unfold Oper.wp
  simp [execOp, hop, resolve, invoke, builtin, hs, hx, hr, Result.andThen]
  exact hK _ _ r1 r2 r3

/-- Two boxes of the law's own, and all that the law changes. -/
structure Two (w0 : World) (g q R g' q' R' : Nat) (w : World) (L M : List Int) : Prop where
  one : BxI w g q R L
  two : BxI w g' q' R' M
  bel : Below w0.heap.size w0 w
  low : w0.heap.size ≤ q
  low' : w0.heap.size ≤ q'
  ne : q ≠ q'
  small : Small L
  small' : Small M

section
variable {w0 w w' : World} {g q R g' q' R' : Nat} {L M L' M' : List Int}
theorem Two.gq' (h : Two w0 g q R g' q' R' w L M) : g ≠ q' := h.two.ch.ne h.one.at_
theorem Two.g'q (h : Two w0 g q R g' q' R' w L M) : g' ≠ q := h.one.ch.ne h.two.at_
theorem Two.at1 (h : Two w0 g q R g' q' R' w L M) (hb : BxI w' g q R L') (hk : Keeps [q] w w') (hs : Small L') : Two w0 g q R g' q' R' w' L' M :=
  ⟨hb, h.two.keeps hk (by simpa using h.g'q) (by simpa using fun e => h.ne e.symm), below_keeps h.bel hk (by simpa using h.low) h.bel.size, h.low, h.low', h.ne, hs, h.small'⟩
theorem Two.at2 (h : Two w0 g q R g' q' R' w L M) (hb : BxI w' g' q' R' M') (hk : Keeps [q'] w w') (hs : Small M') : Two w0 g q R g' q' R' w' L M' :=
  ⟨h.one.keeps hk (by simpa using h.gq') (by simpa using h.ne), hb, below_keeps h.bel hk (by simpa using h.low') h.bel.size, h.low, h.low', h.ne, h.small, hs⟩
theorem Two.both (h : Two w0 g q R g' q' R' w L M) (hb : BxI w' g q R L') (hb' : BxI w' g' q' R' M') (hk : Keeps [q, q'] w w') (hs : Small L') (hs' : Small M') : Two w0 g q R g' q' R' w' L' M' :=
  ⟨hb, hb', below_keeps h.bel hk (by simp; exact ⟨h.low, h.low'⟩) h.bel.size, h.low, h.low', h.ne, hs, hs'⟩
/-- A row of ints stays where only channels change. -/
theorem Two.iat (h : Two w0 g q R g' q' R' w L M) {A : Option Addr} {l : List Int} {S : List Nat} (hi : IAt w A l) (hk : Keeps S w w') (hS : ∀ b ∈ S, b = q ∨ b = q') : IAt w' A l :=
  hi.keeps hk (fun b hb cs hat => by
    rcases hS b hb with rfl | rfl
    · exact h.one.ch.ne hat rfl
    · exact h.two.ch.ne hat rfl)
end
theorem Bx.heap {X : Type} {V : X → Value} {tb : TypeId} {w W : World} {g q n : Nat} {L : List X} (h : Bx V tb w g q n L) (e : W.heap = w.heap) : Bx V tb W g q n L :=
  ⟨by have := h.at_; unfold At at *; rw [e]; exact this, by obtain ⟨s, r, hc⟩ := h.ch; exact ⟨s, r, by rw [e]; exact hc⟩, h.le, h.lo, h.hi⟩

theorem two_start {w0 w w2 w3 : World} (hb : Below w0.heap.size w0 w) (a b : Int)
    (h : (w.alloc (.chan (rm a) #[] false 0 0 false)).alloc (.cells #[.int .i64 (rm a : Int), .chan (some w.heap.size)] 55) = w2)
    (h' : (w2.alloc (.chan (rm b) #[] false 0 0 false)).alloc (.cells #[.int .i64 (rm b : Int), .chan (some w2.heap.size)] 55) = w3) :
    Two w0 (w.heap.size + 1) w.heap.size (rm a) (w2.heap.size + 1) w2.heap.size (rm b) w3 [] [] := by
  obtain ⟨x1, x2, x3⟩ := bxI_new w w2 a h
  obtain ⟨y1, y2, y3⟩ := bxI_new w2 w3 b h'
  have hs := hb.size
  exact ⟨x1.keeps y2 (by simp) (by simp), y1, below_keeps (below_keeps hb x2 (by simp) hb.size) y2 (by simp) (by omega), hb.size, by omega, by omega, Small.nil, Small.nil⟩

theorem below_via {w w8 W w9 : World} {B : Nat} (h : Below B w w8) (e : W.heap = w8.heap) (e1 : W.os = w8.os) (e2 : W.tape = w8.tape) (e3 : W.output = w8.output) (k : Keeps [] W w9) (hB : B ≤ w8.heap.size) : Below B w w9 :=
  below_keeps ⟨e1.trans h.os, e2.trans h.tape, e3.trans h.output, by rw [e]; exact h.size, fun i hi => by rw [e]; exact h.block i hi⟩ k (by simp) (by rw [e]; exact hB)
theorem keeps_new {W w' : World} {o : Obj} (hg : (W.alloc o).grownBy w' (Value.slice (some ⟨W.heap.size, 0, none⟩) 0 0).ownBlock) : Keeps [] W w' :=
  ((Keeps.refl [] W).alloc o).grown hg (fun k hk => .inr (by simp [Value.ownBlock] at hk; omega))

set_option maxRecDepth 100000 in
set_option maxHeartbeats 16000000 in
theorem moves_any (a : Int) (ba : -9223372036854775808 ≤ a ∧ a ≤ 9223372036854775807) (b : Int) (bb : -9223372036854775808 ≤ b ∧ b ≤ 9223372036854775807) (A : Option Addr) (n c : Nat) (X : Nat → Int) (A' : Option Addr) (n' c' : Nat) (Y : Nat → Int) (w : World) (O : Nums w w.heap.size A n X) (O' : Nums w w.heap.size A' n' Y) :
    Calls Try.prog 6 #[.int .i64 a, .int .i64 b, .slice A n c, .slice A' n' c'] w fun e w' => e = .returned (.bool true) ∧ Below w.heap.size w w' := by
  obtain ⟨i0, hi, hz0, hz1, hz2⟩ := info_parts infoInts
  have HO := Lib.hid O
  have HO' := Lib.hid O'
  clear O O'
  go_enter Try.func6, Try.ntmps6
  go_wp2_with fail
  refine (awake_any _).mono ?_
  rintro e w1 ⟨rfl, hb1⟩
  have HB1 := Lib.hid hb1
  clear hb1
  go_wp2_with fail
  refine (newI_any a _).mono ?_
  rintro e w2 ⟨rfl, hw2⟩
  have HW2 := Lib.hid hw2
  clear hw2
  go_wp2_with fail
  refine (newI_any b _).mono ?_
  rintro e w3 ⟨rfl, hw3⟩
  have h := two_start HB1.out a b HW2.out hw3
  generalize rm a = R at h
  generalize rm b = R' at h
  have H2 := Lib.hid h
  clear h hw3 HW2
  by_cases h70 : (70 : Int) < (n : Int)
  · go_wp2_with fail
    go_ret
    exact ⟨rfl, H2.out.bel⟩
  by_cases h71 : (70 : Int) < (n' : Int)
  · go_wp2_with fail
    go_ret
    exact ⟨rfl, H2.out.bel⟩
  have hn : n ≤ 70 := by omega
  have hn' : n' ≤ 70 := by omega
  go_wp2_with fail
  go_loopw [12] (fun i wr => ∃ (k : Nat) (L : List Int), k ≤ n ∧ i = .int .i64 (k : Int) ∧ Two w (w1.heap.size + 1) w1.heap.size R (w2.heap.size + 1) w2.heap.size R' wr L []) (fun i _ => n - (intOf i).toNat)
  case atStart => exact ⟨0, [], by omega, rfl, H2.out⟩
  case round =>
    obtain ⟨k, L, hk, rfl, hP⟩ := hrel
    have P := Lib.hid hP
    clear hP
    by_cases hlt : k < n
    · obtain ⟨b', o, rfl, hbo, c0⟩ := (HO.out.below P.out.bel).each k hlt
      have rX := HO.out.rx k hlt
      by_cases hr : L.length < R
      · go_wp2_with fail
        refine (offerI_ok (X k) _ _ _ _ _ P.out.one hr).mono ?_
        rintro e w4 ⟨rfl, h3, k3⟩
        have Q := Lib.hid (P.out.at1 h3 k3 (P.out.small.append (Small.one rX)))
        clear h3 k3 c0
        go_wp2_with fail
        go_roundw
        case rel => exact ⟨k + 1, _, by omega, by go_num, Q.out⟩
        case measure => simp [intOf]; omega
      · go_wp2_with fail
        refine (offerI_no (X k) _ _ _ _ _ P.out.one (by omega)).mono ?_
        rintro e w4 ⟨rfl, rfl⟩
        go_wp2_with fail
        go_roundw
        case rel => exact ⟨k + 1, _, by omega, by go_num, P.out⟩
        case measure => simp [intOf]; omega
    · go_wp2_with fail
      go_loopw [13] (fun i wr => ∃ (k : Nat) (M : List Int), k ≤ n' ∧ i = .int .i64 (k : Int) ∧ Two w (w1.heap.size + 1) w1.heap.size R (w2.heap.size + 1) w2.heap.size R' wr L M) (fun i _ => n' - (intOf i).toNat)
      case atStart => exact ⟨0, [], by omega, rfl, P.out⟩
      case round =>
        clear hlt hk
        obtain ⟨k, M, hk, rfl, hP⟩ := hrel
        clear P
        have P := Lib.hid hP
        clear hP
        by_cases hlt : k < n'
        · obtain ⟨b', o, rfl, hbo, c0⟩ := (HO'.out.below P.out.bel).each k hlt
          have rX := HO'.out.rx k hlt
          by_cases hr : M.length < R'
          · go_wp2_with fail
            refine (offerI_ok (Y k) _ _ _ _ _ P.out.two hr).mono ?_
            rintro e w4 ⟨rfl, h3, k3⟩
            have Q := Lib.hid (P.out.at2 h3 k3 (P.out.small'.append (Small.one rX)))
            clear h3 k3 c0
            go_wp2_with fail
            go_roundw
            case rel => exact ⟨k + 1, _, by omega, by go_num, Q.out⟩
            case measure => simp [intOf]; omega
          · go_wp2_with fail
            refine (offerI_no (Y k) _ _ _ _ _ P.out.two (by omega)).mono ?_
            rintro e w4 ⟨rfl, rfl⟩
            go_wp2_with fail
            go_roundw
            case rel => exact ⟨k + 1, _, by omega, by go_num, P.out⟩
            case measure => simp [intOf]; omega
        · go_wp2_with fail
          refine (allI_any _ _ _ _ _ P.out.one).mono ?_
          rintro e w4 ⟨v1, rfl, ho, hb, hk1⟩
          have P4 := Lib.hid (P.out.at1 hb hk1 P.out.small)
          obtain ⟨a1, c1, rfl, hc1, i1, _⟩ := IAt.own (l := L) ho P.out.small
          have I1 := Lib.hid i1
          clear ho hb hk1 i1
          go_wp2_with fail
          refine (allI_any _ _ _ _ _ P4.out.two).mono ?_
          rintro e w5 ⟨v2, rfl, ho, hb, hk1⟩
          have P5 := Lib.hid (P4.out.at2 hb hk1 P4.out.small')
          obtain ⟨a2, c2, rfl, hc2, i2, _⟩ := IAt.own (l := M) ho P4.out.small'
          have I2 := Lib.hid i2
          have I15 := Lib.hid (P4.out.iat I1.out hk1 (by simp))
          clear ho hb hk1 i2 I1
          go_wp2_with fail
          refine (move_any _ _ _ _ _ _ _ _ _ P5.out.one P5.out.two P5.out.ne).mono ?_
          obtain ⟨kn, hkn⟩ : ∃ kn, kn = movesN L M R' := ⟨_, rfl⟩
          rw [← hkn]
          have hl64 := P5.out.one.len
          have hm64 := P5.out.two.le
          have hr64 := P5.out.two.hi
          have hcase : (((L.length : Int) ≤ (R' : Int) - (M.length : Int)) ∧ kn = L.length) ∨ (¬ ((L.length : Int) ≤ (R' : Int) - (M.length : Int)) ∧ ((kn : Int) == (R' : Int) - (M.length : Int)) = true ∧ kn < L.length) := by
            unfold movesN at hkn
            by_cases h : (L.length : Int) ≤ (R' : Int) - (M.length : Int)
            · exact .inl ⟨h, by omega⟩
            · exact .inr ⟨h, by simp; omega, by omega⟩
          have hkL : kn ≤ L.length := by omega
          have hkM : M.length + kn ≤ R' := by unfold movesN at hkn; omega
          have HKN := Lib.hid hkn
          have HCASE := Lib.hid hcase
          clear hkn hcase
          rintro e w6 ⟨rfl, h6, h6', k6⟩
          have P6 := Lib.hid (P5.out.both h6 h6' k6 (P5.out.small.drop kn) (P5.out.small'.append (P5.out.small.take kn)))
          have I16 := Lib.hid (P5.out.iat I15.out k6 (by simp))
          have I26 := Lib.hid (P5.out.iat I2.out k6 (by simp))
          clear h6 h6' k6 I15 I2
          go_wp2_with fail
          refine (allI_any _ _ _ _ _ P6.out.one).mono ?_
          rintro e w7 ⟨v3, rfl, ho, hb, hk1⟩
          have P7 := Lib.hid (P6.out.at1 hb hk1 P6.out.small)
          obtain ⟨a3, c3, rfl, hc3, i3, _⟩ := IAt.own (l := L.drop kn) ho P6.out.small
          have I3 := Lib.hid i3
          have I17 := Lib.hid (P6.out.iat I16.out hk1 (by simp))
          have I27 := Lib.hid (P6.out.iat I26.out hk1 (by simp))
          clear ho hb hk1 i3 I16 I26 hc3
          go_wp2_with fail
          refine (allI_any _ _ _ _ _ P7.out.two).mono ?_
          rintro e w8 ⟨v4, rfl, ho, hb, hk1⟩
          have P8 := Lib.hid (P7.out.at2 hb hk1 P7.out.small')
          obtain ⟨a4, c4, rfl, hc4, i4, _⟩ := IAt.own (l := M ++ L.take kn) ho P7.out.small'
          have I4 := Lib.hid i4
          have I18 := Lib.hid (P7.out.iat I17.out hk1 (by simp))
          have I28 := Lib.hid (P7.out.iat I27.out hk1 (by simp))
          have I38 := Lib.hid (P7.out.iat I3.out hk1 (by simp))
          have hs8 := P8.out.bel.size
          clear ho hb hk1 i4 I17 I27 I3 hc4
          go_wp2_with fail
          obtain ⟨a1', ha1'⟩ : ∃ a', a' = (if c1 = kn then a1 else a1.map (·.add kn)) := ⟨_, rfl⟩
          have hcut1 : ∀ W, (Instr.slice 34 (.slice a1 L.length c1) (some (.int .i64 (kn : Int))) none none).run Try.prog W = .ok (.slice a1' (L.length - kn) (c1 - kn)) W := fun W => by rw [ha1']; exact cut_lo a1 L.length kn c1 hkL W
          have hcut2 : ∀ W, (Instr.slice 34 (.slice a1 L.length c1) none (some (.int .i64 (kn : Int))) none).run Try.prog W = .ok (.slice a1 kn c1) W := fun W => cut_hi a1 L.length kn c1 (by omega) W
          have ICUT := Lib.hid (ha1' ▸ I18.out.cut kn hkL hc1 : IAt w8 a1' (L.drop kn))
          clear ha1'
          have hM70 : M.length ≤ 64 := by omega
          have hmin : (if IntKind.i64.wrap ((R' : Int) - (M.length : Int)) < (L.length : Int) then IntKind.i64.wrap ((R' : Int) - (M.length : Int)) else (L.length : Int)) = (kn : Int) := by
            rw [IntWalk.i64_in _ (by omega)]
            rcases HCASE.out with ⟨x1, x2⟩ | ⟨x1, x2, x3⟩
            · rw [if_neg (by omega), x2]
            · rw [if_pos (by omega)]; simp at x2; omega
          have tok1 : True := trivial
          go_region_held3 (fun w' => True) (trivial) (first
            | (go_at_call 20; refine Calls.mono (roomI_any _ _ _ _ _ (P8.out.two.heap (by rfl))) ?_; rintro e w' ⟨rfl, rfl⟩)
            | (go_at_call 15; have _t := tok1; refine Calls.mono (ints_same a3 a1' _ _ _ _ (L.drop kn) _ (I38.out.heap (by rfl)) (ICUT.out.heap (by rfl)) (by simp) (by simp)) ?_; rintro e w' ⟨rfl, k1, rfl⟩; clear tok1)
            | (refine step_append_own3 rfl _ _ 34 rfl _ 3 i0 (.int .i64 0) 1 8 Try.underlying34 hi hz0 hz1 hz2 rfl (by decide) _ 0 [] rfl (own_empty _ _ _ (Nat.le_refl _)) a2 M.length c2 (vals M) rfl (by rw [vals_length]; omega) ((I28.out.heap (by rfl)).alloc _).lies (vals_one M) (by unfold maxLen; omega) (by omega) (by simp) ?_
               intro v1 w9 hown1 hgrow1 hsn1
               have K9 := keeps_new hgrow1
               have J18 := (I18.out.heap (by rfl)).keeps K9 (by simp)
               have J48 := (I4.out.heap (by rfl)).keeps K9 (by simp))
            | (refine step_append_own3 rfl _ _ 34 rfl _ 3 i0 (.int .i64 0) 1 8 Try.underlying34 hi hz0 hz1 hz2 rfl (by decide) _ _ _ rfl hown1 a1 kn c1 (vals (L.take kn)) rfl (by rw [vals_length]; simp; omega) (J18.take kn).lies (vals_one _) (by unfold maxLen; omega) (by omega) (by have := K9.size; omega) ?_
               intro v3 w10 hown3 hgrow3 hsn3
               have K10 := K9.grown hgrow3 (fun k hk => .inr (hown1.lt k hk).1)
               have J410 := (I4.out.heap (by rfl)).keeps K10 (by simp)
               have HB10 := below_via P8.out.bel (by rfl) (by rfl) (by rfl) (by rfl) K10 hs8
               rw [show [] ++ vals M ++ vals (L.take kn) = vals (M ++ L.take kn) by simp [vals]] at hown3
               obtain ⟨b3, p3, he3, _, i3, _⟩ := IAt.own hown3 P8.out.small'
               subst he3)
            | (go_at_call 15; refine Calls.mono (ints_same a4 b3 _ _ _ _ (M ++ L.take kn) _ (J410.heap (by rfl)) (i3.heap (by rfl)) (by simp; omega) (by simp; omega)) ?_; rintro e w' ⟨rfl, k2, rfl⟩))
          go_wp2_with fail
          go_ret
          exact ⟨rfl, below_drewN HB10 _⟩

end Go.Proofs.Ytdgjfpdfjnkmaaa
