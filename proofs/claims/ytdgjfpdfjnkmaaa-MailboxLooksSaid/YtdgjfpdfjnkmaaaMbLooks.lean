/-
  The walk over tronagelaw04.MailboxLooks.
-/
import Derived.Test.YtdgjfpdfjnkmaaaMbAw
import Derived.Test.YtdgjfpdfjnkmaaaOps3
namespace Go.Proofs.Ytdgjfpdfjnkmaaa
open Go.RowKit
set_option linter.unusedVariables false

/-- A box of texts of the law's own, and all that the law changes. -/
structure LoneS (w0 : World) (g q R : Nat) (w : World) (L : List ByteArray) : Prop where
  box : BxS w g q R L
  bel : Below w0.heap.size w0 w
  low : w0.heap.size ≤ q
theorem LoneS.go {w0 w w' : World} {g q R : Nat} {L L' : List ByteArray} (h : LoneS w0 g q R w L) (hb : BxS w' g q R L') (hk : Keeps [q] w w') : LoneS w0 g q R w' L' :=
  ⟨hb, below_keeps h.bel hk (by simpa using h.low) h.bel.size, h.low⟩
theorem LoneS.start {w0 w w' : World} (hb : Below w0.heap.size w0 w) (a : Int)
    (h : (w.alloc (.chan (rm a) #[] false 0 0 false)).alloc (.cells #[.int .i64 (rm a : Int), .chan (some w.heap.size)] 58) = w') : LoneS w0 (w.heap.size + 1) w.heap.size (rm a) w' [] := by
  obtain ⟨h1, h2, h3⟩ := bxS_new w w' a _ rfl h
  exact ⟨h1, below_keeps hb h2 (by simp) hb.size, hb.size⟩

/-- A box, and a row of the same texts. -/
structure Pair (w0 : World) (g q R : Nat) (w : World) (ao : Option Addr) (cap : Nat) (L : List ByteArray) : Prop where
  lone : LoneS w0 g q R w L
  own : w.ownsRow w0.heap.size 9 1 (.slice ao L.length cap) L.length (L.map VS)
theorem Pair.offered {w0 w w' : World} {g q R cap : Nat} {ao : Option Addr} {L L' : List ByteArray} (h : Pair w0 g q R w ao cap L) (hb : BxS w' g q R L') (hk : Keeps [q] w w') :
    LoneS w0 g q R w' L' ∧ w'.ownsRow w0.heap.size 9 1 (.slice ao L.length cap) L.length (L.map VS) :=
  ⟨h.lone.go hb hk, own_keeps h.own hk (fun k hk hm => own_notchan h.own h.lone.box.ch (by simp at hm; rw [hk, hm]))⟩
theorem Pair.cell {w0 w : World} {g q R cap : Nat} {ao : Option Addr} {L : List ByteArray} (h : Pair w0 g q R w ao cap L) (hn : 0 < L.length) : ∃ b, ao = some ⟨b, 0, none⟩ ∧ b < w.heap.size ∧ ∀ j x, L[j]? = some x → w.cell? ⟨b, 0 + j, none⟩ = some (.string x) := by
  rcases own_shape h.own with ⟨_, h0, _⟩ | ⟨b, c, e, _, _, _, hlt⟩
  · omega
  · injection e with e
    subst e
    refine ⟨b, rfl, hlt, fun j x hj => ?_⟩
    have := h.own.cells (g := b) rfl j (.string x) (by simp [hj])
    rw [Go.WideShapes.add_plain] at this
    exact this

set_option maxRecDepth 100000 in
set_option maxHeartbeats 8000000 in
theorem looks_any (a : Int) (ba : -9223372036854775808 ≤ a ∧ a ≤ 9223372036854775807) (A : Option Addr) (n c : Nat) (S : Nat → ByteArray) (m : Int) (bm : -9223372036854775808 ≤ m ∧ m ≤ 9223372036854775807) (w : World) (O : Strs w w.heap.size A n S) :
    Calls Try.prog 7 #[.int .i64 a, .slice A n c, .int .i64 m] w fun e w' => e = .returned (.bool true) ∧ Below w.heap.size w w' := by
  obtain ⟨i0, hi, hz0, hz1, hz2⟩ := info_parts infoES
  have HO := Lib.hid O
  clear O
  go_enter Try.func7, Try.ntmps7
  go_wp2_with fail
  refine (awake_any _).mono ?_
  rintro e w1 ⟨rfl, hb1⟩
  have HB1 := Lib.hid hb1
  clear hb1
  go_wp2_with fail
  refine (newS_any a _).mono ?_
  rintro e w2 ⟨rfl, hw2⟩
  have h := LoneS.start HB1.out a hw2
  generalize rm a = R at h
  have H2 := Lib.hid h
  clear h hw2
  by_cases h70 : (70 : Int) < (n : Int)
  · go_wp2_with fail
    go_ret
    exact ⟨rfl, H2.out.bel⟩
  · have hn : n ≤ 70 := by omega
    by_cases h10 : (10 : Int) < m
    · go_wp2_with fail
      go_ret
      exact ⟨rfl, H2.out.bel⟩
    · have h10' : m ≤ 10 := by omega
      go_wp2_with fail
      go_loopw [9, 10] (fun l i wr => ∃ (k : Nat) (L : List ByteArray) (ao : Option Addr) (cap : Nat), k ≤ n ∧ i = .int .i64 (k : Int) ∧ l = .slice ao L.length cap ∧ Pair w (w1.heap.size + 1) w1.heap.size R wr ao cap L) (fun _ i _ => n - (intOf i).toNat)
      case atStart => exact ⟨0, [], none, 0, by omega, rfl, rfl, ⟨H2.out, World.ownsRow_nil _ _ _ _⟩⟩
      case round =>
        obtain ⟨k, L, ao, cap, hk, rfl, rfl, hP⟩ := hrel
        have P := Lib.hid hP
        have hl := hP.lone.box.len
        clear hP
        by_cases hlt : k < n
        · obtain ⟨b, o, rfl, hbo, c0⟩ := (HO.out.below P.out.lone.bel).ones.each k hlt
          by_cases hr : L.length < R
          · go_wp2_with fail
            refine (offerS_ok (S k) _ _ _ _ _ P.out.lone.box hr).mono ?_
            rintro e w3 ⟨rfl, h3, k3⟩
            obtain ⟨p3, o3⟩ := P.out.offered h3 k3
            have P3 := Lib.hid p3
            have O3 := Lib.hid o3
            have c3 := ((HO.out.below p3.bel).ones.each k hlt)
            obtain ⟨b', o', he, _, c0'⟩ := c3
            obtain ⟨rfl, rfl⟩ := same_addr he
            have hw3 := p3.bel.size
            clear h3 k3 p3 o3 he c0
            go_wp2_with (at_builtin; refine wpList_append_own2 _ rfl (.tmp 51) (.tmp 56) 45 rfl w.heap.size 9 i0 _ 1 16 Try.underlying45 hi hz0 hz1 hz2 rfl (by decide) _ L.length (L.map VS) rfl (O3.out.alloc _) ⟨w3.heap.size, 0, none⟩ 1 1 [VS (S k)] rfl rfl ?c1 ?c2 ?c3 ?c4 ?c5 ?_)
            case c1 =>
              intro j u hj
              match j, hj with
              | 0, hj => simp at hj; subst hj; simp [Addr.add]
            case c2 => intro u hu; simp at hu; subst hu; rfl
            case c3 => unfold maxLen; omega
            case c4 => omega
            case c5 => simp; omega
            intro v' w5 hown' hgrow hsn
            have nq : (Value.slice ao L.length cap).ownBlock ≠ some w1.heap.size := own_notchan O3.out P3.out.box.ch
            have ng : (Value.slice ao L.length cap).ownBlock ≠ some (w1.heap.size + 1) := own_apart O3.out P3.out.box.at_ (by decide)
            have kg := (Keeps.refl (Value.slice ao L.length cap).ownBlock.toList (w3.alloc (.cells #[VS (S k)] 9))).grown hgrow (fun j hj => .inl (by simp [hj]))
            have q5 : LoneS w (w1.heap.size + 1) w1.heap.size R w5 (L ++ [S k]) :=
              ⟨(P3.out.box.alloc _).keeps kg (by simpa using ng) (by simpa using nq), below_keeps (P3.out.bel.alloc P3.out.bel.size _) kg (fun j hj => (O3.out.lt j (by simpa using hj)).1) (by simp; omega), P3.out.low⟩
            obtain ⟨ao', cap', rfl⟩ : ∃ ao cap, v' = .slice ao (L.length + 1) cap := by
              rcases own_shape hown' with ⟨_, h0, _⟩ | ⟨g', cap, e, _⟩
              · omega
              · exact ⟨_, _, e⟩
            have R5 := Lib.hid (⟨q5, by simpa using hown'⟩ : Pair w (w1.heap.size + 1) w1.heap.size R w5 ao' cap' (L ++ [S k]))
            clear hown' hgrow hsn nq ng kg q5
            go_wp2_with fail
            go_roundw
            case rel => exact ⟨k + 1, L ++ [S k], ao', cap', by omega, by go_num, by simp, R5.out⟩
            case measure => simp [intOf]; omega
          · go_wp2_with fail
            refine (offerS_no (S k) _ _ _ _ _ P.out.lone.box (by omega)).mono ?_
            rintro e w3 ⟨rfl, rfl⟩
            go_wp2_with fail
            go_roundw
            case rel => exact ⟨k + 1, L, ao, cap, by omega, by go_num, rfl, P.out⟩
            case measure => simp [intOf]; omega
        · obtain rfl : n = k := by omega
          go_wp2_with fail
          go_loopw [12] (fun i wq => ∃ (j : Int), 0 ≤ j ∧ j ≤ 11 ∧ i = .int .i64 j ∧ Pair w (w1.heap.size + 1) w1.heap.size R wq ao cap L) (fun i _ => (m - intOf i).toNat)
          case atStart => exact ⟨0, by omega, by omega, rfl, P.out⟩
          case round =>
            obtain ⟨j, hj0, hj1, rfl, hP⟩ := hrel
            clear P
            have P := Lib.hid hP
            clear hP
            by_cases hlt2 : j < m
            · go_wp2_with fail
              refine (allS_any _ _ _ _ _ P.out.lone.box).mono ?_
              rintro e w3 ⟨v, rfl, ho, h3, k3⟩
              obtain ⟨p3, o3⟩ := P.out.offered h3 k3
              have P3 := Lib.hid (⟨p3, o3⟩ : Pair w (w1.heap.size + 1) w1.heap.size R w3 ao cap L)
              obtain ⟨ao', cap', rfl⟩ : ∃ ao cap, v = .slice ao L.length cap := by
                rcases own_shape ho with ⟨e, h0, _⟩ | ⟨g', cap, e, _⟩
                · exact ⟨none, 0, by rw [e, h0]⟩
                · exact ⟨_, _, e⟩
              clear ho h3 k3 p3 o3
              go_wp2_with fail
              refine (lenS_any _ _ _ _ _ P3.out.lone.box).mono ?_
              rintro e w4 ⟨rfl, rfl⟩
              go_wp2_with fail
              go_roundw
              case rel => exact ⟨j + 1, by omega, by omega, rfl, P3.out⟩
              case measure => simp [intOf]; omega
            · have HC := Lib.hid (fun (h : 0 < L.length) => P.out.cell h)
              go_wp2_with fail
              go_loopw [14] (fun i wq => ∃ j : Nat, j ≤ L.length ∧ i = .int .i64 (j : Int) ∧ LoneS w (w1.heap.size + 1) w1.heap.size R wq (L.drop j) ∧ wq.ownsRow w.heap.size 9 1 (.slice ao L.length cap) L.length (L.map VS)) (fun i _ => L.length - (intOf i).toNat)
              case atStart => exact ⟨0, by omega, rfl, by simpa using P.out.lone, P.out.own⟩
              case round =>
                clear hlt2 hj0 hj1 hlt HC
                obtain ⟨j, hj, rfl, hP, ho⟩ := hrel
                clear P
                have P := Lib.hid hP
                have OO := Lib.hid ho
                clear hP ho
                by_cases hlt3 : j < L.length
                · obtain ⟨x, hx, hx'⟩ := turnedS hlt3
                  have hxj : L[j]? = some x := by
                    have := congrArg (fun l => l[0]?) hx
                    simpa using this
                  have P' : LoneS w (w1.heap.size + 1) w1.heap.size R _ (x :: L.drop (j + 1)) := hx ▸ P.out
                  have PP := Lib.hid P'
                  have HXJ := Lib.hid hxj
                  clear P' hx hx' hxj
                  go_wp2_with fail
                  refine (pollS_ok x _ _ _ _ _ PP.out.box).mono ?_
                  rintro e w4 ⟨rfl, h4, k4⟩
                  have Q := Lib.hid (PP.out.go h4 k4)
                  have o4 := own_keeps OO.out k4 (fun k hk hm => own_notchan OO.out PP.out.box.ch (by simp at hm; rw [hk, hm]))
                  have O4 := Lib.hid o4
                  obtain ⟨b, rfl, hlb⟩ : ∃ b, ao = some ⟨b, 0, none⟩ ∧ b < w4.heap.size := by
                    rcases own_shape o4 with ⟨_, h0, _⟩ | ⟨b, c, e, _, _, _, hlt⟩
                    · omega
                    · injection e with e
                      exact ⟨b, e, hlt⟩
                  have cj := o4.cells (g := b) rfl j (.string x) (by simp [HXJ.out])
                  rw [Go.WideShapes.add_plain] at cj
                  simp only [Nat.zero_add] at cj
                  clear h4 k4 o4
                  go_wp2_with fail
                  go_roundw
                  case rel => exact ⟨j + 1, by omega, by go_num, Q.out, O4.out⟩
                  case measure => simp [intOf]; omega
                · obtain rfl : L.length = j := by omega
                  have P' : LoneS w (w1.heap.size + 1) w1.heap.size R wr [] := by have := P.out; simpa using this
                  have PP := Lib.hid P'
                  clear P'
                  go_wp2_with fail
                  refine (pollS_no _ _ _ _ PP.out.box).mono ?_
                  rintro e w4 ⟨rfl, rfl⟩
                  go_wp2_with fail
                  go_ret
                  exact ⟨rfl, PP.out.bel⟩

end Go.Proofs.Ytdgjfpdfjnkmaaa
