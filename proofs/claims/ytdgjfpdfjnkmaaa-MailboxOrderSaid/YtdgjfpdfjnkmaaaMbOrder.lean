/-
  The walk over tronagelaw04.MailboxOrder.
-/
import Derived.Test.YtdgjfpdfjnkmaaaMbRoom
import Derived.Test.YtdgjfpdfjnkmaaaIrow
namespace Go.Proofs.Ytdgjfpdfjnkmaaa
open Go.RowKit
set_option linter.unusedVariables false

/-- Of two rows apart one is appended to: the other one stays, and they are apart still. -/
theorem apart_grow {w w5 : World} {B e size n1 n2 : Nat} {v1 v2 v1' : Value} {xs1 xs2 : List Value} (h2 : w.ownsRow B e size v2 n2 xs2)
    (hap : ∀ k, v1.ownBlock = some k → v2.ownBlock ≠ some k) (hg : w.grownBy w5 v1.ownBlock) (hs : SameOrNew w v1 v1') : w5.ownsRow B e size v2 n2 xs2 ∧ ∀ k, v1'.ownBlock = some k → v2.ownBlock ≠ some k := by
  refine ⟨own_keeps h2 (Keeps.of_grown hg) (fun k hk hm => hap k (by simpa using hm) hk), fun k hk hk2 => ?_⟩
  rcases hs k hk with h | h
  · exact hap k h hk2
  · have := (h2.lt k hk2).2; omega

abbrev IRow (w : World) (B : Nat) (a : Option Addr) (c n : Nat) (l : List Int) : Prop := w.ownsRow B 3 1 (.slice a n c) n (vals l)

theorem iat_of {w : World} {B c n : Nat} {a : Option Addr} {l : List Int} (h : IRow w B a c n l) (hs : Small l) : IAt w a l ∧ n = l.length := by
  obtain ⟨A, c', he, _, hI, hn⟩ := IAt.own h hs
  injection he with h1 h2 h3
  subst h1
  exact ⟨hI, hn⟩

/-- What came, what went, what waits. -/
structure Ord (w0 : World) (g q R : Nat) (w : World) (a1 : Option Addr) (c1 cn : Nat) (a2 : Option Addr) (c2 dn ln : Nat) (C D L : List Int) : Prop where
  lone : Lone w0 g q R w L
  ownC : IRow w w0.heap.size a1 c1 cn C
  ownD : IRow w w0.heap.size a2 c2 dn D
  apart : ∀ k, (Value.slice a1 cn c1).ownBlock = some k → (Value.slice a2 dn c2).ownBlock ≠ some k
  eq : C = D ++ L
  small : Small C
  ln_ : L.length = ln

section
variable {w0 w : World} {g q R c1 cn c2 dn ln : Nat} {a1 a2 : Option Addr} {C D L : List Int}
theorem Ord.cn_ (h : Ord w0 g q R w a1 c1 cn a2 c2 dn ln C D L) : C.length = cn := by have := h.ownC.1; simpa [vals_length] using this
theorem Ord.dn_ (h : Ord w0 g q R w a1 c1 cn a2 c2 dn ln C D L) : D.length = dn := by have := h.ownD.1; simpa [vals_length] using this
theorem Ord.sum (h : Ord w0 g q R w a1 c1 cn a2 c2 dn ln C D L) : cn = dn + ln := by
  rw [← h.cn_, ← h.dn_, ← h.ln_, h.eq, List.length_append]
theorem Ord.le (h : Ord w0 g q R w a1 c1 cn a2 c2 dn ln C D L) : ln ≤ R ∧ R ≤ 64 ∧ 1 ≤ R := by rw [← h.ln_]; exact ⟨h.lone.box.le, h.lone.box.hi, h.lone.box.lo⟩
theorem Ord.len (h : Ord w0 g q R w a1 c1 cn a2 c2 dn ln C D L) :
    Calls Try.prog 19 #[.pointer (some ⟨g, 0, none⟩)] w fun e w' => e = .returned (.int .i64 (ln : Int)) ∧ w = w' := by
  rw [← h.ln_]; exact lenI_any _ _ _ _ _ h.lone.box

/-- Both rows, after a call at the box. -/
theorem Ord.rows {w3 : World} {L' : List Int} (h : Ord w0 g q R w a1 c1 cn a2 c2 dn ln C D L) (hb : BxI w3 g q R L') (hk : Keeps [q] w w3) :
    Lone w0 g q R w3 L' ∧ IRow w3 w0.heap.size a1 c1 cn C ∧ IRow w3 w0.heap.size a2 c2 dn D :=
  ⟨h.lone.go hb hk, own_keeps h.ownC hk (fun k hk hm => own_notchan h.ownC h.lone.box.ch (by simp at hm; rw [hk, hm])), own_keeps h.ownD hk (fun k hk hm => own_notchan h.ownD h.lone.box.ch (by simp at hm; rw [hk, hm]))⟩

theorem lone_grow {w3 w5 : World} {v : Value} {n : Nat} {xs : List Value} {L' : List Int} (h : Lone w0 g q R w3 L') (ho : w3.ownsRow w0.heap.size 3 1 v n xs) (hg : w3.grownBy w5 v.ownBlock) : Lone w0 g q R w5 L' := by
  have nq : v.ownBlock ≠ some q := own_notchan ho h.box.ch
  have ng : v.ownBlock ≠ some g := own_apart ho h.box.at_ (by decide)
  exact ⟨h.box.keeps (Keeps.of_grown hg) (by simpa using ng) (by simpa using nq), below_keeps h.bel (Keeps.of_grown hg) (fun j hj => (ho.lt j (by simpa using hj)).1) h.bel.size, h.low⟩
theorem Lone.alloc {w3 : World} {L' : List Int} (h : Lone w0 g q R w3 L') (o : Obj) : Lone w0 g q R (w3.alloc o) L' := ⟨h.box.alloc o, h.bel.alloc h.bel.size o, h.low⟩
theorem Lone.drewN {w3 : World} {L' : List Int} (h : Lone w0 g q R w3 L') (k : Nat) : Lone w0 g q R (w3.drewN k) L' := ⟨h.box.drewN k, below_drewN h.bel k, h.low⟩

theorem Ord.came {w3 w5 : World} {x : Int} {o : Obj} {v' : Value} (h : Ord w0 g q R w a1 c1 cn a2 c2 dn ln C D L) (hx : -9223372036854775808 ≤ x ∧ x ≤ 9223372036854775807) (hl : Lone w0 g q R w3 (L ++ [x])) (hC : IRow w3 w0.heap.size a1 c1 cn C) (hD : IRow w3 w0.heap.size a2 c2 dn D)
    (ho : w5.ownsRow w0.heap.size 3 1 v' (cn + 1) (vals C ++ [.int .i64 x])) (hg : (w3.alloc o).grownBy w5 (Value.slice a1 cn c1).ownBlock) (hs : SameOrNew (w3.alloc o) (Value.slice a1 cn c1) v') :
    ∃ a1' c1' m, v' = .slice a1' m c1' ∧ m = cn + 1 ∧ Ord w0 g q R w5 a1' c1' m a2 c2 dn (ln + 1) (C ++ [x]) D (L ++ [x]) := by
  obtain ⟨hD5, hap5⟩ := apart_grow (n1 := cn) (xs1 := vals C) (hD.alloc o) h.apart hg hs
  have hL5 := lone_grow (hl.alloc o) (hC.alloc o) hg
  obtain ⟨ao, cap, rfl⟩ : ∃ ao cap, v' = .slice ao (cn + 1) cap := by
    rcases own_shape ho with ⟨_, h0, _⟩ | ⟨g', cap, e, _⟩
    · omega
    · exact ⟨_, _, e⟩
  exact ⟨ao, cap, _, rfl, rfl, ⟨hL5, by rw [IRow, vals_snoc]; exact ho, hD5, hap5, by rw [h.eq, List.append_assoc], h.small.append (Small.one hx), by simp [h.ln_]⟩⟩

theorem Ord.went {w3 w5 : World} {x : Int} {o : Obj} {v' : Value} (h : Ord w0 g q R w a1 c1 cn a2 c2 dn (ln + 1) C D (x :: L)) (hl : Lone w0 g q R w3 L) (hC : IRow w3 w0.heap.size a1 c1 cn C) (hD : IRow w3 w0.heap.size a2 c2 dn D)
    (ho : w5.ownsRow w0.heap.size 3 1 v' (dn + 1) (vals D ++ [.int .i64 x])) (hg : (w3.alloc o).grownBy w5 (Value.slice a2 dn c2).ownBlock) (hs : SameOrNew (w3.alloc o) (Value.slice a2 dn c2) v') :
    ∃ a2' c2' m, v' = .slice a2' m c2' ∧ m = dn + 1 ∧ Ord w0 g q R w5 a1 c1 cn a2' c2' m ln C (D ++ [x]) L := by
  obtain ⟨hC5, hap5⟩ := apart_grow (n1 := dn) (xs1 := vals D) (hC.alloc o) (fun k h1 h2 => h.apart k h2 h1) hg hs
  have hL5 := lone_grow (hl.alloc o) (hD.alloc o) hg
  obtain ⟨ao, cap, rfl⟩ : ∃ ao cap, v' = .slice ao (dn + 1) cap := by
    rcases own_shape ho with ⟨_, h0, _⟩ | ⟨g', cap, e, _⟩
    · omega
    · exact ⟨_, _, e⟩
  exact ⟨ao, cap, _, rfl, rfl, ⟨hL5, hC5, by rw [IRow, vals_snoc]; exact ho, fun k h1 h2 => hap5 k h2 h1, by rw [h.eq]; simp, h.small, by have := h.ln_; simpa using this⟩⟩
end

set_option maxRecDepth 100000 in
set_option maxHeartbeats 16000000 in
theorem order_any (a : Int) (ba : -9223372036854775808 ≤ a ∧ a ≤ 9223372036854775807) (A : Option Addr) (n c : Nat) (X Y : Nat → Int) (w : World) (O : Ops w w.heap.size A n X Y) :
    Calls Try.prog 4 #[.int .i64 a, .slice A n c] w fun e w' => e = .returned (.bool true) ∧ Below w.heap.size w w' := by
  obtain ⟨i0, hi, hz0, hz1, hz2⟩ := info_parts infoInts
  have HO := Lib.hid O
  clear O
  go_enter Try.func4, Try.ntmps4
  go_wp2_with fail
  refine (awake_any _).mono ?_
  rintro e w1 ⟨rfl, hb1⟩
  have HB1 := Lib.hid hb1
  clear hb1
  go_wp2_with fail
  refine (newI_any a _).mono ?_
  rintro e w2 ⟨rfl, hw2⟩
  have h := Lone.start HB1.out a hw2
  generalize rm a = R at h
  have H2 := Lib.hid h
  clear h hw2
  by_cases h200 : (200 : Int) < (n : Int)
  · go_wp2_with fail
    go_ret
    exact ⟨rfl, H2.out.bel⟩
  · have hn : n ≤ 200 := by omega
    go_wp2_with fail
    go_loopw [7, 8, 9] (fun l d i wr => ∃ (k : Nat) (a1 : Option Addr) (c1 cn : Nat) (a2 : Option Addr) (c2 dn ln : Nat) (C D L : List Int), k ≤ n ∧ cn ≤ k ∧ i = .int .i64 (k : Int) ∧ l = .slice a1 cn c1 ∧ d = .slice a2 dn c2 ∧
      Ord w (w1.heap.size + 1) w1.heap.size R wr a1 c1 cn a2 c2 dn ln C D L) (fun _ _ i _ => n - (intOf i).toNat)
    case atStart => exact ⟨0, none, 0, 0, none, 0, 0, 0, [], [], [], by omega, by omega, rfl, rfl, rfl, ⟨H2.out, World.ownsRow_nil _ _ _ _, World.ownsRow_nil _ _ _ _, fun k hk => by simp [Value.ownBlock] at hk, rfl, Small.nil, rfl⟩⟩
    case round =>
      obtain ⟨k, a1, c1, cn, a2, c2, dn, ln, C, D, L, hk, hcn, rfl, rfl, rfl, hP⟩ := hrel
      have P := Lib.hid hP
      have hle := hP.le
      have hsz := hP.lone.bel.size
      have hsum := Lib.hid hP.sum
      have hll := Lib.hid hP.ln_
      clear hP
      by_cases hlt : k < n
      · obtain ⟨b, o, rfl, hbo, c0, c1'⟩ := (HO.out.below P.out.lone.bel).each k hlt
        have rY := HO.out.ry k hlt
        cases x1 : (X k == 1)
        · cases x2 : (X k == 2)
          · have hsub : (cn : Int) - (dn : Int) = (ln : Int) := by have := hsum.out; omega
            have hle1 : ln ≤ R := hle.1
            go_wp2_with fail
            refine P.out.len.mono ?_
            rintro e w3 ⟨rfl, rfl⟩
            go_wp2_with fail
            refine P.out.len.mono ?_
            rintro e w3 ⟨rfl, rfl⟩
            go_wp2_with fail
            refine (roomI_any _ _ _ _ _ P.out.lone.box).mono ?_
            rintro e w3 ⟨rfl, rfl⟩
            go_wp2_with fail
            clear hsub
            go_roundw
            case rel => exact ⟨k + 1, a1, c1, cn, a2, c2, dn, ln, C, D, L, by omega, by omega, by go_num, rfl, rfl, P.out⟩
            case measure => simp [intOf]; omega
          · have x2' : X k = 2 := by simpa using x2
            rw [x2'] at c0 x1 x2
            clear x1 x2
            cases L with
            | nil =>
              have hcd : cn = dn := by have h1 := hsum.out; have h2 := hll.out; simp at h2; omega
              have hl0 : ln = 0 := by have h2 := hll.out; simp at h2; omega
              subst hcd hl0
              go_wp2_with fail
              refine (pollI_no _ _ _ _ P.out.lone.box).mono ?_
              rintro e w3 ⟨rfl, rfl⟩
              go_wp2_with fail
              refine P.out.len.mono ?_
              rintro e w3 ⟨rfl, rfl⟩
              go_wp2_with fail
              refine P.out.len.mono ?_
              rintro e w3 ⟨rfl, rfl⟩
              go_wp2_with fail
              refine (roomI_any _ _ _ _ _ P.out.lone.box).mono ?_
              rintro e w3 ⟨rfl, rfl⟩
              go_wp2_with fail
              go_roundw
              case rel => exact ⟨k + 1, a1, c1, cn, a2, c2, cn, 0, C, D, [], by omega, by omega, by go_num, rfl, rfl, P.out⟩
              case measure => simp [intOf]; omega
            | cons x L =>
              obtain ⟨l', rfl⟩ : ∃ l', ln = l' + 1 := ⟨L.length, by have := hll.out; simp at this; omega⟩
              go_wp2_with fail
              refine (pollI_ok x _ _ _ _ _ P.out.lone.box).mono ?_
              rintro e w3 ⟨rfl, h3, k3⟩
              obtain ⟨p3, oC, oD⟩ := P.out.rows h3 k3
              have P3 := Lib.hid p3
              have OC := Lib.hid oC
              have OD := Lib.hid oD
              have hs3 := p3.bel.size
              have hd63 : dn ≤ 200 := by have := hsum.out; omega
              clear h3 k3 p3 oC oD
              go_wp2_with (at_builtin; refine wpList_append_own2 _ rfl (.tmp 78) (.tmp 80) 34 rfl w.heap.size 3 i0 _ 1 8 Try.underlying34 hi hz0 hz1 hz2 rfl (by decide) _ dn (vals D) rfl (OD.out.alloc _) ⟨w3.heap.size, 0, none⟩ 1 1 [VI x] rfl rfl ?c1 ?c2 ?c3 ?c4 ?c5 ?_)
              case c1 =>
                intro j u hj
                match j, hj with
                | 0, hj => simp at hj; subst hj; simp [Addr.add]
              case c2 => intro u hu; simp at hu; subst hu; rfl
              case c3 => unfold maxLen; omega
              case c4 => omega
              case c5 => simp; omega
              intro v' w5 hown' hgrow hsn
              obtain ⟨a2', c2', m, rfl, hm, hQ⟩ := P.out.went P3.out OC.out OD.out hown' hgrow hsn
              have HM := Lib.hid hm
              have Q := Lib.hid hQ
              have hsub : (cn : Int) - (m : Int) = (l' : Int) := by have := hsum.out; omega
              have hle1 : l' ≤ R := by omega
              clear hown' hgrow hsn hm hQ
              go_wp2_with fail
              refine Q.out.len.mono ?_
              rintro e w6 ⟨rfl, rfl⟩
              go_wp2_with fail
              refine Q.out.len.mono ?_
              rintro e w6 ⟨rfl, rfl⟩
              go_wp2_with fail
              refine (roomI_any _ _ _ _ _ Q.out.lone.box).mono ?_
              rintro e w6 ⟨rfl, rfl⟩
              go_wp2_with fail
              clear hsub
              go_roundw
              case rel => exact ⟨k + 1, a1, c1, cn, a2', c2', m, l', C, _, L, by omega, by omega, by go_num, rfl, rfl, Q.out⟩
              case measure => simp [intOf]; omega
        · have x1' : X k = 1 := by simpa using x1
          rw [x1'] at c0 x1
          clear x1
          by_cases hr : ln < R
          · go_wp2_with fail
            refine (offerI_ok (Y k) _ _ _ _ _ P.out.lone.box (by have := hll.out; omega)).mono ?_
            rintro e w3 ⟨rfl, h3, k3⟩
            obtain ⟨p3, oC, oD⟩ := P.out.rows h3 k3
            have P3 := Lib.hid p3
            have OC := Lib.hid oC
            have OD := Lib.hid oD
            have hs3 := p3.bel.size
            obtain ⟨b', o', he, _, _, c3⟩ := ((HO.out.below p3.bel).each k hlt)
            obtain ⟨rfl, rfl⟩ := same_addr he
            clear h3 k3 p3 oC oD he c0 c1'
            go_wp2_with (at_builtin; refine wpList_append_own2 _ rfl (.tmp 49) (.tmp 55) 34 rfl w.heap.size 3 i0 _ 1 8 Try.underlying34 hi hz0 hz1 hz2 rfl (by decide) _ cn (vals C) rfl (OC.out.alloc _) ⟨w3.heap.size, 0, none⟩ 1 1 [VI (Y k)] rfl rfl ?c1 ?c2 ?c3 ?c4 ?c5 ?_)
            case c1 =>
              intro j u hj
              match j, hj with
              | 0, hj => simp at hj; subst hj; simp [Addr.add]
            case c2 => intro u hu; simp at hu; subst hu; rfl
            case c3 => unfold maxLen; omega
            case c4 => omega
            case c5 => simp; omega
            intro v' w5 hown' hgrow hsn
            obtain ⟨a1', c1', m, rfl, hm, hQ⟩ := P.out.came rY P3.out OC.out OD.out hown' hgrow hsn
            have HM := Lib.hid hm
            obtain ⟨l', hl'⟩ : ∃ l', l' = ln + 1 := ⟨_, rfl⟩
            rw [← hl'] at hQ
            have HL' := Lib.hid hl'
            have Q := Lib.hid hQ
            have hsub : (m : Int) - (dn : Int) = (l' : Int) := by have := hsum.out; omega
            have hle1 : l' ≤ R := by omega
            have hmk : m ≤ k + 1 := by omega
            clear hown' hgrow hsn hm hQ hl'
            go_wp2_with fail
            refine (roomI_any _ _ _ _ _ Q.out.lone.box).mono ?_
            rintro e w6 ⟨rfl, rfl⟩
            go_wp2_with fail
            refine Q.out.len.mono ?_
            rintro e w6 ⟨rfl, rfl⟩
            go_wp2_with fail
            refine Q.out.len.mono ?_
            rintro e w6 ⟨rfl, rfl⟩
            go_wp2_with fail
            refine (roomI_any _ _ _ _ _ Q.out.lone.box).mono ?_
            rintro e w6 ⟨rfl, rfl⟩
            go_wp2_with fail
            clear hsub
            go_roundw
            case rel => exact ⟨k + 1, a1', c1', m, a2, c2, dn, l', _, D, _, by omega, by omega, by go_num, rfl, rfl, Q.out⟩
            case measure => simp [intOf]; omega
          · have hsub : (cn : Int) - (dn : Int) = (ln : Int) := by have := hsum.out; omega
            have hle1 : ln ≤ R := hle.1
            go_wp2_with fail
            refine (offerI_no (Y k) _ _ _ _ _ P.out.lone.box (by have := hll.out; omega)).mono ?_
            rintro e w3 ⟨rfl, rfl⟩
            go_wp2_with fail
            refine (roomI_any _ _ _ _ _ P.out.lone.box).mono ?_
            rintro e w3 ⟨rfl, rfl⟩
            go_wp2_with fail
            refine P.out.len.mono ?_
            rintro e w3 ⟨rfl, rfl⟩
            go_wp2_with fail
            refine P.out.len.mono ?_
            rintro e w3 ⟨rfl, rfl⟩
            go_wp2_with fail
            refine (roomI_any _ _ _ _ _ P.out.lone.box).mono ?_
            rintro e w3 ⟨rfl, rfl⟩
            go_wp2_with fail
            clear hsub
            go_roundw
            case rel => exact ⟨k + 1, a1, c1, cn, a2, c2, dn, ln, C, D, L, by omega, by omega, by go_num, rfl, rfl, P.out⟩
            case measure => simp [intOf]; omega
      · obtain rfl : n = k := by omega
        have hsL : Small D ∧ Small L := by
          have h1 := P.out.small
          rw [P.out.eq] at h1
          exact ⟨fun x hx => h1 x (by simp [hx]), fun x hx => h1 x (by simp [hx])⟩
        obtain ⟨iD, hdn⟩ := iat_of P.out.ownD hsL.1
        have HD := Lib.hid iD
        have HDN := Lib.hid hdn
        have HSL := Lib.hid hsL
        have hl64 : L.length ≤ 64 := P.out.lone.box.len
        have hd200 : dn ≤ 200 := by have := hsum.out; omega
        clear iD hdn hsL
        go_wp2_with (at_builtin; refine wpList_append_own3g _ rfl (.tmp 109) (.tmp 110) 34 rfl w.heap.size 3 i0 _ 1 8 Try.underlying34 hi hz0 hz1 hz2 rfl (by decide) _ 0 [] rfl (own_empty _ _ _ hsz) a2 dn c2 (vals D) rfl ?c1 ?c2 (vals_one D) ?c3 ?c4 ?c5 ?_)
        case c1 => rw [vals_length, HDN.out]; omega
        case c2 => exact (HD.out.alloc _).lies
        case c3 => unfold maxLen; omega
        case c4 => omega
        case c5 => simp; omega
        intro v1 w5 hown1 hgrow1 hsn1
        have hL5 := lone_grow (P.out.lone.alloc _) (own_empty wr _ _ hsz) hgrow1
        have hC5 : IRow w5 w.heap.size a1 c1 cn C := own_keeps (P.out.ownC.alloc _) (Keeps.of_grown hgrow1) (fun j hj hm => by
          have h1 := (P.out.ownC.lt j hj).2
          simp [Value.ownBlock] at hm; omega)
        have hap : ∀ j, v1.ownBlock = some j → (Value.slice a1 cn c1).ownBlock ≠ some j := by
          intro j hj hj'
          have h1 := (P.out.ownC.lt j hj').2
          rcases hsn1 j hj with h2 | h2
          · simp [Value.ownBlock] at h2; omega
          · simp at h2; omega
        have L5 := Lib.hid hL5
        have C5 := Lib.hid hC5
        have O1 := Lib.hid hown1
        have AP := Lib.hid hap
        clear hown1 hgrow1 hsn1 hL5 hC5 hap
        obtain ⟨b1, p1, rfl⟩ : ∃ b1 p1, v1 = .slice b1 dn p1 := by
          rcases own_shape O1.out with ⟨e, h0, _⟩ | ⟨g', cap, e, _⟩
          · exact ⟨none, 0, by rw [e, h0]⟩
          · exact ⟨_, _, e⟩
        go_wp2_with fail
        refine (allI_any _ _ _ _ _ L5.out.box).mono ?_
        rintro e w6 ⟨v2, rfl, ho2, h6, k6⟩
        have hL6 := L5.out.go h6 k6
        have hC6 : IRow w6 w.heap.size a1 c1 cn C := own_keeps C5.out k6 (fun j hj hm => own_notchan C5.out L5.out.box.ch (by simp at hm; rw [hj, hm]))
        have hO6 := own_keeps O1.out k6 (fun j hj hm => own_notchan O1.out L5.out.box.ch (by simp at hm; rw [hj, hm]))
        obtain ⟨b2, p2, he2, _, i2, _⟩ := IAt.own (l := L) ho2 HSL.out.2
        subst he2
        have L6 := Lib.hid hL6
        have C6 := Lib.hid hC6
        have O6 := Lib.hid hO6
        have I2 := Lib.hid i2
        have hs6 := hL6.bel.size
        clear ho2 h6 k6 hL6 hC6 hO6 i2
        go_wp2_with (at_builtin; refine wpList_append_own3g _ rfl (.tmp 111) (.tmp 113) 34 rfl w.heap.size 3 i0 _ 1 8 Try.underlying34 hi hz0 hz1 hz2 rfl (by decide) _ dn (vals D) rfl O6.out b2 L.length p2 (vals L) rfl ?c1 ?c2 (vals_one L) ?c3 ?c4 ?c5 ?_)
        case c1 => rw [vals_length]; omega
        case c2 => exact I2.out.lies
        case c3 => unfold maxLen; omega
        case c4 => omega
        case c5 => exact hs6
        intro v3 w7 hown3 hgrow3 hsn3
        have hC7 := own_keeps C6.out (Keeps.of_grown hgrow3) (fun j hj hm => AP.out j (by simpa using hm) hj)
        have hL7 := lone_grow L6.out O6.out hgrow3
        have e3 : vals D ++ vals L = vals C := by rw [P.out.eq, vals_append]
        rw [e3] at hown3
        obtain ⟨b3, p3, he3, _, i3, hn3⟩ := IAt.own hown3 P.out.small
        subst he3
        obtain ⟨iC, hcC⟩ := iat_of hC7 P.out.small
        have I3 := Lib.hid (And.intro i3 (And.intro iC (And.intro hcC hL7)))
        clear hown3 hgrow3 hsn3 hC7 hL7 e3 i3 hn3 iC hcC
        go_wp2_with fail
        refine (ints_same _ _ _ _ _ _ C _ I3.out.2.1 I3.out.1 I3.out.2.2.1 rfl).mono ?_
        rintro e w8 ⟨rfl, j, rfl⟩
        go_wp2_with fail
        go_ret
        exact ⟨rfl, below_drewN I3.out.2.2.2.bel j⟩

end Go.Proofs.Ytdgjfpdfjnkmaaa
