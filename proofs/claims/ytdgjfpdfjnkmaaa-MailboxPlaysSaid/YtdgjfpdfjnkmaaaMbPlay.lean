/-
  Two boxes, and the document's two boxes: what each call does to all of them.
-/
import Derived.Test.YtdgjfpdfjnkmaaaMbRef2
namespace Go.Proofs.Ytdgjfpdfjnkmaaa
open Go.RowKit
set_option linter.unusedVariables false

/-- Two boxes, in which L and M wait; the document's two, in which P and Q wait. -/
structure Play (w0 : World) (g q R g' q' R' rg ro : Nat) (w : World) (L M P Q : List Int) : Prop where
  two : Two w0 g q R g' q' R' w L M
  r : RB w rg R P
  r' : RB w ro R' Q
  lowr : w0.heap.size ≤ rg
  lowr' : w0.heap.size ≤ ro
  ne : rg ≠ ro

section
variable {w0 w w' : World} {g q R g' q' R' rg ro : Nat} {L M P Q L' M' P' Q' : List Int}

theorem RB.notChan {q n n' : Nat} {l : List Int} {L : List Value} (h : RB w rg n l) (hc : Ch w q n' L) : rg ≠ q := by
  obtain ⟨cs, ha⟩ := h.at_
  exact hc.ne ha
theorem RB.notBox {n n' : Nat} {l L : List Int} (h : RB w rg n l) (hb : BxI w g q n' L) : g ≠ rg := by
  rintro rfl
  obtain ⟨cs, ha⟩ := h.at_
  exact absurd (hb.at_.type ha) (by decide)
theorem Play.at_box (h : Play w0 g q R g' q' R' rg ro w L M P Q) (hT : Two w0 g q R g' q' R' w' L' M') {S : List Nat} (hk : Keeps S w w') (hS : ∀ b ∈ S, b = q ∨ b = q') : Play w0 g q R g' q' R' rg ro w' L' M' P Q := by
  have hi : ∀ b ∈ S, ∀ cs, ¬ At w b 3 cs := fun b hb cs ha => by
    rcases hS b hb with rfl | rfl
    · exact h.two.one.ch.ne ha rfl
    · exact h.two.two.ch.ne ha rfl
  have h1 : ∀ {x n : Nat} {l : List Int}, RB w x n l → x ∉ S := fun {x n l} hx hm => by
    rcases hS x hm with rfl | rfl
    · exact hx.notChan h.two.one.ch rfl
    · exact hx.notChan h.two.two.ch rfl
  exact ⟨hT, h.r.keeps hk (h1 h.r) hi, h.r'.keeps hk (h1 h.r') hi, h.lowr, h.lowr', h.ne⟩
theorem Play.two_at (h : Play w0 g q R g' q' R' rg ro w L M P Q) {S : List Nat} (hk : Keeps S w w') (hS : ∀ b ∈ S, b = rg ∨ b = ro) : Two w0 g q R g' q' R' w' L M := by
  have hg : ∀ {g q R : Nat} {L : List Int}, BxI w g q R L → g ∉ S ∧ q ∉ S := fun {g q R L} hb => ⟨fun hm => by
      rcases hS _ hm with e | e
      · exact h.r.notBox hb e
      · exact h.r'.notBox hb e, fun hm => by
      rcases hS _ hm with e | e
      · exact h.r.notChan hb.ch e.symm
      · exact h.r'.notChan hb.ch e.symm⟩
  refine ⟨h.two.one.keeps hk (hg h.two.one).1 (hg h.two.one).2, h.two.two.keeps hk (hg h.two.two).1 (hg h.two.two).2, below_keeps h.two.bel hk (fun b hb => ?_) h.two.bel.size, h.two.low, h.two.low', h.two.ne, h.two.small, h.two.small'⟩
  rcases hS b hb with rfl | rfl
  · exact h.lowr
  · exact h.lowr'
theorem Play.at_r (h : Play w0 g q R g' q' R' rg ro w L M P Q) (hr : RB w' rg R P') (hk : Keeps [rg] w w') : Play w0 g q R g' q' R' rg ro w' L M P' Q :=
  ⟨h.two_at hk (by simp), hr, h.r'.keeps hk (by simpa using fun e => h.ne e.symm) h.r.notInt, h.lowr, h.lowr', h.ne⟩
theorem Play.at_r' (h : Play w0 g q R g' q' R' rg ro w L M P Q) (hr : RB w' ro R' Q') (hk : Keeps [ro] w w') : Play w0 g q R g' q' R' rg ro w' L M P Q' :=
  ⟨h.two_at hk (by simp), h.r.keeps hk (by simpa using h.ne) h.r'.notInt, hr, h.lowr, h.lowr', h.ne⟩
theorem Play.at_both (h : Play w0 g q R g' q' R' rg ro w L M P Q) (hr : RB w' rg R P') (hr' : RB w' ro R' Q') {S : List Nat} (hk : Keeps S w w') (hS : ∀ b ∈ S, b = rg ∨ b = ro) : Play w0 g q R g' q' R' rg ro w' L M P' Q' :=
  ⟨h.two_at hk hS, hr, hr', h.lowr, h.lowr', h.ne⟩
theorem Play.drewN (h : Play w0 g q R g' q' R' rg ro w L M P Q) (k : Nat) : Play w0 g q R g' q' R' rg ro (w.drewN k) L M P Q :=
  h.at_both (h.r.drewN k) (h.r'.drewN k) (S := []) ((Keeps.refl _ _).drewN k) (by simp)
theorem Play.drew (h : Play w0 g q R g' q' R' rg ro w L M P Q) : Play w0 g q R g' q' R' rg ro w.drew L M P Q := by
  have hk : Keeps [] w w.drew := (Keeps.refl _ _).drew
  exact h.at_both (h.r.keeps hk (by simp) (by simp)) (h.r'.keeps hk (by simp) (by simp)) hk (by simp)

/-- Rows that nobody writes stay. -/
def Stay (w w' : World) : Prop := ∀ (A : Option Addr) (l : List Int), IAt w A l → IAt w' A l

theorem Play.stay (h : Play w0 g q R g' q' R' rg ro w L M P Q) {S : List Nat} (hk : Keeps S w w') (hS : ∀ b ∈ S, b = q ∨ b = q') : Stay w w' := fun A l hi => h.two.iat hi hk hS

theorem pl_offer_ok (x : Int) (hx : -9223372036854775808 ≤ x ∧ x ≤ 9223372036854775807) (h : Play w0 g q R g' q' R' rg ro w L M P Q) (hr : L.length < R) :
    Calls Try.prog 11 #[.pointer (some ⟨g, 0, none⟩), .int .i64 x] w fun e w' => e = .returned (.bool true) ∧ Play w0 g q R g' q' R' rg ro w' (L ++ [x]) M P Q ∧ Keeps [q] w w' :=
  (offerI_ok x _ _ _ _ _ h.two.one hr).mono fun e w' ⟨he, hb, hk⟩ => ⟨he, h.at_box (h.two.at1 hb hk (h.two.small.append (Small.one hx))) hk (by simp), hk⟩
theorem pl_offer_no (x : Int) (h : Play w0 g q R g' q' R' rg ro w L M P Q) (hr : R ≤ L.length) :
    Calls Try.prog 11 #[.pointer (some ⟨g, 0, none⟩), .int .i64 x] w fun e w' => e = .returned (.bool false) ∧ w = w' :=
  offerI_no x _ _ _ _ _ h.two.one hr
theorem pl_roffer_ok (x : Int) (hx : -9223372036854775808 ≤ x ∧ x ≤ 9223372036854775807) (h : Play w0 g q R g' q' R' rg ro w L M P Q) (hr : P.length < R) :
    Calls Try.prog 12 #[.pointer (some ⟨rg, 0, none⟩), .int .i64 x] w fun e w' => e = .returned (.bool true) ∧ Play w0 g q R g' q' R' rg ro w' L M (P ++ [x]) Q :=
  (roffer_ok x _ _ _ _ h.r hx hr h.two.one.hi).mono fun e w' ⟨he, hb, hk⟩ => ⟨he, h.at_r hb hk⟩
theorem pl_roffer_no (x : Int) (h : Play w0 g q R g' q' R' rg ro w L M P Q) (hr : R ≤ P.length) :
    Calls Try.prog 12 #[.pointer (some ⟨rg, 0, none⟩), .int .i64 x] w fun e w' => e = .returned (.bool false) ∧ Play w0 g q R g' q' R' rg ro w' L M P Q :=
  (roffer_no x _ _ _ _ h.r hr).mono fun e w' ⟨he, k, hk⟩ => ⟨he, by subst hk; exact h.drewN k⟩
theorem pl_poll_ok {x : Int} (h : Play w0 g q R g' q' R' rg ro w (x :: L) M P Q) :
    Calls Try.prog 13 #[.pointer (some ⟨g, 0, none⟩)] w fun e w' => e = .returned (.tuple #[.int .i64 x, .bool true]) ∧ Play w0 g q R g' q' R' rg ro w' L M P Q :=
  (pollI_ok x _ _ _ _ _ h.two.one).mono fun e w' ⟨he, hb, hk⟩ => ⟨he, h.at_box (h.two.at1 hb hk (h.two.small.drop 1)) hk (by simp)⟩
theorem pl_rpoll_ok {x : Int} (h : Play w0 g q R g' q' R' rg ro w L M (x :: P) Q) :
    Calls Try.prog 14 #[.pointer (some ⟨rg, 0, none⟩)] w fun e w' => e = .returned (.tuple #[.int .i64 x, .bool true]) ∧ Play w0 g q R g' q' R' rg ro w' L M P Q :=
  (rpoll_ok x _ _ _ _ h.r).mono fun e w' ⟨he, hb, hk⟩ => ⟨he, h.at_r hb hk⟩
theorem pl_move (h : Play w0 g q R g' q' R' rg ro w L M P Q) :
    Calls Try.prog 17 #[.pointer (some ⟨g, 0, none⟩), .pointer (some ⟨g', 0, none⟩)] w fun e w' => e = .returned (.int .i64 (movesN L M R' : Int)) ∧
      Play w0 g q R g' q' R' rg ro w' (L.drop (movesN L M R')) (M ++ L.take (movesN L M R')) P Q :=
  (move_any _ _ _ _ _ _ _ _ _ h.two.one h.two.two h.two.ne).mono fun e w' ⟨he, hb, hb', hk⟩ =>
    ⟨he, h.at_box (h.two.both hb hb' hk (h.two.small.drop _) (h.two.small'.append (h.two.small.take _))) hk (by simp)⟩
theorem pl_move' (h : Play w0 g q R g' q' R' rg ro w L M P Q) :
    Calls Try.prog 17 #[.pointer (some ⟨g', 0, none⟩), .pointer (some ⟨g, 0, none⟩)] w fun e w' => e = .returned (.int .i64 (movesN M L R : Int)) ∧
      Play w0 g q R g' q' R' rg ro w' (L ++ M.take (movesN M L R)) (M.drop (movesN M L R)) P Q :=
  (move_any _ _ _ _ _ _ _ _ _ h.two.two h.two.one h.two.ne.symm).mono fun e w' ⟨he, hb, hb', hk⟩ => by
    have hk' : Keeps [q, q'] w w' := hk.mono (fun x hx => .inl (by simp at hx ⊢; exact hx.symm))
    exact ⟨he, h.at_box (h.two.both hb' hb hk' (h.two.small.append (h.two.small'.take _)) (h.two.small'.drop _)) hk' (by simp)⟩
theorem pl_rmove (h : Play w0 g q R g' q' R' rg ro w L M P Q) (hP : P.length ≤ 64) (hQ : Q.length ≤ R') :
    Calls Try.prog 18 #[.pointer (some ⟨rg, 0, none⟩), .pointer (some ⟨ro, 0, none⟩)] w fun e w' => e = .returned (.int .i64 (movesN P Q R' : Int)) ∧
      Play w0 g q R g' q' R' rg ro w' L M (P.drop (movesN P Q R')) (Q ++ P.take (movesN P Q R')) :=
  (rmove_any _ _ _ _ _ _ _ h.r h.r' h.ne h.two.two.hi hP hQ).mono fun e w' ⟨he, hb, hb', hk⟩ => ⟨he, h.at_both hb hb' hk (by simp)⟩
theorem pl_rmove' (h : Play w0 g q R g' q' R' rg ro w L M P Q) (hQ : Q.length ≤ 64) (hP : P.length ≤ R) :
    Calls Try.prog 18 #[.pointer (some ⟨ro, 0, none⟩), .pointer (some ⟨rg, 0, none⟩)] w fun e w' => e = .returned (.int .i64 (movesN Q P R : Int)) ∧
      Play w0 g q R g' q' R' rg ro w' L M (P ++ Q.take (movesN Q P R)) (Q.drop (movesN Q P R)) :=
  (rmove_any _ _ _ _ _ _ _ h.r' h.r h.ne.symm h.two.one.hi hQ hP).mono fun e w' ⟨he, hb, hb', hk⟩ => ⟨he, h.at_both hb' hb hk (by simp)⟩
theorem pl_all (h : Play w0 g q R g' q' R' rg ro w L M P Q) :
    Calls Try.prog 16 #[.pointer (some ⟨g, 0, none⟩)] w fun e w' => ∃ a c, e = .returned (.slice a L.length c) ∧ IAt w' a L ∧ Play w0 g q R g' q' R' rg ro w' L M P Q ∧ Keeps [q] w w' :=
  (allI_any _ _ _ _ _ h.two.one).mono fun e w' ⟨v, he, ho, hb, hk⟩ => by
    obtain ⟨a, c, rfl, _, hi, _⟩ := IAt.own (l := L) ho h.two.small
    exact ⟨a, c, he, hi, h.at_box (h.two.at1 hb hk h.two.small) hk (by simp), hk⟩
theorem pl_all' (h : Play w0 g q R g' q' R' rg ro w L M P Q) :
    Calls Try.prog 16 #[.pointer (some ⟨g', 0, none⟩)] w fun e w' => ∃ a c, e = .returned (.slice a M.length c) ∧ IAt w' a M ∧ Play w0 g q R g' q' R' rg ro w' L M P Q ∧ Keeps [q'] w w' :=
  (allI_any _ _ _ _ _ h.two.two).mono fun e w' ⟨v, he, ho, hb, hk⟩ => by
    obtain ⟨a, c, rfl, _, hi, _⟩ := IAt.own (l := M) ho h.two.small'
    exact ⟨a, c, he, hi, h.at_box (h.two.at2 hb hk h.two.small') hk (by simp), hk⟩
end

theorem play_start {w0 w w2 w3 w4 w5 : World} (hb : Below w0.heap.size w0 w) (a b : Int)
    (h : (w.alloc (.chan (rm a) #[] false 0 0 false)).alloc (.cells #[.int .i64 (rm a : Int), .chan (some w.heap.size)] 55) = w2)
    (h' : (w2.alloc (.chan (rm b) #[] false 0 0 false)).alloc (.cells #[.int .i64 (rm b : Int), .chan (some w2.heap.size)] 55) = w3)
    (k : w3.alloc (.cells #[.int .i64 (rm a : Int), .slice none 0 0] 37) = w4) (k' : w4.alloc (.cells #[.int .i64 (rm b : Int), .slice none 0 0] 37) = w5) :
    Play w0 (w.heap.size + 1) w.heap.size (rm a) (w2.heap.size + 1) w2.heap.size (rm b) w3.heap.size w4.heap.size w5 [] [] [] [] := by
  have T := two_start hb a b h h'
  have hs := T.bel.size
  subst k k'
  have hk : Keeps [] w3 ((w3.alloc (.cells #[.int .i64 (rm a : Int), .slice none 0 0] 37)).alloc (.cells #[.int .i64 (rm b : Int), .slice none 0 0] 37)) := ((Keeps.refl [] w3).alloc _).alloc _
  refine ⟨⟨T.one.keeps hk (by simp) (by simp), T.two.keeps hk (by simp) (by simp), below_keeps T.bel hk (by simp) hs, T.low, T.low', T.ne, Small.nil, Small.nil⟩, (RB.new w3 _).alloc _, RB.new _ _, hs, by simp; omega, by simp⟩

end Go.Proofs.Ytdgjfpdfjnkmaaa
