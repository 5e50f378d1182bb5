/-
  One arena of string and its meter, that nobody else takes from: 'OneS', and what each call does to it.
-/
import Derived.Test.YtnmmffpcbneccaaAr4S
namespace Go.Proofs.Ytnmmffpcbneccaa
open Go.RowKit
set_option linter.unusedVariables false

structure OneS (w0 : World) (g mb : Nat) (w : World) (l : Int) (L : List (ByteArray × Int)) : Prop where
  ex : ∃ v m, ArS w w0.heap.size g mb v L ∧ At w mb 60 #[.int .i64 l, .int .i64 (tot L), .int .i64 m]
  bel : Below w0.heap.size w0 w
  lim : tot L ≤ l ∧ l ≤ 1099511627776
  big : w0.heap.size ≤ g ∧ w0.heap.size ≤ mb

theorem OneS.start {w0 w : World} (hb : Below w0.heap.size w0 w) {l : Int} (hl : 0 ≤ l ∧ l ≤ 1099511627776) :
    OneS w0 (w.heap.size + 1) w.heap.size ((w.alloc (.cells #[.int .i64 l, .int .i64 0, .int .i64 0] 60)).alloc (.cells #[.pointer (some ⟨w.heap.size, 0, none⟩), .slice none 0 0, .int .i64 0] 66)) l [] := by
  have h := newArS (w.alloc (.cells #[.int .i64 l, .int .i64 0, .int .i64 0] 60)) w0.heap.size w.heap.size
  have e : (w.alloc (.cells #[.int .i64 l, .int .i64 0, .int .i64 0] 60)).heap.size = w.heap.size + 1 := by simp
  rw [e] at h
  have hs := hb.size
  exact ⟨⟨_, 0, h, (At.new w _ _).alloc _⟩, (hb.alloc hb.size _).alloc (by simp; omega) _, hl, by omega, by omega⟩

theorem OneS.go {w0 w w' : World} {g mb : Nat} {l : Int} {L L' : List (ByteArray × Int)} {v v' : Value} {m : Int} (h : OneS w0 g mb w l L) (hA : ArS w w0.heap.size g mb v L)
    (h1 : ArS w' w0.heap.size g mb v' L') (h2 : At w' mb 60 #[.int .i64 l, .int .i64 (tot L'), .int .i64 m]) (hk : Keeps (g :: mb :: v.ownBlock.toList) w w') (hl : tot L' ≤ l) : OneS w0 g mb w' l L' :=
  ⟨⟨v', m, h1, h2⟩, below_keeps h.bel hk (by
    intro x hx
    simp at hx
    rcases hx with rfl | rfl | hx
    · exact h.big.1
    · exact h.big.2
    · exact (hA.own.lt x hx).1) h.bel.size, ⟨hl, h.lim.2⟩, h.big⟩

section
variable (w0 : World) (g mb : Nat) (w : World) (l : Int) (L : List (ByteArray × Int)) (h : OneS w0 g mb w l L)
include h

theorem OneS.nonneg : 0 ≤ tot L ∧ (L.length : Int) ≤ tot L ∧ (L.length : Int) ≤ 1099511627776 := by
  obtain ⟨v, m, hA, hM⟩ := h.ex
  exact ⟨tot_nonneg hA.pos, len_le_tot hA.pos, hA.size⟩

theorem oneS_put_ok (x : ByteArray) (n k : Int) (h1 : 1 ≤ n) (h2 : n ≤ l - tot L) (hk : k = (L.length : Int)) :
    Calls Try.prog 19 #[.pointer (some ⟨g, 0, none⟩), VS x, .int .i64 n] w fun e w' => e = .returned (.tuple #[.int .i64 k, .int .i64 0]) ∧ OneS w0 g mb w' l (L ++ [(x, n)]) := by
  obtain ⟨v, m, hA, hM⟩ := h.ex
  have hn := h.nonneg
  refine (putS_ok w w0.heap.size g mb v L l (tot L) m hA hM ⟨hn.1, h.lim⟩ (Int.le_refl _) h.bel.size x n k h1 h2 hk).mono ?_
  rintro e w' ⟨he, v', m', q1, q2, q3, q4⟩
  have e1 : tot (L ++ [(x, n)]) = tot L + n := by rw [tot_append, tot_one]
  exact ⟨he, h.go hA q1 (e1 ▸ q2) q3 (by omega)⟩

theorem oneS_put_no (x : ByteArray) (n c : Int) (hn : -9223372036854775808 ≤ n ∧ n ≤ 9223372036854775807) (hc : (n < 1 ∧ c = 1) ∨ (1 ≤ n ∧ l - tot L < n ∧ c = 5)) :
    Calls Try.prog 19 #[.pointer (some ⟨g, 0, none⟩), VS x, .int .i64 n] w fun e w' => e = .returned (.tuple #[.int .i64 0, .int .i64 c]) ∧ OneS w0 g mb w' l L := by
  obtain ⟨v, m, hA, hM⟩ := h.ex
  have hnn := h.nonneg
  refine (putS_no w w0.heap.size g mb v L l (tot L) m hA hM ⟨hnn.1, h.lim⟩ (Int.le_refl _) h.bel.size x n c hn hc).mono ?_
  rintro e w' ⟨he, v', q1, q2, q3, q4⟩
  exact ⟨he, h.go hA q1 q2 q3 h.lim.1⟩

theorem oneS_put_any (x : ByteArray) (n : Int) (hn : -9223372036854775808 ≤ n ∧ n ≤ 9223372036854775807) :
    Calls Try.prog 19 #[.pointer (some ⟨g, 0, none⟩), VS x, .int .i64 n] w fun e w' =>
      e = .returned (.tuple #[.int .i64 (putNum l (tot L) n L.length), .int .i64 (putCode l (tot L) n)]) ∧ OneS w0 g mb w' l (putL l (tot L) n x L) := by
  by_cases h1 : n < 1
  · obtain ⟨e1, e2, _, _, e5⟩ := put_neg (l := l) (u := tot L) (m := 0) (x := x) (L := L) (k := L.length) h1
    rw [e1, e2, e5]
    exact oneS_put_no w0 g mb w l L h x n 1 hn (.inl ⟨h1, rfl⟩)
  · by_cases h2 : l - tot L < n
    · obtain ⟨e1, e2, _, _, e5⟩ := put_big (l := l) (u := tot L) (m := 0) (x := x) (L := L) (k := L.length) (by omega) h2
      rw [e1, e2, e5]
      exact oneS_put_no w0 g mb w l L h x n 5 hn (.inr ⟨by omega, h2, rfl⟩)
    · obtain ⟨e1, e2, _, _, e5⟩ := put_ok (l := l) (u := tot L) (n := n) (m := 0) (x := x) (L := L) (k := L.length) (by omega) (by omega)
      rw [e1, e2, e5]
      exact oneS_put_ok w0 g mb w l L h x n _ (by omega) (by omega) rfl

theorem oneS_put_some (x : ByteArray) (n : Int) (hn : -9223372036854775808 ≤ n ∧ n ≤ 9223372036854775807) :
    Calls Try.prog 19 #[.pointer (some ⟨g, 0, none⟩), VS x, .int .i64 n] w fun e w' => ∃ pn pc L', e = .returned (.tuple #[.int .i64 pn, .int .i64 pc]) ∧ OneS w0 g mb w' l L' ∧
      ((n < 1 ∧ pc = 1 ∧ L' = L) ∨ (1 ≤ n ∧ l - tot L < n ∧ pc = 5 ∧ L' = L) ∨ (1 ≤ n ∧ n ≤ l - tot L ∧ pc = 0 ∧ L' = L ++ [(x, n)])) := by
  by_cases h1 : n < 1
  · refine (oneS_put_no w0 g mb w l L h x n 1 hn (.inl ⟨h1, rfl⟩)).mono ?_
    rintro e w' ⟨he, q⟩
    exact ⟨_, _, L, he, q, .inl ⟨h1, rfl, rfl⟩⟩
  · by_cases h2 : l - tot L < n
    · refine (oneS_put_no w0 g mb w l L h x n 5 hn (.inr ⟨by omega, h2, rfl⟩)).mono ?_
      rintro e w' ⟨he, q⟩
      exact ⟨_, _, L, he, q, .inr (.inl ⟨by omega, h2, rfl, rfl⟩)⟩
    · refine (oneS_put_ok w0 g mb w l L h x n _ (by omega) (by omega) rfl).mono ?_
      rintro e w' ⟨he, q⟩
      exact ⟨_, _, _, he, q, .inr (.inr ⟨by omega, by omega, rfl, rfl⟩)⟩

theorem oneS_cut_some (n : Int) (hn : -9223372036854775808 ≤ n ∧ n ≤ 9223372036854775807) :
    Calls Try.prog 21 #[.pointer (some ⟨g, 0, none⟩), .int .i64 n] w fun e w' => ∃ q L', e = .returned (.int .i64 q) ∧ OneS w0 g mb w' l L' := by
  obtain ⟨v, m, hA, hM⟩ := h.ex
  have hnn := h.nonneg
  have hd : 0 ≤ tot (L.drop (cutAt n L.length)) := tot_nonneg (fun p hp => hA.pos p (List.mem_of_mem_drop hp))
  have hs := tot_split L (cutAt n L.length)
  refine (cutS_any n w w0.heap.size g mb v L l (tot L) m hA hM ⟨hnn.1, h.lim⟩ hn (Int.le_refl _) h.bel.size).mono ?_
  rintro e w' ⟨he, v', q1, q2, q3, q4⟩
  have e1 : tot L - tot (L.drop (cutAt n L.length)) = tot (L.take (cutAt n L.length)) := by omega
  have := h.lim.1
  exact ⟨_, _, he, h.go hA q1 (e1 ▸ q2) q3 (by omega)⟩

theorem oneS_cut (n : Int) (hn : -9223372036854775808 ≤ n ∧ n ≤ 9223372036854775807) (k : Nat) (q : Int) (hk : k = cutAt n L.length) (hq : q = tot (L.drop k)) :
    Calls Try.prog 21 #[.pointer (some ⟨g, 0, none⟩), .int .i64 n] w fun e w' => e = .returned (.int .i64 q) ∧ OneS w0 g mb w' l (L.take k) := by
  obtain ⟨v, m, hA, hM⟩ := h.ex
  have hnn := h.nonneg
  have hd : 0 ≤ tot (L.drop k) := tot_nonneg (fun p hp => hA.pos p (List.mem_of_mem_drop hp))
  have hs := tot_split L k
  refine (cutS_to w w0.heap.size g mb v L l (tot L) m hA hM ⟨hnn.1, h.lim⟩ (Int.le_refl _) h.bel.size n hn k q hk hq).mono ?_
  rintro e w' ⟨he, v', q1, q2, q3, q4⟩
  have e1 : tot L - q = tot (L.take k) := by omega
  have := h.lim.1
  exact ⟨he, h.go hA q1 (e1 ▸ q2) q3 (by omega)⟩

theorem oneS_at (i : Int) (k : Nat) (hi : i = (k : Int)) (p : ByteArray × Int) (hk : L[k]? = some p) :
    Calls Try.prog 20 #[.pointer (some ⟨g, 0, none⟩), .int .i64 i] w fun e w' => e = .returned (.tuple #[VS p.1, .bool true]) ∧ w = w' := by
  obtain ⟨v, m, hA, hM⟩ := h.ex
  exact atS_to w w0.heap.size g mb v L hA i k hi p hk

theorem oneS_at_no (i : Int) (hi : isIn L.length i = false) :
    Calls Try.prog 20 #[.pointer (some ⟨g, 0, none⟩), .int .i64 i] w fun e w' => e = .returned (.tuple #[.string ⟨#[]⟩, .bool false]) ∧ w = w' := by
  obtain ⟨v, m, hA, hM⟩ := h.ex
  exact atS_out i w w0.heap.size g mb v L hA hi

theorem oneS_len :
    Calls Try.prog 22 #[.pointer (some ⟨g, 0, none⟩)] w fun e w' => e = .returned (.int .i64 (L.length : Int)) ∧ w = w' := by
  obtain ⟨v, m, hA, hM⟩ := h.ex
  exact lenS_any w w0.heap.size g mb v L hA

theorem oneS_cells :
    Calls Try.prog 28 #[.pointer (some ⟨g, 0, none⟩)] w fun e w' => e = .returned (.int .i64 (tot L)) ∧ w = w' := by
  obtain ⟨v, m, hA, hM⟩ := h.ex
  exact cellsS_any w w0.heap.size g mb v L hA

theorem oneS_left :
    Calls Try.prog 16 #[.pointer (some ⟨mb, 0, none⟩)] w fun e w' => e = .returned (.int .i64 (l - tot L)) ∧ ∃ n, w' = w.drewN n := by
  obtain ⟨v, m, hA, hM⟩ := h.ex
  exact left_any mb l (tot L) m w hM ⟨h.nonneg.1, h.lim⟩

theorem OneS.drewN (n : Nat) : OneS w0 g mb (w.drewN n) l L := by
  obtain ⟨v, m, hA, hM⟩ := h.ex
  exact ⟨⟨v, m, hA.drewN n, hM.drewN n⟩, below_drewN h.bel n, h.lim, h.big⟩


end

end Go.Proofs.Ytnmmffpcbneccaa
