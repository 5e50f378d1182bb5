/-
  What the calls of one arena of ints leave as it was, by types.
-/
import Derived.Test.YtnmmffpcbneccaaAr5I
import Derived.Test.YtnmmffpcbneccaaSpare
namespace Go.Proofs.Ytnmmffpcbneccaa
open Go.RowKit
set_option linter.unusedVariables false

abbrev artI : List TypeId := [63, 60, 72]

theorem ArI.spares {w w' : World} {B g mb : Nat} {v : Value} {L : List (Int × Int)} {m : Array Value} (hA : ArI w B g mb v L) (hM : At w mb 60 m) (hk : Keeps (g :: mb :: v.ownBlock.toList) w w') : Spares artI w w' := by
  refine hk.spares ?_
  intro k hm cs t ht
  simp at hm
  rcases hm with rfl | rfl | hm
  · rw [hA.at_.type ht]; simp [artI]
  · rw [hM.type ht]; simp [artI]
  · rw [own_type hA.own hm ht]; simp [artI]

theorem OneI.spares {w0 w w' : World} {g mb : Nat} {l : Int} {L : List (Int × Int)} {ts : List TypeId} (h : OneI w0 g mb w l L) (hs : Spares ts w w') (hb : Below w0.heap.size w0 w') (ht : ∀ t ∈ artI, t ∉ ts) : OneI w0 g mb w' l L := by
  obtain ⟨v, m, hA, hM⟩ := h.ex
  exact ⟨⟨v, m, ⟨hA.at_.spares hs (ht _ (by simp [artI])), own_spares hA.own hs (ht _ (by simp [artI])), hA.pos, hA.most⟩, hM.spares hs (ht _ (by simp [artI]))⟩, hb, h.lim, h.big⟩

section
variable (w0 : World) (g mb : Nat) (w : World) (l : Int) (L : List (Int × Int)) (h : OneI w0 g mb w l L)
include h

theorem oneI_put_sp (x n : Int) (hn : -9223372036854775808 ≤ n ∧ n ≤ 9223372036854775807) :
    Calls Try.prog 23 #[.pointer (some ⟨g, 0, none⟩), .int .i64 x, .int .i64 n] w fun e w' =>
      e = .returned (.tuple #[.int .i64 (putNum l (tot L) n L.length), .int .i64 (putCode l (tot L) n)]) ∧ OneI w0 g mb w' l (putL l (tot L) n x L) ∧ Spares artI w w' := by
  obtain ⟨v, m, hA, hM⟩ := h.ex
  have hnn := h.nonneg
  refine (putI_any x n w w0.heap.size g mb v L l (tot L) m hA hM ⟨hnn.1, h.lim⟩ hn (Int.le_refl _) h.bel.size).mono ?_
  rintro e w' ⟨he, v', q1, q2, q3, q4⟩
  have e1 : tot (putL l (tot L) n x L) = putUsed l (tot L) n ∧ tot (putL l (tot L) n x L) ≤ l := by
    unfold putL putUsed
    have := h.lim.1
    split
    · exact ⟨rfl, this⟩
    · split
      · exact ⟨rfl, this⟩
      · rw [tot_append, tot_one]; exact ⟨rfl, by simp; omega⟩
  exact ⟨he, h.go hA q1 (e1.1 ▸ q2) q3 e1.2, hA.spares hM q3⟩

theorem oneI_cut_sp (n : Int) (hn : -9223372036854775808 ≤ n ∧ n ≤ 9223372036854775807) (k : Nat) (q : Int) (hk : k = cutAt n L.length) (hq : q = tot (L.drop k)) :
    Calls Try.prog 25 #[.pointer (some ⟨g, 0, none⟩), .int .i64 n] w fun e w' => e = .returned (.int .i64 q) ∧ OneI w0 g mb w' l (L.take k) ∧ Spares artI w w' := by
  obtain ⟨v, m, hA, hM⟩ := h.ex
  have hnn := h.nonneg
  have hd : 0 ≤ tot (L.drop k) := tot_nonneg (fun p hp => hA.pos p (List.mem_of_mem_drop hp))
  have hs := tot_split L k
  refine (cutI_to w w0.heap.size g mb v L l (tot L) m hA hM ⟨hnn.1, h.lim⟩ (Int.le_refl _) h.bel.size n hn k q hk hq).mono ?_
  rintro e w' ⟨he, v', q1, q2, q3, q4⟩
  have e1 : tot L - q = tot (L.take k) := by omega
  have := h.lim.1
  exact ⟨he, h.go hA q1 (e1 ▸ q2) q3 (by omega), hA.spares hM q3⟩

theorem oneI_set_sp (i x : Int) :
    Calls Try.prog 24 #[.pointer (some ⟨g, 0, none⟩), .int .i64 i, .int .i64 x] w fun e w' => e = .returned (.bool (isIn L.length i)) ∧ OneI w0 g mb w' l (setL L i x) ∧ Spares artI w w' := by
  by_cases hi : 0 ≤ i ∧ i < (L.length : Int)
  · obtain ⟨k, rfl⟩ : ∃ k : Nat, i = (k : Int) := ⟨i.toNat, by omega⟩
    obtain ⟨p, hp⟩ : ∃ p, L[k]? = some p := ⟨_, List.getElem?_eq_getElem (by omega)⟩
    obtain ⟨v, m, hA, hM⟩ := h.ex
    have hvm := own_apart hA.own hM (by decide)
    rw [isIn_t hi.1 hi.2, setL_in hp]
    refine (setI_in k p x w w0.heap.size g mb v L hA hp).mono ?_
    rintro e w' ⟨he, q1, q2⟩
    have e1 := tot_set L k p x hp
    have hM' : At w' mb 60 #[.int .i64 l, .int .i64 (tot L), .int .i64 m] := hM.keeps q2 (fun hm => hvm (by simpa using hm))
    rw [← e1] at hM'
    have q3 : Keeps (g :: mb :: v.ownBlock.toList) w w' := q2.mono (fun y hy => .inl (by simp at hy ⊢; simp [hy]))
    exact ⟨he, h.go hA q1 hM' q3 (by rw [e1]; exact h.lim.1), hA.spares hM q3⟩
  · have hf : isIn L.length i = false := by unfold isIn; exact decide_eq_false hi
    rw [hf, setL_out hi]
    refine (oneI_set_no w0 g mb w l L h i x hf).mono ?_
    rintro e w' ⟨he, rfl⟩
    exact ⟨he, h, Spares.refl _ _⟩
end

end Go.Proofs.Ytnmmffpcbneccaa
