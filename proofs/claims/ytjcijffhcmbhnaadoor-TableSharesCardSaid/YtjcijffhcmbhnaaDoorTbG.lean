import Derived.Test.YtjcijffhcmbhnaaDoorTbE
import Derived.Lib.ItoaNum
import Derived.Lib.ItoaLen
namespace Go.Proofs.YtjcijffhcmbhnaaDoor.Tb
open Go.Lib
set_option linter.unusedVariables false
def num (l : List UInt8) : Nat := l.foldl (fun a b => a * 10 + (b.toNat - 48)) 0
theorem num_snoc (l : List UInt8) (b : UInt8) : num (l ++ [b]) = num l * 10 + (b.toNat - 48) := by simp [num]
theorem digit_toNat {d : Nat} (h : d < 10) : (UInt8.ofNat (48 + d)).toNat = 48 + d := by
 rw [UInt8.toNat_ofNat']; omega
theorem num_digits (u : Nat) : num (decDigits u) = u := by
 induction u using Nat.strongRecOn with
 | _ u ih =>
  rw [decDigits]
  split
  ·rename_i h
   have := num_snoc [] (UInt8.ofNat (48 + u))
   rw [List.nil_append] at this
   rw [this, digit_toNat h]
   simp [num]
  ·rename_i h
   rw [num_snoc, ih (u / 10) (by omega), digit_toNat (by omega)]
   omega
theorem digits_byte (u : Nat) : ∀ b ∈ decDigits u, 48 ≤ b.toNat := by
 induction u using Nat.strongRecOn with
 | _ u ih =>
  rw [decDigits]
  split
  ·rename_i h
   intro b hb
   rw [List.mem_singleton.1 hb, digit_toNat h]; omega
  ·rename_i h
   intro b hb
   rcases List.mem_append.1 hb with h1 | h1
   ·exact ih (u / 10) (by omega) b h1
   ·rw [List.mem_singleton.1 h1, digit_toNat (d := u % 10) (by omega)]; omega
theorem itoa_byte (n : Int) : ∀ b ∈ itoa n, b ≠ 32 := by
 intro b hb he
 subst he
 unfold itoa at hb
 split at hb
 ·simp at hb
  have := digits_byte _ _ hb
  simp at this
 ·have := digits_byte _ _ hb
  simp at this
theorem itoa_inj {m n : Int} (h : itoa m = itoa n) : m = n := by
 have h45 : ∀ u, (decDigits u).head? ≠ some 45 := by
  intro u he
  have := digits_byte u 45 (List.mem_of_head? he)
  simp at this
 unfold itoa at h
 split at h <;> split at h
 ·simp only [List.cons.injEq, true_and] at h
  have := congrArg num h
  rw [num_digits, num_digits] at this
  omega
 ·exfalso
  exact h45 n.toNat (by rw [← h]; rfl)
 ·exfalso
  exact h45 m.toNat (by rw [h]; rfl)
 ·have := congrArg num h
  rw [num_digits, num_digits] at this
  omega
def txt (l : List Int) : List UInt8 := l.flatMap fun n => itoa n ++ [32]
theorem txt_snoc (l : List Int) (n : Int) : txt (l ++ [n]) = txt l ++ (itoa n ++ [32]) := by simp [txt]
theorem cut_at {a b x y : List UInt8} (ha : ∀ c ∈ a, c ≠ 32) (hb : ∀ c ∈ b, c ≠ 32) (h : a ++ 32 :: x = b ++ 32 :: y) : a = b ∧ x = y := by
 induction a generalizing b with
 | nil =>
  cases b with
  | nil => simp at h; exact ⟨rfl, h⟩
  | cons c b =>
   simp at h
   exact absurd h.1.symm (hb c (by simp))
 | cons c a ih =>
  cases b with
  | nil =>
   simp at h
   exact absurd h.1 (ha c (by simp))
  | cons d b =>
   simp at h
   obtain ⟨h1, h2⟩ := ih (fun e he => ha e (by simp [he])) (fun e he => hb e (by simp [he])) h.2
   exact ⟨by rw [h.1, h1], h2⟩
theorem txt_inj : ∀ {l m : List Int}, txt l = txt m → l = m
 | [], [], _ => rfl
 | [], n :: m, h => by simp [txt] at h
 | n :: l, [], h => by simp [txt] at h
 | n :: l, k :: m, h => by
  have e : ∀ (n : Int) (l : List Int), txt (n :: l) = itoa n ++ 32 :: txt l := fun n l => by simp [txt]
  rw [e, e] at h
  obtain ⟨h1, h2⟩ := cut_at (itoa_byte n) (itoa_byte k) h
  rw [itoa_inj h1, txt_inj h2]
theorem txt_length {l : List Int} (h : ∀ x ∈ l, -9223372036854775808 ≤ x ∧ x ≤ 9223372036854775807) : (txt l).length ≤ 22 * l.length := by
 induction l with
 | nil => simp [txt]
 | cons n l ih =>
  have e : txt (n :: l) = itoa n ++ 32 :: txt l := by simp [txt]
  have h1 := itoa_length_le n (h n (by simp)).1 (h n (by simp)).2
  have h2 := ih (fun x hx => h x (by simp [hx]))
  rw [e]
  simp only [List.length_append, List.length_cons]
  omega
theorem find_snoc (L : List (List Int)) (t : List Int) (h : find L t = L.length) : find (L ++ [t]) t = L.length := find_of (by simp) (fun j hj => by
 rw [List.getElem?_append_left hj]
 exact find_before (by rw [h]; exact hj))
theorem find_mem {L : List (List Int)} {t : List Int} : find L t < L.length ↔ t ∈ L := by
 constructor
 ·intro h; exact List.mem_of_getElem? (find_at h)
 ·intro h
  rcases Nat.lt_or_eq_of_le (find_le L t) with h1 | h1
  ·exact h1
  ·exact absurd h (find_not h1)
theorem find_snoc_old {L : List (List Int)} {t x : List Int} (h : find L t < L.length) : find (L ++ [x]) t = find L t := find_of (by rw [List.getElem?_append_left h]; exact find_at h) (fun j hj => by
 rw [List.getElem?_append_left (by omega)]
 exact find_before hj)
end Go.Proofs.YtjcijffhcmbhnaaDoor.Tb
