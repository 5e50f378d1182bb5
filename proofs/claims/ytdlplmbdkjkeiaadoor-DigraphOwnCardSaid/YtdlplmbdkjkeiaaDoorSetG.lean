import Derived.Test.YtdlplmbdkjkeiaaDoorSetF
namespace Go.Proofs.YtdlplmbdkjkeiaaDoor
set_option maxRecDepth 100000
open Go.RowKit
open BitKit
set_option linter.unusedVariables false
set_option linter.unusedSimpArgs false
def fn (l : List Int) : Nat → Int := fun i => l.getD i 0
theorem of_row (n : Int) (v : Value) (l : List Int) (w : World) (h : Row w v l) :
  Calls Tryd.prog 33 #[.int .i64 n, v] w fun e w' => e = .returned (.pointer (some ⟨w.heap.size, 0, none⟩)) ∧ IsSet w' w.heap.size (held n) (ofs (held n) (fn l) l.length) ∧ w.grownBy w' none := by
 obtain ⟨A, c, rfl, hn⟩ := h.shape
 exact of_any n A l.length c _ w hn
theorem of_ex (n : Int) (v : Value) (l : List Int) (w : World) (h : Row w v l) :
  Calls Tryd.prog 33 #[.int .i64 n, v] w fun e w' => ∃ b, e = .returned (.pointer (some ⟨b, 0, none⟩)) ∧ w.heap.size ≤ b ∧ IsSet w' b (held n) (ofs (held n) (fn l) l.length) ∧ w.grownBy w' none :=
 (of_row n v l w h).mono fun e w' hh => ⟨_, hh.1, Nat.le_refl _, hh.2⟩
theorem mem_small (S : Nat → Bool) : Small (ints (mem S 1024)) := by
 intro x hx
 simp only [ints, List.mem_map] at hx
 obtain ⟨y, hy, rfl⟩ := hx
 have := ((mem_mem S 1024 y).1 hy).1
 omega
def all (S : Nat → Bool) : List Int := ints (mem S 1024)
theorem list_row (b n : Nat) (S : Nat → Bool) (w : World) (hs : IsSet w b n S) (hT : Tab w) (hg0 : 0 < w.heap.size) :
  Calls Tryd.prog 22 #[.pointer (some ⟨b, 0, none⟩)] w fun e w' => (∃ A c, e = .returned (.slice A (all S).length c) ∧ Row w' (.slice A (all S).length c) (all S) ∧ ∀ a, A = some a → w.heap.size ≤ a.block) ∧ w.grownBy w' none := by
 refine (list_any b n S w hs hT hg0).mono ?_
 rintro e w' ⟨v, rfl, ho, hb⟩
 rw [valsOf_ints] at ho
 have hr := row_own ho (mem_small S)
 obtain ⟨A, c, rfl, hn⟩ := hr.shape
 refine ⟨⟨A, c, rfl, hr, fun a ha => ?_⟩, below_grown hb⟩
 subst ha
 rcases own_shape ho with ⟨h, _⟩ | ⟨g, cap, h, _, _, hg, _⟩
 ·simp at h
 ·simp at h; rw [h.1]; exact hg
theorem all_length (S : Nat → Bool) : (all S).length = cnt S 1024 := by rw [all, ints_length, mem_length]
theorem eq_iff {S T : Nat → Bool} {m : Nat} (hS : ∀ i, S i = true → i < m) (hT : ∀ i, T i = true → i < m) : all S = all T ↔ ∀ i, i < 1024 → S i = T i := by
 unfold all
 rw [ints_inj]
 constructor
 ·intro h i hi
  rw [Bool.eq_iff_iff]
  have := congrArg (fun l => i ∈ l) h
  simp only [mem_mem, hi, true_and] at this
  exact Iff.of_eq this
 ·intro h; exact mem_congr 1024 h
theorem small_of (l : List Int) (h : l.all (fun x => decide (-9223372036854775808 ≤ x) && decide (x ≤ 9223372036854775807)) = true) : Small l := by
 intro x hx
 have := List.all_eq_true.1 h x hx
 simpa using this
end Go.Proofs.YtdlplmbdkjkeiaaDoor
