import Derived.Test.YtddjmhhdpfebkaaPtB
import Derived.Test.YtddjmhhdpfebkaaQt
import Derived.DeepKeys
namespace Go.Proofs.Ytddjmhhdpfebkaa
set_option maxRecDepth 100000
open Go.RowKit
set_option linter.unusedVariables false
set_option linter.unusedSimpArgs false
theorem mapM_all {α β : Type} {f : α → Option β} {g : α → β} : ∀ l : List α, (∀ a ∈ l, f a = some (g a)) → l.mapM f = some (l.map g)
 | [], _ => rfl
 | a :: l, h => by
  rw [List.mapM_cons, h a (by simp), mapM_all l fun b hb => h b (by simp [hb])]; rfl
theorem Try.cells_set : Try.prog.cellsOf 66 = 256 := by kernel_rfl
theorem Try.cells_bool : Try.prog.cellsOf 4 = 1 := by kernel_rfl
theorem lits_set (F : Nat → Bool) : Try.prog.keyLits 3 66 (hasCells F) = some ((List.range 256).map fun j => Lit.bool (F j)) := by
 have h1 : ∀ i, i < 256 → Try.prog.keyLits 2 4 (((hasCells F).drop (i * 1)).take 1) = some [.bool (F i)] := fun i hi => by
  have : ((hasCells F).drop (i * 1)).take 1 = [.bool (F i)] := by
   rw [Nat.mul_one, List.drop_eq_getElem_cons (by rw [hasCells_length]; exact hi)]
   simp [hasCells]
  rw [this]
  simp [Program.keyLits, Try.underlying4]
 unfold Program.keyLits
 simp only [Try.underlying66, Try.cells_set, Try.cells_bool, hasCells_length, if_true]
 rw [mapM_all (g := fun i => [Lit.bool (F i)]) _ (fun i hi => h1 i (List.mem_range.1 hi))]
 rw [Option.map_some]
 refine congrArg some ?_
 generalize List.range 256 = l
 induction l with
 | nil => rfl
 | cons a l ih => simp [ih]
theorem eq_sets (F G : Nat → Bool) : ∃ r : Bool, (∀ w, (Op.equalIn 10000 66 (.agg (hasCells F).toArray) (.agg (hasCells G).toArray)).run Try.prog w = .ok r w) ∧ (r = true ↔ ∀ j, j < 256 → F j = G j) := by
 have h := run_equalIn_deep (P := Try.prog) 9997 3 66 (by kernel_rfl)
 have h2 : ∀ w, ∃ r : Bool, (Op.equalIn 10000 66 (.agg (hasCells F).toArray) (.agg (hasCells G).toArray)).run Try.prog w = .ok r w ∧ (r = true ↔ ∀ j, j < 256 → F j = G j) := fun w => by
  obtain ⟨r, hr, hiff⟩ := h w 3 3 (.agg (hasCells F).toArray) (.agg (hasCells G).toArray) _ _ (by kernel_rfl) (by kernel_rfl) (by simpa [Value.cells] using lits_set F) (by simpa [Value.cells] using lits_set G)
  refine ⟨r, hr, hiff.trans ?_⟩
  constructor
  ·intro he j hj
   have := congrArg (fun l : List Lit => l[j]?) he
   simpa [hj] using this
  ·intro he
   apply List.map_congr_left
   intro j hj
   rw [he j (List.mem_range.1 hj)]
 obtain ⟨r, hr⟩ : ∃ r : Bool, r = true ↔ ∀ j, j < 256 → F j = G j := by
  by_cases hh : ∀ j, j < 256 → F j = G j
  ·exact ⟨true, ⟨fun _ => hh, fun _ => rfl⟩⟩
  ·exact ⟨false, ⟨fun h => (by cases h), fun h => absurd h hh⟩⟩
 exact ⟨r, fun w => by
  obtain ⟨r', h1, h3⟩ := h2 w
  have : r' = r := by rw [Bool.eq_iff_iff, h3, hr]
  rw [← this]; exact h1, hr⟩
theorem Pt.first_some {F : Nat → Bool} {k : Nat} (hk : k < 256) (h : F k = true) (hb : ∀ j, j < k → F j = false) : Pt.firstS F = [UInt8.ofNat k] := by
 unfold Pt.firstS
 have : (List.range 256).find? F = some k := by
  rw [List.find?_range_eq_some]
  exact ⟨h, List.mem_range.2 hk, fun j hj => by rw [hb j hj]; rfl⟩
 rw [this]
theorem Pt.first_none {F : Nat → Bool} (hb : ∀ j, j < 256 → F j = false) : Pt.firstS F = [] := by
 unfold Pt.firstS
 have : (List.range 256).find? F = none := by
  rw [List.find?_eq_none]
  exact fun j hj => by rw [hb j (List.mem_range.1 hj)]; decide
 rw [this]
theorem conv_at {w : World} {g : Nat} (c : UInt8) (h : w.cell? ⟨g, 0, none⟩ = some (.int .u8 (c.toNat : Int))) :
  (convert 49 9 (.slice (some ⟨g, 0, none⟩) 1 1)).run Try.prog w = .ok (.string (str [c])) w := by
 refine run_convert_bytes_back w _ _ 5 _ 1 [c] Try.underlying49 Try.underlying5 Try.underlying9 fun j hj => ?_
 obtain rfl : j = 0 := by simpa using hj
 exact h
theorem u8_wrap {k : Nat} (h : k < 256) : IntKind.u8.wrap (k : Int) = (k : Int) := by
 simp [IntKind.wrap, IntKind.bits, IntKind.signed]; omega
end Go.Proofs.Ytddjmhhdpfebkaa
