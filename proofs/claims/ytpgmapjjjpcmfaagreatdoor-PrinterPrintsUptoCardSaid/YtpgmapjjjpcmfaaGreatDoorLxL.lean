/-
  The listed table of escapes: from the row's condition to the cells; a world that meets the condition.
-/
import Derived.Test.YtpgmapjjjpcmfaaGreatDoorLaw
import Derived.Test.YtpgmapjjjpcmfaaGreatDoorLxAA
import Derived.LaidMore
import Derived.Lib.LaidTab
import Derived.Stop.Joined
import Derived.LaidByTextLater
namespace Go.Proofs.YtpgmapjjjpcmfaaGreatDoor
open Go.RowKit
set_option linter.unusedSimpArgs false
set_option maxRecDepth 100000

theorem Tryz.gTab : Tryz.prog.globalNamed "tronage/lexer.escapes" = some 1 := by kernel_rfl
theorem Tryz.gTabType : (Tryz.prog.globals[1]?).map (·.type) = some 169 := by kernel_rfl
theorem Tryz.cellsTab : Tryz.prog.cellsOf 169 = 27 := by kernel_rfl
theorem Tryz.cellsEsc : Tryz.prog.cellsOf 168 = 3 := by kernel_rfl
theorem Tryz.cellsInt : Tryz.prog.cellsOf 3 = 1 := by kernel_rfl
theorem Tryz.cellsU8 : Tryz.prog.cellsOf 5 = 1 := by kernel_rfl

/-- What the row lists. -/
abbrev listed : List (String × DataW Unit) := [("tronage/lexer.escapes", Rows.laid_tronage_lexer_escapes)]

def escData (k : Nat) : DataW Unit := .agg [.lit (.int .i64 (eK k : Int)), .lit (.int .u8 (eB k : Int)), .lit (.int .u8 (eT k : Int))]
theorem listed_eq : (Rows.laid_tronage_lexer_escapes : DataW Unit) = .agg ((List.range 9).map escData) := by
  unfold Rows.laid_tronage_lexer_escapes escData
  rfl

theorem escape_cells {enc : TypeId × Value → Unit} {W : World} {base : Nat} {sp : Nat → Bool} {held : Bool} {fuel : Nat} {cs : List Value} {p : List MemPlace} {a b c : Int}
    (h : DataW.trod enc Tryz.prog W base sp held fuel 168 cs = some (.agg [.lit (.int .i64 a), .lit (.int .u8 b), .lit (.int .u8 c)], p)) :
    cs = [.int .i64 a, .int .u8 b, .int .u8 c] := by
  obtain ⟨xs, n, _, hx, hlen, hxl, hf⟩ := DataW.trod_struct Tryz.underlying168 h
  simp only [Prod.mk.injEq] at hx
  rw [Tryz.cellsEsc] at hlen
  match cs, hlen with
  | [x, y, z], _ =>
    match xs, hxl with
    | [u0, u1, u2], _ =>
      have h0 := hf 0 _ rfl
      have h1 := hf 1 _ rfl
      have h2 := hf 2 _ rfl
      obtain ⟨a', e0, r0, _⟩ := DataW.trod_int Tryz.underlying3 h0
      obtain ⟨b', e1, r1, _⟩ := DataW.trod_int Tryz.underlying5 h1
      obtain ⟨c', e2, r2, _⟩ := DataW.trod_int Tryz.underlying5 h2
      have e0 : ([x, y, z].drop 0).take (Tryz.prog.cellsOf 3) = [Value.int .i64 a'] := e0
      have e1 : ([x, y, z].drop 1).take (Tryz.prog.cellsOf 5) = [Value.int .u8 b'] := e1
      have e2 : ([x, y, z].drop 2).take (Tryz.prog.cellsOf 5) = [Value.int .u8 c'] := e2
      rw [Tryz.cellsInt] at e0
      rw [Tryz.cellsU8] at e1 e2
      have e0' : [x] = [Value.int .i64 a'] := e0
      have e1' : [y] = [Value.int .u8 b'] := e1
      have e2' : [z] = [Value.int .u8 c'] := e2
      subst r0 r1 r2
      have hx1 := hx.1
      simp only [List.map_cons, List.map_nil, DataW.agg.injEq, List.cons.injEq, DataW.lit.injEq, Lit.int.injEq, true_and, and_true] at hx1
      obtain ⟨ha, hb, hc⟩ := hx1
      simp only [List.cons.injEq, and_true] at e0' e1' e2'
      rw [e0', e1', e2', ha, hb, hc]

theorem table_cells {enc : TypeId × Value → Unit} {W : World} {base : Nat} {sp : Nat → Bool} {held : Bool} {fuel : Nat} {cs : List Value} {p : List MemPlace}
    (h : DataW.trod enc Tryz.prog W base sp held fuel 169 cs = some (.agg ((List.range 9).map escData), p)) : cs = escCells := by
  cases fuel with
  | zero => simp [DataW.trod] at h
  | succ fuel =>
    simp only [DataW.trod, Tryz.underlying169, Tryz.cellsEsc, Tryz.cellsTab] at h
    split at h
    · rename_i hl
      obtain ⟨xs, hm, hx⟩ := Option.map_eq_some_iff.1 h
      have hxs : xs.map (·.1) = (List.range 9).map escData := by
        have := congrArg Prod.fst hx
        simpa using this
      have hxl : xs.length = 9 := by simpa using Lib.mapM_length hm
      have key : ∀ i, i < 9 → (cs.drop (i * 3)).take 3 = [.int .i64 (eK i : Int), .int .u8 (eB i : Int), .int .u8 (eT i : Int)] := by
        intro i hi
        obtain ⟨b, hb, hf⟩ := Lib.mapM_at hm i i (by simp [hi])
        have h2 : (xs.map (·.1))[i]? = some (escData i) := by rw [hxs]; simp [hi]
        simp only [List.getElem?_map, hb, Option.map_some, Option.some.injEq] at h2
        obtain ⟨b1, b2⟩ := b
        simp only at h2
        subst h2
        exact escape_cells hf
      have k0 := key 0 (by decide)
      have k1 := key 1 (by decide)
      have k2 := key 2 (by decide)
      have k3 := key 3 (by decide)
      have k4 := key 4 (by decide)
      have k5 := key 5 (by decide)
      have k6 := key 6 (by decide)
      have k7 := key 7 (by decide)
      have k8 := key 8 (by decide)
      have hsplit : ∀ n, cs.drop n = (cs.drop n).take 3 ++ cs.drop (n + 3) := fun n => by
        rw [← List.drop_drop, List.take_append_drop]
      have hlen : cs.length = 27 := hl
      have e9 : cs.drop 27 = [] := List.drop_of_length_le (by omega)
      have hc : cs = cs.drop 0 := by simp
      rw [hc, hsplit 0, hsplit 3, hsplit 6, hsplit 9, hsplit 12, hsplit 15, hsplit 18, hsplit 21, hsplit 24, e9]
      rw [show (0 * 3) = 0 from rfl] at k0
      simp only [Nat.reduceMul] at k0 k1 k2 k3 k4 k5 k6 k7 k8 ⊢
      rw [k0, k1, k2, k3, k4, k5, k6, k7, k8]
      rfl
    · cases h

theorem tab_of_laid {W : World} (h : laidMetH Tryz.prog listed W) : Tab W := by
  rw [MakeChecks.laidMetH_plain _ _ _ (by kernel_rfl)] at h
  unfold listed at h
  rw [listed_eq] at h
  obtain ⟨ps, ⟨g', t', cs, fuel, p, q, hg', ht', hvar, hd, _, _⟩, _⟩ := h
  obtain rfl := Option.some.inj (Tryz.gTab.symm.trans hg')
  obtain rfl := Option.some.inj (Tryz.gTabType.symm.trans ht')
  have hcs := table_cells hd
  intro j v hj
  rw [Nat.zero_add, World.var?_cell Tryz.gTab hvar j, ← Array.getElem?_toList, hcs]
  exact hj

theorem size_of_tab {W : World} (h : Tab W) : 1 < W.heap.size := (cell_spot (h 0 _ rfl)).1

theorem door_met (os : Os) (args : Array Value) : laidMetH Tryz.prog listed ((World.doorLaid Tryz.prog 400 os).forCall (fun _ _ => 0) ⟨#[], args, []⟩).memory :=
  laidMetH_of_parts3 (fuel := 8) (laidMet_of_run' 8 (by kernel_rfl) (by kernel_rfl)) (by kernel_rfl) (by kernel_rfl)

end Go.Proofs.YtpgmapjjjpcmfaaGreatDoor
