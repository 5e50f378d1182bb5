import Derived.Test.YtehagenopnnhcaaGreatDoorSmG
import Derived.Test.YtehagenopnnhcaaGreatDoorSmW
import Derived.Test.YtehagenopnnhcaaGreatDoorNmJ
namespace Go.Proofs.YtehagenopnnhcaaGreatDoor
open Go.RowKit
open Lx
set_option linter.unusedVariables false
set_option linter.unusedSimpArgs false
set_option maxRecDepth 100000
namespace Sm
open Rd (Name Pat Tok Lev Rule G)
theorem flat_len : ∀ L : List Lev, (∀ v ∈ L, v.names.length ≤ 6) → (L.flatMap Lev.names).length ≤ L.length * 6
 | [], _ => by simp
 | a :: r, h => by
  have h1 := h a (by simp)
  have h2 := flat_len r (fun v hv => h v (by simp [hv]))
  rw [List.flatMap_cons, List.length_append, List.length_cons]; omega
section
variable {s : S}
theorem names_len {m j : Nat} (hm : m ≤ 5) : (lev s m j).names.length ≤ 6 := by
 unfold lev
 rw [List.length_cons, List.length_map]
 have := List.length_filter_le (fun i => lvl s i == j + 1) (List.range m)
 rw [List.length_range] at this
 omega
theorem lvl_gram (hl : nl s ≤ 5) : (Pr.lvl (gram s)).length ≤ 30 := by
 have h := flat_len (levs s (nt s)) (fun v hv => by
  obtain ⟨j, _, rfl⟩ := List.mem_map.1 hv
  exact names_len (by have := nt_le (s := s); omega))
 unfold Pr.lvl
 show ((levs s (nt s)).flatMap Lev.names).length ≤ 30
 have h2 : (levs s (nt s)).length = nl s := by unfold levs; simp
 rw [h2] at h; omega
theorem levs_get {m k : Nat} (hk : k < nl s) : (levs s m)[k]? = some (lev s m k) := by
 unfold levs; rw [List.getElem?_map, List.getElem?_range hk]; rfl
theorem levs_len {m : Nat} : (levs s m).length = nl s := by unfold levs; simp
theorem abc_mem {i k : Nat} (hi : i < nt s) (hk : k < 5) : abc i ∈ (lev s (nt s) k).names ↔ lvl s i = k + 1 := by
 have h5 := nt_le (s := s)
 constructor
 ·intro h
  rcases lev_names h with h | ⟨m, hm, h1, h2⟩
  ·exact absurd h (abc_pqr (by omega) hk)
  ·have := abc_inj (by omega) (by omega) h2
   rw [this]; exact h1
 ·intro h
  unfold lev
  refine List.mem_cons_of_mem _ (List.mem_map.2 ⟨i, ?_, rfl⟩)
  rw [List.mem_filter, List.mem_range, beq_iff_eq]
  exact ⟨hi, h⟩
theorem pqr_mem {j k : Nat} (hj : j < 5) (hk : k < 5) : pqr j ∈ (lev s (nt s) k).names ↔ j = k := by
 have h5 := nt_le (s := s)
 constructor
 ·intro h
  rcases lev_names h with h | ⟨m, hm, h1, h2⟩
  ·exact pqr_inj hj hk h
  ·exact absurd h2.symm (abc_pqr (by omega) hj)
 ·rintro rfl
  unfold lev; simp
theorem level_of {n : Name} {j : Nat} (hl : nl s ≤ 5) (h : ∀ k, k < nl s → (n ∈ (lev s (nt s) k).names ↔ j = k + 1)) (hj : j ≤ nl s) : Nm.level (gram s) n = (j : Int) := by
 have hlv : (gram s).levels = levs s (nt s) := rfl
 unfold Nm.level
 rw [hlv]
 rcases Nat.eq_zero_or_pos j with rfl | hp
 ·rw [Nm.find_none]
  ·rfl
  ·intro v hv
   obtain ⟨k, hk, rfl⟩ := List.mem_map.1 hv
   unfold Nm.hasN
   rw [decide_eq_false_iff_not, h k (by simpa using hk)]; omega
 ·obtain ⟨m, rfl⟩ : ∃ m, j = m + 1 := ⟨j - 1, by omega⟩
  rw [Nm.find_hit (k := m) (x := lev s (nt s) m) (levs_get (by omega))]
  ·omega
  ·unfold Nm.hasN
   rw [decide_eq_true_eq, h m (by omega)]
  ·intro v hv
   obtain ⟨q, hq, e⟩ := List.mem_iff_getElem.1 hv
   rw [List.length_take, levs_len] at hq
   rw [List.getElem_take] at e
   have h1 := levs_get (s := s) (m := nt s) (k := q) (by omega)
   rw [List.getElem?_eq_getElem (by rw [levs_len]; omega)] at h1
   have h2 : lev s (nt s) q = v := by rw [← e]; exact (Option.some.inj h1).symm
   rw [← h2]
   unfold Nm.hasN
   rw [decide_eq_false_iff_not, h q (by omega)]; omega
theorem level_abc (hl : nl s ≤ 5) {i : Nat} (hi : i < nt s) : Nm.level (gram s) (abc i) = (lvl s i : Int) :=
 level_of hl (fun k hk => abc_mem hi (by omega)) (lvl_le i)
theorem level_pqr (hl : nl s ≤ 5) {j : Nat} (hj : j < nl s) : Nm.level (gram s) (pqr j) = ((j + 1 : Nat) : Int) :=
 level_of hl (fun k hk => by rw [pqr_mem (by omega) (by omega)]; omega) (by omega)
end
end Sm
theorem small_form {w : World} {B : Nat} {v : Value} {s : Sm.S} (h : SmallC w B v s) : ∃ x1 x2 E1 m1 f1 E2 m2 f2 E3 m3 f3 E4 m4 f4 E5 m5 f5, v = .agg #[.int .u8 x1, .int .u8 x2, .slice E1 m1 f1, .slice E2 m2 f2, .slice E3 m3 f3, .slice E4 m4 f4, .slice E5 m5 f5] := by
 obtain ⟨A1, c1, A2, c2, A3, c3, A4, c4, A5, c5, ql, h0, _⟩ := h.ex
 exact ⟨_, _, _, _, _, _, _, _, _, _, _, _, _, _, _, _, _, h0⟩
theorem gramC_form9 {w : World} {B : Nat} {v : Value} {G : Rd.G} (h : GramC w B v G) : ∃ E1 m1 f1 E2 m2 f2 E3 m3 f3 st E4 m4 f4, v = .agg #[.slice E1 m1 f1, .slice E2 m2 f2, .slice E3 m3 f3, .string st, .slice E4 m4 f4] := by
 obtain ⟨A1, c1, A2, c2, A3, c3, A4, c4, pl, ql, h0, h1, h2, h3, h4, h5, h6, h7, h8⟩ := h.ex
 exact ⟨_, _, _, _, _, _, _, _, _, _, _, _, _, h0⟩
theorem small_sz {s : Sm.S} (hl : Sm.nl s ≤ 5) (h20 : s.lefts.length ≤ 20) (h8 : ∀ l ∈ s.rights, l.length ≤ 8) : Sz (Sm.gram s) :=
 Right.sz8 (Sm.right_gram hl h20 h8) (by have := Sm.lvl_gram hl; omega)
theorem gramC_all {w : World} {B m1 f1 m2 f2 m3 f3 m4 f4 : Nat} {E1 E2 E3 E4 : Option Addr} {st : ByteArray} {G : Rd.G} (h : GramC w B (.agg #[.slice E1 m1 f1, .slice E2 m2 f2, .slice E3 m3 f3, .string st, .slice E4 m4 f4]) G) :
  G.toks.length = m1 ∧ G.skips.length = m2 ∧ G.levels.length = m3 ∧ str G.start = st ∧ G.rules.length = m4 ∧ Cl w B E1 (toksV G.toks) ∧ (∃ pl, Cl w B E3 (levsC pl) ∧ pl.map (·.1) = G.levels ∧ ∀ p ∈ pl, p.1.assoc = encA p.2.2 ∧ NmC w B p.2.1 p.1.names) ∧ RulsC w B E4 G.rules := by
 obtain ⟨A1, c1, A2, c2, A3, c3, A4, c4, pl, ql, e, h1, h2, h3, h4, h5, h6, h7, h8⟩ := h.ex
 simp only [Value.agg.injEq, Array.mk.injEq, List.cons.injEq, Value.slice.injEq, Value.string.injEq] at e
 obtain ⟨⟨a1, e1, _⟩, ⟨_, e2, _⟩, ⟨a3, e3, _⟩, e4, ⟨e5, e6, _⟩, _⟩ := e
 subst e5 a1 a3
 exact ⟨e1.symm, e2.symm, e3.symm, e4.symm, e6.symm, h1, ⟨pl, h3, h4, h5⟩, ⟨ql, h6, h7, h8⟩⟩
end Go.Proofs.YtehagenopnnhcaaGreatDoor
