/-
  The document's arena (tronageref02.Arena): its block, its two rows, and what its calls answer.
-/
import Derived.Test.YtnmmffpcbneccaaAr6
import Derived.Test.YtnmmffpcbneccaaMeterB
import Derived.Lib.MinMax
namespace Go.Proofs.Ytnmmffpcbneccaa
open Go.RowKit
set_option linter.unusedVariables false

def fsts (L : List (Int × Int)) : List Value := L.map fun p => .int .i64 p.1
def snds (L : List (Int × Int)) : List Value := L.map fun p => .int .i64 p.2
theorem fsts_take (L : List (Int × Int)) (k : Nat) : (fsts L).take (k * 1) = fsts (L.take k) := by simp [fsts, List.map_take]
theorem snds_take (L : List (Int × Int)) (k : Nat) : (snds L).take (k * 1) = snds (L.take k) := by simp [snds, List.map_take]
theorem fsts_set (L : List (Int × Int)) (k : Nat) (p : Int × Int) (x : Int) (h : L[k]? = some p) : (fsts L).set k (.int .i64 x) = fsts (L.set k (x, p.2)) := by simp [fsts, List.map_set]
theorem snds_set (L : List (Int × Int)) (k : Nat) (p : Int × Int) (x : Int) (h : L[k]? = some p) : snds (L.set k (x, p.2)) = snds L := by
  unfold snds
  rw [List.map_set]
  apply List.ext_getElem?
  intro i
  rw [List.getElem?_set]
  split
  · rename_i e
    subst e
    have := (List.getElem?_eq_some_iff.1 h).1
    simp [this]
    have h2 := (List.getElem?_eq_some_iff.1 h).2
    rw [h2]
  · rfl

/-- A contract 'w = w'' in a quiet region. -/
theorem quiet_same {P : Program} {f : FuncId} {args : Array Value} {w : World} {n : Nat} {v : Value}
    (h : Calls P f args (w.drewN n) fun e w' => e = .returned v ∧ w.drewN n = w') : Calls P f args (w.drewN n) fun e w'' => e = .returned v ∧ ∃ m, w'' = w.drewN m :=
  h.mono fun _ _ ⟨he, hm⟩ => ⟨he, n, hm.symm⟩

structure Rf (w : World) (B rg rm : Nat) (vL vC : Value) (L : List (Int × Int)) : Prop where
  at_ : At w rg 35 #[.pointer (some ⟨rm, 0, none⟩), vL, vC]
  ownL : w.ownsRow B 3 1 vL L.length (fsts L)
  ownC : w.ownsRow B 3 1 vC L.length (snds L)
  apart : ∀ k, vL.ownBlock = some k → vC.ownBlock ≠ some k
  pos : ∀ p ∈ L, 1 ≤ p.2
  most : tot L ≤ 1099511627776

structure RfO (w0 : World) (rg rm : Nat) (w : World) (l : Int) (L : List (Int × Int)) : Prop where
  ex : ∃ vL vC m, Rf w w0.heap.size rg rm vL vC L ∧ At w rm 32 #[.int .i64 l, .int .i64 (tot L), .int .i64 m]
  bel : Below w0.heap.size w0 w
  lim : tot L ≤ l ∧ l ≤ 1099511627776
  big : w0.heap.size ≤ rg ∧ w0.heap.size ≤ rm

abbrev artR : List TypeId := [35, 32, 3]

theorem RfO.spares {w0 w w' : World} {rg rm : Nat} {l : Int} {L : List (Int × Int)} {ts : List TypeId} (h : RfO w0 rg rm w l L) (hs : Spares ts w w') (hb : Below w0.heap.size w0 w') (ht : ∀ t ∈ artR, t ∉ ts) : RfO w0 rg rm w' l L := by
  obtain ⟨vL, vC, m, hA, hM⟩ := h.ex
  exact ⟨⟨vL, vC, m, ⟨hA.at_.spares hs (ht _ (by simp [artR])), own_spares hA.ownL hs (ht _ (by simp [artR])), own_spares hA.ownC hs (ht _ (by simp [artR])), hA.apart, hA.pos, hA.most⟩, hM.spares hs (ht _ (by simp [artR]))⟩, hb, h.lim, h.big⟩
theorem RfO.nonneg {w0 w : World} {rg rm : Nat} {l : Int} {L : List (Int × Int)} (h : RfO w0 rg rm w l L) : 0 ≤ tot L ∧ (L.length : Int) ≤ tot L ∧ (L.length : Int) ≤ 1099511627776 := by
  obtain ⟨vL, vC, m, hA, hM⟩ := h.ex
  have := len_le_tot hA.pos
  exact ⟨tot_nonneg hA.pos, this, by have := hA.most; omega⟩
theorem RfO.drewN {w0 w : World} {rg rm : Nat} {l : Int} {L : List (Int × Int)} (h : RfO w0 rg rm w l L) (n : Nat) : RfO w0 rg rm (w.drewN n) l L := by
  obtain ⟨vL, vC, m, hA, hM⟩ := h.ex
  exact ⟨⟨vL, vC, m, ⟨hA.at_.drewN n, hA.ownL, hA.ownC, hA.apart, hA.pos, hA.most⟩, hM.drewN n⟩, below_drewN h.bel n, h.lim, h.big⟩
theorem RfO.drew {w0 w : World} {rg rm : Nat} {l : Int} {L : List (Int × Int)} (h : RfO w0 rg rm w l L) : RfO w0 rg rm w.drew l L := h.drewN 1

/-- What all calls of it change. -/
theorem Rf.spares {w w' : World} {B rg rm : Nat} {vL vC : Value} {L : List (Int × Int)} {m : Array Value} (hA : Rf w B rg rm vL vC L) (hM : At w rm 32 m) (hk : Keeps (rg :: rm :: vL.ownBlock.toList ++ vC.ownBlock.toList) w w') : Spares artR w w' := by
  refine hk.spares ?_
  intro k hm cs t ht
  simp at hm
  rcases hm with rfl | rfl | hm | hm
  · rw [hA.at_.type ht]; simp [artR]
  · rw [hM.type ht]; simp [artR]
  · rw [own_type hA.ownL hm ht]; simp [artR]
  · rw [own_type hA.ownC hm ht]; simp [artR]
theorem RfO.go {w0 w w' : World} {rg rm : Nat} {l : Int} {L L' : List (Int × Int)} {vL vC vL' vC' : Value} {m : Int} (h : RfO w0 rg rm w l L) (hA : Rf w w0.heap.size rg rm vL vC L)
    (h1 : Rf w' w0.heap.size rg rm vL' vC' L') (h2 : At w' rm 32 #[.int .i64 l, .int .i64 (tot L'), .int .i64 m]) (hk : Keeps (rg :: rm :: vL.ownBlock.toList ++ vC.ownBlock.toList) w w') (hl : tot L' ≤ l) : RfO w0 rg rm w' l L' :=
  ⟨⟨vL', vC', m, h1, h2⟩, below_keeps h.bel hk (by
    intro x hx
    simp at hx
    rcases hx with rfl | rfl | hx | hx
    · exact h.big.1
    · exact h.big.2
    · exact (hA.ownL.lt x hx).1
    · exact (hA.ownC.lt x hx).1) h.bel.size, ⟨hl, h.lim.2⟩, h.big⟩

set_option maxHeartbeats 400000 in
theorem is_any (n : Nat) (i : Int) (w : World) :
    Calls Try.prog 30 #[.int .i64 (n : Int), .int .i64 i] w fun e w' => e = .returned (.bool (isIn n i)) ∧ w = w' := by
  go_enter Try.func30, Try.ntmps30
  by_cases h1 : i < 0
  · have h2 : ¬ 0 ≤ i := by omega
    go_wp2
    all_goals go_ret
    all_goals exact ⟨ret_bool (by rw [isIn_lo h1]), rfl⟩
  · have h0 : 0 ≤ i := by omega
    by_cases h2 : i < (n : Int)
    · go_wp2
      all_goals go_ret
      all_goals exact ⟨ret_bool (by rw [isIn_t h0 h2]), rfl⟩
    · go_wp2
      all_goals go_ret
      all_goals exact ⟨ret_bool (by rw [isIn_hi (by omega)]), rfl⟩

theorem own_in' {w : World} {B e size n cap : Nat} {ao : Option Addr} {xs : List Value} (h : w.ownsRow B e size (.slice ao n cap) n xs) (hn : 0 < n) : ∃ g, ao = some ⟨g, 0, none⟩ := by
  rcases h.2 with ⟨h1, h2⟩ | ⟨g, cap', cur, h1, _⟩
  · omega
  · simp at h1; exact ⟨g, h1.1⟩
theorem own_form' {w : World} {B e size n : Nat} {v : Value} {xs : List Value} (h : w.ownsRow B e size v n xs) : ∃ ao cap, v = .slice ao n cap ∧ n ≤ cap ∧ cap ≤ 9223372036854775807 := by
  rcases own_shape h with ⟨rfl, e, _⟩ | ⟨g', cap, rfl, h1, h2, _⟩
  · rw [e]; exact ⟨_, _, rfl, Nat.le_refl _, by omega⟩
  · exact ⟨_, _, rfl, h1, by unfold maxLen at h2; omega⟩

set_option maxHeartbeats 800000 in
theorem rcells_any (w : World) (B rg rm : Nat) (vL vC : Value) (L : List (Int × Int)) (hA : Rf w B rg rm vL vC L) :
    Calls Try.prog 17 #[.pointer (some ⟨rg, 0, none⟩)] w fun e w' => e = .returned (.int .i64 (tot L)) ∧ w = w' := by
  have hnn : (L.length : Int) ≤ 1099511627776 := Int.le_trans (len_le_tot hA.pos) hA.most
  obtain ⟨ao, cap, rfl, hcl, hcm⟩ := own_form' hA.ownC
  have HA := Lib.hid hA
  have c2 := hA.at_.cell 2
  simp at c2
  clear hA
  go_enter Try.func17, Try.ntmps17
  go_wp2_with fail
  go_loopw [3, 4] (fun s i wr => ∃ j : Nat, j ≤ L.length ∧ i = .int .i64 (j : Int) ∧ s = .int .i64 (tot (L.take j)) ∧ wr = w) (fun _ i _ => L.length - (intOf i).toNat)
  case atStart => exact ⟨0, by omega, rfl, rfl, rfl⟩
  case round =>
    obtain ⟨j, hj, rfl, rfl, rfl⟩ := hrel
    have hb0 : 0 ≤ tot (L.take j) := tot_nonneg (fun p hp => HA.out.pos p (List.mem_of_mem_take hp))
    by_cases hlt : j < L.length
    · obtain ⟨p, hp⟩ : ∃ p, L[j]? = some p := ⟨_, List.getElem?_eq_getElem (by omega)⟩
      have hstep : tot (L.take (j + 1)) = tot (L.take j) + p.2 := tot_take_succ hp
      have h5 := tot_split L (j + 1)
      have h6 : 0 ≤ tot (L.drop (j + 1)) := tot_nonneg (fun p hp => HA.out.pos p (List.mem_of_mem_drop hp))
      have h7 := HA.out.most
      have hp1 : 1 ≤ p.2 := HA.out.pos p (List.mem_of_getElem? hp)
      have hp3 : tot (L.take j) + p.2 ≤ 1099511627776 := by omega
      obtain ⟨gv, rfl⟩ := own_in' HA.out.ownC (by omega)
      have d0 := HA.out.ownC.cellAt j (by omega)
      rw [snds, List.getElem?_map, hp] at d0
      simp at d0
      have HS := Lib.hid hstep
      clear hstep hp h5 h6 h7
      go_wp2
      go_roundw
      case rel => exact ⟨j + 1, by omega, by go_num, by rw [HS.out], trivial⟩
      case measure => simp [intOf]; omega
    · have hall : L.take j = L := List.take_of_length_le (by omega)
      rw [hall]
      go_wp2
      go_ret
      exact ⟨rfl, rfl⟩

end Go.Proofs.Ytnmmffpcbneccaa
