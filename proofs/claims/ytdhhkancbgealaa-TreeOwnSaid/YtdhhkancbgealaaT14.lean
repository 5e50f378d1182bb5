import Derived.Test.YtdhhkancbgealaaT13
import Derived.Test.YtdhhkancbgealaaT02
section
namespace Go.Proofs.Ytdhhkancbgealaa
open Go.RowKit
open Lx
set_option linter.unusedVariables false
set_option linter.unusedSimpArgs false
set_option maxRecDepth 100000
theorem infoInts : (Try.prog.info? 3).map (fun i => (i.zero, i.size, i.bytes)) = some (some (.int .i64 0), 1, 8) := by kernel_rfl
structure LevsA (w : World) (B : Nat) (A : Option Addr) (L : List Rd.Lev) : Prop where
 ex : ∃ pl, Cl w B A (levsC pl) ∧ pl.map (·.1) = L ∧ (∀ p ∈ pl, NmC w B p.2.1 p.1.names) ∧ ∀ p ∈ pl, p.2.2 = (p.1.assoc : Int)
theorem LevsA.below {w w' : World} {B : Nat} {A : Option Addr} {L : List Rd.Lev} (h : LevsA w B A L) (hb : Below B w w') : LevsA w' B A L := by
 obtain ⟨pl, h1, h2, h3, h4⟩ := h.ex
 exact ⟨pl, h1.below hb, h2, fun p hp => (h3 p hp).below hb, h4⟩
theorem LevsA.get {w : World} {B : Nat} {A : Option Addr} {L : List Rd.Lev} (h : LevsA w B A L) {k : Nat} {v : Rd.Lev} (hk : L[k]? = some v) :
  ∃ b o A' c', A = some ⟨b, o, none⟩ ∧ b < B ∧ w.cell? ⟨b, o + k * 2, none⟩ = some (.int .i64 (v.assoc : Int)) ∧ w.cell? ⟨b, o + k * 2 + 1, none⟩ = some (.slice A' v.names.length c') ∧ Cl w B A' (namesV v.names) := by
 obtain ⟨pl, h1, h2, h3, h5⟩ := h.ex
 have hk2 := hk
 rw [← h2, List.getElem?_map, Option.map_eq_some_iff] at hk2
 obtain ⟨p, hp, rfl⟩ := hk2
 obtain ⟨A', c', e, hc⟩ := h3 p (List.mem_of_getElem? hp)
 have hv := fun j u (hj : j < 2) (hu : (levC p)[j]? = some u) => flat_get levC 2 (fun _ => rfl) pl k j p u hp hj hu
 obtain ⟨b, o, rfl, hb, hcell⟩ := h1.ex (fun e => by
  have h : (levsC pl)[k * 2 + 0]? = some (.int .i64 p.2.2) := hv 0 _ (by omega) rfl
  rw [e] at h; simp at h)
 refine ⟨b, o, A', c', rfl, hb, ?_, ?_, hc⟩
 ·rw [← h5 p (List.mem_of_getElem? hp)]
  exact hcell _ _ (hv 0 _ (by omega) rfl)
 ·rw [Nat.add_assoc, ← e]
  exact hcell _ _ (hv 1 _ (by omega) rfl)
theorem GramC.levsA {w : World} {B : Nat} {v : Value} {G : Rd.G} (h : GramC w B v G) (ha : ∀ x ∈ G.levels, 1 ≤ x.assoc) : ∃ A1 n1 c1 A2 n2 c2 A3 c3 st A4 n4 c4, v = .agg #[.slice A1 n1 c1, .slice A2 n2 c2, .slice A3 G.levels.length c3, .string st, .slice A4 n4 c4] ∧ LevsA w B A3 G.levels := by
 obtain ⟨A1, c1, A2, c2, A3, c3, A4, c4, pl, ql, h0, h1, h2, h3, h4, h5, h6, h7, h8⟩ := h.ex
 refine ⟨_, _, _, _, _, _, A3, c3, _, _, _, _, h0, pl, h3, h4, fun p hp => (h5 p hp).2, fun p hp => ?_⟩
 have h9 := ha p.1 (by rw [← h4]; exact List.mem_map.2 ⟨p, hp, rfl⟩)
 rw [(h5 p hp).1] at h9
 rw [(h5 p hp).1]
 exact encA_of h9
end Go.Proofs.Ytdhhkancbgealaa
end
section
namespace Go.Proofs.Ytdhhkancbgealaa
open Go.RowKit
set_option linter.unusedVariables false
structure Spares (ts : List TypeId) (w w' : World) : Prop where
 size : w.heap.size ≤ w'.heap.size
 block : ∀ (k : Nat) (cs : Array Value) (t : TypeId), t ∉ ts → w.heap[k]? = some (.cells cs t (0, 0)) → w'.heap[k]? = some (.cells cs t (0, 0))
section
variable {ts ts' : List TypeId} {a w w' : World}
theorem Spares.refl (ts : List TypeId) (w : World) : Spares ts w w := ⟨Nat.le_refl _, fun _ _ _ _ h => h⟩
theorem Spares.trans (h : Spares ts a w) (k : Spares ts w w') : Spares ts a w' := ⟨Nat.le_trans h.size k.size, fun i cs t ht hi => k.block i cs t ht (h.block i cs t ht hi)⟩
theorem Spares.mono (h : Spares ts a w) (hs : ∀ t ∈ ts, t ∈ ts') : Spares ts' a w := ⟨h.size, fun i cs t ht hi => h.block i cs t (fun hm => ht (hs t hm)) hi⟩
theorem Keeps.spares {S : List Nat} (h : Keeps S w w') (hS : ∀ k ∈ S, ∀ (cs : Array Value) (t : TypeId), w.heap[k]? = some (.cells cs t (0, 0)) → t ∈ ts) : Spares ts w w' :=
 ⟨h.size, fun k cs t ht hk => by
  by_cases hm : k ∈ S
  ·exact absurd (hS k hm cs t hk) ht
  ·rw [h.block k (Array.getElem?_eq_some_iff.1 hk).1 hm]; exact hk⟩
theorem Spares.drewN (h : Spares ts a w) (n : Nat) : Spares ts a (w.drewN n) := ⟨h.size, h.block⟩
theorem Spares.alloc (h : Spares ts a w) (o : Obj) : Spares ts a (w.alloc o) :=
 ⟨Nat.le_trans h.size (by simp), fun k cs t ht hk => by
  have := h.block k cs t ht hk
  rw [Below.heap_alloc w o k (Array.getElem?_eq_some_iff.1 this).1]; exact this⟩
theorem At.spares {g : Nat} {t : TypeId} {cs : Array Value} (h : At w g t cs) (hs : Spares ts w w') (ht : t ∉ ts) : At w' g t cs := hs.block g cs t ht h
theorem At.type {g : Nat} {t t' : TypeId} {cs cs' : Array Value} (h : At w g t cs) (h' : w.heap[g]? = some (.cells cs' t' (0, 0))) : t' = t := by
 unfold At at h
 rw [h] at h'
 simp at h'
 exact h'.2.symm
theorem own_type {B e size n g : Nat} {t : TypeId} {cs : Array Value} {v : Value} {xs : List Value} (h : w.ownsRow B e size v n xs) (hg : v.ownBlock = some g) (ha : w.heap[g]? = some (.cells cs t (0, 0))) : t = e := by
 rcases h.2 with ⟨rfl, _⟩ | ⟨g', cap, cur, rfl, _, hgg, _⟩
 ·simp [Value.ownBlock] at hg
 ·simp [Value.ownBlock] at hg
  subst hg
  rw [hgg] at ha
  simp at ha
  exact ha.2.symm
theorem own_spares {B e size n : Nat} {v : Value} {xs : List Value} (h : w.ownsRow B e size v n xs) (hs : Spares ts w w') (he : e ∉ ts) : w'.ownsRow B e size v n xs := by
 refine ⟨h.1, ?_⟩
 rcases h.2 with hn | ⟨g, cap, cur, rfl, hb, hgg, rest⟩
 ·exact .inl hn
 ·exact .inr ⟨g, cap, cur, rfl, hb, hs.block g cur e he hgg, rest⟩
end
end Go.Proofs.Ytdhhkancbgealaa
end
