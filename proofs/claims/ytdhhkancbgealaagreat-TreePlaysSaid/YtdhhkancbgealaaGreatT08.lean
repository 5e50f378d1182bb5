import Derived.Test.YtdhhkancbgealaaGreatT01
namespace Go.Proofs.YtdhhkancbgealaaGreat
open Go.RowKit
set_option linter.unusedVariables false
structure Spares (ts : List TypeId) (w w' : World) : Prop where
  size : w.heap.size ≤ w'.heap.size
  block : ∀ (k : Nat) (cs : Array Value) (t : TypeId), t ∉ ts → w.heap[k]? = some (.cells cs t (0, 0)) → w'.heap[k]? = some (.cells cs t (0, 0))
section
variable {ts ts' : List TypeId} {a w w' : World}
theorem Spares.refl (ts : List TypeId) (w : World) : Spares ts w w := ⟨Nat.le_refl _, fun _ _ _ _ h => h⟩
theorem Spares.trans (h : Spares ts a w) (k : Spares ts w w') : Spares ts a w' := ⟨Nat.le_trans h.size k.size, fun i cs t ht hi => k.block i cs t ht (h.block i cs t ht hi)⟩
theorem Spares.mono (h : Spares ts a w) (hs : ∀ t ∈ ts, t ∈ ts') : Spares ts' a w := ⟨h.size, fun i cs t ht hi => h.block i cs t (fun hm => ht (hs t hm)) hi⟩
theorem Keeps.spares {S : List Nat} (h : Keeps S w w') (hS : ∀ k ∈ S, ∀ (cs : Array Value) (t : TypeId), w.heap[k]? = some (.cells cs t (0, 0)) → t ∈ ts) : Spares ts w w' :=
  ⟨h.size, fun k cs t ht hk => by
    by_cases hm : k ∈ S
    · exact absurd (hS k hm cs t hk) ht
    · rw [h.block k (Array.getElem?_eq_some_iff.1 hk).1 hm]; exact hk⟩
theorem Spares.drewN (h : Spares ts a w) (n : Nat) : Spares ts a (w.drewN n) := ⟨h.size, h.block⟩
theorem Spares.alloc (h : Spares ts a w) (o : Obj) : Spares ts a (w.alloc o) :=
  ⟨Nat.le_trans h.size (by simp), fun k cs t ht hk => by
    have := h.block k cs t ht hk
    rw [Below.heap_alloc w o k (Array.getElem?_eq_some_iff.1 this).1]; exact this⟩
theorem At.spares {g : Nat} {t : TypeId} {cs : Array Value} (h : At w g t cs) (hs : Spares ts w w') (ht : t ∉ ts) : At w' g t cs := hs.block g cs t ht h
theorem At.type {g : Nat} {t t' : TypeId} {cs cs' : Array Value} (h : At w g t cs) (h' : w.heap[g]? = some (.cells cs' t' (0, 0))) : t' = t := by
  unfold At at h
  rw [h] at h'
  simp at h'
  exact h'.2.symm
theorem own_type {B e size n g : Nat} {t : TypeId} {cs : Array Value} {v : Value} {xs : List Value} (h : w.ownsRow B e size v n xs) (hg : v.ownBlock = some g) (ha : w.heap[g]? = some (.cells cs t (0, 0))) : t = e := by
  rcases h.2 with ⟨rfl, _⟩ | ⟨g', cap, cur, rfl, _, hgg, _⟩
  · simp [Value.ownBlock] at hg
  · simp [Value.ownBlock] at hg
    subst hg
    rw [hgg] at ha
    simp at ha
    exact ha.2.symm
theorem own_spares {B e size n : Nat} {v : Value} {xs : List Value} (h : w.ownsRow B e size v n xs) (hs : Spares ts w w') (he : e ∉ ts) : w'.ownsRow B e size v n xs := by
  refine ⟨h.1, ?_⟩
  rcases h.2 with hn | ⟨g, cap, cur, rfl, hb, hgg, rest⟩
  · exact .inl hn
  · exact .inr ⟨g, cap, cur, rfl, hb, hs.block g cur e he hgg, rest⟩
end
end Go.Proofs.YtdhhkancbgealaaGreat
