/-
  A slice of structs of two ints, as a walk reads it: 'Ops'; and how an argument of that shape is opened.
-/
import Derived.Test.YtpgmapjjjpcmfaaGreatDoorMem
import Derived.ProofKit
import Derived.OpenShut
import Derived.Deep.SlicePairs
namespace Go.Proofs.YtpgmapjjjpcmfaaGreatDoor
open Go.RowKit Go.ChangeShapes Go.WideShapes Go.ChangeAt

/-- The slice at A has n elements; element i's two cells hold the ints X i and Y i; they lie below block B. -/
structure Ops (w : World) (B : Nat) (A : Option Addr) (n : Nat) (X Y : Nat → Int) : Prop where
  each : ∀ i, i < n → ∃ b o, A = some ⟨b, o, none⟩ ∧ b < B ∧ w.cell? ⟨b, o + i * 2, none⟩ = some (.int .i64 (X i)) ∧ w.cell? ⟨b, o + i * 2 + 1, none⟩ = some (.int .i64 (Y i))
  rx : ∀ i, i < n → -9223372036854775808 ≤ X i ∧ X i ≤ 9223372036854775807
  ry : ∀ i, i < n → -9223372036854775808 ≤ Y i ∧ Y i ≤ 9223372036854775807
  len : n ≤ 9223372036854775807

theorem Ops.below {w w' : World} {B : Nat} {A : Option Addr} {n : Nat} {X Y : Nat → Int} (h : Ops w B A n X Y) (hb : Below B w w') : Ops w' B A n X Y :=
  ⟨fun i hi => by
    obtain ⟨b, o, h1, h2, h3, h4⟩ := h.each i hi
    exact ⟨b, o, h1, h2, (hb.cell (p := ⟨b, _, none⟩) h2).trans h3, (hb.cell (p := ⟨b, _, none⟩) h2).trans h4⟩, h.rx, h.ry, h.len⟩

theorem cell_spot {w : World} {a : Addr} {v : Value} (h : w.cell? a = some v) : a.block < w.heap.size ∧ a.spot = none := by
  unfold World.cell? at h
  split at h
  · rename_i c t f e
    refine ⟨(Array.getElem?_eq_some_iff.1 e).1, ?_⟩
    split at h
    · cases h
    · rename_i hs; simpa using hs
  · cases h
theorem same_addr {b o b' o' : Nat} (h : (some ⟨b, o, none⟩ : Option Addr) = some ⟨b', o', none⟩) : b = b' ∧ o = o' := by
  injection h with h; injection h with h1 h2; exact ⟨h1, h2⟩
theorem maxLen_le {n : Nat} (h : n ≤ maxLen) : n ≤ 9223372036854775807 := by unfold maxLen at h; omega

section
variable {H : Type} {enc : TypeId × Value → H} {P : Program} {W : World} {base : Nat} {v : Value} {d : DataW H} {p : List MemPlace}

theorem at_zero {a : Addr} {u : Value} (h : W.cell? a = some u) : ∃ b o, a = ⟨b, o, none⟩ ∧ b < W.heap.size := by
  obtain ⟨hlt, hsp⟩ := cell_spot h
  obtain ⟨b, o, sp⟩ := a
  obtain rfl : sp = none := hsp
  exact ⟨b, o, rfl, hlt⟩

theorem open_ops {t e : TypeId} {f0 f1 : Field} (ht : P.underlying t = some (.slice e)) (he : P.underlying e = some (.struct #[f0, f1])) (ce : P.cellsOf e = 2) (o0 : f0.offset = 0) (o1 : f1.offset = 1)
    (c0 : P.cellsOf f0.type = 1) (c1 : P.cellsOf f1.type = 1) (i0 : P.underlying f0.type = some (.int .i64)) (i1 : P.underlying f1.type = some (.int .i64))
    (hv : Value.okWide P W .any base t v) (h : DataW.Trod enc P W 0 (fun _ => true) true t v d p) :
    ∃ A n c X Y, v = .slice A n c ∧ Ops W W.heap.size A n X Y := by
  obtain ⟨A, n, c, rfl⟩ := okWide_slice ht hv
  obtain ⟨fuel, hf⟩ := h
  rcases Go.Deep.open_slice_pairs ht he ce o0 o1 c0 c1 hf with ⟨hcs, _⟩ | ⟨a, len, cap, m, k, V0, V1, D0, D1, P0, P1, hcs, hb, hl, hm, hmm, hx, hi⟩
  · simp [Value.cells] at hcs
    obtain ⟨rfl, rfl, rfl⟩ := hcs
    exact ⟨_, _, _, fun _ => 0, fun _ => 0, rfl, fun i hi => by omega, fun i hi => by omega, fun i hi => by omega, by omega⟩
  · simp [Value.cells] at hcs
    obtain ⟨rfl, rfl, rfl⟩ := hcs
    have hlm : n ≤ m := by rw [hmm]; split <;> omega
    have hread : ∀ i, i < n → ∃ x : Int × Int, V0 i = .int .i64 x.1 ∧ V1 i = .int .i64 x.2 ∧ (Lit.int .i64 x.1).wf = true ∧ (Lit.int .i64 x.2).wf = true := by
      intro i hin
      obtain ⟨_, _, t0, t1⟩ := hi i (by omega)
      obtain ⟨x0, e0, _, w0⟩ := DataW.trod_int i0 t0
      obtain ⟨x1, e1, _, w1⟩ := DataW.trod_int i1 t1
      simp at e0 e1
      exact ⟨(x0, x1), e0, e1, w0, w1⟩
    obtain ⟨Z, hZ⟩ := Go.Deep.choose_lt hread
    refine ⟨_, _, _, fun i => (Z i).1, fun i => (Z i).2, rfl, fun i hin => ?_, fun i hin => ?_, fun i hin => ?_, maxLen_le (by omega)⟩
    · obtain ⟨g0, g1, _, _⟩ := hi i (by omega)
      rw [(hZ i hin).1] at g0
      rw [(hZ i hin).2.1] at g1
      obtain ⟨g00, _, _, _⟩ := hi 0 (by omega)
      obtain ⟨ab, ao, rfl, hlt⟩ := at_zero (a := a) (by simpa [Addr.add] using g00)
      rw [Go.WideShapes.add_plain] at g0 g1
      exact ⟨ab, ao, rfl, hlt, g0, g1⟩
    · simpa [Lit.wf, IntKind.min, IntKind.max, IntKind.signed, IntKind.bits] using (hZ i hin).2.2.1
    · simpa [Lit.wf, IntKind.min, IntKind.max, IntKind.signed, IntKind.bits] using (hZ i hin).2.2.2

/-- The slice at A has n elements, the ints X i; they lie below block B. -/
structure Nums (w : World) (B : Nat) (A : Option Addr) (n : Nat) (X : Nat → Int) : Prop where
  each : ∀ i, i < n → ∃ b o, A = some ⟨b, o, none⟩ ∧ b < B ∧ w.cell? ⟨b, o + i, none⟩ = some (.int .i64 (X i))
  rx : ∀ i, i < n → -9223372036854775808 ≤ X i ∧ X i ≤ 9223372036854775807
  len : n ≤ 9223372036854775807

theorem Nums.below {w w' : World} {B : Nat} {A : Option Addr} {n : Nat} {X : Nat → Int} (h : Nums w B A n X) (hb : Below B w w') : Nums w' B A n X :=
  ⟨fun i hi => by
    obtain ⟨b, o, h1, h2, h3⟩ := h.each i hi
    exact ⟨b, o, h1, h2, (hb.cell (p := ⟨b, _, none⟩) h2).trans h3⟩, h.rx, h.len⟩

theorem open_nums {t e : TypeId} (ht : P.underlying t = some (.slice e)) (he : P.underlying e = some (.int .i64)) (ce : P.cellsOf e = 1)
    (hv : Value.okWide P W .any base t v) (h : DataW.Trod enc P W 0 (fun _ => true) true t v d p) :
    ∃ A n c X, v = .slice A n c ∧ Nums W W.heap.size A n X := by
  obtain ⟨A, n, c, rfl⟩ := okWide_slice ht hv
  obtain ⟨fuel, hf⟩ := h
  rcases Go.Deep.open_slice1 ht ce hf with ⟨hcs, _⟩ | ⟨a, len, cap, m, k, V, D, Pl, hcs, hb, hl, hm, hmm, hx, hi⟩
  · simp [Value.cells] at hcs
    obtain ⟨rfl, rfl, rfl⟩ := hcs
    exact ⟨_, _, _, fun _ => 0, rfl, fun i hi => by omega, fun i hi => by omega, by omega⟩
  · simp [Value.cells] at hcs
    obtain ⟨rfl, rfl, rfl⟩ := hcs
    have hlm : n ≤ m := by rw [hmm]; split <;> omega
    have hread : ∀ i, i < n → ∃ x : Int, V i = .int .i64 x ∧ (Lit.int .i64 x).wf = true := by
      intro i hin
      obtain ⟨_, t0⟩ := hi i (by omega)
      obtain ⟨x0, e0, _, w0⟩ := DataW.trod_int he t0
      simp at e0
      exact ⟨x0, e0, w0⟩
    obtain ⟨Z, hZ⟩ := Go.Deep.choose_lt hread
    refine ⟨_, _, _, Z, rfl, fun i hin => ?_, fun i hin => ?_, maxLen_le (by omega)⟩
    · obtain ⟨g0, _⟩ := hi i (by omega)
      rw [(hZ i hin).1] at g0
      obtain ⟨g00, _⟩ := hi 0 (by omega)
      obtain ⟨ab, ao, rfl, hlt⟩ := at_zero (a := a) (by simpa [Addr.add] using g00)
      rw [Go.WideShapes.add_plain] at g0
      exact ⟨ab, ao, rfl, hlt, g0⟩
    · simpa [Lit.wf, IntKind.min, IntKind.max, IntKind.signed, IntKind.bits] using (hZ i hin).2
end

end Go.Proofs.YtpgmapjjjpcmfaaGreatDoor
