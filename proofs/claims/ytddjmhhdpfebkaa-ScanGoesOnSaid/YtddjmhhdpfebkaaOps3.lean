import Derived.Test.YtddjmhhdpfebkaaOps
import Derived.Deep.Fields
namespace Go.Proofs.Ytddjmhhdpfebkaa
open Go.RowKit Go.ChangeShapes Go.WideShapes Go.ChangeAt
section
variable {H : Type} {enc : TypeId × Value → H} {P : Program} {W : World} {base : Nat} {v : Value} {d : DataW H} {p : List MemPlace}
theorem open_fields {t e : TypeId} {fs : Array Field} (ht : P.underlying t = some (.slice e)) (he : P.underlying e = some (.struct fs)) (ce : P.cellsOf e = fs.size) (h0 : 0 < fs.size) (hone : Go.Deep.oneCellFields P fs = true)
  (hv : Value.okWide P W .any base t v) (h : DataW.Trod enc P W 0 (fun _ => true) true t v d p) :
  ∃ A n c, ∃ V : Nat → Nat → Value, v = .slice A n c ∧ n ≤ 9223372036854775807 ∧ ∀ i, i < n →
   (∃ b o, A = some ⟨b, o, none⟩ ∧ b < W.heap.size ∧ ∀ j, j < fs.size → W.cell? ⟨b, o + i * fs.size + j, none⟩ = some (V i j)) ∧
   ∀ (j : Nat) (f : Field), fs[j]? = some f → ∃ k y, DataW.trod enc P W 0 (fun _ => true) true k f.type [V i j] = some y := by
 obtain ⟨A, n, c, rfl⟩ := okWide_slice ht hv
 obtain ⟨fuel, hf⟩ := h
 rcases Go.Deep.open_slice ht hf with ⟨hcs, _⟩ | ⟨a, len, cap, m, k, D, Pl, hcs, hb, hl, hm, hmm, hx, hi⟩
 ·simp [Value.cells] at hcs
  obtain ⟨rfl, rfl, rfl⟩ := hcs
  exact ⟨_, _, _, fun _ _ => .int .i64 0, rfl, by omega, fun i hi => by omega⟩
 ·simp [Value.cells] at hcs
  obtain ⟨rfl, rfl, rfl⟩ := hcs
  have hlm : n ≤ m := by rw [hmm]; split <;> omega
  have hread : ∀ i, i < n → ∃ V : Nat → Value, (∀ j, j < fs.size → W.cell? (a.add (i * fs.size + j)) = some (V j)) ∧
    ∀ (j : Nat) (f : Field), fs[j]? = some f → ∃ k y, DataW.trod enc P W 0 (fun _ => true) true k f.type [V j] = some y := by
   intro i hin
   obtain ⟨cs', h1, h2⟩ := hi i (by omega)
   rw [ce] at h1
   obtain ⟨_, hlen, hcell⟩ := World.cells?_some h1
   obtain ⟨xs, q, _, _, _, hxl, hfs⟩ := DataW.trod_struct he h2
   refine ⟨fun j => cs'.getD j (.int .i64 0), fun j hj => ?_, fun j f hjf => ?_⟩
   ·have := hcell j hj
    rw [Go.Deep.add_add] at this
    rw [this]; simp [List.getD, List.getElem?_eq_getElem (show j < cs'.length by omega)]
   ·have hlt : j < fs.size := (Array.getElem?_eq_some_iff.1 hjf).1
    obtain ⟨o1, o2⟩ := Go.Deep.hone_of hone j f hjf
    have := hfs j f hjf
    rw [o1, o2, Go.Deep.take1_drop cs' j (.int .i64 0) (by omega), List.getElem?_eq_getElem (by omega)] at this
    exact ⟨_, _, this⟩
  obtain ⟨Z, hZ⟩ := Go.Deep.choose_lt (α := Nat → Value) hread
  refine ⟨_, _, _, Z, rfl, maxLen_le (by omega), fun i hin => ⟨?_, (hZ i hin).2⟩⟩
  have g0 := (hZ 0 (by omega)).1 0 h0
  obtain ⟨ab, ao, rfl, hlt⟩ := at_zero (a := a) (by simpa [Addr.add] using g0)
  refine ⟨ab, ao, rfl, hlt, fun j hj => ?_⟩
  have := (hZ i hin).1 j hj
  rw [Go.WideShapes.add_plain, ← Nat.add_assoc] at this
  exact this
structure Ops3 (w : World) (B : Nat) (A : Option Addr) (n : Nat) (X Y Z : Nat → Int) : Prop where
 each : ∀ i, i < n → ∃ b o, A = some ⟨b, o, none⟩ ∧ b < B ∧ w.cell? ⟨b, o + i * 3, none⟩ = some (.int .i64 (X i)) ∧ w.cell? ⟨b, o + i * 3 + 1, none⟩ = some (.int .i64 (Y i)) ∧ w.cell? ⟨b, o + i * 3 + 2, none⟩ = some (.int .i64 (Z i))
 rx : ∀ i, i < n → -9223372036854775808 ≤ X i ∧ X i ≤ 9223372036854775807
 ry : ∀ i, i < n → -9223372036854775808 ≤ Y i ∧ Y i ≤ 9223372036854775807
 rz : ∀ i, i < n → -9223372036854775808 ≤ Z i ∧ Z i ≤ 9223372036854775807
 len : n ≤ 9223372036854775807
theorem Ops3.below {w w' : World} {B : Nat} {A : Option Addr} {n : Nat} {X Y Z : Nat → Int} (h : Ops3 w B A n X Y Z) (hb : Below B w w') : Ops3 w' B A n X Y Z :=
 ⟨fun i hi => by
  obtain ⟨b, o, h1, h2, h3, h4, h5⟩ := h.each i hi
  exact ⟨b, o, h1, h2, (hb.cell (p := ⟨b, _, none⟩) h2).trans h3, (hb.cell (p := ⟨b, _, none⟩) h2).trans h4, (hb.cell (p := ⟨b, _, none⟩) h2).trans h5⟩, h.rx, h.ry, h.rz, h.len⟩
theorem int_field {k : Nat} {t : TypeId} {u : Value} {y : DataW H × List MemPlace} (ht : P.underlying t = some (.int .i64)) (h : DataW.trod enc P W 0 (fun _ => true) true k t [u] = some y) :
  ∃ x : Int, u = .int .i64 x ∧ -9223372036854775808 ≤ x ∧ x ≤ 9223372036854775807 := by
 obtain ⟨x, e, _, hw⟩ := DataW.trod_int ht h
 simp at e
 exact ⟨x, e, by simpa [Lit.wf, IntKind.min, IntKind.max, IntKind.signed, IntKind.bits] using hw⟩
theorem open_ops3 {t e : TypeId} {f0 f1 f2 : Field} (ht : P.underlying t = some (.slice e)) (he : P.underlying e = some (.struct #[f0, f1, f2])) (ce : P.cellsOf e = 3) (hone : Go.Deep.oneCellFields P #[f0, f1, f2] = true)
  (i0 : P.underlying f0.type = some (.int .i64)) (i1 : P.underlying f1.type = some (.int .i64)) (i2 : P.underlying f2.type = some (.int .i64))
  (hv : Value.okWide P W .any base t v) (h : DataW.Trod enc P W 0 (fun _ => true) true t v d p) :
  ∃ A n c X Y Z, v = .slice A n c ∧ Ops3 W W.heap.size A n X Y Z := by
 obtain ⟨A, n, c, V, rfl, hn, hV⟩ := open_fields ht he ce (by simp) hone hv h
 have hread : ∀ i, i < n → ∃ x : Int × Int × Int, V i 0 = .int .i64 x.1 ∧ V i 1 = .int .i64 x.2.1 ∧ V i 2 = .int .i64 x.2.2 ∧ (-9223372036854775808 ≤ x.1 ∧ x.1 ≤ 9223372036854775807) ∧
   (-9223372036854775808 ≤ x.2.1 ∧ x.2.1 ≤ 9223372036854775807) ∧ (-9223372036854775808 ≤ x.2.2 ∧ x.2.2 ≤ 9223372036854775807) := by
  intro i hin
  obtain ⟨_, hf⟩ := hV i hin
  obtain ⟨k0, y0, t0⟩ := hf 0 f0 rfl
  obtain ⟨k1, y1, t1⟩ := hf 1 f1 rfl
  obtain ⟨k2, y2, t2⟩ := hf 2 f2 rfl
  obtain ⟨x0, e0, w0⟩ := int_field i0 t0
  obtain ⟨x1, e1, w1⟩ := int_field i1 t1
  obtain ⟨x2, e2, w2⟩ := int_field i2 t2
  exact ⟨(x0, x1, x2), e0, e1, e2, w0, w1, w2⟩
 obtain ⟨Q, hQ⟩ := Go.Deep.choose_lt hread
 refine ⟨A, n, c, fun i => (Q i).1, fun i => (Q i).2.1, fun i => (Q i).2.2, rfl, fun i hin => ?_, fun i hin => (hQ i hin).2.2.2.1, fun i hin => (hQ i hin).2.2.2.2.1, fun i hin => (hQ i hin).2.2.2.2.2, hn⟩
 obtain ⟨⟨b, o, hA, hb, hc⟩, _⟩ := hV i hin
 have c0 := hc 0 (by simp)
 have c1 := hc 1 (by simp)
 have c2 := hc 2 (by simp)
 rw [(hQ i hin).1] at c0
 rw [(hQ i hin).2.1] at c1
 rw [(hQ i hin).2.2.1] at c2
 exact ⟨b, o, hA, hb, by simpa using c0, by simpa using c1, by simpa using c2⟩
structure Ones (w : World) (B : Nat) (A : Option Addr) (n : Nat) (V : Nat → Value) : Prop where
 each : ∀ i, i < n → ∃ b o, A = some ⟨b, o, none⟩ ∧ b < B ∧ w.cell? ⟨b, o + i, none⟩ = some (V i)
 len : n ≤ 9223372036854775807
theorem Ones.below {w w' : World} {B : Nat} {A : Option Addr} {n : Nat} {V : Nat → Value} (h : Ones w B A n V) (hb : Below B w w') : Ones w' B A n V :=
 ⟨fun i hi => by
  obtain ⟨b, o, h1, h2, h3⟩ := h.each i hi
  exact ⟨b, o, h1, h2, (hb.cell (p := ⟨b, _, none⟩) h2).trans h3⟩, h.len⟩
theorem open_ones {t e : TypeId} (ht : P.underlying t = some (.slice e)) (ce : P.cellsOf e = 1)
  (hv : Value.okWide P W .any base t v) (h : DataW.Trod enc P W 0 (fun _ => true) true t v d p) :
  ∃ A n c V, v = .slice A n c ∧ Ones W W.heap.size A n V ∧ ∀ i, i < n → ∃ k y, DataW.trod enc P W 0 (fun _ => true) true k e [V i] = some y := by
 obtain ⟨A, n, c, rfl⟩ := okWide_slice ht hv
 obtain ⟨fuel, hf⟩ := h
 rcases Go.Deep.open_slice1 ht ce hf with ⟨hcs, _⟩ | ⟨a, len, cap, m, k, V, D, Pl, hcs, hb, hl, hm, hmm, hx, hi⟩
 ·simp [Value.cells] at hcs
  obtain ⟨rfl, rfl, rfl⟩ := hcs
  exact ⟨_, _, _, fun _ => .int .i64 0, rfl, ⟨fun i hi => by omega, by omega⟩, fun i hi => by omega⟩
 ·simp [Value.cells] at hcs
  obtain ⟨rfl, rfl, rfl⟩ := hcs
  have hlm : n ≤ m := by rw [hmm]; split <;> omega
  refine ⟨_, _, _, V, rfl, ⟨fun i hin => ?_, maxLen_le (by omega)⟩, fun i hin => ⟨_, _, (hi i (by omega)).2⟩⟩
  obtain ⟨g0, _⟩ := hi i (by omega)
  obtain ⟨g00, _⟩ := hi 0 (by omega)
  obtain ⟨ab, ao, rfl, hlt⟩ := at_zero (a := a) (by simpa [Addr.add] using g00)
  rw [Go.WideShapes.add_plain] at g0
  exact ⟨ab, ao, rfl, hlt, g0⟩
structure Strs (w : World) (B : Nat) (A : Option Addr) (n : Nat) (S : Nat → ByteArray) : Prop where
 ones : Ones w B A n (fun i => .string (S i))
 size : ∀ i, i < n → (S i).size ≤ 9223372036854775807
theorem Strs.below {w w' : World} {B : Nat} {A : Option Addr} {n : Nat} {S : Nat → ByteArray} (h : Strs w B A n S) (hb : Below B w w') : Strs w' B A n S := ⟨h.ones.below hb, h.size⟩
theorem open_strs {t e : TypeId} (ht : P.underlying t = some (.slice e)) (he : P.underlying e = some .string) (ce : P.cellsOf e = 1)
  (hv : Value.okWide P W .any base t v) (h : DataW.Trod enc P W 0 (fun _ => true) true t v d p) :
  ∃ A n c S, v = .slice A n c ∧ Strs W W.heap.size A n S := by
 obtain ⟨A, n, c, V, rfl, hO, hV⟩ := open_ones ht ce hv h
 have hread : ∀ i, i < n → ∃ s : ByteArray, V i = .string s ∧ s.size ≤ maxLen := by
  intro i hin
  obtain ⟨k, y, t0⟩ := hV i hin
  obtain ⟨s, e0, _, hs⟩ := DataW.trod_string he t0
  simp at e0
  exact ⟨s, e0, hs⟩
 obtain ⟨S, hS⟩ := Go.Deep.choose_lt (α := ByteArray) hread
 refine ⟨A, n, c, S, rfl, ⟨fun i hin => ?_, hO.len⟩, fun i hin => maxLen_le (hS i hin).2⟩
 obtain ⟨b, o, h1, h2, h3⟩ := hO.each i hin
 exact ⟨b, o, h1, h2, by rw [h3, (hS i hin).1]⟩
def Bools (w : World) (B : Nat) (A : Option Addr) (n : Nat) (S : Nat → Bool) : Prop := Ones w B A n (fun i => .bool (S i))
theorem open_bools {t e : TypeId} (ht : P.underlying t = some (.slice e)) (he : P.underlying e = some .bool) (ce : P.cellsOf e = 1)
  (hv : Value.okWide P W .any base t v) (h : DataW.Trod enc P W 0 (fun _ => true) true t v d p) :
  ∃ A n c S, v = .slice A n c ∧ Bools W W.heap.size A n S := by
 obtain ⟨A, n, c, V, rfl, hO, hV⟩ := open_ones ht ce hv h
 have hread : ∀ i, i < n → ∃ s : Bool, V i = .bool s := by
  intro i hin
  obtain ⟨k, y, t0⟩ := hV i hin
  obtain ⟨s, e0, _⟩ := DataW.trod_bool he t0
  simp at e0
  exact ⟨s, e0⟩
 obtain ⟨S, hS⟩ := Go.Deep.choose_lt (α := Bool) hread
 refine ⟨A, n, c, S, rfl, fun i hin => ?_, hO.len⟩
 obtain ⟨b, o, h1, h2, h3⟩ := hO.each i hin
 exact ⟨b, o, h1, h2, by rw [h3, hS i hin]⟩
end
end Go.Proofs.Ytddjmhhdpfebkaa
