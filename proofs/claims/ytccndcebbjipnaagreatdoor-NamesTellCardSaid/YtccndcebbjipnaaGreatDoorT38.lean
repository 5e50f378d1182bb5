import Derived.Test.YtccndcebbjipnaaGreatDoorT00
import Derived.Deep.Fields
import Derived.Test.YtccndcebbjipnaaGreatDoorT18
import Derived.Deep.Strs
import Derived.SizedLaws
section
namespace Go.Proofs.YtccndcebbjipnaaGreatDoor
open Go.RowKit Go.ChangeShapes Go.WideShapes Go.ChangeAt
section
variable {H : Type} {enc : TypeId × Value → H} {P : Program} {W : World} {base : Nat} {v : Value} {d : DataW H} {p : List MemPlace}
structure Ops3 (w : World) (B : Nat) (A : Option Addr) (n : Nat) (X Y Z : Nat → Int) : Prop where
  each : ∀ i, i < n → ∃ b o, A = some ⟨b, o, none⟩ ∧ b < B ∧ w.cell? ⟨b, o + i * 3, none⟩ = some (.int .i64 (X i)) ∧ w.cell? ⟨b, o + i * 3 + 1, none⟩ = some (.int .i64 (Y i)) ∧ w.cell? ⟨b, o + i * 3 + 2, none⟩ = some (.int .i64 (Z i))
  rx : ∀ i, i < n → -9223372036854775808 ≤ X i ∧ X i ≤ 9223372036854775807
  ry : ∀ i, i < n → -9223372036854775808 ≤ Y i ∧ Y i ≤ 9223372036854775807
  rz : ∀ i, i < n → -9223372036854775808 ≤ Z i ∧ Z i ≤ 9223372036854775807
  len : n ≤ 9223372036854775807
theorem Ops3.below {w w' : World} {B : Nat} {A : Option Addr} {n : Nat} {X Y Z : Nat → Int} (h : Ops3 w B A n X Y Z) (hb : Below B w w') : Ops3 w' B A n X Y Z :=
  ⟨fun i hi => by
    obtain ⟨b, o, h1, h2, h3, h4, h5⟩ := h.each i hi
    exact ⟨b, o, h1, h2, (hb.cell (p := ⟨b, _, none⟩) h2).trans h3, (hb.cell (p := ⟨b, _, none⟩) h2).trans h4, (hb.cell (p := ⟨b, _, none⟩) h2).trans h5⟩, h.rx, h.ry, h.rz, h.len⟩
structure Ones (w : World) (B : Nat) (A : Option Addr) (n : Nat) (V : Nat → Value) : Prop where
  each : ∀ i, i < n → ∃ b o, A = some ⟨b, o, none⟩ ∧ b < B ∧ w.cell? ⟨b, o + i, none⟩ = some (V i)
  len : n ≤ 9223372036854775807
theorem Ones.below {w w' : World} {B : Nat} {A : Option Addr} {n : Nat} {V : Nat → Value} (h : Ones w B A n V) (hb : Below B w w') : Ones w' B A n V :=
  ⟨fun i hi => by
    obtain ⟨b, o, h1, h2, h3⟩ := h.each i hi
    exact ⟨b, o, h1, h2, (hb.cell (p := ⟨b, _, none⟩) h2).trans h3⟩, h.len⟩
structure Strs (w : World) (B : Nat) (A : Option Addr) (n : Nat) (S : Nat → ByteArray) : Prop where
  ones : Ones w B A n (fun i => .string (S i))
  size : ∀ i, i < n → (S i).size ≤ 9223372036854775807
theorem Strs.below {w w' : World} {B : Nat} {A : Option Addr} {n : Nat} {S : Nat → ByteArray} (h : Strs w B A n S) (hb : Below B w w') : Strs w' B A n S := ⟨h.ones.below hb, h.size⟩
def Bools (w : World) (B : Nat) (A : Option Addr) (n : Nat) (S : Nat → Bool) : Prop := Ones w B A n (fun i => .bool (S i))
end
end Go.Proofs.YtccndcebbjipnaaGreatDoor
end
section
namespace Go.Proofs.YtccndcebbjipnaaGreatDoor
open Go.RowKit Go.ChangeShapes Go.WideShapes Go.ChangeAt
open Lx
set_option linter.unusedVariables false
set_option linter.unusedSimpArgs false
set_option maxRecDepth 100000
theorem flat_inv {α : Type} (f : α → List Value) (n : Nat) (hf : ∀ x, (f x).length = n) : ∀ (l : List α) (j : Nat) (u : Value), (l.flatMap f)[j]? = some u → ∃ (i r : Nat) (q : α), l[i]? = some q ∧ r < n ∧ j = i * n + r ∧ (f q)[r]? = some u
  | [], j, u, h => by simp at h
  | s :: t, j, u, h => by
    rw [List.flatMap_cons] at h
    by_cases hj : j < n
    · rw [List.getElem?_append_left (by rw [hf]; exact hj)] at h
      exact ⟨0, j, s, rfl, hj, by omega, h⟩
    · rw [List.getElem?_append_right (by rw [hf]; omega), hf] at h
      obtain ⟨i, r, q, h1, h2, h3, h4⟩ := flat_inv f n hf t (j - n) u h
      exact ⟨i + 1, r, q, by simpa using h1, h2, by rw [Nat.add_mul]; omega, h4⟩
theorem flat_ones {α : Type} (f : α → Value) (l : List α) : l.flatMap (fun x => [f x]) = l.map f := by
  induction l with
  | nil => rfl
  | cons a r ih => simp [List.flatMap_cons, ih]
section
variable {H : Type} {enc : TypeId × Value → H} {W : World}
def Fits (d : DataW H) (t : TypeId) : Prop := ∀ n ∈ d.weights Tryz.prog t, n ≤ reachBytes
theorem all_mem {e : TypeId} : ∀ {l : List (DataW H)} {d : DataW H}, d ∈ l → ∀ n ∈ d.weights Tryz.prog e, n ∈ DataW.weightsAll Tryz.prog e l
  | [], d, h, _, _ => by simp at h
  | a :: r, d, h, n, hn => by
    rw [DataW.weightsAll, List.mem_append]
    rcases List.mem_cons.1 h with h1 | h1
    · subst h1; exact .inl hn
    · exact .inr (all_mem h1 n hn)
theorem fits_agg {t : TypeId} {fs : Array Field} {ds : List (DataW H)} (ht : Tryz.prog.underlying t = some (.struct fs)) (hf : Fits (.agg ds) t) {j : Nat} {t' : TypeId} {d : DataW H} (h1 : (fs.toList.map (·.type))[j]? = some t') (h2 : ds[j]? = some d) : Fits d t' := fun n hn => by
  refine hf n ?_
  rw [DataW.weights, ht]
  exact DataW.weights_mem_each h1 h2 n hn
theorem cp3 : Tryz.prog.cellsOf 39 = 3 := by kernel_rfl
theorem slice_read {α : Type} (a0 : α) {t e : TypeId} {K : Nat} (f : α → List Value) (Q : α → Prop) (ht : Tryz.prog.underlying t = some (.slice e)) (ke : Tryz.prog.cellsOf e = K) (hK : 0 < K) (hby : 1 ≤ Tryz.prog.bytesOf e) (hlen : ∀ a, (f a).length = K)
    (hel : ∀ (k : Nat) (cs : List Value) (x : DataW H × List MemPlace), DataW.trod enc Tryz.prog W 0 (fun _ => true) true k e cs = some x → Fits x.1 e → ∃ a, cs = f a ∧ Q a)
    {k : Nat} {cs : List Value} {x : DataW H × List MemPlace} (h : DataW.trod enc Tryz.prog W 0 (fun _ => true) true k t cs = some x) (hf : Fits x.1 t) :
    ∃ A c, ∃ l : List α, cs = [.slice A l.length c] ∧ Cl W W.heap.size A (l.flatMap f) ∧ (∀ a ∈ l, Q a) ∧ l.length ≤ reachBytes := by
  rcases Go.Deep.open_slice ht h with ⟨rfl, _⟩ | ⟨a, len, cap, m, n, D, Pl, rfl, hb, hl, hm, hmm, rfl, hx⟩
  · exact ⟨none, 0, [], rfl, Cl.nil _ _ _, by simp, Nat.zero_le _⟩
  · have hlm : m = cap := by simpa using hmm
    have hfi : ∀ i, i < len → Fits (D i) e := fun i hi n hn => hf n (by
      rw [DataW.weights, ht]
      refine List.mem_cons_of_mem _ (List.mem_append_left _ (all_mem ?_ n hn))
      exact List.mem_map.2 ⟨i, List.mem_range.2 hi, rfl⟩)
    have hlr : len ≤ reachBytes := by
      have h1 := hf ((((List.range len).map D).length + ((List.range (m - len)).map fun j => D (len + j)).length) * Tryz.prog.bytesOf e) (by rw [DataW.weights, ht]; exact List.mem_cons_self)
      rw [List.length_map, List.length_range] at h1
      have h2 := Nat.le_mul_of_pos_right (len + ((List.range (m - len)).map fun j => D (len + j)).length) hby
      omega
    have hread : ∀ i, i < len → ∃ q : α, Q q ∧ ∀ j, j < K → W.cell? (a.add (i * K + j)) = (f q)[j]? := by
      intro i hi
      obtain ⟨cs', h1, h2⟩ := hx i (by omega)
      rw [ke] at h1
      obtain ⟨_, hlen', hcell⟩ := World.cells?_some h1
      obtain ⟨q, rfl, hq⟩ := hel _ _ _ h2 (hfi i hi)
      refine ⟨q, hq, fun j hj => ?_⟩
      have := hcell j hj
      rwa [Go.Deep.add_add] at this
    haveI : Inhabited α := ⟨a0⟩
    obtain ⟨Z, hZ⟩ := Go.Deep.choose_lt (α := α) hread
    refine ⟨some a, cap, (List.range len).map Z, by simp, ⟨fun hne => ?_⟩, fun q hq => ?_, by simpa using hlr⟩
    · have h0 : 0 < len := by
        rcases Nat.eq_zero_or_pos len with h | h
        · subst h; simp at hne
        · exact h
      have g0 := (hZ 0 h0).2 0 hK
      have hl0 : 0 < (f (Z 0)).length := by rw [hlen]; exact hK
      rw [List.getElem?_eq_getElem hl0] at g0
      obtain ⟨ab, ao, rfl, hlt⟩ := at_zero (a := a) (by simpa [Addr.add] using g0)
      refine ⟨ab, ao, rfl, hlt, fun j u hu => ?_⟩
      obtain ⟨i, r, q, h1, h2, rfl, h4⟩ := flat_inv f K hlen _ j u hu
      rw [List.getElem?_map] at h1
      cases hi : (List.range len)[i]? with
      | none => rw [hi] at h1; simp at h1
      | some i' =>
        rw [hi] at h1
        obtain ⟨hlt2, h5⟩ := List.getElem?_eq_some_iff.1 hi
        simp only [List.getElem_range] at h5
        subst h5
        simp only [Option.map_some, Option.some.injEq] at h1
        subst h1
        have g := (hZ i (by simpa using hlt2)).2 r h2
        rw [Go.WideShapes.add_plain, h4] at g
        exact g
    · obtain ⟨i, hi, rfl⟩ := List.mem_map.1 hq
      exact (hZ i (List.mem_range.1 hi)).1
def LevOf (W : World) (p : Rd.Lev × Value × Int) : Prop := p.1.assoc = encA p.2.2 ∧ NmC W W.heap.size p.2.1 p.1.names ∧ p.1.names.length ≤ reachBytes ∧ ∀ n ∈ p.1.names, n.length ≤ reachBytes
def RuleOf (W : World) (p : Rd.Rule × Value) : Prop := NmC W W.heap.size p.2 p.1.right ∧ p.1.left.length ≤ reachBytes ∧ p.1.prec.length ≤ reachBytes ∧ p.1.action.length ≤ reachBytes ∧ p.1.right.length ≤ reachBytes ∧ ∀ n ∈ p.1.right, n.length ≤ reachBytes
end
end Go.Proofs.YtccndcebbjipnaaGreatDoor
end
