/-
  LexerClasses' plain words: a range, and single bytes, between brackets; a slice of bytes as an argument.
-/
import Derived.Test.YtgmihbfikggkjaaDoorLwC
import Derived.Test.YtgmihbfikggkjaaDoorOps
namespace Go.Proofs.YtgmihbfikggkjaaDoor
open Go.RowKit Go.ChangeShapes Go.WideShapes Go.ChangeAt
open Lx
set_option linter.unusedVariables false
set_option linter.unusedSimpArgs false

theorem u8_wf {n : Int} (h : (Lit.int .u8 n).wf = true) : 0 ≤ n ∧ n ≤ 255 := by
  simpa [Lit.wf, IntKind.min, IntKind.max, IntKind.signed, IntKind.bits] using h
/-- The slice at A has n bytes, the numbers X i; they lie below block B. -/
structure Bytes8 (w : World) (B : Nat) (A : Option Addr) (n : Nat) (X : Nat → Nat) : Prop where
  each : ∀ i, i < n → ∃ b o, A = some ⟨b, o, none⟩ ∧ b < B ∧ w.cell? ⟨b, o + i, none⟩ = some (.int .u8 (X i : Int))
  rx : ∀ i, i < n → X i ≤ 255
  len : n ≤ 9223372036854775807
theorem Bytes8.below {w w' : World} {B : Nat} {A : Option Addr} {n : Nat} {X : Nat → Nat} (h : Bytes8 w B A n X) (hb : Below B w w') : Bytes8 w' B A n X :=
  ⟨fun i hi => by
    obtain ⟨b, o, h1, h2, h3⟩ := h.each i hi
    exact ⟨b, o, h1, h2, (hb.cell (p := ⟨b, _, none⟩) h2).trans h3⟩, h.rx, h.len⟩

section
variable {H : Type} {enc : TypeId × Value → H} {P : Program} {W : World} {base : Nat} {v : Value} {d : DataW H} {p : List MemPlace}
theorem open_u8s {t e : TypeId} (ht : P.underlying t = some (.slice e)) (he : P.underlying e = some (.int .u8)) (ce : P.cellsOf e = 1)
    (hv : Value.okWide P W .any base t v) (h : DataW.Trod enc P W 0 (fun _ => true) true t v d p) :
    ∃ A n c X, v = .slice A n c ∧ Bytes8 W W.heap.size A n X := by
  obtain ⟨A, n, c, rfl⟩ := okWide_slice ht hv
  obtain ⟨fuel, hf⟩ := h
  rcases Go.Deep.open_slice1 ht ce hf with ⟨hcs, _⟩ | ⟨a, len, cap, m, k, V, D, Pl, hcs, hb, hl, hm, hmm, hx, hi⟩
  · simp [Value.cells] at hcs
    obtain ⟨rfl, rfl, rfl⟩ := hcs
    exact ⟨_, _, _, fun _ => 0, rfl, fun i hi => by omega, fun i hi => by omega, by omega⟩
  · simp [Value.cells] at hcs
    obtain ⟨rfl, rfl, rfl⟩ := hcs
    have hlm : n ≤ m := by rw [hmm]; split <;> omega
    have hread : ∀ i, i < n → ∃ x : Nat, V i = .int .u8 (x : Int) ∧ x ≤ 255 := by
      intro i hin
      obtain ⟨_, t0⟩ := hi i (by omega)
      obtain ⟨x0, e0, _, w0⟩ := DataW.trod_int he t0
      simp at e0
      have := u8_wf w0
      exact ⟨x0.toNat, by rw [e0]; congr 1; omega, by omega⟩
    obtain ⟨Z, hZ⟩ := Go.Deep.choose_lt hread
    refine ⟨_, _, _, Z, rfl, fun i hin => ?_, fun i hin => (hZ i hin).2, maxLen_le (by omega)⟩
    obtain ⟨g0, _⟩ := hi i (by omega)
    rw [(hZ i hin).1] at g0
    obtain ⟨g00, _⟩ := hi 0 (by omega)
    obtain ⟨ab, ao, rfl, hlt⟩ := at_zero (a := a) (by simpa [Addr.add] using g00)
    rw [Go.WideShapes.add_plain] at g0
    exact ⟨ab, ao, rfl, hlt, g0⟩
end

namespace Lx
def isAlnum (c : UInt8) : Bool := isDigit c || (65 ≤ c && c ≤ 90) || isSmall c
theorem alnum_plain {c : UInt8} (h : isAlnum c = true) : c ≠ 93 ∧ c ≠ 10 ∧ c ≠ 45 ∧ c ≠ 92 := by
  refine ⟨?_, ?_, ?_, ?_⟩ <;> (rintro rfl; revert h; decide)
theorem put_none (b : UInt8) : none_.put b = some ⟨fun j => false || j == b.toNat, some b.toNat, 0⟩ := rfl
theorem cls_put {c : UInt8} (h : isAlnum c = true) (r : List UInt8) (i : Nat) (p q : Parts) (hp : p.put c = some q) : cls (c :: r) i p = cls r (i + 1) q := by
  obtain ⟨h1, h2, h3, h4⟩ := alnum_plain h
  conv => lhs; unfold cls
  rw [if_neg h1, if_neg h2, if_neg (fun h => h3 h.1), if_neg h4, hp]
theorem cls_put_no {c : UInt8} (h : isAlnum c = true) (r : List UInt8) (i : Nat) (p : Parts) (hp : p.put c = none) : cls (c :: r) i p = .bad 10 p.dash := by
  obtain ⟨h1, h2, h3, h4⟩ := alnum_plain h
  unfold cls
  rw [if_neg h1, if_neg h2, if_neg (fun h => h3 h.1), if_neg h4, hp]
theorem cls_singles : ∀ (cs : List UInt8) (i : Nat) (p : Parts) (F : Nat → Bool), (∀ c ∈ cs, isAlnum c = true) → p.dash = 0 → (∀ j, F j = (p.has j || cs.any (fun c => j == c.toNat))) → rising F ≠ [] → cls (cs ++ [93]) i p = .mark 4 (rising F) (i + cs.length + 1) := by
  intro cs
  induction cs with
  | nil =>
    intro i p F _ hd hF hne
    have e : p.has = F := by funext j; rw [hF j]; simp
    subst e
    show cls [93] i p = _
    unfold cls
    rw [if_pos rfl, if_neg (by omega), if_neg hne]; rfl
  | cons c cs ih =>
    intro i p F ha hd hF hne
    show cls (c :: (cs ++ [93])) i p = _
    have hp : p.put c = some ⟨fun j => p.has j || j == c.toNat, some c.toNat, 0⟩ := by unfold Parts.put; rw [if_pos hd]
    rw [cls_put (ha c (by simp)) _ _ _ _ hp, ih (i + 1) _ F (fun c hc => ha c (by simp [hc])) rfl (fun j => by rw [hF j]; simp [Bool.or_assoc]) hne]
    simp; omega
/-- A class of a range and single bytes. -/
def classy (a b : UInt8) (cs : List UInt8) : List UInt8 := 91 :: a :: 45 :: b :: cs ++ [93]
theorem step_classy_no {a b : UInt8} {cs : List UInt8} (ha : isAlnum a = true) (hb : isAlnum b = true) (h : b.toNat < a.toNat) : step (classy a b cs) = .bad 10 2 := by
  have e : step (classy a b cs) = cls (a :: 45 :: b :: cs ++ [93]) 1 none_ := rfl
  rw [e]
  show cls (a :: (45 :: b :: cs ++ [93])) 1 none_ = _
  rw [cls_put ha _ _ _ _ (put_none a)]
  show cls (45 :: (b :: (cs ++ [93]))) 2 _ = _
  unfold cls
  rw [if_neg (by decide), if_neg (by decide), if_pos ⟨rfl, rfl⟩]
  show cls (b :: (cs ++ [93])) 3 _ = _
  rw [cls_put_no hb]
  unfold Parts.put
  rw [if_neg (by simp), if_pos (by simpa using h)]
theorem step_classy {a b : UInt8} {cs : List UInt8} {F : Nat → Bool} (ha : isAlnum a = true) (hb : isAlnum b = true) (hcs : ∀ c ∈ cs, isAlnum c = true) (h : a.toNat ≤ b.toNat)
    (hF : ∀ j, F j = ((decide (a.toNat ≤ j) && decide (j ≤ b.toNat)) || cs.any (fun c => j == c.toNat))) : step (classy a b cs) = .mark 4 (rising F) (cs.length + 5) := by
  have hne : rising F ≠ [] := by
    unfold rising
    have : a.toNat ∈ (List.range 256).filter F := by
      rw [List.mem_filter]
      refine ⟨List.mem_range.2 a.toNat_lt, ?_⟩
      rw [hF]; simp [h]
    intro e
    rw [List.map_eq_nil_iff] at e
    rw [e] at this; cases this
  have e : step (classy a b cs) = cls (a :: 45 :: b :: cs ++ [93]) 1 none_ := rfl
  rw [e]
  show cls (a :: (45 :: b :: cs ++ [93])) 1 none_ = _
  rw [cls_put ha _ _ _ _ (put_none a)]
  show cls (45 :: (b :: (cs ++ [93]))) 2 _ = _
  unfold cls
  rw [if_neg (by decide), if_neg (by decide), if_pos ⟨rfl, rfl⟩]
  show cls (b :: (cs ++ [93])) 3 _ = _
  have hp : ∀ (f : Nat → Bool), Parts.put ⟨f, some a.toNat, 2⟩ b = some ⟨fun j => f j || (decide (a.toNat ≤ j) && decide (j ≤ b.toNat)), none, 0⟩ := by
    intro f; unfold Parts.put
    rw [if_neg (by simp), if_neg (by simp; omega)]; rfl
  rw [cls_put hb _ _ _ _ (hp _), cls_singles cs 4 _ F hcs rfl _ hne]
  · simp; omega
  · intro j
    rw [hF j]
    have : ((j == a.toNat) || (decide (a.toNat ≤ j) && decide (j ≤ b.toNat))) = (decide (a.toNat ≤ j) && decide (j ≤ b.toNat)) := by
      by_cases hj : j = a.toNat
      · subst hj; simp [h]
      · simp [hj]
    simp only [Bool.false_or, this]
theorem classy_len (a b : UInt8) (cs : List UInt8) : (classy a b cs).length = cs.length + 5 := by simp [classy]
theorem lex_classy_no {a b : UInt8} {cs : List UInt8} (ha : isAlnum a = true) (hb : isAlnum b = true) (h : b.toNat < a.toNat) (hl : cs.length ≤ 100) : lex (classy a b cs) = .bad 10 2 := by
  unfold lex
  rw [if_neg (by rw [classy_len]; omega), Lx.run_bad (by omega) (by simp [classy]) (step_classy_no ha hb h)]
theorem lex_classy {a b : UInt8} {cs : List UInt8} {F : Nat → Bool} (ha : isAlnum a = true) (hb : isAlnum b = true) (hcs : ∀ c ∈ cs, isAlnum c = true) (h : a.toNat ≤ b.toNat)
    (hF : ∀ j, F j = ((decide (a.toNat ≤ j) && decide (j ≤ b.toNat)) || cs.any (fun c => j == c.toNat))) (hl : cs.length ≤ 100) : lex (classy a b cs) = .ok [(4, rising F, 0), (0, [], cs.length + 5)] := by
  have hlen := classy_len a b cs
  unfold lex
  rw [if_neg (by omega), Lx.run_mark (by omega) (by simp [classy]) (step_classy ha hb hcs h hF)]
  have e : (classy a b cs).drop (cs.length + 5) = [] := List.drop_of_length_le (by omega)
  rw [e, Lx.run_end (by omega)]
  simp
theorem pos_classy {a b : UInt8} {cs : List UInt8} (ha : isAlnum a = true) : pos (classy a b cs) 2 = (1, 3) := by
  obtain ⟨_, h, _⟩ := alnum_plain ha
  show adv (1, 1) [91, a] = _
  unfold adv
  simp [h]
def ALL : ByteArray := ⟨#[48, 49, 50, 51, 52, 53, 54, 55, 56, 57, 65, 66, 67, 68, 69, 70, 71, 72, 73, 74, 75, 76, 77, 78, 79, 80, 81, 82, 83, 84, 85, 86, 87, 88, 89, 90, 97, 98, 99, 100, 101, 102, 103, 104, 105, 106, 107, 108, 109, 110, 111, 112, 113, 114, 115, 116, 117, 118, 119, 120, 121, 122]⟩
theorem all_size : ALL.size = 62 := by rfl
theorem all_alnum : ∀ k (h : k < ALL.size), isAlnum ALL[k] = true := by
  have : ∀ k : Fin 62, isAlnum (ALL[k.val]'(by rw [all_size]; exact k.isLt)) = true := by decide
  intro k h
  exact this ⟨k, by rw [all_size] at h; exact h⟩
end Lx

end Go.Proofs.YtgmihbfikggkjaaDoor
