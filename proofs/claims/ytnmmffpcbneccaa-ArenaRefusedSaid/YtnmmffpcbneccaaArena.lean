/-
  An arena in memory: its block, the row of its slots (a thing and its cells each), and what the calls of it answer.
-/
import Derived.Test.YtnmmffpcbneccaaOwn
import Derived.Test.YtnmmffpcbneccaaMeterB
namespace Go.Proofs.Ytnmmffpcbneccaa
open Go.RowKit
set_option linter.unusedVariables false

structure Ar {X : Type} (V : X → Value) (ta ts : TypeId) (w : World) (B g mb : Nat) (v : Value) (L : List (X × Int)) : Prop where
  at_ : At w g ta #[.pointer (some ⟨mb, 0, none⟩), v, .int .i64 (tot L)]
  own : w.ownsRow B ts 2 v L.length (flat V L)
  pos : ∀ p ∈ L, 1 ≤ p.2
  most : tot L ≤ 1099511627776

section
variable {X : Type} {V : X → Value} {ta ts : TypeId} {w w' : World} {B g mb : Nat} {v : Value} {L : List (X × Int)}

theorem Ar.size (h : Ar V ta ts w B g mb v L) : (L.length : Int) ≤ 1099511627776 := Int.le_trans (len_le_tot h.pos) h.most
theorem Ar.keeps {S : List Nat} (h : Ar V ta ts w B g mb v L) (hk : Keeps S w w') (hg : g ∉ S) (hv : ∀ k, v.ownBlock = some k → k ∉ S) : Ar V ta ts w' B g mb v L :=
  ⟨h.at_.keeps hk hg, own_keeps h.own hk hv, h.pos, h.most⟩
theorem Ar.drewN (h : Ar V ta ts w B g mb v L) (n : Nat) : Ar V ta ts (w.drewN n) B g mb v L := ⟨h.at_, h.own, h.pos, h.most⟩
theorem Ar.shape (h : Ar V ta ts w B g mb v L) : ∃ ao cap, v = .slice ao L.length cap := by
  rcases own_shape h.own with ⟨rfl, e, _⟩ | ⟨g', cap, rfl, _⟩
  · rw [e]; exact ⟨_, _, rfl⟩
  · exact ⟨_, _, rfl⟩
/-- Where there is a thing, the row has a block. -/
theorem Ar.shapeIn (h : Ar V ta ts w B g mb v L) {k : Nat} {p : X × Int} (hk : L[k]? = some p) :
    ∃ b cap, v = .slice (some ⟨b, 0, none⟩) L.length cap ∧ k < L.length ∧ L.length ≤ cap ∧ cap ≤ maxLen ∧ B ≤ b ∧ b < w.heap.size ∧ w.cell? ⟨b, k * 2, none⟩ = some (V p.1) ∧ w.cell? ⟨b, k * 2 + 1, none⟩ = some (.int .i64 p.2) ∧
      (∀ j, w.frozen? ⟨b, j, none⟩ = false) := by
  have hlt : k < L.length := (List.getElem?_eq_some_iff.1 hk).1
  rcases own_shape h.own with ⟨rfl, e, _⟩ | ⟨b, cap, rfl, h1, h2, h3, h4⟩
  · omega
  · refine ⟨b, cap, rfl, hlt, h1, h2, h3, h4, ?_, ?_, fun j => h.own.frozenAt j⟩
    · rw [h.own.cellAt (k * 2) (by omega), flat_fst V L k p hk]
    · rw [h.own.cellAt (k * 2 + 1) (by omega), flat_snd V L k p hk]
theorem Ar.stored (h : Ar V ta ts w B g mb v L) {k : Nat} {p : X × Int} {x : X} {b cap : Nat} (hk : L[k]? = some p) (hv : v = .slice (some ⟨b, 0, none⟩) L.length cap) (hne : g ≠ b) :
    Ar V ta ts (w.setCell ⟨b, k * 2, none⟩ (V x)) B g mb v (L.set k (x, p.2)) ∧ Keeps v.ownBlock.toList w (w.setCell ⟨b, k * 2, none⟩ (V x)) := by
  subst hv
  obtain ⟨h1, h2⟩ := h.own.stored (k * 2) (V x)
  have hpk : p ∈ L := List.mem_of_getElem? hk
  refine ⟨⟨?_, ?_, ?_, ?_⟩, ?_⟩
  · rw [tot_set L k p x hk]; exact h.at_.far hne _
  · rw [flat_set V L k p x hk] at h1
    rw [List.length_set]; exact h1
  · intro q hq
    rcases List.mem_or_eq_of_mem_set hq with h3 | rfl
    · exact h.pos q h3
    · exact h.pos p hpk
  · rw [tot_set L k p x hk]; exact h.most
  · exact (Keeps.refl _ w).grown h2 (fun j hj => .inl (by injection hj with hj; subst hj; simp [Value.ownBlock]))
end

/-! ## What the calls answer -/

/-- Is there a thing of number i? -/
def isIn (n : Nat) (i : Int) : Bool := decide (0 ≤ i ∧ i < (n : Int))
theorem isIn_t {n : Nat} {i : Int} (h : 0 ≤ i) (h' : i < (n : Int)) : isIn n i = true := by unfold isIn; exact decide_eq_true ⟨h, h'⟩
theorem isIn_lo {n : Nat} {i : Int} (h : i < 0) : isIn n i = false := by unfold isIn; exact decide_eq_false (by omega)
theorem isIn_hi {n : Nat} {i : Int} (h : (n : Int) ≤ i) : isIn n i = false := by unfold isIn; exact decide_eq_false (by omega)

def putCode (l u n : Int) : Int := if n < 1 then 1 else if l - u < n then 5 else 0
def putNum (l u n : Int) (k : Nat) : Int := if n < 1 then 0 else if l - u < n then 0 else k
def putUsed (l u n : Int) : Int := if n < 1 then u else if l - u < n then u else u + n
def putMost (l u m n : Int) : Int := if n < 1 then m else if l - u < n then m else if m < u + n then u + n else m
def putL {X : Type} (l u n : Int) (x : X) (L : List (X × Int)) : List (X × Int) := if n < 1 then L else if l - u < n then L else L ++ [(x, n)]

theorem put_neg {X : Type} {l u m n : Int} {x : X} {L : List (X × Int)} {k : Nat} (h : n < 1) :
    putCode l u n = 1 ∧ putNum l u n k = 0 ∧ putUsed l u n = u ∧ putMost l u m n = m ∧ putL l u n x L = L := by
  unfold putCode putNum putUsed putMost putL; simp [h]
theorem put_big {X : Type} {l u m n : Int} {x : X} {L : List (X × Int)} {k : Nat} (h0 : 1 ≤ n) (h : l - u < n) :
    putCode l u n = 5 ∧ putNum l u n k = 0 ∧ putUsed l u n = u ∧ putMost l u m n = m ∧ putL l u n x L = L := by
  have : ¬ n < 1 := by omega
  unfold putCode putNum putUsed putMost putL; simp [h, this]
theorem put_ok {X : Type} {l u m n : Int} {x : X} {L : List (X × Int)} {k : Nat} (h0 : 1 ≤ n) (h : n ≤ l - u) :
    putCode l u n = 0 ∧ putNum l u n k = k ∧ putUsed l u n = u + n ∧ putMost l u m n = (if m < u + n then u + n else m) ∧ putL l u n x L = L ++ [(x, n)] := by
  have h1 : ¬ n < 1 := by omega
  have h2 : ¬ l - u < n := by omega
  unfold putCode putNum putUsed putMost putL; simp [h1, h2]

/-- What is there behind a Set. -/
def setL {X : Type} (L : List (X × Int)) (i : Int) (x : X) : List (X × Int) := if i < 0 then L else match L[i.toNat]? with | some p => L.set i.toNat (x, p.2) | none => L
theorem setL_in {X : Type} {L : List (X × Int)} {k : Nat} {p : X × Int} {x : X} (h : L[k]? = some p) : setL L (k : Int) x = L.set k (x, p.2) := by
  unfold setL; rw [if_neg (by omega)]; simp only [Int.toNat_natCast, h]
theorem setL_out {X : Type} {L : List (X × Int)} {i : Int} {x : X} (h : ¬ (0 ≤ i ∧ i < (L.length : Int))) : setL L i x = L := by
  unfold setL
  by_cases h0 : i < 0
  · rw [if_pos h0]
  · rw [if_neg h0, List.getElem?_eq_none (by omega)]
theorem setL_length {X : Type} (L : List (X × Int)) (i : Int) (x : X) : (setL L i x).length = L.length := by
  unfold setL
  split
  · rfl
  · split <;> simp
theorem setL_tot {X : Type} (L : List (X × Int)) (i : Int) (x : X) : tot (setL L i x) = tot L := by
  unfold setL
  split
  · rfl
  · split
    · rename_i p h; exact tot_set L _ p x h
    · rfl
theorem setL_get {X : Type} {L : List (X × Int)} {k : Nat} {p : X × Int} (i : Int) (x : X) (h : L[k]? = some p) : (setL L i x)[k]? = some (if (k : Int) = i then x else p.1, p.2) := by
  by_cases hk : (k : Int) = i
  · subst hk
    rw [setL_in h, if_pos rfl]
    have := (List.getElem?_eq_some_iff.1 h).1
    rw [List.getElem?_set_self (by omega)]
  · rw [if_neg hk]
    unfold setL
    split
    · exact h
    · split
      · rw [List.getElem?_set_ne (by omega)]; exact h
      · exact h

/-- How many stay. -/
def cutAt (n : Int) (k : Nat) : Nat := min n.toNat k
theorem cutAt_le (n : Int) (k : Nat) : cutAt n k ≤ k := by unfold cutAt; omega

end Go.Proofs.Ytnmmffpcbneccaa
