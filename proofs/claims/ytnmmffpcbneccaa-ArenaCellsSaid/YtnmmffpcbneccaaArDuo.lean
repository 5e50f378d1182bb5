/-
  Two arenas of ints that take from one meter.
-/
import Derived.Test.YtnmmffpcbneccaaAr6
namespace Go.Proofs.Ytnmmffpcbneccaa
open Go.RowKit
set_option linter.unusedVariables false

structure DuoI (w0 : World) (ga gb mb : Nat) (w : World) (l : Int) (La Lb : List (Int × Int)) : Prop where
  ex : ∃ va vb m, ArI w w0.heap.size ga mb va La ∧ ArI w w0.heap.size gb mb vb Lb ∧ At w mb 60 #[.int .i64 l, .int .i64 (tot La + tot Lb), .int .i64 m] ∧ (∀ k, va.ownBlock = some k → vb.ownBlock ≠ some k)
  ne : ga ≠ gb
  bel : Below w0.heap.size w0 w
  lim : tot La + tot Lb ≤ l ∧ l ≤ 1099511627776
  big : w0.heap.size ≤ ga ∧ w0.heap.size ≤ gb ∧ w0.heap.size ≤ mb

theorem DuoI.swap {w0 w : World} {ga gb mb : Nat} {l : Int} {La Lb : List (Int × Int)} (h : DuoI w0 ga gb mb w l La Lb) : DuoI w0 gb ga mb w l Lb La := by
  obtain ⟨va, vb, m, hA, hB, hM, hap⟩ := h.ex
  exact ⟨⟨vb, va, m, hB, hA, by rw [Int.add_comm]; exact hM, fun k hk hk' => hap k hk' hk⟩, h.ne.symm, h.bel, by have := h.lim; omega, ⟨h.big.2.1, h.big.1, h.big.2.2⟩⟩

theorem DuoI.nonneg {w0 w : World} {ga gb mb : Nat} {l : Int} {La Lb : List (Int × Int)} (h : DuoI w0 ga gb mb w l La Lb) :
    0 ≤ tot La ∧ 0 ≤ tot Lb ∧ (La.length : Int) ≤ tot La ∧ (Lb.length : Int) ≤ tot Lb := by
  obtain ⟨va, vb, m, hA, hB, hM, hap⟩ := h.ex
  exact ⟨tot_nonneg hA.pos, tot_nonneg hB.pos, len_le_tot hA.pos, len_le_tot hB.pos⟩

theorem DuoI.start {w0 w : World} (hb : Below w0.heap.size w0 w) {l : Int} (hl : 0 ≤ l ∧ l ≤ 1099511627776) :
    DuoI w0 (w.heap.size + 1) (w.heap.size + 2) w.heap.size (((w.alloc (.cells #[.int .i64 l, .int .i64 0, .int .i64 0] 60)).alloc (.cells #[.pointer (some ⟨w.heap.size, 0, none⟩), .slice none 0 0, .int .i64 0] 63)).alloc
      (.cells #[.pointer (some ⟨w.heap.size, 0, none⟩), .slice none 0 0, .int .i64 0] 63)) l [] [] := by
  have h := (OneI.start hb hl)
  obtain ⟨v, m, hA, hM⟩ := h.ex
  have h2 := newArI ((w.alloc (.cells #[.int .i64 l, .int .i64 0, .int .i64 0] 60)).alloc (.cells #[.pointer (some ⟨w.heap.size, 0, none⟩), .slice none 0 0, .int .i64 0] 63)) w0.heap.size w.heap.size
  have e : ((w.alloc (.cells #[.int .i64 l, .int .i64 0, .int .i64 0] 60)).alloc (.cells #[.pointer (some ⟨w.heap.size, 0, none⟩), .slice none 0 0, .int .i64 0] 63)).heap.size = w.heap.size + 2 := by simp
  rw [e] at h2
  have hs := hb.size
  exact ⟨⟨v, _, m, ⟨hA.at_.alloc _, hA.own.alloc _, hA.pos, hA.most⟩, h2, hM.alloc _, fun k _ => by simp [Value.ownBlock]⟩, by omega, h.bel.alloc (by rw [e]; omega) _, hl, by omega, by omega, by omega⟩

theorem DuoI.go {w0 w w' : World} {ga gb mb : Nat} {l : Int} {La Lb La' : List (Int × Int)} {va va' vb : Value} {m m' : Int} (h : DuoI w0 ga gb mb w l La Lb)
    (hA : ArI w w0.heap.size ga mb va La) (hB : ArI w w0.heap.size gb mb vb Lb) (hM : At w mb 60 #[.int .i64 l, .int .i64 (tot La + tot Lb), .int .i64 m]) (hap : ∀ k, va.ownBlock = some k → vb.ownBlock ≠ some k)
    (h1 : ArI w' w0.heap.size ga mb va' La') (h2 : At w' mb 60 #[.int .i64 l, .int .i64 (tot La' + tot Lb), .int .i64 m']) (hk : Keeps (ga :: mb :: va.ownBlock.toList) w w') (hs : SameOrNew w va va') (hl : tot La' + tot Lb ≤ l) :
    DuoI w0 ga gb mb w' l La' Lb := by
  have hbm : gb ≠ mb := by
    intro e
    have h1 := hB.at_.type (t' := 60) (cs' := #[.int .i64 l, .int .i64 (tot La + tot Lb), .int .i64 m]) (by rw [e]; exact hM)
    exact absurd h1 (by decide)
  have hva := own_apart hA.own hB.at_ (by decide)
  have hvb := own_apart hB.own hA.at_ (by decide)
  have hvm := own_apart hB.own hM (by decide)
  refine ⟨⟨va', vb, m', h1, hB.keeps hk ?_ ?_, h2, ?_⟩, h.ne, below_keeps h.bel hk ?_ h.bel.size, ⟨hl, h.lim.2⟩, h.big⟩
  · intro hm
    simp at hm
    rcases hm with e | e | e
    · exact h.ne e.symm
    · exact hbm e
    · exact hva e
  · intro k hkv hm
    simp at hm
    rcases hm with rfl | rfl | e
    · exact hvb hkv
    · exact hvm hkv
    · exact hap k e hkv
  · intro k hkv hkb
    rcases hs k hkv with e | e
    · exact hap k e hkb
    · have := (hB.own.lt k hkb).2
      omega
  · intro x hx
    simp at hx
    rcases hx with rfl | rfl | hx
    · exact h.big.1
    · exact h.big.2.2
    · exact (hA.own.lt x hx).1

theorem DuoI.drew {w0 w : World} {ga gb mb : Nat} {l : Int} {La Lb : List (Int × Int)} (h : DuoI w0 ga gb mb w l La Lb) : DuoI w0 ga gb mb w.drew l La Lb := by
  obtain ⟨va, vb, m, hA, hB, hM, hap⟩ := h.ex
  exact ⟨⟨va, vb, m, hA.drewN 1, hB.drewN 1, hM.drewN 1, hap⟩, h.ne, below_drewN h.bel 1, h.lim, h.big⟩

section
variable (w0 : World) (ga gb mb : Nat) (w : World) (l : Int) (La Lb : List (Int × Int)) (h : DuoI w0 ga gb mb w l La Lb)
include h

theorem duo_put (x n : Int) (hn : -9223372036854775808 ≤ n ∧ n ≤ 9223372036854775807) :
    Calls Try.prog 23 #[.pointer (some ⟨ga, 0, none⟩), .int .i64 x, .int .i64 n] w fun e w' => ∃ pn pc L', e = .returned (.tuple #[.int .i64 pn, .int .i64 pc]) ∧ DuoI w0 ga gb mb w' l L' Lb := by
  obtain ⟨va, vb, m, hA, hB, hM, hap⟩ := h.ex
  have hnn := h.nonneg
  refine (putI_any x n w w0.heap.size ga mb va La l (tot La + tot Lb) m hA hM ⟨by omega, h.lim⟩ hn (by omega) h.bel.size).mono ?_
  rintro e w' ⟨he, v', q1, q2, q3, q4⟩
  have e1 : tot (putL l (tot La + tot Lb) n x La) + tot Lb = putUsed l (tot La + tot Lb) n ∧ tot (putL l (tot La + tot Lb) n x La) + tot Lb ≤ l := by
    unfold putL putUsed
    have := h.lim.1
    split
    · exact ⟨rfl, this⟩
    · split
      · exact ⟨rfl, this⟩
      · rw [tot_append, tot_one]; simp; omega
  exact ⟨_, _, _, he, h.go hA hB hM hap q1 (e1.1 ▸ q2) q3 q4 e1.2⟩

theorem duo_cut (n : Int) (hn : -9223372036854775808 ≤ n ∧ n ≤ 9223372036854775807) :
    Calls Try.prog 25 #[.pointer (some ⟨ga, 0, none⟩), .int .i64 n] w fun e w' => ∃ q L', e = .returned (.int .i64 q) ∧ DuoI w0 ga gb mb w' l L' Lb := by
  obtain ⟨va, vb, m, hA, hB, hM, hap⟩ := h.ex
  have hnn := h.nonneg
  have hd : 0 ≤ tot (La.drop (cutAt n La.length)) := tot_nonneg (fun p hp => hA.pos p (List.mem_of_mem_drop hp))
  have hs := tot_split La (cutAt n La.length)
  refine (cutI_any n w w0.heap.size ga mb va La l (tot La + tot Lb) m hA hM ⟨by omega, h.lim⟩ hn (by omega) h.bel.size).mono ?_
  rintro e w' ⟨he, v', q1, q2, q3, q4⟩
  have e1 : tot La + tot Lb - tot (La.drop (cutAt n La.length)) = tot (La.take (cutAt n La.length)) + tot Lb := by omega
  have := h.lim.1
  exact ⟨_, _, he, h.go hA hB hM hap q1 (e1 ▸ q2) q3 (fun j hj => .inl (by rw [← q4]; exact hj)) (by omega)⟩

theorem duo_set (i x : Int) :
    Calls Try.prog 24 #[.pointer (some ⟨ga, 0, none⟩), .int .i64 i, .int .i64 x] w fun e w' => ∃ q L', e = .returned (.bool q) ∧ DuoI w0 ga gb mb w' l L' Lb := by
  obtain ⟨va, vb, m, hA, hB, hM, hap⟩ := h.ex
  by_cases hi : 0 ≤ i ∧ i < (La.length : Int)
  · obtain ⟨k, rfl⟩ : ∃ k : Nat, i = (k : Int) := ⟨i.toNat, by omega⟩
    obtain ⟨p, hp⟩ : ∃ p, La[k]? = some p := ⟨_, List.getElem?_eq_getElem (by omega)⟩
    have hvm := own_apart hA.own hM (by decide)
    refine (setI_in k p x w w0.heap.size ga mb va La hA hp).mono ?_
    rintro e w' ⟨he, q1, q2⟩
    have e1 := tot_set La k p x hp
    have hM' : At w' mb 60 #[.int .i64 l, .int .i64 (tot La + tot Lb), .int .i64 m] := hM.keeps q2 (fun hm => hvm (by simpa using hm))
    rw [← e1] at hM'
    have q3 : Keeps (ga :: mb :: va.ownBlock.toList) w w' := q2.mono (fun y hy => .inl (by simp at hy ⊢; simp [hy]))
    exact ⟨_, _, he, h.go hA hB hM hap q1 hM' q3 (SameOrNew.refl _ _) (by rw [e1]; exact h.lim.1)⟩
  · have hf : isIn La.length i = false := by unfold isIn; exact decide_eq_false hi
    refine (setI_out i x w w0.heap.size ga mb va La hA hf).mono ?_
    rintro e w' ⟨he, rfl⟩
    exact ⟨_, _, he, h⟩

theorem duo_len :
    Calls Try.prog 14 #[.pointer (some ⟨ga, 0, none⟩)] w fun e w' => e = .returned (.int .i64 (La.length : Int)) ∧ w = w' := by
  obtain ⟨va, vb, m, hA, hB, hM, hap⟩ := h.ex
  exact lenI_any w w0.heap.size ga mb va La hA

theorem duo_cells :
    Calls Try.prog 15 #[.pointer (some ⟨ga, 0, none⟩)] w fun e w' => e = .returned (.int .i64 (tot La)) ∧ w = w' := by
  obtain ⟨va, vb, m, hA, hB, hM, hap⟩ := h.ex
  exact cellsI_any w w0.heap.size ga mb va La hA

theorem duo_used :
    Calls Try.prog 26 #[.pointer (some ⟨mb, 0, none⟩)] w fun e w' => e = .returned (.int .i64 (tot La + tot Lb)) ∧ w = w' := by
  obtain ⟨va, vb, m, hA, hB, hM, hap⟩ := h.ex
  exact used_any mb l (tot La + tot Lb) m w hM

theorem DuoI.drewN (n : Nat) : DuoI w0 ga gb mb (w.drewN n) l La Lb := by
  obtain ⟨va, vb, m, hA, hB, hM, hap⟩ := h.ex
  exact ⟨⟨va, vb, m, hA.drewN n, hB.drewN n, hM.drewN n, hap⟩, h.ne, below_drewN h.bel n, h.lim, h.big⟩
end

end Go.Proofs.Ytnmmffpcbneccaa
