/-
  The document's arena: Cut.
-/
import Derived.Test.YtnmmffpcbneccaaArRef2
namespace Go.Proofs.Ytnmmffpcbneccaa
open Go.RowKit
set_option linter.unusedVariables false

set_option maxHeartbeats 1600000 in
theorem rcut_any (n : Int) (w0 : World) (rg rm : Nat) (w : World) (l : Int) (L : List (Int × Int)) (h : RfO w0 rg rm w l L) (hn : -9223372036854775808 ≤ n ∧ n ≤ 9223372036854775807) (k : Nat) (q : Int) (hk : k = cutAt n L.length) (hq : q = tot (L.drop k)) :
    Calls Try.prog 32 #[.pointer (some ⟨rg, 0, none⟩), .int .i64 n] w fun e w' => e = .returned (.int .i64 q) ∧ RfO w0 rg rm w' l (L.take k) ∧ Spares artR w w' := by
  subst hq
  have H := Lib.hid h
  have hnn := h.nonneg
  have hlim := h.lim
  have hz := h.bel.size
  obtain ⟨vL, vC, m, hA, hM⟩ := h.ex
  obtain ⟨aoL, capL, rfl, hcL, hmL⟩ := own_form' hA.ownL
  obtain ⟨aoC, capC, rfl, hcC, hmC⟩ := own_form' hA.ownC
  have HA := Lib.hid hA
  have HM := Lib.hid hM
  have hgm : rg ≠ rm := by
    intro e
    exact absurd (hA.at_.type (t' := 32) (cs' := #[.int .i64 l, .int .i64 (tot L), .int .i64 m]) (by rw [e]; exact hM)) (by decide)
  have hLg := own_apart hA.ownL hA.at_ (by decide)
  have hCg := own_apart hA.ownC hA.at_ (by decide)
  have hkl : k ≤ L.length := hk ▸ cutAt_le n L.length
  have hkm : max (0 : Int) (min n (L.length : Int)) = (k : Int) := by rw [hk]; unfold cutAt; omega
  have hd : 0 ≤ tot (L.drop k) := tot_nonneg (fun p hp => hA.pos p (List.mem_of_mem_drop hp))
  have ht : 0 ≤ tot (L.take k) := tot_nonneg (fun p hp => hA.pos p (List.mem_of_mem_take hp))
  have hs := tot_split L k
  have hslL := fun wx => cut_ints aoL L.length k capL (by omega) wx
  have hslC := fun wx => cut_ints aoC L.length k capC (by omega) wx
  have c1 := hA.at_.cell 1
  have c2 := hA.at_.cell 2
  have z1 := hA.at_.frozen 1
  have z2 := hA.at_.frozen 2
  simp at c1 c2
  have hcut : ∀ {v : Value} {xs : List Value} {ao : Option Addr} {cap : Nat}, w.ownsRow w0.heap.size 3 1 (.slice ao L.length cap) L.length xs → w.ownsRow w0.heap.size 3 1 (.slice ao k cap) k (xs.take (k * 1)) := by
    intro v xs ao cap ho
    rcases ho.2 with ⟨h1, h2⟩ | ⟨g, cap', cur, h1, _⟩
    · have hk0 : k = 0 := by omega
      subst hk0
      simp at h1
      obtain ⟨rfl, _, rfl⟩ := h1
      simpa using World.ownsRow_nil w w0.heap.size 3 1
    · simp at h1
      obtain ⟨rfl, rfl⟩ := h1
      exact own_cut ho k hkl
  have oL := hcut (v := .slice aoL L.length capL) hA.ownL
  have oC := hcut (v := .slice aoC L.length capC) hA.ownC
  rw [fsts_take] at oL
  rw [snds_take] at oC
  have K1 : Keeps [rg] w ((w.setCell ⟨rg, 1, none⟩ (.slice aoL k capL)).setCell ⟨rg, 2, none⟩ (.slice aoC k capC)) := ((Keeps.refl [rg] w).set (.inl (by simp)) _).set (.inl (by simp)) _
  have hlen : (L.take k).length = k := by rw [List.length_take]; omega
  have hap : ∀ q, (Value.slice aoL k capL).ownBlock = some q → (Value.slice aoC k capC).ownBlock ≠ some q := by
    intro q hq1 hq2
    refine hA.apart q ?_ ?_
    · revert hq1; cases aoL <;> simp [Value.ownBlock]
    · revert hq2; cases aoC <;> simp [Value.ownBlock]
  have R1 : Rf ((w.setCell ⟨rg, 1, none⟩ (.slice aoL k capL)).setCell ⟨rg, 2, none⟩ (.slice aoC k capC)) w0.heap.size rg rm (.slice aoL k capL) (.slice aoC k capC) (L.take k) := by
    refine ⟨((hA.at_.set 1 _).set 2 _).eqs (by simp), ?_, ?_, hap, fun p hp => hA.pos p (List.mem_of_mem_take hp), by have := hA.most; omega⟩
    · rw [hlen]
      exact own_keeps oL K1 (fun q hq hm => hLg (by simp at hm; subst hm; revert hq; cases aoL <;> simp [Value.ownBlock]))
    · rw [hlen]
      exact own_keeps oC K1 (fun q hq hm => hCg (by simp at hm; subst hm; revert hq; cases aoC <;> simp [Value.ownBlock]))
  have M1 : At ((w.setCell ⟨rg, 1, none⟩ (.slice aoL k capL)).setCell ⟨rg, 2, none⟩ (.slice aoC k capC)) rm 32 #[.int .i64 l, .int .i64 (tot L), .int .i64 m] := hM.keeps K1 (by simpa using hgm.symm)
  have e0 := R1.at_.cell 0
  simp at e0
  have HR1 := Lib.hid R1
  have HM1 := Lib.hid M1
  have HK1 := Lib.hid K1
  have hq1 : tot L - tot (L.take k) = tot (L.drop k) := by omega
  have HQ := Lib.hid hq1
  have htl : tot L ≤ 1099511627776 := by omega
  have htk : tot (L.take k) ≤ tot L := by omega
  have HS := Lib.hid hs
  have HL := Lib.hid hlen
  clear hA hM h oL oC K1 hap R1 M1 hcut hk hs hlen hq1
  go_enter Try.func32, Try.ntmps32
  go_wp2_with fail
  refine (rcells_any _ _ _ _ _ _ _ HA.out).mono ?_
  rintro e w1 ⟨rfl, rfl⟩
  go_wp2_with fail
  refine (rcells_any _ _ _ _ _ _ _ HR1.out).mono ?_
  rintro e w1 ⟨rfl, rfl⟩
  go_wp2_with fail
  rw [HQ.out]
  refine (rgive_any rm l (tot L) m (tot (L.drop k)) _ HM1.out ⟨hnn.1, hlim⟩ (by have := HS.out; omega)).mono ?_
  have g1 : giveCode (tot L) (tot (L.drop k)) = 0 := by have := HS.out; unfold giveCode; rw [if_neg (by omega), if_neg (by omega)]
  have g2 : giveUsed (tot L) (tot (L.drop k)) = tot L - tot (L.drop k) := by have := HS.out; unfold giveUsed; rw [if_neg (by omega), if_neg (by omega)]
  rw [g1, g2]
  rintro e w3 ⟨rfl, hT⟩
  have HT := Lib.hid hT
  clear hT g1 g2
  go_wp2_with fail
  go_ret
  have K3 : Keeps [rm] ((w.setCell ⟨rg, 1, none⟩ (.slice aoL k capL)).setCell ⟨rg, 2, none⟩ (.slice aoC k capC)) w3 := (Keeps.refl _ _).turns HT.out (.inl (by simp))
  have KK : Keeps (rg :: rm :: (Value.slice aoL L.length capL).ownBlock.toList ++ (Value.slice aoC L.length capC).ownBlock.toList) w w3 :=
    (HK1.out.mono (S' := rg :: rm :: (Value.slice aoL L.length capL).ownBlock.toList ++ (Value.slice aoC L.length capC).ownBlock.toList) (fun y hy => .inl (by simp at hy ⊢; simp [hy]))).trans' K3 (fun x hx => .inl (by simp at hx ⊢; simp [hx]))
  have e1 : tot L - tot (L.drop k) = tot (L.take k) := by have := HS.out; omega
  have hat := HT.out.at_
  rw [e1] at hat
  have nm : ∀ (ao : Option Addr) (n cap : Nat), (∃ xs B, w.ownsRow B 3 1 (.slice ao n cap) n xs) → ∀ q, (Value.slice ao k cap).ownBlock = some q → q ∉ [rm] := by
    rintro ao n' cap ⟨xs, B, ho⟩ q hq hm
    refine own_apart ho HM.out (by decide) ?_
    simp at hm
    subst hm
    revert hq
    cases ao <;> simp [Value.ownBlock]
  have R3 : Rf w3 w0.heap.size rg rm (.slice aoL k capL) (.slice aoC k capC) (L.take k) := by
    have oL := own_keeps HR1.out.ownL K3 (nm aoL _ _ ⟨_, _, HA.out.ownL⟩)
    have oC := own_keeps HR1.out.ownC K3 (nm aoC _ _ ⟨_, _, HA.out.ownC⟩)
    exact ⟨HT.out.other HR1.out.at_ hgm, oL, oC, HR1.out.apart, HR1.out.pos, HR1.out.most⟩
  exact ⟨rfl, H.out.go HA.out R3 hat KK (by omega), HA.out.spares HM.out KK⟩

end Go.Proofs.Ytnmmffpcbneccaa
