/-
  The walk over arena.Arena[int].Cut.
-/
import Derived.Test.YtnmmffpcbneccaaAr2I
namespace Go.Proofs.Ytnmmffpcbneccaa
open Go.RowKit
set_option linter.unusedVariables false

theorem zeroI (w : World) : (zeroValue 72).run Try.prog w = .ok (.agg #[.int .i64 0, .int .i64 0]) w := by kernel_rfl

theorem wrappedI {n : Int} (h : 0 ≤ n) (h' : n ≤ 1099511627776) : (n + 9223372036854775808) % 18446744073709551616 - 9223372036854775808 = n := by omega

/-- What Cut gives back: the meter's Take back, said at what the arena needs. -/
theorem giveI_to (b : Nat) (l u m n : Int) (w : World) (hm : At w b 60 #[.int .i64 l, .int .i64 u, .int .i64 m]) (hb : 0 ≤ u ∧ u ≤ l ∧ l ≤ 1099511627776) (h0 : 0 ≤ n) (h1 : n ≤ u) :
    Calls Try.prog 35 #[.pointer (some ⟨b, 0, none⟩), .int .i64 n] w fun e w' => e = .returned (.int .i64 0) ∧ Turns w w' b 60 #[.int .i64 l, .int .i64 (u - n), .int .i64 m] := by
  refine (give_any b l u m n w hm hb (by omega)).mono ?_
  have e1 : giveCode u n = 0 := by unfold giveCode; rw [if_neg (by omega : ¬ n < 0), if_neg (by omega : ¬ u < n)]
  have e2 : giveUsed u n = u - n := by unfold giveUsed; rw [if_neg (by omega : ¬ n < 0), if_neg (by omega : ¬ u < n)]
  rw [e1, e2]
  intro e w' h
  exact h

set_option maxHeartbeats 1600000 in
theorem cutI_any (n : Int) (w : World) (B g mb : Nat) (v : Value) (L : List (Int × Int)) (l u m : Int) (hA : ArI w B g mb v L) (hM : At w mb 60 #[.int .i64 l, .int .i64 u, .int .i64 m])
    (hb : 0 ≤ u ∧ u ≤ l ∧ l ≤ 1099511627776) (hn : -9223372036854775808 ≤ n ∧ n ≤ 9223372036854775807) (htu : tot L ≤ u) (hBw : B ≤ w.heap.size) :
    Calls Try.prog 25 #[.pointer (some ⟨g, 0, none⟩), .int .i64 n] w fun e w' => e = .returned (.int .i64 (tot (L.drop (cutAt n L.length)))) ∧
      ∃ v', ArI w' B g mb v' (L.take (cutAt n L.length)) ∧ At w' mb 60 #[.int .i64 l, .int .i64 (u - tot (L.drop (cutAt n L.length))), .int .i64 m] ∧ Keeps (g :: mb :: v.ownBlock.toList) w w' ∧ v'.ownBlock = v.ownBlock := by
  have HA := Lib.hid hA
  have HM := Lib.hid hM
  have hgm : g ≠ mb := by
    intro e
    have h1 := hA.at_
    have h2 := hM
    unfold At at h1 h2
    rw [← e, h1] at h2
    simp at h2
  have hvg := own_apart hA.own hA.at_ (by decide)
  have hvm := own_apart hA.own hM (by decide)
  have hsz := hA.size
  have ht0 := tot_nonneg hA.pos
  have c0 := hA.at_.cell 0
  have c1 := hA.at_.cell 1
  simp at c0 c1
  obtain ⟨k, hk⟩ : ∃ k, k = cutAt n L.length := ⟨_, rfl⟩
  rw [← hk]
  have hkl : k ≤ L.length := hk ▸ cutAt_le n L.length
  have hkn : min (max n 0) (L.length : Int) = (k : Int) := by rw [hk]; unfold cutAt; omega
  clear hk
  have htd0 : 0 ≤ tot (L.drop k) := tot_nonneg (fun p hp => hA.pos p (List.mem_of_mem_drop hp))
  have htt0 : 0 ≤ tot (L.take k) := tot_nonneg (fun p hp => hA.pos p (List.mem_of_mem_take hp))
  have hts := tot_split L k
  by_cases hke : k = L.length
  · subst hke
    have hcl : ∀ (wx : World) (a : Option Addr) (c : Nat) (ty : TypeId), (Builtin.clear_ #[61] ty #[.slice a 0 c]).run Try.prog wx = .ok (.tuple #[]) wx := fun wx a c ty => run_clear_empty wx _ _ ty Try.underlying61 a c
    have hL : L.take L.length = L := List.take_of_length_le (Nat.le_refl _)
    have hD : tot (L.drop L.length) = 0 := by rw [List.drop_of_length_le (Nat.le_refl _)]; rfl
    rw [hL, hD]
    have c2 := hA.at_.cell 2
    have z1 := hA.at_.frozen 1
    have z2 := hA.at_.frozen 2
    simp at c2
    have hfin : ∀ w1, w1 = (w.setCell ⟨g, 1, none⟩ v).setCell ⟨g, 2, none⟩ (.int .i64 (tot L)) → At w1 g 63 #[.pointer (some ⟨mb, 0, none⟩), v, .int .i64 (tot L)] ∧ At w1 mb 60 #[.int .i64 l, .int .i64 u, .int .i64 m] ∧ Keeps [g] w w1 := by
      rintro w1 rfl
      exact ⟨((hA.at_.set 1 _).set 2 _).eqs (by simp), (hM.far (by simpa using hgm.symm) _).far (by simpa using hgm.symm) _, ((Keeps.refl [g] w).set (.inl (by simp)) _).set (.inl (by simp)) _⟩
    have HF := Lib.hid hfin
    have hend : ∀ w1 w2, w1 = (w.setCell ⟨g, 1, none⟩ v).setCell ⟨g, 2, none⟩ (.int .i64 (tot L)) → Turns w1 w2 mb 60 #[.int .i64 l, .int .i64 (u - 0), .int .i64 m] →
        ∃ v', ArI w2 B g mb v' L ∧ At w2 mb 60 #[.int .i64 l, .int .i64 (u - 0), .int .i64 m] ∧ Keeps (g :: mb :: v.ownBlock.toList) w w2 ∧ v'.ownBlock = v.ownBlock := by
      intro w1 w2 he hT
      obtain ⟨q1, q2, q3⟩ := HF.out w1 he
      have q4 : Keeps [g, mb] w w2 := (q3.mono (fun x hx => .inl (by simp at hx; simp [hx]))).turns hT (.inl (by simp))
      refine ⟨v, ⟨hT.other q1 hgm, own_keeps HA.out.own q4 ?_, HA.out.pos, HA.out.most⟩, hT.at_, q4.mono (fun x hx => .inl (by simp at hx ⊢; rcases hx with h | h <;> simp [h])), rfl⟩
      intro j hj hm
      simp at hm
      rcases hm with rfl | rfl
      · exact hvg hj
      · exact hvm hj
    have HE := Lib.hid hend
    rcases own_shape hA.own with ⟨rfl, hlen, _⟩ | ⟨b, cap, rfl, h1, h2, h3, h4⟩
    · clear hA hM hL hD hfin hend
      rw [hlen] at *
      have hkn' : min (max n 0) (0 : Int) = 0 := by omega
      clear hkn
      go_enter Try.func25, Try.ntmps25
      go_wp2_with fail
      refine wp_loop_rounds 1 ?_
      rw [rounds_succ]
      go_wp2_with fail
      refine (giveI_to mb l u m 0 _ (HF.out _ rfl).2.1 hb (by omega) (by omega)).mono ?_
      rintro e w2 ⟨rfl, hT⟩
      have R := Lib.hid (HE.out _ _ rfl hT)
      clear hT
      go_wp2
      go_ret
      exact ⟨rfl, R.out⟩
    · clear hA hM hL hD hfin hend
      have hmx : L.length ≤ cap := h1
      have hc63 : cap ≤ 9223372036854775807 := by unfold maxLen at h2; omega
      clear h2 h3 h4
      by_cases hcap : cap = L.length
      · subst hcap
        go_enter Try.func25, Try.ntmps25
        go_wp2_with fail
        refine wp_loop_rounds 1 ?_
        rw [rounds_succ]
        go_wp2_with fail
        refine (giveI_to mb l u m 0 _ (HF.out _ rfl).2.1 hb (by omega) (by omega)).mono ?_
        rintro e w2 ⟨rfl, hT⟩
        have R := Lib.hid (HE.out _ _ rfl hT)
        clear hT
        go_wp2
        go_ret
        exact ⟨rfl, R.out⟩
      · go_enter Try.func25, Try.ntmps25
        go_wp2_with fail
        refine wp_loop_rounds 1 ?_
        rw [rounds_succ]
        go_wp2_with fail
        refine (giveI_to mb l u m 0 _ (HF.out _ rfl).2.1 hb (by omega) (by omega)).mono ?_
        rintro e w2 ⟨rfl, hT⟩
        have R := Lib.hid (HE.out _ _ rfl hT)
        clear hT
        go_wp2
        go_ret
        exact ⟨rfl, R.out⟩
  · have hkl' : k < L.length := by omega
    rcases own_shape hA.own with ⟨rfl, hlen, _⟩ | ⟨b, cap, rfl, h1, h2, h3, h4⟩
    · omega
    have hcap : ¬ cap = k := by omega
    have hcap0 : ¬ cap = 0 := by omega
    have hc63 : cap ≤ 9223372036854775807 := by unfold maxLen at h2; omega
    clear hA hM h2 h3 h4 hke
    have HV := Lib.hid hvg
    have HVM := Lib.hid hvm
    have hbg : b ≠ g := fun e => hvg (by rw [e]; rfl)
    have hbm : b ≠ mb := fun e => hvm (by rw [e]; rfl)
    clear hvg hvm
    go_enter Try.func25, Try.ntmps25
    go_wp2_with fail
    go_loopw [6, 25] (fun bk i wr => ∃ j : Nat, j ≤ L.length - k ∧ i = .int .i64 (j : Int) ∧ bk = .int .i64 (tot ((L.drop k).take j)) ∧ Keeps [] w wr) (fun _ i _ => (L.length - k) - (intOf i).toNat)
    case atStart => exact ⟨0, by omega, rfl, rfl, Keeps.refl _ _⟩
    case round =>
      obtain ⟨j, hj, rfl, rfl, hK⟩ := hrel
      have HK := Lib.hid hK
      have hown := Lib.hid (own_keeps HA.out.own hK (fun _ _ => by simp))
      clear hK
      have hbt0 : 0 ≤ tot ((L.drop k).take j) := tot_nonneg (fun p hp => HA.out.pos p (List.mem_of_mem_drop (List.mem_of_mem_take hp)))
      have hbt1 : tot ((L.drop k).take j) ≤ tot (L.drop k) := by
        have h5 := tot_split (L.drop k) j
        have h6 : 0 ≤ tot ((L.drop k).drop j) := tot_nonneg (fun p hp => HA.out.pos p (List.mem_of_mem_drop (List.mem_of_mem_drop hp)))
        omega
      by_cases hlt : j < L.length - k
      · obtain ⟨p, hp⟩ : ∃ p, L[k + j]? = some p := ⟨_, List.getElem?_eq_getElem (by omega)⟩
        have f0 : wr.cell? ⟨b, k * 2 + j * 2, none⟩ = some (VI p.1) := by
          rw [hown.out.cellAt (k * 2 + j * 2) (by omega), show k * 2 + j * 2 = (k + j) * 2 by omega, flat_fst VI L _ p hp]
        have f1 : wr.cell? ⟨b, k * 2 + j * 2 + 1, none⟩ = some (.int .i64 p.2) := by
          rw [hown.out.cellAt (k * 2 + j * 2 + 1) (by omega), show k * 2 + j * 2 + 1 = (k + j) * 2 + 1 by omega, flat_snd VI L _ p hp]
        have hstep : tot ((L.drop k).take (j + 1)) = tot ((L.drop k).take j) + p.2 := tot_take_succ (by rw [List.getElem?_drop]; exact hp)
        have hstep1 : tot ((L.drop k).take (j + 1)) ≤ tot (L.drop k) := by
          have h5 := tot_split (L.drop k) (j + 1)
          have h6 : 0 ≤ tot ((L.drop k).drop (j + 1)) := tot_nonneg (fun p hp => HA.out.pos p (List.mem_of_mem_drop (List.mem_of_mem_drop hp)))
          omega
        have hp1 : 1 ≤ p.2 := HA.out.pos p (List.mem_of_getElem? hp)
        have hp2 : p.2 ≤ 1099511627776 := by have := HA.out.most; omega
        have hp3 : tot ((L.drop k).take j) + p.2 ≤ 1099511627776 := by have := HA.out.most; omega
        have HS := Lib.hid hstep
        clear hstep hp hstep1
        go_wp2
        go_roundw
        case rel => exact ⟨j + 1, by omega, by go_num, by rw [HS.out], HK.out.alloc _⟩
        case measure => simp [intOf]; omega
      · obtain rfl : j = L.length - k := by omega
        have hall : (L.drop k).take (L.length - k) = L.drop k := List.take_of_length_le (by simp)
        rw [hall]
        clear hall hbt0 hbt1 hlt hj
        obtain ⟨w2, hclr, hown2, hgr2⟩ := run_clear_own (P := Try.prog) wr B 61 72 (.agg #[.int .i64 0, .int .i64 0]) 2 Try.underlying61 zeroI (by intro q hq; simp [Value.cells] at hq; first | (rcases hq with rfl | rfl <;> rfl) | (subst hq; rfl)) rfl b L.length cap _ hown.out k (k * 2) (L.length - k) (cap - k) hkl' rfl rfl
        have gA2 : At w2 g 63 #[.pointer (some ⟨mb, 0, none⟩), .slice (some ⟨b, 0, none⟩) L.length cap, .int .i64 (tot L)] := (HA.out.at_.keeps HK.out (by simp)).grown hgr2 (by simpa using hbg.symm)
        have gM2 : At w2 mb 60 #[.int .i64 l, .int .i64 u, .int .i64 m] := (HM.out.keeps HK.out (by simp)).grown hgr2 (by simpa using hbm.symm)
        have K2 : Keeps (g :: mb :: [b]) w w2 := (HK.out.mono (S' := g :: mb :: [b]) (fun x hx => by simp at hx)).grown hgr2 (fun k hk => .inl (by injection hk with hk; simp [hk]))
        have f0 := gA2.cell 0
        have f1 := gA2.cell 1
        have f2 := gA2.cell 2
        have z1 := gA2.frozen 1
        have z2 := gA2.frozen 2
        simp at f0 f1 f2
        have hG := Lib.hid gA2
        have hGM := Lib.hid gM2
        have hK2 := Lib.hid K2
        have hown3 := Lib.hid hown2
        have htt : tot L - tot (L.drop k) = tot (L.take k) := by omega
        have HTT := Lib.hid htt
        clear gA2 gM2 K2 hown2 hgr2 htt
        go_wp2_with fail
        refine (giveI_to mb l u m (tot (L.drop k)) _ ((hGM.out.far (by simpa using hgm.symm) _).far (by simpa using hgm.symm) _) hb (by omega) (by omega)).mono ?_
        rintro e w3 ⟨rfl, hT⟩
        have HT := Lib.hid hT
        clear hT
        go_wp2
        go_ret
        have K3 : Keeps [g, mb] w2 w3 := (((Keeps.refl [g, mb] w2).set (.inl (by simp)) _).set (.inl (by simp)) _).turns HT.out (.inl (by simp))
        refine ⟨rfl, .slice (some ⟨b, 0, none⟩) k cap, ⟨?_, ?_, fun p hp => HA.out.pos p (List.mem_of_mem_take hp), by have := HA.out.most; omega⟩, HT.out.at_, hK2.out.trans' K3 (fun x hx => .inl (by simp at hx ⊢; rcases hx with h | h <;> simp [h])), rfl⟩
        · refine HT.out.other ?_ hgm
          exact ((hG.out.set 1 _).set 2 _).eqs (by simp [HTT.out])
        · have h8 := own_keeps hown3.out K3 (by
            intro q hq hm
            simp [Value.ownBlock] at hq
            subst hq
            simp at hm
            rcases hm with h | h
            · exact hbg h
            · exact hbm h)
          rw [flat_take] at h8
          rw [List.length_take, Nat.min_eq_left hkl]
          exact h8

end Go.Proofs.Ytnmmffpcbneccaa
