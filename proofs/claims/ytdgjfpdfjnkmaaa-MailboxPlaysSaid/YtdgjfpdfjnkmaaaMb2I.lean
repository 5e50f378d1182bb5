/-
  The walk over mailbox.Box[int].All.
-/
import Derived.Test.YtdgjfpdfjnkmaaaMb1I
import Derived.OwnWalk
namespace Go.Proofs.Ytdgjfpdfjnkmaaa
open Go.RowKit
set_option linter.unusedVariables false

theorem infoEI : (Try.prog.info? 3).map (fun i => (i.zero, i.size, i.bytes)) = some (some (.int .i64 0), 1, 8) := by kernel_rfl

theorem turnedI {L : List Int} {k : Nat} (h : k < L.length) : ∃ x, L.drop k = x :: L.drop (k + 1) ∧ L.take (k + 1) = L.take k ++ [x] :=
  ⟨L[k], List.drop_eq_getElem_cons h, (List.take_append_getElem h).symm⟩

set_option maxRecDepth 100000 in
set_option maxHeartbeats 1600000 in
theorem allI_any (w : World) (g q n : Nat) (L : List Int) (hA : BxI w g q n L) :
    Calls Try.prog 16 #[.pointer (some ⟨g, 0, none⟩)] w fun e w' => ∃ v, e = .returned v ∧ w'.ownsRow w.heap.size 3 1 v L.length (L.map VI) ∧ BxI w' g q n L ∧ Keeps [q] w w' := by
  obtain ⟨i0, hi, hz0, hz1, hz2⟩ := info_parts infoEI
  have H := Lib.hid hA
  have hl := hA.len
  clear hA
  go_enter Try.func16, Try.ntmps16
  go_wp2_with fail
  refine (lenI_any _ _ _ _ _ H.out).mono ?_
  rintro e w1 ⟨rfl, rfl⟩
  go_wp2_with (at_make; refine wpList_make_own _ rfl _ _ 34 rfl w.heap.size 3 i0 _ 1 Try.underlying34 hi hz0 hz1 .i64 .i64 _ L.length rfl rfl rfl (by rw [hz2]; omega) (by unfold maxLen; omega) (Nat.le_refl _) ?_; intro w1 hown1 hgrow1)
  have HK1 := Lib.hid ((Keeps.refl [q] w).grown hgrow1 (fun k h => by cases h))
  have H1 := Lib.hid (H.out.keeps (S := []) ((Keeps.refl _ w).grown hgrow1 (fun k h => by cases h)) (by simp) (by simp))
  have HO := Lib.hid hown1
  clear hown1 hgrow1
  refine (lenI_any _ _ _ _ _ H1.out).mono ?_
  rintro e w2 ⟨rfl, rfl⟩
  go_wp2_with fail
  go_loopw [3, 11] (fun l i wr => ∃ (k : Nat) (ao : Option Addr) (cap : Nat), k ≤ L.length ∧ i = .int .i64 (k : Int) ∧ l = .slice ao k cap ∧ wr.ownsRow w.heap.size 3 1 (.slice ao k cap) k ((L.take k).map VI) ∧ BxI wr g q n (L.drop k ++ L.take k) ∧ Keeps [q] w wr) (fun _ i _ => L.length - (intOf i).toNat)
  case atStart => exact ⟨0, _, _, by omega, rfl, rfl, by simpa using HO.out, by simpa using H1.out, HK1.out⟩
  case round =>
    obtain ⟨k, ao, cap, hk, rfl, rfl, hown, hB, hKw⟩ := hrel
    have HB := Lib.hid hB
    have HW := Lib.hid hown
    have HK := Lib.hid hKw
    clear hown hB hKw
    by_cases hlt : k < L.length
    · obtain ⟨x, hx, hx'⟩ := turnedI hlt
      have HX := Lib.hid hx
      have HX' := Lib.hid hx'
      have B0 : BxI wr g q n (x :: (L.drop (k + 1) ++ L.take k)) := by
        have := HB.out
        rw [HX.out] at this
        exact this
      have HB0 := Lib.hid B0
      clear hx hx' B0
      go_wp2_with fail
      refine (pollI_ok x _ _ _ _ _ HB0.out).mono ?_
      rintro e w3 ⟨rfl, hB3, hK3⟩
      have HB3 := Lib.hid hB3
      have HK3 := Lib.hid hK3
      clear hB3 hK3
      go_wp2_with fail
      refine (offerI_ok x _ _ _ _ _ HB3.out (by have := HB0.out.le; simp at this ⊢; omega)).mono ?_
      rintro e w4 ⟨rfl, hB4, hK4⟩
      have HK4 := Lib.hid (HK3.out.trans hK4)
      have B4 : BxI w4 g q n (L.drop (k + 1) ++ L.take (k + 1)) := by
        rw [HX'.out, ← List.append_assoc]; exact hB4
      have HB4 := Lib.hid B4
      have hnq := own_notchan HW.out HB.out.ch
      have hown4 := own_keeps HW.out HK4.out (fun j hj hm => hnq (by simp at hm; rw [hj, hm]))
      have HW4 := Lib.hid hown4
      have hsz : w.heap.size ≤ w4.heap.size := Nat.le_trans HK.out.size HK4.out.size
      clear hB4 hK4 B4 hnq hown4
      go_wp2_with (at_builtin; refine wpList_append_own2 _ rfl (.tmp 21) (.tmp 23) 34 rfl w.heap.size 3 i0 _ 1 8 Try.underlying34 hi hz0 hz1 hz2 rfl (by decide) _ k ((L.take k).map VI) rfl (HW4.out.alloc _) ⟨w4.heap.size, 0, none⟩ 1 1 [VI x] rfl rfl ?c1 ?c2 ?c3 ?c4 ?c5 ?_)
      case c1 =>
        intro j u hj
        match j, hj with
        | 0, hj => simp at hj; subst hj; simp [Addr.add]
      case c2 => intro u hu; simp at hu; subst hu; rfl
      case c3 => unfold maxLen; omega
      case c4 => omega
      case c5 => simp; omega
      intro v' w5 hown' hgrow hsn
      have nq : (Value.slice ao k cap).ownBlock ≠ some q := own_notchan HW4.out HB4.out.ch
      have ng : (Value.slice ao k cap).ownBlock ≠ some g := own_apart HW4.out HB4.out.at_ (by decide)
      have K5 : Keeps [q] w w5 := ((HK.out.trans HK4.out).alloc _).grown hgrow (fun j hj => .inr (HW4.out.lt j hj).1)
      have B5 : BxI w5 g q n (L.drop (k + 1) ++ L.take (k + 1)) :=
        (HB4.out.alloc _).keeps (S := (Value.slice ao k cap).ownBlock.toList) ((Keeps.refl _ _).grown hgrow (fun j hj => .inl (by simp [hj]))) (by simpa using ng) (by simpa using nq)
      have O5 : w5.ownsRow w.heap.size 3 1 v' (k + 1) ((L.take (k + 1)).map VI) := by
        rw [HX'.out, List.map_append, List.map_take]; exact hown'
      obtain ⟨ao', cap', rfl⟩ : ∃ ao cap, v' = .slice ao (k + 1) cap := by
        rcases own_shape hown' with ⟨_, h0, _⟩ | ⟨g', cap, e, _⟩
        · omega
        · exact ⟨_, _, e⟩
      have R5 := Lib.hid (And.intro O5 (And.intro B5 K5))
      clear hown' hgrow hsn nq ng K5 B5 O5
      go_wp2_with fail
      go_roundw
      case rel => exact ⟨k + 1, ao', cap', by omega, by go_num, rfl, R5.out⟩
      case measure => simp [intOf]; omega
    · obtain rfl : L.length = k := by omega
      go_wp2_with fail
      go_ret
      exact ⟨_, rfl, by simpa using HW.out, by simpa using HB.out, HK.out⟩

end Go.Proofs.Ytdgjfpdfjnkmaaa
