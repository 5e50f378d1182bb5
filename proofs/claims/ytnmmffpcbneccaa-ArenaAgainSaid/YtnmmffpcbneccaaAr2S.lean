/-
  The walk over arena.Arena[string].Put.
-/
import Derived.Test.YtnmmffpcbneccaaAr1S
namespace Go.Proofs.Ytnmmffpcbneccaa
open Go.RowKit
set_option linter.unusedVariables false

theorem infoS : (Try.prog.info? 69).map (fun i => (i.zero, i.size, i.bytes)) = some (some (.agg #[.string ⟨#[]⟩, .int .i64 0]), 2, 24) := by kernel_rfl

set_option maxHeartbeats 800000 in
theorem putS_any (x : ByteArray) (n : Int) (w : World) (B g mb : Nat) (v : Value) (L : List (ByteArray × Int)) (l u m : Int) (hA : ArS w B g mb v L) (hM : At w mb 60 #[.int .i64 l, .int .i64 u, .int .i64 m])
    (hb : 0 ≤ u ∧ u ≤ l ∧ l ≤ 1099511627776) (hn : -9223372036854775808 ≤ n ∧ n ≤ 9223372036854775807) (htu : tot L ≤ u) (hBw : B ≤ w.heap.size) :
    Calls Try.prog 19 #[.pointer (some ⟨g, 0, none⟩), VS x, .int .i64 n] w fun e w' => e = .returned (.tuple #[.int .i64 (putNum l u n L.length), .int .i64 (putCode l u n)]) ∧
      ∃ v', ArS w' B g mb v' (putL l u n x L) ∧ At w' mb 60 #[.int .i64 l, .int .i64 (putUsed l u n), .int .i64 (putMost l u m n)] ∧ Keeps (g :: mb :: v.ownBlock.toList) w w' ∧ SameOrNew w v v' := by
  have HA := Lib.hid hA
  have HM := Lib.hid hM
  have hgm : g ≠ mb := by
    intro e
    have h1 := hA.at_
    have h2 := hM
    unfold At at h1 h2
    rw [← e, h1] at h2
    simp at h2
  have hvg := own_apart hA.own hA.at_ (by decide)
  have hvm := own_apart hA.own hM (by decide)
  have hsz := hA.size
  have ht0 := tot_nonneg hA.pos
  have c0 := hA.at_.cell 0
  clear hA hM
  simp at c0
  by_cases h1 : n < 1
  · go_enter Try.func19, Try.ntmps19
    go_wp2
    go_ret2
    obtain ⟨e1, e2, e3, e4, e5⟩ := put_neg (l := l) (u := u) (m := m) (x := x) (L := L) (k := L.length) h1
    rw [e1, e2, e3, e4, e5]
    exact ⟨rfl, v, HA.out, HM.out, Keeps.refl _ _, SameOrNew.refl _ _⟩
  · have htk := Lib.hid (take_any mb l u m n w HM.out hb hn)
    by_cases h2 : l - u < n
    · go_enter Try.func19, Try.ntmps19
      go_wp2_with fail
      refine htk.out.mono ?_
      obtain ⟨q1, q2, q3⟩ := take_big (l := l) (u := u) (m := m) (by omega) h2
      rw [q1, q2, q3]
      rintro e w1 ⟨rfl, hT⟩
      have HT := Lib.hid hT
      clear hT q1 q2 q3
      go_wp2
      go_ret2
      obtain ⟨e1, e2, e3, e4, e5⟩ := put_big (l := l) (u := u) (m := m) (x := x) (L := L) (k := L.length) (by omega) h2
      rw [e1, e2, e3, e4, e5]
      have hk : Keeps (g :: mb :: v.ownBlock.toList) w w1 := (Keeps.refl _ w).turns HT.out (.inl (by simp))
      refine ⟨rfl, v, ⟨HT.out.other HA.out.at_ hgm, own_keeps HA.out.own ((Keeps.refl [mb] w).turns HT.out (.inl (by simp))) ?_, HA.out.pos, HA.out.most⟩, HT.out.at_, hk, SameOrNew.refl _ _⟩
      intro k hk' hm
      simp at hm
      exact hvm (by rw [hk', hm])
    · have hno : n ≤ l - u := by omega
      go_enter Try.func19, Try.ntmps19
      go_wp2_with fail
      refine htk.out.mono ?_
      obtain ⟨q1, q2⟩ := take_ok (l := l) (u := u) (n := n) (by omega) hno
      rw [q1, q2]
      rintro e w1 ⟨rfl, hT⟩
      have HT := Lib.hid hT
      have hA1 : ArS w1 B g mb v L := ⟨hT.other HA.out.at_ hgm, own_keeps HA.out.own ((Keeps.refl [mb] w).turns hT (.inl (by simp))) (by
        intro k hk' hm
        simp at hm
        exact hvm (by rw [hk', hm])), HA.out.pos, HA.out.most⟩
      have hsw := hT.size
      have HA1 := Lib.hid hA1
      have d1 := hA1.at_.cell 1
      have d2 := hA1.at_.cell 2
      simp at d1 d2
      clear hT q1 q2 hA1
      obtain ⟨i0, hi, hz0, hz1, hz2⟩ := info_parts infoS
      go_wp2_with (at_builtin; refine wpList_append_own2 _ rfl (.tmp 24) (.tmp 28) 64 rfl B 69 i0 _ 2 24 Try.underlying64 hi hz0 hz1 hz2 rfl (by decide) v L.length (flat VS L) rfl (HA1.out.own.alloc _) ⟨w1.heap.size, 0, none⟩ 1 1 [VS x, .int .i64 n] rfl rfl ?c1 ?c2 ?c3 ?c4 ?c5 ?_)
      case c1 =>
        intro j q hj
        match j, hj with
        | 0, hj => simp at hj; subst hj; simp [Addr.add]
        | 1, hj => simp at hj; subst hj; simp [Addr.add]
      case c2 => intro q hq; simp at hq; rcases hq with rfl | rfl <;> rfl
      case c3 => unfold maxLen; omega
      case c4 => omega
      case c5 => simp; omega
      intro v' w2 hown' hgrow hsn
      have hown := Lib.hid hown'
      have K0 : Keeps (g :: mb :: v.ownBlock.toList) w w2 := (((Keeps.refl _ w).turns HT.out (.inl (by simp))).alloc _).grown hgrow (fun k hk => .inl (by simp [hk]))
      have gA2 : At w2 g 66 #[.pointer (some ⟨mb, 0, none⟩), v, .int .i64 (tot L)] := (HA1.out.at_.alloc _).grown hgrow (fun e => hvg e.symm)
      have gM2 : At w2 mb 60 #[.int .i64 l, .int .i64 (u + n), .int .i64 (takeMost l u m n)] := (HT.out.at_.alloc _).grown hgrow (fun e => hvm e.symm)
      have f1 := gA2.cell 1
      have f2 := gA2.cell 2
      have z1 := gA2.frozen 1
      have z2 := gA2.frozen 2
      simp at f1 f2
      have hG := Lib.hid gA2
      have hGM := Lib.hid gM2
      have hK0 := Lib.hid K0
      have hS : SameOrNew w v v' := by
        intro k hk
        rcases hsn k hk with h | h
        · exact .inl h
        · refine .inr ?_
          simp at h
          omega
      have HS := Lib.hid hS
      obtain ⟨ao', cap', rfl⟩ : ∃ ao cap, v' = .slice ao (L.length + 1) cap := by
        rcases own_shape hown' with ⟨_, e, _⟩ | ⟨g', cap, rfl, _⟩
        · omega
        · exact ⟨_, _, rfl⟩
      clear hown' hgrow hsn gA2 gM2 K0 hS d1 d2
      go_wp2
      go_ret2
      obtain ⟨e1, e2, e3, e4, e5⟩ := put_ok (l := l) (u := u) (m := m) (x := x) (L := L) (k := L.length) (by omega) hno
      rw [e1, e2, e3, e4, e5]
      have hvg' := own_apart hown.out hG.out (by decide)
      have etk : takeMost l u m n = (if m < u + n then u + n else m) := by
        unfold takeMost; rw [if_neg (by omega), if_neg (by omega)]
      refine ⟨?_, _, ⟨?_, ?_, ?_, ?_⟩, ?_, ?_, HS.out⟩
      · congr 4 <;> omega
      · rw [tot_append, tot_one]
        exact ((hG.out.set 1 _).set 2 _).eqs (by simp)
      · rw [flat_append, flat_one, List.length_append]
        exact own_keeps hown.out (((Keeps.refl [g] w2).set (.inl (by simp)) _).set (.inl (by simp)) _) (fun k hk hm => hvg' (by simp at hm; rw [hk, hm]))
      · intro p hp
        simp at hp
        rcases hp with hp | rfl
        · exact HA.out.pos p hp
        · simp; omega
      · rw [tot_append, tot_one]; simp; omega
      · rw [← etk]
        exact (hGM.out.far (by simpa using hgm.symm) _).far (by simpa using hgm.symm) _
      · exact (hK0.out.set (.inl (by simp)) _).set (.inl (by simp)) _

end Go.Proofs.Ytnmmffpcbneccaa
