/-
  The document's arena: Put and Cut.
-/
import Derived.Test.YtnmmffpcbneccaaArRef
namespace Go.Proofs.Ytnmmffpcbneccaa
open Go.RowKit
set_option linter.unusedVariables false

theorem infoN : (Try.prog.info? 3).map (fun i => (i.zero, i.size, i.bytes)) = some (some (.int .i64 0), 1, 8) := by kernel_rfl

theorem cut_ints (ao : Option Addr) (n k cap : Nat) (hk : k ≤ cap) (w : World) :
    (Instr.slice 33 (.slice ao n cap) none (some (.int .i64 (k : Int))) none).run Try.prog w = .ok (.slice ao k cap) w := by
  have hs : (Go.sizeOf (Try.prog.elem 33)).run Try.prog w = .ok 1 w := by kernel_rfl
  rw [run_slice_h (P := Try.prog) w 33 ao n cap Try.underlying33 .i64 (k : Int) (by omega) (by omega), hs]
  cases ao <;> simp [Result.andThen, sliced, Addr.add]

set_option maxHeartbeats 1600000 in
theorem rput_any (x n : Int) (w0 : World) (rg rm : Nat) (w : World) (l : Int) (L : List (Int × Int)) (h : RfO w0 rg rm w l L) (hn : -9223372036854775808 ≤ n ∧ n ≤ 9223372036854775807) :
    Calls Try.prog 31 #[.pointer (some ⟨rg, 0, none⟩), .int .i64 x, .int .i64 n] w fun e w' => e = .returned (.tuple #[.int .i64 (putNum l (tot L) n L.length), .int .i64 (putCode l (tot L) n)]) ∧
      RfO w0 rg rm w' l (putL l (tot L) n x L) ∧ Spares artR w w' := by
  have H := Lib.hid h
  have hnn := h.nonneg
  have hlim := h.lim
  have hz := h.bel.size
  obtain ⟨vL, vC, m, hA, hM⟩ := h.ex
  have HA := Lib.hid hA
  have HM := Lib.hid hM
  have hgm : rg ≠ rm := by
    intro e
    exact absurd (hA.at_.type (t' := 32) (cs' := #[.int .i64 l, .int .i64 (tot L), .int .i64 m]) (by rw [e]; exact hM)) (by decide)
  have hLg := own_apart hA.ownL hA.at_ (by decide)
  have hCg := own_apart hA.ownC hA.at_ (by decide)
  have hLm := own_apart hA.ownL hM (by decide)
  have hCm := own_apart hA.ownC hM (by decide)
  have c0 := hA.at_.cell 0
  clear hA hM h
  simp at c0
  by_cases h1 : n < 1
  · go_enter Try.func31, Try.ntmps31
    go_wp2
    go_ret2
    obtain ⟨e1, e2, _, _, e5⟩ := put_neg (l := l) (u := tot L) (m := 0) (x := x) (L := L) (k := L.length) h1
    rw [e1, e2, e5]
    exact ⟨rfl, H.out, Spares.refl _ _⟩
  · have htk := Lib.hid (rtake_any rm l (tot L) m n w HM.out ⟨hnn.1, hlim⟩ hn)
    by_cases h2 : l - tot L < n
    · go_enter Try.func31, Try.ntmps31
      go_wp2_with fail
      refine htk.out.mono ?_
      obtain ⟨q1, q2, q3⟩ := take_big (l := l) (u := tot L) (m := m) (by omega) h2
      rw [q1, q2, q3]
      rintro e w1 ⟨rfl, hT⟩
      have HT := Lib.hid hT
      clear hT q1 q2 q3
      go_wp2
      go_ret2
      obtain ⟨e1, e2, _, _, e5⟩ := put_big (l := l) (u := tot L) (m := 0) (x := x) (L := L) (k := L.length) (by omega) h2
      rw [e1, e2, e5]
      have hk : Keeps [rm] w w1 := (Keeps.refl _ w).turns HT.out (.inl (by simp))
      have hk2 : Keeps (rg :: rm :: vL.ownBlock.toList ++ vC.ownBlock.toList) w w1 := hk.mono (fun y hy => .inl (by simp at hy ⊢; simp [hy]))
      have hR1 : Rf w1 w0.heap.size rg rm vL vC L := ⟨HT.out.other HA.out.at_ hgm, own_keeps HA.out.ownL hk (fun q hq hm => hLm (by simp at hm; rw [hq, hm])), own_keeps HA.out.ownC hk (fun q hq hm => hCm (by simp at hm; rw [hq, hm])), HA.out.apart, HA.out.pos, HA.out.most⟩
      exact ⟨rfl, H.out.go HA.out hR1 HT.out.at_ hk2 hlim.1, HA.out.spares HM.out hk2⟩
    · have hno : n ≤ l - tot L := by omega
      go_enter Try.func31, Try.ntmps31
      go_wp2_with fail
      refine htk.out.mono ?_
      obtain ⟨q1, q2⟩ := take_ok (l := l) (u := tot L) (n := n) (by omega) hno
      rw [q1, q2]
      rintro e w1 ⟨rfl, hT⟩
      have HT := Lib.hid hT
      have hk : Keeps [rm] w w1 := (Keeps.refl _ w).turns hT (.inl (by simp))
      have hR1 : Rf w1 w0.heap.size rg rm vL vC L := ⟨hT.other HA.out.at_ hgm, own_keeps HA.out.ownL hk (fun q hq hm => hLm (by simp at hm; rw [hq, hm])), own_keeps HA.out.ownC hk (fun q hq hm => hCm (by simp at hm; rw [hq, hm])), HA.out.apart, HA.out.pos, HA.out.most⟩
      have HR1 := Lib.hid hR1
      have HK1 := Lib.hid hk
      have hsw := hT.size
      have d1 := hR1.at_.cell 1
      have d2 := hR1.at_.cell 2
      simp at d1 d2
      clear hT q1 q2 hk hR1
      obtain ⟨i0, hi, hz0, hz1, hz2⟩ := info_parts infoN
      go_wp2_with (at_builtin; refine wpList_append_own2 _ rfl (.tmp 24) (.tmp 26) 33 rfl w0.heap.size 3 i0 _ 1 8 Try.underlying33 hi hz0 hz1 hz2 rfl (by decide) vL L.length (fsts L) rfl (HR1.out.ownL.alloc _) ⟨w1.heap.size, 0, none⟩ 1 1 [.int .i64 x] rfl rfl ?c1 ?c2 ?c3 ?c4 ?c5 ?_)
      case c1 =>
        intro j q hj
        match j, hj with
        | 0, hj => simp at hj; subst hj; simp [Addr.add]
      case c2 => intro q hq; simp at hq; rcases hq with rfl; rfl
      case c3 => unfold maxLen; omega
      case c4 => omega
      case c5 => simp; omega
      intro vL' w2 hown2 hgrow2 hsn2
      have K2 : Keeps (rg :: rm :: vL.ownBlock.toList ++ vC.ownBlock.toList) w w2 := ((HK1.out.mono (fun y hy => .inl (by simp at hy ⊢; simp [hy]))).alloc _).grown hgrow2 (fun k hk => .inl (by simp [hk]))
      have g2 : At w2 rg 35 #[.pointer (some ⟨rm, 0, none⟩), vL, vC] := (HR1.out.at_.alloc _).grown hgrow2 (fun e => hLg e.symm)
      have m2 : At w2 rm 32 #[.int .i64 l, .int .i64 (tot L + n), .int .i64 (takeMost l (tot L) m n)] := (HT.out.at_.alloc _).grown hgrow2 (fun e => hLm e.symm)
      have o2 : w2.ownsRow w0.heap.size 3 1 vC L.length (snds L) := by
        refine (HR1.out.ownC.alloc _).kept hgrow2 ?_
        cases hv : vC.ownBlock with
        | none => exact .inl rfl
        | some q => exact .inr (fun e => HA.out.apart q e.symm hv)
      have f1 := g2.cell 1
      have f2 := g2.cell 2
      have z1 := g2.frozen 1
      simp at f1 f2
      have p2 : At (w2.setCell ⟨rg, 1, none⟩ vL') rg 35 #[.pointer (some ⟨rm, 0, none⟩), vL', vC] := (g2.set 1 _).eqs (by simp)
      have HP2 := Lib.hid p2
      have OC2 : (w2.setCell ⟨rg, 1, none⟩ vL').ownsRow w0.heap.size 3 1 vC L.length (snds L) := own_keeps o2 ((Keeps.refl [rg] w2).set (.inl (by simp)) _) (fun q hq hm => hCg (by simp at hm; rw [hq, hm]))
      have hLg' := own_apart hown2 g2 (by decide)
      have OL2 : (w2.setCell ⟨rg, 1, none⟩ vL').ownsRow w0.heap.size 3 1 vL' (L.length + 1) (fsts L ++ [.int .i64 x]) := own_keeps hown2 ((Keeps.refl [rg] w2).set (.inl (by simp)) _) (fun q hq hm => hLg' (by simp at hm; rw [hq, hm]))
      have M2 : At (w2.setCell ⟨rg, 1, none⟩ vL') rm 32 #[.int .i64 l, .int .i64 (tot L + n), .int .i64 (takeMost l (tot L) m n)] := m2.far (by simpa using hgm.symm) _
      have hz2w : w2.heap.size ≥ w.heap.size := K2.size
      have ap2 : ∀ k, vL'.ownBlock = some k → vC.ownBlock ≠ some k := by
        intro k hk hkc
        rcases hsn2 k hk with e | e
        · exact HA.out.apart k (by simpa using e) hkc
        · have := (HR1.out.ownC.lt k hkc).2
          simp at e
          omega
      have HO2 := Lib.hid (And.intro OC2 (And.intro OL2 (And.intro M2 ap2)))
      have HK2 := Lib.hid (K2.set (p := ⟨rg, 1, none⟩) (.inl (by simp)) vL')
      obtain ⟨aoL, capL, rfl, _⟩ := own_form' hown2
      clear hown2 hgrow2 hsn2 K2 g2 m2 o2 p2 OC2 OL2 M2 ap2 hLg' d1 d2
      go_wp2_with (at_builtin; refine wpList_append_own2 _ rfl (.tmp 34) (.tmp 36) 33 rfl w0.heap.size 3 i0 _ 1 8 Try.underlying33 hi hz0 hz1 hz2 rfl (by decide) vC L.length (snds L) rfl (HO2.out.1.alloc _) ⟨w2.heap.size, 0, none⟩ 1 1 [.int .i64 n] rfl rfl ?c11 ?c12 ?c13 ?c14 ?c15 ?_)
      case c11 =>
        intro j q hj
        match j, hj with
        | 0, hj =>
          simp at hj; subst hj
          exact World.cell?_alloc_at _ _ _ 0 (by simp)
      case c12 => intro q hq; simp at hq; rcases hq with rfl; rfl
      case c13 => unfold maxLen; omega
      case c14 => omega
      case c15 => simp; omega
      intro vC' w4 hown4 hgrow4 hsn4
      obtain ⟨aoC, capC, rfl, _⟩ := own_form' hown4
      have R4 := Lib.hid (And.intro hown4 (And.intro hgrow4 hsn4))
      have g4 : At w4 rg 35 #[.pointer (some ⟨rm, 0, none⟩), .slice aoL (L.length + 1) capL, vC] := (HP2.out.alloc _).grown hgrow4 (fun e => hCg e.symm)
      have f4 := g4.cell 1
      have f5 := g4.cell 2
      have z4 := g4.frozen 2
      simp at f4 f5
      have HG4 := Lib.hid g4
      clear hown4 hgrow4 hsn4 g4
      go_wp2
      go_ret2
      obtain ⟨e1, e2, _, _, e5⟩ := put_ok (l := l) (u := tot L) (n := n) (m := 0) (x := x) (L := L) (k := L.length) (by omega) hno
      rw [e1, e2, e5]
      obtain ⟨hown4, hgrow4, hsn4⟩ := R4.out
      obtain ⟨oc2, ol2, hm2, ap2⟩ := HO2.out
      have hCg' := own_apart hown4 HG4.out (by decide)
      have hCL : ∀ q, (Value.slice aoL (L.length + 1) capL).ownBlock = some q → vC.ownBlock ≠ some q := ap2
      have K4 : Keeps (rg :: rm :: vL.ownBlock.toList ++ vC.ownBlock.toList) w (w4.setCell ⟨rg, 2, none⟩ (.slice aoC (L.length + 1) capC)) := ((HK2.out.alloc _).grown hgrow4 (fun k hk => .inl (by simp [hk]))).set (.inl (by simp)) _
      have ol4 := own_keeps ((ol2.alloc (.cells #[.int .i64 n] 3)).kept hgrow4 (by
        cases hv : (Value.slice aoL (L.length + 1) capL).ownBlock with
        | none => exact .inl rfl
        | some q => exact .inr (fun e => hCL q hv e.symm))) ((Keeps.refl [rg] w4).set (p := ⟨rg, 2, none⟩) (.inl (by simp)) (.slice aoC (L.length + 1) capC)) (fun q hq hm => by
          have := own_apart ol2 HP2.out (by decide)
          simp at hm
          exact this (by rw [hq, hm]))
      have oc4 := own_keeps hown4 ((Keeps.refl [rg] w4).set (p := ⟨rg, 2, none⟩) (.inl (by simp)) (.slice aoC (L.length + 1) capC)) (fun q hq hm => by
          simp at hm
          exact hCg' (by rw [hq, hm]))
      have hm4 : At (w4.setCell ⟨rg, 2, none⟩ (.slice aoC (L.length + 1) capC)) rm 32 #[.int .i64 l, .int .i64 (tot L + n), .int .i64 (takeMost l (tot L) m n)] := ((hm2.alloc _).grown hgrow4 (fun e => hCm e.symm)).far (by simpa using hgm.symm) _
      have et : tot (L ++ [(x, n)]) = tot L + n := by rw [tot_append, tot_one]
      have hR4 : Rf (w4.setCell ⟨rg, 2, none⟩ (.slice aoC (L.length + 1) capC)) w0.heap.size rg rm (.slice aoL (L.length + 1) capL) (.slice aoC (L.length + 1) capC) (L ++ [(x, n)]) := by
        refine ⟨(HG4.out.set 2 _).eqs (by simp), ?_, ?_, ?_, ?_, by omega⟩
        · simpa [fsts] using ol4
        · simpa [snds] using oc4
        · intro q hq hqc
          rcases hsn4 q hqc with e | e
          · exact hCL q hq e
          · have := (ol2.lt q hq).2
            simp at e this
            omega
        · intro p hp
          simp at hp
          rcases hp with hp | rfl
          · exact HA.out.pos p hp
          · simp; omega
      rw [← et] at hm4
      refine ⟨?_, H.out.go HA.out hR4 hm4 K4 (by omega), HA.out.spares HM.out K4⟩
      congr 4 <;> omega

end Go.Proofs.Ytnmmffpcbneccaa
