import Derived.Test.YtddjmhhdpfebkaaScA
import Derived.Test.YtddjmhhdpfebkaaZd
import Derived.OwnWalk
namespace Go.Proofs.Ytddjmhhdpfebkaa
set_option maxRecDepth 100000
open Go.RowKit
set_option linter.unusedVariables false
set_option linter.unusedSimpArgs false
theorem infoToken : (Try.prog.info? 54).map (fun i => (i.zero, i.size, i.bytes)) = some (some (.agg #[.string ⟨#[]⟩, .string ⟨#[]⟩, .string ⟨#[]⟩, .bool false]), 4, 56) := by kernel_rfl
theorem infoPat : (Try.prog.info? 48).map (fun i => (i.zero, i.size, i.bytes)) = some (some (.agg #[.string ⟨#[]⟩, .string ⟨#[]⟩, .bool false]), 3, 40) := by kernel_rfl
theorem Try.sizeGrammar : (Try.prog.info? 28).map (·.size) = some 5 := by kernel_rfl
theorem Try.sizePat : (Try.prog.info? 48).map (·.size) = some 3 := by kernel_rfl
theorem Try.sizeToken : (Try.prog.info? 54).map (·.size) = some 4 := by kernel_rfl
def Sc.tok (p : P) : List Value := [.string ⟨#[116]⟩, .string (str p.T), .string (str p.S), .bool p.m]
theorem tok_len (p : P) : (Sc.tok p).length = 4 := rfl
theorem Cl.tok {w : World} {B : Nat} {A : Option Addr} {l : List P} (h : Cl w B A (l.flatMap Sc.tok)) {i : Nat} {p : P} (hp : l[i]? = some p) :
  ∃ b o, A = some ⟨b, o, none⟩ ∧ b < B ∧ w.cell? ⟨b, o + i * 4, none⟩ = some (.string ⟨#[116]⟩) ∧ w.cell? ⟨b, o + i * 4 + 1, none⟩ = some (.string (str p.T)) ∧ w.cell? ⟨b, o + i * 4 + 2, none⟩ = some (.string (str p.S)) ∧ w.cell? ⟨b, o + i * 4 + 3, none⟩ = some (.bool p.m) := by
 have hat := flat_at Sc.tok 4 tok_len l i
 obtain ⟨b, o, h1, h2, h3⟩ := h.ex (fun e => by
  have := hat 0 p hp (by omega)
  rw [e] at this
  simp [Sc.tok] at this)
 refine ⟨b, o, h1, h2, ?_, ?_, ?_, ?_⟩
 ·have := h3 (i * 4 + 0) _ (hat 0 p hp (by omega)); simpa [Nat.add_assoc] using this
 ·have := h3 (i * 4 + 1) _ (hat 1 p hp (by omega)); simpa [Nat.add_assoc] using this
 ·have := h3 (i * 4 + 2) _ (hat 2 p hp (by omega)); simpa [Nat.add_assoc] using this
 ·have := h3 (i * 4 + 3) _ (hat 3 p hp (by omega)); simpa [Nat.add_assoc] using this
theorem tok_one (p : P) : ∀ u ∈ Sc.tok p, u.oneCell' = true := by
 intro u hu
 simp only [Sc.tok, List.mem_cons, List.not_mem_nil, or_false] at hu
 rcases hu with rfl | rfl | rfl | rfl <;> rfl
theorem grown_five (w : World) (g : Nat) (a0 a1 a2 a3 a4 : Value) : w.grownBy (((((w.setCell ⟨g, 0, none⟩ a0).setCell ⟨g, 1, none⟩ a1).setCell ⟨g, 2, none⟩ a2).setCell ⟨g, 3, none⟩ a3).setCell ⟨g, 4, none⟩ a4) (some g) :=
 grown_set (grown_set (grown_set (grown_set (grown_set (grown_refl w (some g)) 0 a0) 1 a1) 2 a2) 3 a3) 4 a4
theorem At.five_ {w : World} {g : Nat} {t : TypeId} {b0 b1 b2 b3 b4 : Value} (h : At w g t #[b0, b1, b2, b3, b4]) (a0 a1 a2 a3 a4 : Value) :
  At (((((w.setCell ⟨g, 0, none⟩ a0).setCell ⟨g, 1, none⟩ a1).setCell ⟨g, 2, none⟩ a2).setCell ⟨g, 3, none⟩ a3).setCell ⟨g, 4, none⟩ a4) g t #[a0, a1, a2, a3, a4] := by
 simpa using ((((h.set 0 a0).set 1 a1).set 2 a2).set 3 a3).set 4 a4
set_option maxHeartbeats 8000000 in
theorem made_any (A : Option Addr) (c : Nat) (ts : List P) (Ak : Option Addr) (nk ck : Nat) (w : World) (hcl : Cl w w.heap.size A (ts.flatMap Sc.cells)) (h40 : ts.length * 40 ≤ reachBytes) :
  Calls Try.prog 9 #[.slice A ts.length c, .slice Ak nk ck] w fun e w' => ∃ A' c', (e = .returned (.agg #[.slice A' ts.length c', .slice Ak nk ck, .slice none 0 0, .string ⟨#[]⟩, .slice none 0 0]) ∧ Lie w' 54 A' (ts.flatMap Sc.tok)) ∧ Below w.heap.size w w' := by
 obtain ⟨iT, hiT, hT0, hT1, hT2⟩ := info_parts infoToken
 have h47 : ts.length * 40 ≤ 140737488355328 := by unfold reachBytes at h40; omega
 obtain ⟨N, hN⟩ : ∃ N, ts.length = N := ⟨_, rfl⟩
 rw [hN] at h47 ⊢
 have HN := Lib.hid hN
 have hat1 := At.new w 28 #[.slice none 0 0, .slice none 0 0, .slice none 0 0, .string ⟨#[]⟩, .slice none 0 0]
 have hb1 := (Below.refl w.heap.size w).alloc (Nat.le_refl _) (.cells #[.slice none 0 0, .slice none 0 0, .slice none 0 0, .string ⟨#[]⟩, .slice none 0 0] 28)
 obtain ⟨w1, hw1⟩ : ∃ w1, w.alloc (.cells #[.slice none 0 0, .slice none 0 0, .slice none 0 0, .string ⟨#[]⟩, .slice none 0 0] 28) = w1 := ⟨_, rfl⟩
 have hs1 : w1.heap.size = w.heap.size + 1 := by rw [← hw1]; simp
 rw [hw1] at hat1 hb1
 have hat2 := At.new w1 28 #[.slice none 0 0, .slice Ak nk ck, .slice none 0 0, .string ⟨#[]⟩, .slice none 0 0]
 have hb2 := hb1.alloc hb1.size (.cells #[.slice none 0 0, .slice Ak nk ck, .slice none 0 0, .string ⟨#[]⟩, .slice none 0 0] 28)
 have hat12 := hat1.alloc (.cells #[.slice none 0 0, .slice Ak nk ck, .slice none 0 0, .string ⟨#[]⟩, .slice none 0 0] 28)
 obtain ⟨W0, hW0⟩ : ∃ W0, w1.alloc (.cells #[.slice none 0 0, .slice Ak nk ck, .slice none 0 0, .string ⟨#[]⟩, .slice none 0 0] 28) = W0 := ⟨_, rfl⟩
 have hs2 : W0.heap.size = w.heap.size + 1 + 1 := by rw [← hW0]; simp [hs1]
 rw [hW0] at hat2 hb2 hat12
 rw [hs1] at hat2
 obtain ⟨gr, hgr⟩ : ∃ g, g = w.heap.size := ⟨_, rfl⟩
 rw [← hgr] at hat2 hat12 hb2 hs2 hcl
 have HAT := Lib.hid hat2
 have HATR := Lib.hid hat12
 have HB0 := Lib.hid hb2
 have HW1 := Lib.hid hw1
 have HW0 := Lib.hid hW0
 have HS2 := Lib.hid hs2
 have HG := Lib.hid hgr
 have HCL := Lib.hid hcl
 clear hat1 hb1 hat12 hat2 hb2 hw1 hW0 hs1 hs2 hgr hcl h40 hN
 go_enter Try.func9, Try.ntmps9
 go_wp2_with fail
 rw [HW1.out, ← HG.out]
 rw [HW0.out]
 go_loopw [6] (fun i wr => ∃ (k : Nat) (a : Option Addr) (cc : Nat), k ≤ N ∧ i = .int .i64 (k : Int) ∧ At wr (gr + 1) 28 #[.slice a k cc, .slice Ak nk ck, .slice none 0 0, .string ⟨#[]⟩, .slice none 0 0] ∧ wr.ownsRow (gr + 1) 54 4 (.slice a k cc) k ((ts.take k).flatMap Sc.tok) ∧ At wr gr 28 #[.slice none 0 0, .slice none 0 0, .slice none 0 0, .string ⟨#[]⟩, .slice none 0 0] ∧ Below gr w wr) (fun i _ => N - (intOf i).toNat)
 case atStart => exact ⟨0, none, 0, by omega, rfl, HAT.out, World.ownsRow_nil _ _ _ _, HATR.out, HB0.out⟩
 case round =>
  obtain ⟨k, a, cc, hk, rfl, hat, hown, hatr, hbe⟩ := hrel
  have HA := Lib.hid hat
  have HO := Lib.hid hown
  have HR := Lib.hid hatr
  have HBE := Lib.hid hbe
  have p0 := hat.cell 0
  have p1 := hat.cell 1
  have p2 := hat.cell 2
  have p3 := hat.cell 3
  have p4 := hat.cell 4
  have hlg := hat.lt
  simp only [List.getElem?_toArray, List.getElem?_cons_zero, List.getElem?_cons_succ] at p0 p1 p2 p3 p4
  clear hat hown hatr hbe
  by_cases hlt : k < N
  ·obtain ⟨p, hp⟩ : ∃ p, ts[k]? = some p := ⟨_, List.getElem?_eq_getElem (by rw [HN.out]; exact hlt)⟩
   obtain ⟨b, o, hA, hbl, y0, y1, y2⟩ := (HCL.out.below HBE.out).pat hp
   subst hA
   have hblw : b < wr.heap.size := by have := HBE.out.size; rw [← HG.out] at this; omega
   have htk : (ts.take (k + 1)).flatMap Sc.tok = (ts.take k).flatMap Sc.tok ++ Sc.tok p := by
    rw [List.take_add_one, hp, List.flatMap_append]; simp
   have HTK := Lib.hid htk
   obtain ⟨XT, hXT⟩ : ∃ X, str p.T = X := ⟨_, rfl⟩
   obtain ⟨XS, hXS⟩ : ∃ X, str p.S = X := ⟨_, rfl⟩
   obtain ⟨xm, hxm⟩ : ∃ X, p.m = X := ⟨_, rfl⟩
   have htp : Sc.tok p = [.string ⟨#[116]⟩, .string XT, .string XS, .bool xm] := by rw [← hXT, ← hXS, ← hxm]; rfl
   have HTP := Lib.hid htp
   rw [hXT] at y0
   rw [hXS] at y1
   rw [hxm] at y2
   have hki : (k : Int) < (N : Int) := by omega
   have hk0 : (0 : Int) ≤ (k : Int) := by omega
   have hc3 : k + 1 ≤ maxLen := by unfold maxLen; omega
   have hc4 : Grows k 1 56 := Grows.token hlt h47
   have hsz : wr.heap.size ≤ wr.heap.size := Nat.le_refl _
   have hgr1 : gr + 1 ≤ wr.heap.size := by omega
   clear hp htk htp hXT hXS hxm
   go_wp2_with fail
   have hz0 : Below wr.heap.size wr wr.drew := below_drew (Below.refl _ _)
   refine Zed.begin_ (fun w' => Below wr.heap.size wr w') [8, 10] (by kernel_rfl) ?_
   refine Zd.pureD (i := 0) (d := some 15) (v := ?va0) rfl rfl (by kernel_rfl) (by kernel_rfl) (by kernel_rfl) (by kernel_rfl) (by kernel_rfl) (fun _ _ _ h => h) (Or.inl ⟨by kernel_rfl, ?hya0⟩) (.inr hz0) ?resta0
   case hya0 => (intro w _; go_simp; try with_reducible rfl)
   try simp only [Act.put, List.setIfInBounds_toArray, List.set_cons_zero, List.set_cons_succ]
   refine Zd.takeD (i := 1) (d := some 16) (v := ?va1) rfl rfl (by kernel_rfl) (by kernel_rfl) (by kernel_rfl) (by kernel_rfl) (by kernel_rfl) (fun _ _ _ h => h) (Or.inl ⟨by kernel_rfl, ?hya1⟩) hz0 ?resta1
   case hya1 => (intro w hSw; (try dsimp only at hSw); have hc := (hSw.cell (p := ⟨gr + 1, 0, none⟩) hlg).trans p0; go_simp; try with_reducible rfl)
   try simp only [Act.put, List.setIfInBounds_toArray, List.set_cons_zero, List.set_cons_succ]
   refine Zd.pureD (i := 2) (d := some 17) (v := ?va2) rfl rfl (by kernel_rfl) (by kernel_rfl) (by kernel_rfl) (by kernel_rfl) (by kernel_rfl) (fun _ _ _ h => h) (Or.inl ⟨by kernel_rfl, ?hya2⟩) (.inr hz0) ?resta2
   case hya2 => (intro w _; go_simp; try with_reducible rfl)
   try simp only [Act.put, List.setIfInBounds_toArray, List.set_cons_zero, List.set_cons_succ]
   refine Zd.pureD (i := 3) (d := some 18) (v := ?va3) rfl rfl (by kernel_rfl) (by kernel_rfl) (by kernel_rfl) (by kernel_rfl) (by kernel_rfl) (fun _ _ _ h => h) (Or.inl ⟨by kernel_rfl, ?hya3⟩) (.inr hz0) ?resta3
   case hya3 => (intro w _; go_simp; try with_reducible rfl)
   try simp only [Act.put, List.setIfInBounds_toArray, List.set_cons_zero, List.set_cons_succ]
   refine Zd.pureD (i := 4) (d := some 19) (v := ?va4) rfl rfl (by kernel_rfl) (by kernel_rfl) (by kernel_rfl) (by kernel_rfl) (by kernel_rfl) (fun _ _ _ h => h) (Or.inl ⟨by kernel_rfl, ?hya4⟩) (.inr hz0) ?resta4
   case hya4 => (intro w _; go_simp; try with_reducible rfl)
   try simp only [Act.put, List.setIfInBounds_toArray, List.set_cons_zero, List.set_cons_succ]
   refine Zd.takeD (i := 5) (d := some 20) (v := ?va5) rfl rfl (by kernel_rfl) (by kernel_rfl) (by kernel_rfl) (by kernel_rfl) (by kernel_rfl) (fun _ _ _ h => h) (Or.inl ⟨by kernel_rfl, ?hya5⟩) hz0 ?resta5
   case hya5 => (intro w hSw; (try dsimp only at hSw); have hc0 := (hSw.cell (p := ⟨b, o + k * 3, none⟩) hblw).trans y0; have hc1 := (hSw.cell (p := ⟨b, o + k * 3 + 1, none⟩) hblw).trans y1; have hc2 := (hSw.cell (p := ⟨b, o + k * 3 + 2, none⟩) hblw).trans y2; go_simp; try with_reducible rfl)
   try simp only [Act.put, List.setIfInBounds_toArray, List.set_cons_zero, List.set_cons_succ]
   refine Zd.pureD (i := 6) (d := some 21) (v := ?va6) rfl rfl (by kernel_rfl) (by kernel_rfl) (by kernel_rfl) (by kernel_rfl) (by kernel_rfl) (fun _ _ _ h => h) (Or.inl ⟨by kernel_rfl, ?hya6⟩) (.inr hz0) ?resta6
   case hya6 => (intro w _; go_simp; try with_reducible rfl)
   try simp only [Act.put, List.setIfInBounds_toArray, List.set_cons_zero, List.set_cons_succ]
   refine Zed.one (i := 7) (by kernel_rfl) rfl (fun K hK => ?_)
   go_simp
   have hz1 := hz0.alloc hz0.size (.cells #[.string ⟨#[116]⟩, .string XT, .string XS, .bool xm] 54)
   refine hK.out _ _ (.inr hz1) ?_
   clear hK K
   try simp only [Act.put, List.setIfInBounds_toArray, List.set_cons_zero, List.set_cons_succ]
   refine Zed.one (i := 8) (by kernel_rfl) rfl (fun K hK => ?_)
   refine step_append_own5 _ rfl _ _ 24 rfl (gr + 1) 54 iT _ 4 56 Try.underlying24 hiT hT0 hT1 hT2 rfl (by decide) _ _ _ rfl (HO.out.drew.alloc (.cells #[.string ⟨#[116]⟩, .string XT, .string XS, .bool xm] 54)) ⟨wr.heap.size, 0, none⟩ 1 1 [.string ⟨#[116]⟩, .string XT, .string XS, .bool xm] rfl rfl (cells_new _ _ _) (by simp [Value.oneCell']) hc3 hc4 (by simp; omega) ?_
   intro v' w5 hown5 hg5 hn5
   obtain ⟨a5, s5, rfl⟩ := own_form hown5
   have hA5 := At.grown (HA.out.drew.alloc (.cells #[.string ⟨#[116]⟩, .string XT, .string XS, .bool xm] 54)) hg5 (fun e => own_apart (HO.out.drew.alloc (.cells #[.string ⟨#[116]⟩, .string XT, .string XS, .bool xm] 54)) (HA.out.drew.alloc (.cells #[.string ⟨#[116]⟩, .string XT, .string XS, .bool xm] 54)) (by decide) e.symm)
   have r0 := hA5.cell 0
   have rf := hA5.frozen
   simp only [List.getElem?_toArray, List.getElem?_cons_zero, List.getElem?_cons_succ] at r0
   refine hK.out _ _ (.inl (by kernel_rfl)) ?_
   clear hK K
   try simp only [Act.put, List.setIfInBounds_toArray, List.set_cons_zero, List.set_cons_succ]
   refine Zd.pureD (i := 9) (d := some 24) (v := ?va9) rfl rfl (by kernel_rfl) (by kernel_rfl) (by kernel_rfl) (by kernel_rfl) (by kernel_rfl) (fun _ _ _ h => h) (Or.inl ⟨by kernel_rfl, ?hya9⟩) (.inl (by kernel_rfl)) ?resta9
   case hya9 => (intro w _; go_simp; try with_reducible rfl)
   try simp only [Act.put, List.setIfInBounds_toArray, List.set_cons_zero, List.set_cons_succ]
   refine Zed.one (i := 10) (by kernel_rfl) rfl (fun K hK => ?_)
   go_simp
   refine hK.out _ _ (.inl (by kernel_rfl)) ?_
   clear hK K
   try simp only [Act.put, List.setIfInBounds_toArray, List.set_cons_zero, List.set_cons_succ]
   refine Zed.all (by kernel_rfl) ?_ _
   have hown6 : w5.ownsRow (gr + 1) 54 4 (.slice a5 (k + 1) s5) (k + 1) ((ts.take (k + 1)).flatMap Sc.tok) := by rw [HTK.out, HTP.out]; exact hown5
   have HO6 := Lib.hid (own_stay hown6 (Stay.far hA5 (by decide) (grown_set (grown_refl w5 (some (gr + 1))) 0 (.slice a5 (k + 1) s5))))
   have HA6 := Lib.hid (show At (w5.setCell ⟨gr + 1, 0, none⟩ (.slice a5 (k + 1) s5)) (gr + 1) 28 #[.slice a5 (k + 1) s5, .slice Ak nk ck, .slice none 0 0, .string ⟨#[]⟩, .slice none 0 0] by simpa using hA5.set 0 (.slice a5 (k + 1) s5))
   have hR5 := At.grown (HR.out.drew.alloc (.cells #[.string ⟨#[116]⟩, .string XT, .string XS, .bool xm] 54)) hg5 (fun e => own_apart (HO.out.drew.alloc (.cells #[.string ⟨#[116]⟩, .string XT, .string XS, .bool xm] 54)) (HR.out.drew.alloc (.cells #[.string ⟨#[116]⟩, .string XT, .string XS, .bool xm] 54)) (by decide) e.symm)
   have HR6 := Lib.hid (hR5.far (p := ⟨gr + 1, 0, none⟩) (by simp) (.slice a5 (k + 1) s5))
   have hB5 : Below gr w w5 := Below.grown ((below_drew HBE.out).alloc (by have := HBE.out.size; rw [← HG.out] at this; exact this) _) hg5 (by simp; omega) (fun j hj => by have := (own_lt HO.out j hj).1; omega)
   have HB6 := Lib.hid (below_set hB5 (p := ⟨gr + 1, 0, none⟩) (by simp) (.slice a5 (k + 1) s5))
   clear hown5 hg5 hn5 hA5 r0 rf hz0 hz1 hown6 hR5 hB5
   go_wp2_with fail
   go_roundw
   case rel => exact ⟨k + 1, a5, s5, by omega, by go_num, HA6.out, HO6.out, HR6.out, HB6.out⟩
   case measure => simp [intOf]; omega
  ·obtain rfl : N = k := by omega
   have q0 := HR.out.cell 0
   have q1 := HR.out.cell 1
   have q2 := HR.out.cell 2
   have q3 := HR.out.cell 3
   have q4 := HR.out.cell 4
   have qf := HR.out.frozen
   simp only [List.getElem?_toArray, List.getElem?_cons_zero, List.getElem?_cons_succ] at q0 q1 q2 q3 q4
   have hall : (ts.take N).flatMap Sc.tok = ts.flatMap Sc.tok := by rw [← HN.out, List.take_length]
   rw [hall] at HO
   clear hall hlt
   go_wp2_with fail
   refine bodyPost_ret (results_cell_row rfl _ _ gr _ _ (0, 0) _ rfl (HR.out.five_ _ _ _ _ _) Try.underlying28 rfl Try.sizeGrammar) rfl ⟨a, cc, ⟨rfl, ?_⟩, ?_⟩
   ·exact (Lie.own HO.out).stay (Stay.far HR.out (by decide) (grown_five _ _ _ _ _ _ _))
   ·have h := below_grown HBE.out (grown_five _ gr (.slice a N cc) (.slice Ak nk ck) (.slice none 0 0) (.string ⟨#[]⟩) (.slice none 0 0)) (by have := HBE.out.size; rw [← HG.out] at this; exact this) (Nat.le_refl _)
    rw [← HG.out]; exact h
end Go.Proofs.Ytddjmhhdpfebkaa
