import Derived.Test.YtddjmhhdpfebkaaScE
import Derived.Deep.LoopGhost
import Derived.Laws.ResultCell
namespace Go.Proofs.Ytddjmhhdpfebkaa
set_option maxRecDepth 100000
open Go.RowKit
set_option linter.unusedVariables false
set_option linter.unusedSimpArgs false
theorem grown_three (w : World) (g : Nat) (a0 a1 a2 : Value) : w.grownBy (((w.setCell ⟨g, 0, none⟩ a0).setCell ⟨g, 1, none⟩ a1).setCell ⟨g, 2, none⟩ a2) (some g) :=
 grown_set (grown_set (grown_set (grown_refl w (some g)) 0 a0) 1 a1) 2 a2
theorem At.three_ {w : World} {g : Nat} {t : TypeId} {b0 b1 b2 : Value} (h : At w g t #[b0, b1, b2]) (a0 a1 a2 : Value) :
  At (((w.setCell ⟨g, 0, none⟩ a0).setCell ⟨g, 1, none⟩ a1).setCell ⟨g, 2, none⟩ a2) g t #[a0, a1, a2] := by
 simpa using ((h.set 0 a0).set 1 a1).set 2 a2
theorem Try.sizeTok : (Try.prog.info? 41).map (·.size) = some 3 := by kernel_rfl
def Tk.cells (x : Tk) : List Value := [.int .i64 (x.t : Int), .int .i64 (x.a : Int), .int .i64 (x.b : Int)]
def Tk.val (x : Tk) : Value := .agg x.cells.toArray
def okV (ok : Bool) : Value := .int .i64 (if ok = true then 0 else 21)
theorem results_next {tmps : Array Value} {w : World} {q : Nat} {cs : Array Value} (hp : tmps.getD 2 undef = .pointer (some ⟨q, 0, none⟩)) (hq : At w q 41 cs) (hcs : cs.size = 3) (v : Value) (hv : tmps.getD 3 undef = v) :
  (results Try.f15 tmps).run Try.prog w = .ok (.tuple #[.agg cs, v]) w := by
 rw [results_cell_tmp (p := 2) (u := 3) (ty := 41) rfl, hp, hv]
 simp [asAddr, run_loadVar_row w q 41 41 cs (0, 0) _ hq Try.underlying41 rfl (by rw [hcs]; exact Try.sizeTok), Result.andThen]
theorem IsSc.place {w : World} {g : Nat} {s : ByteArray} {ts ks : List P} {a k : Nat} (h : IsSc w g s ts ks a k) (a' : Nat) : IsSc (w.setCell ⟨g, 3, none⟩ (.int .i64 (a' : Int))) g s ts ks a' k := by
 obtain ⟨A1, c1, A2, c2, h1, h2, h3⟩ := h.ex
 have hs := Stay.far (t := 48) h1 (by decide) (grown_set (grown_refl w (some g)) 3 (.int .i64 (a' : Int)))
 exact ⟨A1, c1, A2, c2, by simpa using h1.set 3 (.int .i64 (a' : Int)), h2.stay hs, h3.stay hs⟩
theorem IsSc.more {w : World} {g : Nat} {s : ByteArray} {ts ks : List P} {a k : Nat} (h : IsSc w g s ts ks a k) (k' : Nat) : IsSc (w.setCell ⟨g, 4, none⟩ (.int .i64 (k' : Int))) g s ts ks a k' := by
 obtain ⟨A1, c1, A2, c2, h1, h2, h3⟩ := h.ex
 have hs := Stay.far (t := 48) h1 (by decide) (grown_set (grown_refl w (some g)) 4 (.int .i64 (k' : Int)))
 exact ⟨A1, c1, A2, c2, by simpa using h1.set 4 (.int .i64 (k' : Int)), h2.stay hs, h3.stay hs⟩
theorem IsSc.grown {w w' : World} {g q : Nat} {t : TypeId} {cs : Array Value} {s : ByteArray} {ts ks : List P} {a k : Nat} (h : IsSc w g s ts ks a k) (hq : At w q t cs) (hg : w.grownBy w' (some q)) (h1 : t ≠ 59) (h2 : t ≠ 48) : IsSc w' g s ts ks a k := by
 obtain ⟨A1, c1, A2, c2, h3, h4, h5⟩ := h.ex
 exact ⟨A1, c1, A2, c2, (Stay.far hq (Ne.symm h1) hg) _ _ h3, h4.stay (Stay.far hq (Ne.symm h2) hg), h5.stay (Stay.far hq (Ne.symm h2) hg)⟩
theorem IsSc.at_ {w : World} {g : Nat} {s : ByteArray} {ts ks : List P} {a k : Nat} (h : IsSc w g s ts ks a k) : w.heap[g]? = some (.cells (w.heap[g]?.elim #[] fun o => match o with | .cells cs _ _ => cs | _ => #[]) 59 (0, 0)) ∧ At w g 59 (w.heap[g]?.elim #[] fun o => match o with | .cells cs _ _ => cs | _ => #[]) := by
 obtain ⟨A1, c1, A2, c2, h1, h2, h3⟩ := h.ex
 unfold At at *
 rw [h1]; exact ⟨rfl, rfl⟩
theorem IsSc.cells {w : World} {g : Nat} {s : ByteArray} {ts ks : List P} {a k : Nat} (h : IsSc w g s ts ks a k) : w.cell? ⟨g, 0, none⟩ = some (.string s) ∧ w.cell? ⟨g, 3, none⟩ = some (.int .i64 (a : Int)) ∧ w.cell? ⟨g, 4, none⟩ = some (.int .i64 (k : Int)) ∧ (∀ i, w.frozen? ⟨g, i, none⟩ = false) ∧ g < w.heap.size := by
 obtain ⟨A1, c1, A2, c2, h1, h2, h3⟩ := h.ex
 exact ⟨h1.cell 0, h1.cell 3, h1.cell 4, h1.frozen, h1.lt⟩
theorem IsSc.heap {w w' : World} {g : Nat} {s : ByteArray} {ts ks : List P} {a k : Nat} (h : IsSc w g s ts ks a k) (hh : w'.heap = w.heap) : IsSc w' g s ts ks a k := by
 obtain ⟨A1, c1, A2, c2, h1, h2, h3⟩ := h.ex
 have hs : ∀ t, Stay t w w' := fun t b cs hb => by unfold At at *; rw [hh]; exact hb
 exact ⟨A1, c1, A2, c2, hs _ _ _ h1, h2.stay (hs _), h3.stay (hs _)⟩
structure Nexts (w w' : World) (e : Ending) (g : Nat) (s : ByteArray) (ts ks : List P) (y : Tk × Bool × Nat × Nat) : Prop where
 e : e = .returned (.tuple #[y.1.val, okV y.2.1])
 sc : IsSc w' g s ts ks y.2.2.1 y.2.2.2
 le : y.2.2.2 ≤ y.2.2.1 ∧ y.2.2.1 ≤ s.size
 grown : w.grownBy w' (some g)
set_option maxHeartbeats 8000000 in
theorem next_any (g a k : Nat) (s : ByteArray) (ts ks : List P) (w : World) (hz : ∀ p, p ∈ ts ∨ p ∈ ks → Sz p) (hsz : s.size ≤ 1000) (h20 : ts.length ≤ 1000) (h10 : ks.length ≤ 1000)
  (hg : IsSc w g s ts ks a k) (ha : a ≤ s.size) (hk : k ≤ a) :
  Calls Try.prog 15 #[.pointer (some ⟨g, 0, none⟩)] w fun e w' => Nexts w w' e g s ts ks (Sc.nx ts ks (bl s) a k) := by
 have hq := At.new w 41 #[.int .i64 0, .int .i64 0, .int .i64 0]
 have hb := (Below.refl w.heap.size w).alloc (Nat.le_refl _) (.cells #[.int .i64 0, .int .i64 0, .int .i64 0] 41)
 obtain ⟨W, hW⟩ : ∃ W, w.alloc (.cells #[.int .i64 0, .int .i64 0, .int .i64 0] 41) = W := ⟨_, rfl⟩
 rw [hW] at hq hb
 obtain ⟨q, hqq⟩ : ∃ q, q = w.heap.size := ⟨_, rfl⟩
 rw [← hqq] at hq
 have HSC := Lib.hid (hg.below hb)
 have HAT := Lib.hid hq
 have HGR := Lib.hid (show w.grownBy W (some g) from ⟨hb.os, hb.tape, hb.output, hb.size, fun i hi _ => hb.block i hi⟩)
 have HW := Lib.hid hW
 have HQ := Lib.hid hqq
 have HZ := Lib.hid hz
 obtain ⟨Y, hY⟩ : ∃ Y, Sc.nx ts ks (bl s) a k = Y := ⟨_, rfl⟩
 have HY := Lib.hid hY
 rw [hY]
 have hbl := bl_length s
 have HBL := Lib.hid hbl
 clear hq hb hW hqq hg hz hY hbl
 go_enter Try.func15, Try.ntmps15
 go_wp2_with fail
 rw [HW.out, ← HQ.out]
 go_loopg [] (s.size - a) (fun n wr => ∃ a1 k1, n = s.size - a1 ∧ a1 ≤ s.size ∧ k1 ≤ a1 ∧ IsSc wr g s ts ks a1 k1 ∧ At wr q 41 #[.int .i64 0, .int .i64 0, .int .i64 0] ∧ w.grownBy wr (some g) ∧ Sc.nx ts ks (bl s) a1 k1 = Y)
 case atStart => exact ⟨a, k, rfl, ha, hk, HSC.out, HAT.out, HGR.out, HY.out⟩
 case round =>
  clear HSC HAT HGR HY
  obtain ⟨a1, k1, hgk, ha1, hk1, hsc, hat, hgr, hnx⟩ := hrel
  have HSC := Lib.hid hsc
  have HAT := Lib.hid hat
  have HGR := Lib.hid hgr
  have HNX := Lib.hid hnx
  have HGK := Lib.hid hgk
  obtain ⟨c0, c3, c4, cf, cl⟩ := hsc.cells
  have q0 := hat.cell 0
  have q1 := hat.cell 1
  have q2 := hat.cell 2
  have qf := hat.frozen
  have ql := hat.lt
  simp only [List.getElem?_toArray, List.getElem?_cons_zero, List.getElem?_cons_succ] at q0 q1 q2
  clear hsc hat hgr hnx hgk
  by_cases hlt : a1 < s.size
  ·have hltI : (a1 : Int) < (s.size : Int) := by omega
   go_wp2_with fail
   go_quiet (fail)
   obtain ⟨w1, hw1⟩ : ∃ w1, wr.drewN nq = w1 := ⟨_, rfl⟩
   rw [hw1]
   have HSC1 := Lib.hid (show IsSc w1 g s ts ks a1 k1 by rw [← hw1]; exact HSC.out.heap rfl)
   have HAT1 := Lib.hid (show At w1 q 41 #[.int .i64 0, .int .i64 0, .int .i64 0] by rw [← hw1]; exact HAT.out.drewN _)
   have HGR1 := Lib.hid (show w.grownBy w1 (some g) by rw [← hw1]; exact grown_drewN HGR.out _)
   have HLO := Lib.hid (longest_any g a1 k1 s ts ks w1 HZ.out (by omega) h20 h10 HSC1.out)
   obtain ⟨c0, c3, c4, cf, cl⟩ := HSC1.out.cells
   have ql := HAT1.out.lt
   obtain ⟨y, hy⟩ : ∃ y, Sc.next ts ks (bl s) a1 = y := ⟨_, rfl⟩
   have hle := Sc.next_le (ts := ts) (ks := ks) (s := bl s) (a := a1)
   rw [HBL.out, hy] at hle
   have HLE := Lib.hid hle
   rw [hy] at HLO
   have HY := Lib.hid hy
   clear hy hle hw1 HSC HAT HGR q0 q1 q2 qf
   go_wp2_with fail
   refine HLO.out.mono ?_
   rintro e w2 ⟨rfl, hb2⟩
   have HSC2 := Lib.hid (HSC1.out.below hb2)
   have HAT2 := Lib.hid (HAT1.out.below hb2 ql)
   have HGR2 := Lib.hid (show w.grownBy w2 (some g) from grown_trans HGR1.out ⟨hb2.os, hb2.tape, hb2.output, hb2.size, fun i hi _ => hb2.block i hi⟩)
   obtain ⟨c0, c3, c4, cf, cl⟩ := HSC2.out.cells
   have q0 := HAT2.out.cell 0
   have q1 := HAT2.out.cell 1
   have q2 := HAT2.out.cell 2
   have qf := HAT2.out.frozen
   have ql := HAT2.out.lt
   have hqg : q ≠ g := At.apart HAT2.out HSC2.out.at_.2 (by decide)
   have hgq : g ≠ q := Ne.symm hqg
   simp only [List.getElem?_toArray, List.getElem?_cons_zero, List.getElem?_cons_succ] at q0 q1 q2
   clear hb2 HLO HSC1 HAT1 HGR1
   by_cases hn : y.2 = 0
   ·have hv : Y = (⟨0, a1, a1⟩, false, a1, k1) := by
     rw [← HNX.out]
     exact Sc.nx_bad (by rw [HBL.out]; exact hlt) (by rw [HY.out]; exact hn)
    rw [hn]
    have HV := Lib.hid hv
    clear hv hn
    go_wp2_with fail
    refine bodyPost_ret (results_next rfl (HAT2.out.three_ _ _ _) rfl _ rfl) rfl ?_
    rw [HV.out]
    refine ⟨rfl, HSC2.out.grown HAT2.out (grown_three _ _ _ _ _) (by decide) (by decide), ⟨hk1, ha1⟩, ?_⟩
    exact grown_new (grown_new (grown_new HGR2.out (by simp; have := HQ.out; omega) _) (by simp; have := HQ.out; omega) _) (by simp; have := HQ.out; omega) _
   ·obtain ⟨t, n⟩ := y
    simp only at hn HLE HY ⊢
    have hnI : ((n : Int) == 0) = false := by rw [beq_eq_false_iff_ne]; omega
    have hw3 : IntKind.i64.wrap ((a1 : Int) + (n : Int)) = ((a1 + n : Nat) : Int) := by rw [Int.natCast_add]; exact IntWalk.i64_in _ (by have := HLE.out; omega)
    have HE := Lib.hid (show ((a1 + n : Nat) : Int) = (a1 : Int) + (n : Int) from Int.natCast_add _ _)
    have HSC3 := Lib.hid (show IsSc (w2.setCell ⟨g, 3, none⟩ (.int .i64 ((a1 : Int) + (n : Int)))) g s ts ks (a1 + n) k1 by rw [← HE.out]; exact HSC2.out.place (a1 + n))
    have HAT3 := Lib.hid (HAT2.out.far (p := ⟨g, 3, none⟩) hqg (.int .i64 ((a1 : Int) + (n : Int))))
    have HGR3 := Lib.hid (grown_trans HGR2.out (grown_set (grown_refl w2 (some g)) 3 (.int .i64 ((a1 : Int) + (n : Int)))))
    by_cases ht : 0 < t
    ·have htI : (0 : Int) < (t : Int) := by omega
     have hv : Y = (⟨t, a1, a1 + n⟩, true, a1 + n, k1) := by
      rw [← HNX.out]
      have := Sc.nx_tok (k := k1) (show a1 < (bl s).length by rw [HBL.out]; exact hlt) (show (Sc.next ts ks (bl s) a1).2 ≠ 0 by rw [HY.out]; exact hn) (by rw [HY.out]; exact ht)
      rw [HY.out] at this
      exact this
     have HV := Lib.hid hv
     clear hv ht hn
     go_wp2_with fail
     refine bodyPost_ret (results_next rfl (HAT3.out.three_ _ _ _) rfl _ rfl) rfl ?_
     rw [HV.out]
     refine ⟨?_, HSC3.out.grown HAT3.out (grown_three _ _ _ _ _) (by decide) (by decide), ⟨by simp only; omega, by simp only; have := HLE.out; omega⟩, ?_⟩
     ·show _ = Ending.returned (.tuple #[.agg #[.int .i64 (t : Int), .int .i64 (a1 : Int), .int .i64 ((a1 + n : Nat) : Int)], okV true])
      rw [HE.out]; rfl
     ·exact grown_new (grown_new (grown_new HGR3.out (by simp; have := HQ.out; omega) _) (by simp; have := HQ.out; omega) _) (by simp; have := HQ.out; omega) _
    ·have htI : ¬ (0 : Int) < (t : Int) := by omega
     have hv : Sc.nx ts ks (bl s) (a1 + n) (k1 + 1) = Y := by
      rw [← HNX.out]
      have := Sc.nx_skip (k := k1) (show a1 < (bl s).length by rw [HBL.out]; exact hlt) (show (Sc.next ts ks (bl s) a1).2 ≠ 0 by rw [HY.out]; exact hn) (by rw [HY.out]; simp only; omega)
      rw [HY.out] at this
      exact this.symm
     have HV := Lib.hid hv
     have HE2 := Lib.hid (show ((k1 + 1 : Nat) : Int) = (k1 : Int) + 1 from Int.natCast_add _ _)
     have hw4 : IntKind.i64.wrap ((k1 : Int) + 1) = (k1 : Int) + 1 := IntWalk.i64_in _ (by omega)
     have hnn : 0 < n := by omega
     have HSC4 := Lib.hid (show IsSc ((w2.setCell ⟨g, 3, none⟩ (.int .i64 ((a1 : Int) + (n : Int)))).setCell ⟨g, 4, none⟩ (.int .i64 ((k1 : Int) + 1))) g s ts ks (a1 + n) (k1 + 1) by rw [← HE2.out]; exact HSC3.out.more (k1 + 1))
     have HAT4 := Lib.hid (HAT3.out.far (p := ⟨g, 4, none⟩) hqg (.int .i64 ((k1 : Int) + 1)))
     have HGR4 := Lib.hid (grown_trans HGR3.out (grown_set (grown_refl _ (some g)) 4 (.int .i64 ((k1 : Int) + 1))))
     clear hv ht hn
     go_wp2_with fail
     go_roundg (s.size - (a1 + n))
     case measure => have := HGK.out; omega
     case rel => exact ⟨a1 + n, k1 + 1, rfl, by have := HLE.out; omega, by omega, HSC4.out, HAT4.out, HGR4.out, HV.out⟩
  ·have hltI : ¬ (a1 : Int) < (s.size : Int) := by omega
   have hv : Y = (⟨0, a1, a1⟩, true, a1, k1) := by
    rw [← HNX.out]
    exact Sc.nx_end (by rw [HBL.out]; exact hlt)
   have HV := Lib.hid hv
   clear hv
   go_wp2_with fail
   go_quiet (fail)
   obtain ⟨w1, hw1⟩ : ∃ w1, wr.drewN nq = w1 := ⟨_, rfl⟩
   rw [hw1]
   have HSC1 := Lib.hid (show IsSc w1 g s ts ks a1 k1 by rw [← hw1]; exact HSC.out.heap rfl)
   have HAT1 := Lib.hid (show At w1 q 41 #[.int .i64 0, .int .i64 0, .int .i64 0] by rw [← hw1]; exact HAT.out.drewN _)
   have HGR1 := Lib.hid (show w.grownBy w1 (some g) by rw [← hw1]; exact grown_drewN HGR.out _)
   obtain ⟨c0, c3, c4, cf, cl⟩ := HSC1.out.cells
   have q0 := HAT1.out.cell 0
   have q1 := HAT1.out.cell 1
   have q2 := HAT1.out.cell 2
   have qf := HAT1.out.frozen
   have ql := HAT1.out.lt
   have hqg : q ≠ g := At.apart HAT1.out HSC1.out.at_.2 (by decide)
   have hgq : g ≠ q := Ne.symm hqg
   simp only [List.getElem?_toArray, List.getElem?_cons_zero, List.getElem?_cons_succ] at q0 q1 q2
   clear hw1 HSC HAT HGR
   go_wp2_with fail
   go_region
   go_wp2_with fail
   refine bodyPost_ret (results_next rfl ((HAT1.out.three_ (.int .i64 0) (.int .i64 (a1 : Int)) (.int .i64 (a1 : Int))).drew) rfl _ rfl) rfl ?_
   rw [HV.out]
   refine ⟨rfl, (HSC1.out.grown HAT1.out (grown_three _ _ (.int .i64 0) (.int .i64 (a1 : Int)) (.int .i64 (a1 : Int))) (by decide) (by decide)).heap rfl, ⟨hk1, ha1⟩, ?_⟩
   exact grown_drew (grown_new (grown_new (grown_new HGR1.out (by simp; have := HQ.out; omega) _) (by simp; have := HQ.out; omega) _) (by simp; have := HQ.out; omega) _)
end Go.Proofs.Ytddjmhhdpfebkaa
