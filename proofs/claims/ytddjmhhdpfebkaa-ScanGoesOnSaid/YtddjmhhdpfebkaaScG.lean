import Derived.Test.YtddjmhhdpfebkaaScF
namespace Go.Proofs.Ytddjmhhdpfebkaa
set_option maxRecDepth 100000
open Go.RowKit
set_option linter.unusedVariables false
set_option linter.unusedSimpArgs false
theorem infoTok : (Try.prog.info? 41).map (fun i => (i.zero, i.size, i.bytes)) = some (some (.agg #[.int .i64 0, .int .i64 0, .int .i64 0]), 3, 24) := by kernel_rfl
theorem IsSc.own {w w' : World} {g B e size n : Nat} {v : Value} {ys : List Value} {s : ByteArray} {ts ks : List P} {a k : Nat} (h : IsSc w g s ts ks a k) (ho : w.ownsRow B e size v n ys) (hg : w.grownBy w' v.ownBlock) (h1 : 59 ≠ e) (h2 : 48 ≠ e) : IsSc w' g s ts ks a k := by
 obtain ⟨A1, c1, A2, c2, h3, h4, h5⟩ := h.ex
 exact ⟨A1, c1, A2, c2, (Stay.own ho h1 hg) _ _ h3, h4.stay (Stay.own ho h2 hg), h5.stay (Stay.own ho h2 hg)⟩
theorem IsSc.stay {w w' : World} {g : Nat} {s : ByteArray} {ts ks : List P} {a k : Nat} {t : TypeId} (h : IsSc w g s ts ks a k) (hg : w.grownBy w' (some g)) (ht : t ≠ 59) : Stay t w w' := by
 obtain ⟨A1, c1, A2, c2, h3, h4, h5⟩ := h.ex
 exact Stay.far h3 ht hg
theorem tk_one (x : Tk) : ∀ u ∈ x.cells, u.oneCell' = true := by
 intro u hu
 simp only [Tk.cells, List.mem_cons, List.not_mem_nil, or_false] at hu
 rcases hu with rfl | rfl | rfl <;> rfl
theorem ct_len (ts ks : List P) (s : List UInt8) : ∀ (f a k : Nat), s.length ≤ a + f → (Sc.ct ts ks s a k).1.length ≤ f + 1 := by
 intro f
 induction f with
 | zero => intro a k h; rw [Sc.ct_end (by omega)]; simp
 | succ f ih =>
  intro a k h
  by_cases h1 : a < s.length
  ·by_cases h2 : (Sc.next ts ks s a).2 = 0
   ·rw [Sc.ct_bad h1 h2]; simp
   ·by_cases h3 : 0 < (Sc.next ts ks s a).1
    ·rw [Sc.ct_tok h1 h2 h3]
     have := ih (a + (Sc.next ts ks s a).2) k (by omega)
     simp only [List.length_cons]; omega
    ·rw [Sc.ct_skip h1 h2 (by omega)]
     have := ih (a + (Sc.next ts ks s a).2) (k + 1) (by omega)
     omega
  ·rw [Sc.ct_end h1]; simp
set_option maxHeartbeats 8000000 in
theorem all_any (A : Option Addr) (c : Nat) (ts : List P) (Ak : Option Addr) (ck : Nat) (ks : List P) (s : ByteArray) (w : World) (hcl : Cl w w.heap.size A (ts.flatMap Sc.tok)) (hck : Cl w w.heap.size Ak (ks.flatMap Sc.cells)) (hAk : Ak = none → ck = 0)
  (h20 : ts.length ≤ 1000) (h10 : ks.length ≤ 1000) (hz : ∀ p, p ∈ ts ∨ p ∈ ks → Sz p) (hsz : s.size ≤ 1000) :
  Calls Try.prog 11 #[.agg #[.slice A ts.length c, .slice Ak ks.length ck, .slice none 0 0, .string ⟨#[]⟩, .slice none 0 0], .string s] w fun e w' => ∃ A' c', (e = .returned (.tuple #[.slice A' (Sc.ct ts ks (bl s) 0 0).1.length c', okV (Sc.ct ts ks (bl s) 0 0).2.1]) ∧ Lie w' 41 A' ((Sc.ct ts ks (bl s) 0 0).1.flatMap Tk.cells)) ∧ Below w.heap.size w w' := by
 obtain ⟨iK, hiK, hK0, hK1, hK2⟩ := info_parts infoTok
 have hat := At.new w 28 #[.slice A ts.length c, .slice Ak ks.length ck, .slice none 0 0, .string ⟨#[]⟩, .slice none 0 0]
 have hb := (Below.refl w.heap.size w).alloc (Nat.le_refl _) (.cells #[.slice A ts.length c, .slice Ak ks.length ck, .slice none 0 0, .string ⟨#[]⟩, .slice none 0 0] 28)
 obtain ⟨W, hW⟩ : ∃ W, w.alloc (.cells #[.slice A ts.length c, .slice Ak ks.length ck, .slice none 0 0, .string ⟨#[]⟩, .slice none 0 0] 28) = W := ⟨_, rfl⟩
 rw [hW] at hat hb
 have HNE := Lib.hid (new_any A c ts Ak ck ks s W ((hcl.below hb).mono hb.size) ((hck.below hb).mono hb.size) hAk h20 h10)
 obtain ⟨N, hN⟩ : ∃ N, ts.length = N := ⟨_, rfl⟩
 obtain ⟨M, hM⟩ : ∃ M, ks.length = M := ⟨_, rfl⟩
 rw [hN, hM] at hat hW HNE ⊢
 rw [hN] at h20
 rw [hM] at h10
 have HN := Lib.hid hN
 have HM := Lib.hid hM
 obtain ⟨gb, hgb⟩ : ∃ g, g = w.heap.size := ⟨_, rfl⟩
 rw [← hgb] at hat hb
 have p0 := hat.cell 0
 have p1 := hat.cell 1
 have p2 := hat.cell 2
 have p3 := hat.cell 3
 have p4 := hat.cell 4
 simp only [List.getElem?_toArray, List.getElem?_cons_zero, List.getElem?_cons_succ] at p0 p1 p2 p3 p4
 have HW := Lib.hid hW
 have HB := Lib.hid hb
 have HGB := Lib.hid hgb
 have HZ := Lib.hid hz
 have HBL := Lib.hid (bl_length s)
 have hlen := ct_len ts ks (bl s) s.size 0 0 (by rw [bl_length]; omega)
 have HLEN := Lib.hid hlen
 clear hat hb hW hgb hz hcl hck hAk hN hM hlen
 go_enter Try.func11, Try.ntmps11
 go_wp2_with fail
 rw [HW.out, ← HGB.out]
 go_wp2_with fail
 refine HNE.out.mono ?_
 rintro e W1 ⟨g, ⟨rfl, hgW, hsc⟩, hb1⟩
 have HSC := Lib.hid hsc
 have HB1 := Lib.hid (HB.out.trans (hb1.mono (by have := HB.out.size; have := HGB.out; omega)))
 clear hsc hb1 p0 p1 p2 p3 p4 HNE
 have hgb : gb ≤ g := by have := HB.out.size; have := HGB.out; omega
 go_wp2_with fail
 go_loopg [6] s.size (fun q v wr => ∃ (a k n : Nat) (r : Option Addr) (rc : Nat) (done : List Tk), q = s.size - a ∧ a ≤ s.size ∧ k ≤ a ∧ v = .slice r n rc ∧ wr.ownsRow gb 41 3 (.slice r n rc) n (done.flatMap Tk.cells) ∧ IsSc wr g s ts ks a k ∧ Below gb w wr ∧
  Sc.ct ts ks (bl s) 0 0 = (done ++ (Sc.ct ts ks (bl s) a k).1, (Sc.ct ts ks (bl s) a k).2))
 case atStart => exact ⟨0, 0, 0, none, 0, [], rfl, by omega, by omega, rfl, World.ownsRow_nil _ _ _ _, HSC.out, HB1.out, rfl⟩
 case round =>
  obtain ⟨a, k, n, r, rc, done, hgk, ha, hk, rfl, hown, hsc, hbe, hct⟩ := hrel
  obtain ⟨x, ok, a', k', hnx⟩ := Sc.nx_is ts ks (bl s) s.size a k (by rw [HBL.out]; omega)
  have hgw := (hbe.size)
  rw [← HGB.out] at hgw
  have HOW := Lib.hid hown
  have HSC2 := Lib.hid hsc
  have HBE := Lib.hid hbe
  have HCT := Lib.hid hct
  have HNX := Lib.hid hnx
  have HGK := Lib.hid hgk
  have hcall := next_any g a k s ts ks wr HZ.out hsz (by rw [HN.out]; omega) (by rw [HM.out]; omega) hsc ha hk
  rw [hnx.is] at hcall
  have HCA := Lib.hid hcall
  have hn3 : n ≤ 1001 := by
   have h1 := hown.1
   rw [flat_len Tk.cells 3 (fun _ => rfl)] at h1
   have h2 := congrArg (fun y => y.1.length) hct
   simp only [List.length_append] at h2
   have := HLEN.out
   omega
  clear hown hsc hbe hct hnx hgk hcall HSC
  go_wp2_with fail
  refine HCA.out.mono ?_
  rintro e w2 hN
  obtain rfl := hN.e
  have HSC3 := Lib.hid hN.sc
  have HLE := Lib.hid hN.le
  have HOW3 := Lib.hid (own_stay HOW.out (HSC2.out.stay hN.grown (by decide)))
  have HBE3 := Lib.hid (HBE.out.grown hN.grown hgw (fun j hj => by injection hj with hj; omega))
  obtain ⟨okc, hokc⟩ : ∃ z : Int, okV ok = .int .i64 z := ⟨_, rfl⟩
  have HOK := Lib.hid hokc
  obtain ⟨xt, xa, xb⟩ := x
  unfold Tk.val Tk.cells
  simp only
  rw [hokc]
  have hat := (At.new w2 41 #[.int .i64 (xt : Int), .int .i64 (xa : Int), .int .i64 (xb : Int)]).alloc (.cells #[.int .i64 (xt : Int), .int .i64 (xa : Int), .int .i64 (xb : Int)] 41)
  have hbb := ((Below.refl w2.heap.size w2).alloc (Nat.le_refl _) (.cells #[.int .i64 (xt : Int), .int .i64 (xa : Int), .int .i64 (xb : Int)] 41)).alloc (by simp) (.cells #[.int .i64 (xt : Int), .int .i64 (xa : Int), .int .i64 (xb : Int)] 41)
  have HSC4 := Lib.hid (HSC3.out.below hbb)
  have HOW4 := Lib.hid ((HOW3.out.alloc (.cells #[.int .i64 (xt : Int), .int .i64 (xa : Int), .int .i64 (xb : Int)] 41)).alloc (.cells #[.int .i64 (xt : Int), .int .i64 (xa : Int), .int .i64 (xb : Int)] 41))
  have hgw2 : gb ≤ w2.heap.size := Nat.le_trans hgw hN.grown.size
  have HBE4 := Lib.hid (HBE3.out.trans (hbb.mono hgw2))
  have HAT := Lib.hid hat
  have hcn := cells_new (w2.alloc (.cells #[.int .i64 (xt : Int), .int .i64 (xa : Int), .int .i64 (xb : Int)] 41)) [.int .i64 (xt : Int), .int .i64 (xa : Int), .int .i64 (xb : Int)] 41
  rw [World.size_alloc] at hcn
  have HCN := Lib.hid hcn
  have hc3 : n + 1 ≤ maxLen := by unfold maxLen; omega
  have hc4 : Grows n 1 24 := Grows.of (by omega)
  clear hN hokc hat hbb HSC3 HBE3 HCA hcn
  go_wp2_with (at_builtin; refine wpList_append_own5 _ rfl (.tmp 18) (.tmp 20) 31 rfl gb 41 iK _ 3 24 Try.underlying31 hiK hK0 hK1 hK2 rfl (by decide) (.slice r n rc) n (done.flatMap Tk.cells) rfl HOW4.out (some ⟨w2.heap.size + 1, 0, none⟩) 1 1 [.int .i64 (xt : Int), .int .i64 (xa : Int), .int .i64 (xb : Int)] rfl rfl (fun j u hj => ⟨_, rfl, HCN.out j u hj⟩) (by simp [Value.oneCell']) hc3 hc4 (by simp; omega) ?_)
  intro v' w5 hown5 hg5 hn5
  obtain ⟨a5, s5, rfl⟩ := own_form hown5
  have hat5 := HAT.out.grown hg5 (fun e => by have := (own_lt HOW3.out _ e.symm).2; omega)
  have y0 := hat5.cell 0
  simp only [List.getElem?_toArray, List.getElem?_cons_zero] at y0
  have HOW5 := Lib.hid (show w5.ownsRow gb 41 3 (.slice a5 (n + 1) s5) (n + 1) ((done ++ [(⟨xt, xa, xb⟩ : Tk)]).flatMap Tk.cells) by rw [List.flatMap_append]; exact hown5)
  have HSC5 := Lib.hid (HSC4.out.own HOW4.out hg5 (by decide) (by decide))
  have HBE5 := Lib.hid (HBE4.out.grown hg5 (by simp; omega) (fun j hj => (own_lt HOW4.out j hj).1))
  clear hown5 hg5 hn5 hat5 HOW4 HSC4 HBE4 HAT HCN HOW3
  by_cases ht : xt = 0
  ·obtain ⟨l1, l2, l3, l4, l5⟩ := HNX.out.last ht
   have hcut := HNX.out.cuts
   rw [if_pos ht] at hcut
   have hct : Sc.ct ts ks (bl s) 0 0 = (done ++ [(⟨xt, xa, xb⟩ : Tk)], ok, k') := by rw [HCT.out, hcut]
   have HC2 := Lib.hid hct
   have hnl : n + 1 = (done ++ [(⟨xt, xa, xb⟩ : Tk)]).length := by
    have h1 := HOW5.out.1
    rw [flat_len Tk.cells 3 (fun _ => rfl)] at h1
    omega
   have HNL := Lib.hid hnl
   subst ht
   clear hct hcut hnl l1 l2 l3 l4 l5
   go_wp2_with fail
   go_ret2
   refine ⟨a5, s5, ?_, ?_⟩
   ·rw [HC2.out]
    refine ⟨?_, Lie.own HOW5.out⟩
    rw [← HNL.out, HOK.out]; rfl
   ·rw [← HGB.out]; exact HBE5.out
  ·have htI : ((xt : Int) == 0) = false := by rw [beq_eq_false_iff_ne]; omega
   obtain ⟨l1, l2, l3, l4, l5, l6⟩ := HNX.out.tok (show 0 < xt by omega)
   have hcut := HNX.out.cuts
   rw [if_neg ht] at hcut
   have hct : Sc.ct ts ks (bl s) 0 0 = ((done ++ [(⟨xt, xa, xb⟩ : Tk)]) ++ (Sc.ct ts ks (bl s) a' k').1, (Sc.ct ts ks (bl s) a' k').2) := by
    rw [HCT.out, hcut]; simp
   have HC2 := Lib.hid hct
   have hle := HNX.out.skips.le
   simp only at l4 l6 hle
   clear hct hcut l1 l2 l3 ht
   go_wp2_with fail
   go_roundg (s.size - a')
   case measure =>
    have := HGK.out
    have := HLE.out
    try simp only at this
    omega
   case rel => exact ⟨a', k', n + 1, a5, s5, done ++ [(⟨xt, xa, xb⟩ : Tk)], rfl, HLE.out.2, HLE.out.1, rfl, HOW5.out, HSC5.out, HBE5.out, HC2.out⟩
end Go.Proofs.Ytddjmhhdpfebkaa
