import Derived.Test.YtddjmhhdpfebkaaScH
namespace Go.Proofs.Ytddjmhhdpfebkaa
set_option maxRecDepth 100000
open Go.RowKit
set_option linter.unusedVariables false
set_option linter.unusedSimpArgs false
set_option maxHeartbeats 8000000 in
theorem refall_any (A : Option Addr) (c : Nat) (ts : List P) (Ak : Option Addr) (ck : Nat) (ks : List P) (s : ByteArray) (w : World) (hcl : Cl w w.heap.size A (ts.flatMap Sc.tok)) (hck : Cl w w.heap.size Ak (ks.flatMap Sc.cells))
  (h20 : ts.length ≤ 1000) (h10 : ks.length ≤ 1000) (hz : ∀ p, p ∈ ts ∨ p ∈ ks → Sz p) (hsz : s.size ≤ 1000) :
  Calls Try.prog 12 #[.agg #[.slice A ts.length c, .slice Ak ks.length ck, .slice none 0 0, .string ⟨#[]⟩, .slice none 0 0], .string s] w fun e w' => ∃ A' c', (e = .returned (.tuple #[.slice A' (Sc.ct ts ks (bl s) 0 0).1.length c', okV (Sc.ct ts ks (bl s) 0 0).2.1, .int .i64 ((Sc.ct ts ks (bl s) 0 0).2.2 : Int)]) ∧ Lie w' 41 A' ((Sc.ct ts ks (bl s) 0 0).1.flatMap Tk.cells)) ∧ Below w.heap.size w w' := by
 obtain ⟨iK, hiK, hK0, hK1, hK2⟩ := info_parts infoTok
 have hat := At.new w 28 #[.slice A ts.length c, .slice Ak ks.length ck, .slice none 0 0, .string ⟨#[]⟩, .slice none 0 0]
 have hb := (Below.refl w.heap.size w).alloc (Nat.le_refl _) (.cells #[.slice A ts.length c, .slice Ak ks.length ck, .slice none 0 0, .string ⟨#[]⟩, .slice none 0 0] 28)
 obtain ⟨W, hW⟩ : ∃ W, w.alloc (.cells #[.slice A ts.length c, .slice Ak ks.length ck, .slice none 0 0, .string ⟨#[]⟩, .slice none 0 0] 28) = W := ⟨_, rfl⟩
 rw [hW] at hat hb
 obtain ⟨gb, hgb⟩ : ∃ g, g = w.heap.size := ⟨_, rfl⟩
 rw [← hgb] at hat hb hcl hck
 have HST := Lib.hid (fun a w' (h : Below gb w w') => step_any A c ts Ak ck ks s a gb w' (hcl.below h) (hck.below h) (by have := h.size; omega) h20 h10 hz hsz)
 obtain ⟨N, hN⟩ : ∃ N, ts.length = N := ⟨_, rfl⟩
 obtain ⟨M, hM⟩ : ∃ M, ks.length = M := ⟨_, rfl⟩
 rw [hN, hM] at hat hW HST ⊢
 have HAT := Lib.hid hat
 have HW := Lib.hid hW
 have HB := Lib.hid hb
 have HGB := Lib.hid hgb
 have HBL := Lib.hid (bl_length s)
 have hlen := ct_len ts ks (bl s) s.size 0 0 (by rw [bl_length]; omega)
 have HLEN := Lib.hid hlen
 have hsz0 := hat.lt
 clear hat hb hW hgb hz hcl hck hN hM hlen h20 h10
 go_enter Try.func12, Try.ntmps12
 go_wp2_with fail
 rw [HW.out, ← HGB.out]
 go_loopw [7, 8, 9] (fun v i j wr => ∃ (a k n : Nat) (r : Option Addr) (rc : Nat) (done : List Tk), i = .int .i64 (a : Int) ∧ j = .int .i64 (k : Int) ∧ a ≤ s.size ∧ k ≤ a ∧ v = .slice r n rc ∧ wr.ownsRow (gb + 1) 41 3 (.slice r n rc) n (done.flatMap Tk.cells) ∧ Below (gb + 1) W wr ∧
  Sc.ct ts ks (bl s) 0 0 = (done ++ (Sc.ct ts ks (bl s) a k).1, (Sc.ct ts ks (bl s) a k).2)) (fun _ i _ _ => s.size - (intOf i).toNat)
 case atStart => exact ⟨0, 0, 0, none, 0, [], rfl, rfl, by omega, by omega, rfl, World.ownsRow_nil _ _ _ _, Below.refl _ _, rfl⟩
 case round =>
  obtain ⟨a, k, n, r, rc, done, rfl, rfl, ha, hk, rfl, hown, hbe, hct⟩ := hrel
  have HOW := Lib.hid hown
  have HBE := Lib.hid hbe
  have HCT := Lib.hid hct
  have hat2 := HAT.out.below hbe (by omega)
  have hgw0 := hat2.lt
  have p0 := hat2.cell 0
  have p1 := hat2.cell 1
  have p2 := hat2.cell 2
  have p3 := hat2.cell 3
  have p4 := hat2.cell 4
  simp only [List.getElem?_toArray, List.getElem?_cons_zero, List.getElem?_cons_succ] at p0 p1 p2 p3 p4
  have hnl : n = done.length := by
   have h1 := hown.1
   rw [flat_len Tk.cells 3 (fun _ => rfl)] at h1
   omega
  have hn3 : n ≤ 1001 := by
   have h2 := congrArg (fun y => y.1.length) hct
   simp only [List.length_append] at h2
   have := HLEN.out
   omega
  have hc3 : n + 1 ≤ maxLen := by unfold maxLen; omega
  have hc4 : Grows n 1 24 := Grows.of (by omega)
  have HNL := Lib.hid hnl
  clear hown hbe hct hat2 hnl
  by_cases hlt : a < s.size
  ·have hltI : (a : Int) < (s.size : Int) := by omega
   have hbw := HB.out.trans (HBE.out.mono (by omega))
   have HCA := Lib.hid (HST.out a wr hbw)
   obtain ⟨y, hy⟩ : ∃ y, Sc.next ts ks (bl s) a = y := ⟨_, rfl⟩
   have hle := Sc.next_le (ts := ts) (ks := ks) (s := bl s) (a := a)
   rw [HBL.out, hy] at hle
   have HLE := Lib.hid hle
   rw [hy] at HCA
   have HY := Lib.hid hy
   have hls : a < (bl s).length := by rw [HBL.out]; exact hlt
   have HLS := Lib.hid hls
   obtain ⟨t, m⟩ := y
   simp only at HLE HCA
   clear hbw hle hy hls
   go_wp2_with fail
   refine HCA.out.mono ?_
   rintro e w2 ⟨rfl, hb2⟩
   have HOW2 := Lib.hid (own_stay HOW.out (Stay.below hb2))
   have HBE2 := Lib.hid (HBE.out.trans (hb2.mono (by omega)))
   have hgw2 : gb + 1 ≤ w2.heap.size := by have := hb2.size; omega
   clear hb2 HOW HBE HCA p0 p1 p2 p3 p4
   by_cases hm : m = 0
   ·have hcut := Sc.ct_bad (k := k) HLS.out (show (Sc.next ts ks (bl s) a).2 = 0 by rw [HY.out]; exact hm)
    have HC2 := Lib.hid (show Sc.ct ts ks (bl s) 0 0 = (done ++ [⟨0, a, a⟩], false, k) by rw [HCT.out, hcut])
    subst hm
    clear hcut
    go_wp2_with (at_builtin; refine wpList_append_own5 _ rfl (.tmp 25) (.tmp 29) 31 rfl (gb + 1) 41 iK _ 3 24 Try.underlying31 hiK hK0 hK1 hK2 rfl (by decide) (.slice r n rc) n (done.flatMap Tk.cells) rfl (HOW2.out.alloc (.cells #[.int .i64 0, .int .i64 (a : Int), .int .i64 (a : Int)] 41)) (some ⟨w2.heap.size, 0, none⟩) 1 1 [.int .i64 0, .int .i64 (a : Int), .int .i64 (a : Int)] rfl rfl (fun j u hj => ⟨_, rfl, cells_new w2 [.int .i64 0, .int .i64 (a : Int), .int .i64 (a : Int)] _ j u hj⟩) (by simp [Value.oneCell']) hc3 hc4 (by simp; omega) ?_)
    intro v' w5 hown5 hg5 hn5
    obtain ⟨a5, s5, rfl⟩ := own_form hown5
    have HBE5 := Lib.hid ((HBE2.out.alloc hgw2 (.cells #[.int .i64 0, .int .i64 (a : Int), .int .i64 (a : Int)] 41)).grown hg5 (by simp; omega) (fun j hj => (own_lt HOW2.out j hj).1))
    have HOW5 := Lib.hid (show w5.ownsRow (gb + 1) 41 3 (.slice a5 (n + 1) s5) (n + 1) ((done ++ [(⟨0, a, a⟩ : Tk)]).flatMap Tk.cells) by rw [List.flatMap_append]; exact hown5)
    clear hown5 hg5 hn5
    go_wp2_with fail
    go_ret3
    refine ⟨a5, s5, ?_, ?_⟩
    ·rw [HC2.out]
     refine ⟨?_, Lie.own HOW5.out⟩
     rw [List.length_append, ← HNL.out]; rfl
    ·rw [← HGB.out]; exact HB.out.trans (HBE5.out.mono (by omega))
   ·have hmI : ((m : Int) == 0) = false := by rw [beq_eq_false_iff_ne]; omega
    have hw3 : IntKind.i64.wrap ((a : Int) + (m : Int)) = (a : Int) + (m : Int) := IntWalk.i64_in _ (by have := HLE.out; omega)
    have hnm : (Sc.next ts ks (bl s) a).2 ≠ 0 := by rw [HY.out]; exact hm
    by_cases ht : 0 < t
    ·have htI : (0 : Int) < (t : Int) := by omega
     have hcut := Sc.ct_tok (k := k) HLS.out hnm (by rw [HY.out]; exact ht)
     rw [HY.out] at hcut
     simp only at hcut
     have HC2 := Lib.hid (show Sc.ct ts ks (bl s) 0 0 = ((done ++ [⟨t, a, a + m⟩]) ++ (Sc.ct ts ks (bl s) (a + m) k).1, (Sc.ct ts ks (bl s) (a + m) k).2) by rw [HCT.out, hcut]; simp)
     clear hcut hnm
     go_wp2_with (at_builtin; refine wpList_append_own5 _ rfl (.tmp 34) (.tmp 41) 31 rfl (gb + 1) 41 iK _ 3 24 Try.underlying31 hiK hK0 hK1 hK2 rfl (by decide) (.slice r n rc) n (done.flatMap Tk.cells) rfl (HOW2.out.alloc (.cells #[.int .i64 (t : Int), .int .i64 (a : Int), .int .i64 ((a : Int) + (m : Int))] 41)) (some ⟨w2.heap.size, 0, none⟩) 1 1 [.int .i64 (t : Int), .int .i64 (a : Int), .int .i64 ((a : Int) + (m : Int))] rfl rfl (fun j u hj => ⟨_, rfl, cells_new w2 [.int .i64 (t : Int), .int .i64 (a : Int), .int .i64 ((a : Int) + (m : Int))] _ j u hj⟩) (by simp [Value.oneCell']) hc3 hc4 (by simp; omega) ?_)
     intro v' w5 hown5 hg5 hn5
     obtain ⟨a5, s5, rfl⟩ := own_form hown5
     have HBE5 := Lib.hid ((HBE2.out.alloc hgw2 (.cells #[.int .i64 (t : Int), .int .i64 (a : Int), .int .i64 ((a : Int) + (m : Int))] 41)).grown hg5 (by simp; omega) (fun j hj => (own_lt HOW2.out j hj).1))
     have HOW5 := Lib.hid (show w5.ownsRow (gb + 1) 41 3 (.slice a5 (n + 1) s5) (n + 1) ((done ++ [(⟨t, a, a + m⟩ : Tk)]).flatMap Tk.cells) by
      rw [List.flatMap_append]
      have e : ([(⟨t, a, a + m⟩ : Tk)]).flatMap Tk.cells = [.int .i64 (t : Int), .int .i64 (a : Int), .int .i64 ((a : Int) + (m : Int))] := by
       simp [Tk.cells]
      rw [e]; exact hown5)
     clear hown5 hg5 hn5
     go_wp2_with fail
     go_roundw
     case rel => exact ⟨a + m, k, n + 1, a5, s5, done ++ [⟨t, a, a + m⟩], by rw [Int.natCast_add], rfl, by have := HLE.out; omega, by omega, rfl, HOW5.out, HBE5.out, HC2.out⟩
     case measure => simp [intOf]; omega
    ·have htI : ¬ (0 : Int) < (t : Int) := by omega
     have hcut := Sc.ct_skip (k := k) HLS.out hnm (by rw [HY.out]; simp only; omega)
     rw [HY.out] at hcut
     simp only at hcut
     have HC2 := Lib.hid (show Sc.ct ts ks (bl s) 0 0 = (done ++ (Sc.ct ts ks (bl s) (a + m) (k + 1)).1, (Sc.ct ts ks (bl s) (a + m) (k + 1)).2) by rw [HCT.out, hcut])
     have hw4 : IntKind.i64.wrap ((k : Int) + 1) = (k : Int) + 1 := IntWalk.i64_in _ (by omega)
     clear hcut hnm
     go_wp2_with fail
     go_roundw
     case rel => exact ⟨a + m, k + 1, n, r, rc, done, by rw [Int.natCast_add], by go_num, by have := HLE.out; omega, by omega, rfl, HOW2.out, HBE2.out, HC2.out⟩
     case measure => simp [intOf]; omega
  ·have hltI : ¬ (a : Int) < (s.size : Int) := by omega
   have hcut := Sc.ct_end (ts := ts) (ks := ks) (s := bl s) (k := k) (show ¬ a < (bl s).length by rw [HBL.out]; exact hlt)
   have HC2 := Lib.hid (show Sc.ct ts ks (bl s) 0 0 = (done ++ [⟨0, a, a⟩], true, k) by rw [HCT.out, hcut])
   have hgw2 : gb + 1 ≤ wr.heap.size := by omega
   clear hcut p0 p1 p2 p3 p4
   go_wp2_with (at_builtin; refine wpList_append_own5 _ rfl (.tmp 48) (.tmp 52) 31 rfl (gb + 1) 41 iK _ 3 24 Try.underlying31 hiK hK0 hK1 hK2 rfl (by decide) (.slice r n rc) n (done.flatMap Tk.cells) rfl (HOW.out.alloc (.cells #[.int .i64 0, .int .i64 (a : Int), .int .i64 (a : Int)] 41)) (some ⟨wr.heap.size, 0, none⟩) 1 1 [.int .i64 0, .int .i64 (a : Int), .int .i64 (a : Int)] rfl rfl (fun j u hj => ⟨_, rfl, cells_new wr [.int .i64 0, .int .i64 (a : Int), .int .i64 (a : Int)] _ j u hj⟩) (by simp [Value.oneCell']) hc3 hc4 (by simp; omega) ?_)
   intro v' w5 hown5 hg5 hn5
   obtain ⟨a5, s5, rfl⟩ := own_form hown5
   have HBE5 := Lib.hid ((HBE.out.alloc hgw2 (.cells #[.int .i64 0, .int .i64 (a : Int), .int .i64 (a : Int)] 41)).grown hg5 (by simp; omega) (fun j hj => (own_lt HOW.out j hj).1))
   have HOW5 := Lib.hid (show w5.ownsRow (gb + 1) 41 3 (.slice a5 (n + 1) s5) (n + 1) ((done ++ [(⟨0, a, a⟩ : Tk)]).flatMap Tk.cells) by rw [List.flatMap_append]; exact hown5)
   clear hown5 hg5 hn5
   go_wp2_with fail
   go_ret3
   refine ⟨a5, s5, ?_, ?_⟩
   ·rw [HC2.out]
    refine ⟨?_, Lie.own HOW5.out⟩
    rw [List.length_append, ← HNL.out]; rfl
   ·rw [← HGB.out]; exact HB.out.trans (HBE5.out.mono (by omega))
end Go.Proofs.Ytddjmhhdpfebkaa
