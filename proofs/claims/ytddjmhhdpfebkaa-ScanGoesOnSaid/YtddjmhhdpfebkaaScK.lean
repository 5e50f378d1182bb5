import Derived.Test.YtddjmhhdpfebkaaScJ
namespace Go.Proofs.Ytddjmhhdpfebkaa
set_option maxRecDepth 100000
open Go.RowKit
set_option linter.unusedVariables false
set_option linter.unusedSimpArgs false
theorem next_term (ts ks : List P) (s : List UInt8) (a : Nat) : (Sc.next ts ks s a).1 ≤ ts.length := by
 rcases Nat.eq_zero_or_pos (Sc.next ts ks s a).1 with h | h
 ·omega
 ·obtain ⟨k, p, h1, h2, _⟩ := Sc.next_tok h
  have := (List.getElem?_eq_some_iff.1 h2).1
  omega
theorem ct_small {ts ks : List P} {s : List UInt8} (h20 : ts.length ≤ 1000) (hs : s.length ≤ 1000) : ∀ (f a k : Nat), s.length ≤ a + f → a ≤ 1000 → ∀ x ∈ (Sc.ct ts ks s a k).1, x.small := by
 intro f
 induction f with
 | zero =>
  intro a k h ha x hx
  rw [Sc.ct_end (by omega)] at hx
  simp only [List.mem_singleton] at hx
  subst hx
  exact ⟨by simp, by simp only; omega, by simp only; omega⟩
 | succ f ih =>
  intro a k h ha x hx
  by_cases h1 : a < s.length
  ·by_cases h2 : (Sc.next ts ks s a).2 = 0
   ·rw [Sc.ct_bad h1 h2] at hx
    simp only [List.mem_singleton] at hx
    subst hx
    exact ⟨by simp, by simp only; omega, by simp only; omega⟩
   ·have hle := Sc.next_le (ts := ts) (ks := ks) (s := s) (a := a)
    by_cases h3 : 0 < (Sc.next ts ks s a).1
    ·rw [Sc.ct_tok h1 h2 h3] at hx
     rcases List.mem_cons.1 hx with rfl | hx
     ·have := next_term ts ks s a
      exact ⟨by simp only; omega, by simp only; omega, by simp only; omega⟩
     ·exact ih (a + (Sc.next ts ks s a).2) k (by omega) (by omega) x hx
    ·rw [Sc.ct_skip h1 h2 (by omega)] at hx
     exact ih (a + (Sc.next ts ks s a).2) (k + 1) (by omega) (by omega) x hx
  ·rw [Sc.ct_end h1] at hx
   simp only [List.mem_singleton] at hx
   subst hx
   exact ⟨by simp, by simp only; omega, by simp only; omega⟩
structure FewIs (e : Ending) (n m : Nat) : Prop where
 ex : ∃ r, e = .returned (.bool r) ∧ (r = true → n ≤ 20 ∧ m ≤ 10)
theorem FewIs.no (n m : Nat) : FewIs (.returned (.bool false)) n m := ⟨false, rfl, fun h => by cases h⟩
set_option maxHeartbeats 8000000 in
theorem few_any (A : Option Addr) (c : Nat) (ts : List P) (Ak : Option Addr) (ck : Nat) (ks : List P) (w : World) (hcl : Cl w w.heap.size A (ts.flatMap Sc.tok)) (hck : Cl w w.heap.size Ak (ks.flatMap Sc.cells))
  (h20 : ts.length ≤ 1000000000000000) (h10 : ks.length ≤ 1000000000000000) (hz : ∀ p, p ∈ ts ∨ p ∈ ks → Sz p) :
  Calls Try.prog 10 #[.agg #[.slice A ts.length c, .slice Ak ks.length ck, .slice none 0 0, .string ⟨#[]⟩, .slice none 0 0]] w fun e w' => FewIs e ts.length ks.length ∧ Below w.heap.size w w' := by
 have hat := At.new w 28 #[.slice A ts.length c, .slice Ak ks.length ck, .slice none 0 0, .string ⟨#[]⟩, .slice none 0 0]
 have hb := (Below.refl w.heap.size w).alloc (Nat.le_refl _) (.cells #[.slice A ts.length c, .slice Ak ks.length ck, .slice none 0 0, .string ⟨#[]⟩, .slice none 0 0] 28)
 obtain ⟨W, hW⟩ : ∃ W, w.alloc (.cells #[.slice A ts.length c, .slice Ak ks.length ck, .slice none 0 0, .string ⟨#[]⟩, .slice none 0 0] 28) = W := ⟨_, rfl⟩
 rw [hW] at hat hb
 have HCL := Lib.hid (hcl.below hb)
 have HCK := Lib.hid (hck.below hb)
 obtain ⟨N, hN⟩ : ∃ N, ts.length = N := ⟨_, rfl⟩
 obtain ⟨M, hM⟩ : ∃ M, ks.length = M := ⟨_, rfl⟩
 rw [hN, hM] at hat hW ⊢
 rw [hN] at h20
 rw [hM] at h10
 have HN := Lib.hid hN
 have HM := Lib.hid hM
 obtain ⟨gb, hgb⟩ : ∃ g, g = w.heap.size := ⟨_, rfl⟩
 rw [← hgb] at hat hb
 have HW := Lib.hid hW
 have HB := Lib.hid hb
 have HGB := Lib.hid hgb
 have HZ := Lib.hid hz
 have p0 := hat.cell 0
 have p1 := hat.cell 1
 simp only [List.getElem?_toArray, List.getElem?_cons_zero, List.getElem?_cons_succ] at p0 p1
 have fin : ∀ w', Below gb w w' → Below w.heap.size w w' := fun w' h => by rw [← hgb]; exact h
 have HF := Lib.hid fin
 clear hat hb hcl hck hW hgb hN hM hz fin
 by_cases h1 : N ≤ 20
 ·have h1I : ¬ (20 : Int) < (N : Int) := by omega
  by_cases h2 : M ≤ 10
  ·have h2I : ¬ (10 : Int) < (M : Int) := by omega
   go_enter Try.func10, Try.ntmps10
   go_wp2_with fail
   rw [HW.out, ← HGB.out]
   go_wp2_with fail
   go_loopw [3] (fun i wr => ∃ (k : Nat), k ≤ N ∧ i = .int .i64 (k : Int) ∧ wr = W) (fun i _ => N - (intOf i).toNat)
   case atStart => exact ⟨0, by omega, rfl, rfl⟩
   case round =>
    obtain ⟨k, hk, rfl, rfl⟩ := hrel
    by_cases hlt : k < N
    ·obtain ⟨p, hp⟩ : ∃ p, ts[k]? = some p := ⟨_, List.getElem?_eq_getElem (by rw [HN.out]; exact hlt)⟩
     obtain ⟨b, o, hA, hbl, y0, y1, y2, y3⟩ := HCL.out.tok hp
     subst hA
     obtain ⟨XT, hXT⟩ : ∃ X, str p.T = X := ⟨_, rfl⟩
     obtain ⟨XS, hXS⟩ : ∃ X, str p.S = X := ⟨_, rfl⟩
     rw [hXT] at y1
     rw [hXS] at y2
     have hki : (k : Int) < (N : Int) := by omega
     have hk0 : (0 : Int) ≤ (k : Int) := by omega
     clear hp hXT hXS y0 y3
     by_cases hT : (40 : Int) < (XT.size : Int)
     ·go_wp2_with fail
      go_ret
      exact ⟨FewIs.no _ _, HF.out _ HB.out⟩
     ·by_cases hS : (300 : Int) < (XS.size : Int)
      ·go_wp2_with fail
       go_ret
       exact ⟨FewIs.no _ _, HF.out _ HB.out⟩
      ·go_wp2_with fail
       go_roundw
       case rel => exact ⟨k + 1, by omega, by go_num, trivial⟩
       case measure => simp [intOf]; omega
    ·obtain rfl : N = k := by omega
     clear hlt
     go_wp2_with fail
     go_loopw [4] (fun i wr' => ∃ (k : Nat), k ≤ M ∧ i = .int .i64 (k : Int) ∧ wr' = wr) (fun i _ => M - (intOf i).toNat)
     case atStart => exact ⟨0, by omega, rfl, rfl⟩
     case round =>
      obtain ⟨k, hk, rfl, rfl⟩ := hrel
      by_cases hlt : k < M
      ·obtain ⟨p, hp⟩ : ∃ p, ks[k]? = some p := ⟨_, List.getElem?_eq_getElem (by rw [HM.out]; exact hlt)⟩
       obtain ⟨b, o, hA, hbl, y1, y2, y3⟩ := HCK.out.pat hp
       subst hA
       obtain ⟨XT, hXT⟩ : ∃ X, str p.T = X := ⟨_, rfl⟩
       obtain ⟨XS, hXS⟩ : ∃ X, str p.S = X := ⟨_, rfl⟩
       rw [hXT] at y1
       rw [hXS] at y2
       have hki : (k : Int) < (M : Int) := by omega
       have hk0 : (0 : Int) ≤ (k : Int) := by omega
       clear hp hXT hXS y3
       by_cases hT : (40 : Int) < (XT.size : Int)
       ·go_wp2_with fail
        go_ret
        exact ⟨FewIs.no _ _, HF.out _ HB.out⟩
       ·by_cases hS : (300 : Int) < (XS.size : Int)
        ·go_wp2_with fail
         go_ret
         exact ⟨FewIs.no _ _, HF.out _ HB.out⟩
        ·go_wp2_with fail
         go_roundw
         case rel => exact ⟨k + 1, by omega, by go_num, trivial⟩
         case measure => simp [intOf]; omega
      ·obtain rfl : M = k := by omega
       clear hlt
       go_wp2_with fail
       go_ret
       exact ⟨⟨true, rfl, fun _ => ⟨h1, h2⟩⟩, HF.out _ HB.out⟩
  ·have h2I : (10 : Int) < (M : Int) := by omega
   go_enter Try.func10, Try.ntmps10
   go_wp2_with fail
   rw [HW.out, ← HGB.out]
   go_wp2_with fail
   go_ret
   exact ⟨FewIs.no _ _, HB.out⟩
 ·have h1I : (20 : Int) < (N : Int) := by omega
  go_enter Try.func10, Try.ntmps10
  go_wp2_with fail
  rw [HW.out, ← HGB.out]
  go_wp2_with fail
  go_ret
  exact ⟨FewIs.no _ _, HB.out⟩
theorem all_at (A : Option Addr) (c : Nat) (ts : List P) (Ak : Option Addr) (ck : Nat) (ks : List P) (s : ByteArray) (w : World) (hcl : Cl w w.heap.size A (ts.flatMap Sc.tok)) (hck : Cl w w.heap.size Ak (ks.flatMap Sc.cells)) (hAk : Ak = none → ck = 0)
  (h20 : ts.length ≤ 1000) (h10 : ks.length ≤ 1000) (hz : ∀ p, p ∈ ts ∨ p ∈ ks → Sz p) (hsz : s.size ≤ 1000) (n m : Nat) (hn : ts.length = n) (hm : ks.length = m) (L : List Tk) (ok : Bool) (k : Nat) (hct : Sc.ct ts ks (bl s) 0 0 = (L, ok, k)) (l : Nat) (hl : L.length = l) (okc : Int) (ho : okV ok = .int .i64 okc) :
  Calls Try.prog 11 #[.agg #[.slice A n c, .slice Ak m ck, .slice none 0 0, .string ⟨#[]⟩, .slice none 0 0], .string s] w fun e w' => ∃ A' c', (e = .returned (.tuple #[.slice A' l c', .int .i64 okc]) ∧ Lie w' 41 A' (L.flatMap Tk.cells)) ∧ Below w.heap.size w w' := by
 have h := all_any A c ts Ak ck ks s w hcl hck hAk h20 h10 hz hsz
 rw [hct, hn, hm] at h
 simp only at h
 rw [hl, ho] at h
 exact h
theorem toks_at (A : Option Addr) (n c : Nat) (l : List Tk) (A' : Option Addr) (n' c' : Nat) (l' : List Tk) (B : Nat) (w : World) (h : Cl w B A (l.flatMap Tk.cells)) (h' : Cl w B A' (l'.flatMap Tk.cells)) (hl : l.length ≤ 100000) (hl' : l'.length ≤ 100000) (hs : ∀ x ∈ l, x.small) (hs' : ∀ x ∈ l', x.small) (hn : l.length = n) (hn' : l'.length = n') (b : Bool) (hb : decide (l = l') = b) :
  Calls Try.prog 14 #[.slice A n c, .slice A' n' c'] w fun e w' => e = .returned (.bool b) ∧ Below w.heap.size w w' := by
 subst hn hn' hb
 exact toks_any A c l A' c' l' B w h h' hl hl' hs hs'
theorem made_at (A : Option Addr) (n c : Nat) (ts : List P) (Ak : Option Addr) (nk ck : Nat) (w : World) (hcl : Cl w w.heap.size A (ts.flatMap Sc.cells)) (h40 : ts.length * 40 ≤ reachBytes) (hn : ts.length = n) :
  Calls Try.prog 9 #[.slice A n c, .slice Ak nk ck] w fun e w' => ∃ A' c', (e = .returned (.agg #[.slice A' n c', .slice Ak nk ck, .slice none 0 0, .string ⟨#[]⟩, .slice none 0 0]) ∧ Lie w' 54 A' (ts.flatMap Sc.tok)) ∧ Below w.heap.size w w' := by
 subst hn
 exact made_any A c ts Ak nk ck w hcl h40
def awT : List P := [⟨[], [48, 49, 50, 51, 52, 53, 54, 55, 56, 57], true⟩, ⟨[105, 102], [], false⟩, ⟨[], [97, 98, 99, 100, 101, 102, 103, 104, 105, 106, 107, 108, 109, 110, 111, 112, 113, 114, 115, 116, 117, 118, 119, 120, 121, 122], true⟩]
def awK : List P := [⟨[32], [], false⟩]
def awL1 : List Tk := [⟨2, 0, 2⟩, ⟨2, 3, 5⟩, ⟨1, 5, 6⟩, ⟨3, 7, 10⟩, ⟨0, 10, 10⟩]
def awL2 : List Tk := [⟨3, 0, 1⟩, ⟨0, 1, 1⟩]
theorem aw1 : Sc.ct awT awK (bl ⟨#[105, 102, 32, 105, 102, 50, 32, 105, 102, 102]⟩) 0 0 = (awL1, true, 2) := by decide +kernel
theorem aw2 : Sc.ct awT awK (bl ⟨#[97, 59]⟩) 0 0 = (awL2, false, 0) := by decide +kernel
theorem aw_sz : ∀ p, p ∈ awT ∨ p ∈ awK → Sz p := by
 have h : (awT ++ awK).all (fun p => decide (p.T.length ≤ reachBytes) && decide (p.S.length ≤ reachBytes)) = true := by decide +kernel
 intro p hp
 have h1 := List.all_eq_true.1 h p (List.mem_append.2 hp)
 simp only [Bool.and_eq_true, decide_eq_true_eq] at h1
 exact h1
theorem aw_s1 : ∀ x ∈ awL1, x.small := by
 intro x hx
 simp only [awL1, List.mem_cons, List.not_mem_nil, or_false] at hx
 rcases hx with rfl | rfl | rfl | rfl | rfl <;> exact ⟨by decide, by decide, by decide⟩
theorem aw_s2 : ∀ x ∈ awL2, x.small := by
 intro x hx
 simp only [awL2, List.mem_cons, List.not_mem_nil, or_false] at hx
 rcases hx with rfl | rfl <;> exact ⟨by decide, by decide, by decide⟩
theorem At.cl {w : World} {b : Nat} {t : TypeId} {cs : Array Value} {xs : List Value} (h : At w b t cs) (hx : cs = xs.toArray) : Cl w w.heap.size (some ⟨b, 0, none⟩) xs :=
 ⟨fun _ => ⟨b, 0, rfl, h.lt, fun j u hj => by rw [Nat.zero_add, h.cell, hx]; simpa using hj⟩⟩
set_option maxHeartbeats 8000000 in
theorem awake_any (w : World) : Calls Try.prog 8 #[] w fun e w' => e = .returned (.bool true) ∧ Below w.heap.size w w' := by
 have hat := (At.new w 48 #[.string ⟨#[]⟩, .string ⟨#[48, 49, 50, 51, 52, 53, 54, 55, 56, 57]⟩, .bool true, .string ⟨#[105, 102]⟩, .string ⟨#[]⟩, .bool false, .string ⟨#[]⟩, .string ⟨#[97, 98, 99, 100, 101, 102, 103, 104, 105, 106, 107, 108, 109, 110, 111, 112, 113, 114, 115, 116, 117, 118, 119, 120, 121, 122]⟩, .bool true]).alloc (.cells #[.string ⟨#[32]⟩, .string ⟨#[]⟩, .bool false] 48)
 have hak := At.new (w.alloc (.cells #[.string ⟨#[]⟩, .string ⟨#[48, 49, 50, 51, 52, 53, 54, 55, 56, 57]⟩, .bool true, .string ⟨#[105, 102]⟩, .string ⟨#[]⟩, .bool false, .string ⟨#[]⟩, .string ⟨#[97, 98, 99, 100, 101, 102, 103, 104, 105, 106, 107, 108, 109, 110, 111, 112, 113, 114, 115, 116, 117, 118, 119, 120, 121, 122]⟩, .bool true] 48)) 48 #[.string ⟨#[32]⟩, .string ⟨#[]⟩, .bool false]
 have hb := ((Below.refl w.heap.size w).alloc (Nat.le_refl _) (.cells #[.string ⟨#[]⟩, .string ⟨#[48, 49, 50, 51, 52, 53, 54, 55, 56, 57]⟩, .bool true, .string ⟨#[105, 102]⟩, .string ⟨#[]⟩, .bool false, .string ⟨#[]⟩, .string ⟨#[97, 98, 99, 100, 101, 102, 103, 104, 105, 106, 107, 108, 109, 110, 111, 112, 113, 114, 115, 116, 117, 118, 119, 120, 121, 122]⟩, .bool true] 48)).alloc (by simp) (.cells #[.string ⟨#[32]⟩, .string ⟨#[]⟩, .bool false] 48)
 rw [World.size_alloc] at hak
 obtain ⟨W, hW⟩ : ∃ W, (w.alloc (.cells #[.string ⟨#[]⟩, .string ⟨#[48, 49, 50, 51, 52, 53, 54, 55, 56, 57]⟩, .bool true, .string ⟨#[105, 102]⟩, .string ⟨#[]⟩, .bool false, .string ⟨#[]⟩, .string ⟨#[97, 98, 99, 100, 101, 102, 103, 104, 105, 106, 107, 108, 109, 110, 111, 112, 113, 114, 115, 116, 117, 118, 119, 120, 121, 122]⟩, .bool true] 48)).alloc (.cells #[.string ⟨#[32]⟩, .string ⟨#[]⟩, .bool false] 48) = W := ⟨_, rfl⟩
 rw [hW] at hat hak hb
 obtain ⟨q, hq⟩ : ∃ q, q = w.heap.size := ⟨_, rfl⟩
 rw [← hq] at hat hak hb
 have HCK := Lib.hid (hak.cl (xs := awK.flatMap Sc.cells) rfl)
 have HMA := Lib.hid (made_at (some ⟨q, 0, none⟩) 3 3 awT (some ⟨q + 1, 0, none⟩) 1 1 W (hat.cl (xs := awT.flatMap Sc.cells) rfl) (by decide) rfl)
 have HB := Lib.hid hb
 have HW := Lib.hid hW
 have HQ := Lib.hid hq
 have hqW : q ≤ W.heap.size := by have := hat.lt; omega
 clear hat hak hb hW hq
 go_enter Try.func8, Try.ntmps8
 go_wp2_with fail
 rw [HW.out, ← HQ.out]
 refine HMA.out.mono ?_
 rintro e w1 ⟨A1, c1, ⟨rfl, hl1⟩, hb1⟩
 have hg := At.new w1 28 #[.slice A1 3 c1, .slice (some ⟨q + 1, 0, none⟩) 1 1, .slice none 0 0, .string ⟨#[]⟩, .slice none 0 0]
 have hbg := (Below.refl w1.heap.size w1).alloc (Nat.le_refl _) (.cells #[.slice A1 3 c1, .slice (some ⟨q + 1, 0, none⟩) 1 1, .slice none 0 0, .string ⟨#[]⟩, .slice none 0 0] 28)
 obtain ⟨W2, hW2⟩ : ∃ W2, w1.alloc (.cells #[.slice A1 3 c1, .slice (some ⟨q + 1, 0, none⟩) 1 1, .slice none 0 0, .string ⟨#[]⟩, .slice none 0 0] 28) = W2 := ⟨_, rfl⟩
 rw [hW2] at hg hbg
 obtain ⟨gb, hgb⟩ : ∃ g, g = w1.heap.size := ⟨_, rfl⟩
 rw [← hgb] at hg
 have hcl := (hl1.below hbg).cl
 have hck := (HCK.out.below (hb1.trans (hbg.mono hb1.size))).mono (Nat.le_trans hb1.size hbg.size)
 have HA1 := Lib.hid (all_at A1 c1 awT (some ⟨q + 1, 0, none⟩) 1 awK ⟨#[105, 102, 32, 105, 102, 50, 32, 105, 102, 102]⟩ W2 hcl hck (fun h => by cases h) (by decide) (by decide) aw_sz (by decide) 3 1 rfl rfl awL1 true 2 aw1 5 rfl 0 rfl)
 have HA2 := Lib.hid (fun w' (h : Below W2.heap.size W2 w') => all_at A1 c1 awT (some ⟨q + 1, 0, none⟩) 1 awK ⟨#[97, 59]⟩ w' ((hcl.below h).mono h.size) ((hck.below h).mono h.size) (fun h => by cases h) (by decide) (by decide) aw_sz (by decide) 3 1 rfl rfl awL2 false 0 aw2 2 rfl 21 rfl)
 have HB2 := Lib.hid (HB.out.trans ((hb1.mono hqW).trans (hbg.mono (Nat.le_trans hqW hb1.size))))
 have hq2 : q ≤ W2.heap.size := Nat.le_trans hqW (Nat.le_trans hb1.size hbg.size)
 have HW2 := Lib.hid hW2
 have HGB := Lib.hid hgb
 have HG := Lib.hid hg
 have g0 := hg.cell 0
 have g1 := hg.cell 1
 have g2 := hg.cell 2
 have g3 := hg.cell 3
 have g4 := hg.cell 4
 simp only [List.getElem?_toArray, List.getElem?_cons_zero, List.getElem?_cons_succ] at g0 g1 g2 g3 g4
 clear hg hbg hW2 hgb hcl hck hl1 hb1 HMA HCK
 go_wp2_with fail
 rw [HW2.out, ← HGB.out]
 go_wp2_with fail
 refine HA1.out.mono ?_
 rintro e w3 ⟨A2, c2, ⟨rfl, hl3⟩, hb3⟩
 have hg3 := HG.out.below hb3 HG.out.lt
 have HB3 := Lib.hid (HB2.out.trans (hb3.mono hq2))
 have HA3 := Lib.hid (HA2.out w3 hb3)
 have HL3 := Lib.hid hl3
 have hq3 : q ≤ w3.heap.size := Nat.le_trans hq2 hb3.size
 have g0 := hg3.cell 0
 have g1 := hg3.cell 1
 have g2 := hg3.cell 2
 have g3 := hg3.cell 3
 have g4 := hg3.cell 4
 simp only [List.getElem?_toArray, List.getElem?_cons_zero, List.getElem?_cons_succ] at g0 g1 g2 g3 g4
 clear hg3 hl3 hb3 HA1 HA2
 go_wp2_with fail
 refine HA3.out.mono ?_
 rintro e w4 ⟨A3, c3, ⟨rfl, hl4⟩, hb4⟩
 have hL1 := At.new w4 41 #[.int .i64 2, .int .i64 0, .int .i64 2, .int .i64 2, .int .i64 3, .int .i64 5, .int .i64 1, .int .i64 5, .int .i64 6, .int .i64 3, .int .i64 7, .int .i64 10, .int .i64 0, .int .i64 10, .int .i64 10]
 have hbl := (Below.refl w4.heap.size w4).alloc (Nat.le_refl _) (.cells #[.int .i64 2, .int .i64 0, .int .i64 2, .int .i64 2, .int .i64 3, .int .i64 5, .int .i64 1, .int .i64 5, .int .i64 6, .int .i64 3, .int .i64 7, .int .i64 10, .int .i64 0, .int .i64 10, .int .i64 10] 41)
 have HT1 := Lib.hid (toks_at A2 5 c2 awL1 (some ⟨w4.heap.size, 0, none⟩) 5 5 awL1 _ (w4.alloc (.cells #[.int .i64 2, .int .i64 0, .int .i64 2, .int .i64 2, .int .i64 3, .int .i64 5, .int .i64 1, .int .i64 5, .int .i64 6, .int .i64 3, .int .i64 7, .int .i64 10, .int .i64 0, .int .i64 10, .int .i64 10] 41)) (((HL3.out.below hb4).below hbl).cl) (hL1.cl (xs := awL1.flatMap Tk.cells) rfl) (by decide) (by decide) aw_s1 aw_s1 rfl rfl true (decide_eq_true rfl))
 have HB4 := Lib.hid (HB3.out.trans ((hb4.mono hq3).trans (hbl.mono (Nat.le_trans hq3 hb4.size))))
 have hq4 : q ≤ (w4.alloc (.cells #[.int .i64 2, .int .i64 0, .int .i64 2, .int .i64 2, .int .i64 3, .int .i64 5, .int .i64 1, .int .i64 5, .int .i64 6, .int .i64 3, .int .i64 7, .int .i64 10, .int .i64 0, .int .i64 10, .int .i64 10] 41)).heap.size := Nat.le_trans hq3 (Nat.le_trans hb4.size hbl.size)
 have HL4 := Lib.hid (hl4.below hbl)
 have HQ4 := Lib.hid hq4
 clear hL1 hbl hl4 hb4 HA3 g0 g1 g2 g3 g4 hq4
 go_wp2_with fail
 refine HT1.out.mono ?_
 rintro e w5 ⟨rfl, hb5⟩
 have hL2 := At.new w5 41 #[.int .i64 3, .int .i64 0, .int .i64 1, .int .i64 0, .int .i64 1, .int .i64 1]
 have hbl := (Below.refl w5.heap.size w5).alloc (Nat.le_refl _) (.cells #[.int .i64 3, .int .i64 0, .int .i64 1, .int .i64 0, .int .i64 1, .int .i64 1] 41)
 have HT2 := Lib.hid (toks_at A3 2 c3 awL2 (some ⟨w5.heap.size, 0, none⟩) 2 2 awL2 _ (w5.alloc (.cells #[.int .i64 3, .int .i64 0, .int .i64 1, .int .i64 0, .int .i64 1, .int .i64 1] 41)) (((HL4.out.below hb5).below hbl).cl) (hL2.cl (xs := awL2.flatMap Tk.cells) rfl) (by decide) (by decide) aw_s2 aw_s2 rfl rfl true (decide_eq_true rfl))
 have HB5 := Lib.hid (HB4.out.trans ((hb5.mono HQ4.out).trans (hbl.mono (Nat.le_trans HQ4.out hb5.size))))
 have HQ5 := Lib.hid (Nat.le_trans HQ4.out (Nat.le_trans hb5.size hbl.size))
 clear hL2 hbl hb5 HT1
 go_wp2_with fail
 refine HT2.out.mono ?_
 rintro e w6 ⟨rfl, hb6⟩
 have HB6 := Lib.hid (HB5.out.trans (hb6.mono HQ5.out))
 clear hb6
 go_wp2_with fail
 go_ret
 exact ⟨rfl, by rw [← HQ.out]; exact HB6.out⟩
end Go.Proofs.Ytddjmhhdpfebkaa
