import Derived.Test.YtddjmhhdpfebkaaScB
import Derived.Lib.Hide
namespace Go.Proofs.Ytddjmhhdpfebkaa
set_option maxRecDepth 100000
open Go.RowKit
set_option linter.unusedVariables false
set_option linter.unusedSimpArgs false
theorem cells_one (l : List P) : ∀ u ∈ l.flatMap Sc.cells, u.oneCell' = true := by
 intro u hu
 obtain ⟨p, _, hp⟩ := List.mem_flatMap.1 hu
 simp only [Sc.cells, List.mem_cons, List.not_mem_nil, or_false] at hp
 rcases hp with rfl | rfl | rfl <;> rfl
theorem own_empty3 (w : World) (base : Nat) (e : TypeId) (hb : base ≤ w.heap.size) : (w.alloc (.cells #[] e)).ownsRow base e 3 (.slice (some ⟨w.heap.size, 0, none⟩) 0 0) 0 [] :=
 ⟨rfl, .inr ⟨w.heap.size, 0, #[], rfl, hb, heap_alloc_new w _, by omega, by unfold maxLen; omega, by simp, by simp⟩⟩
set_option maxHeartbeats 2000000 in
theorem clone_any (A : Option Addr) (n c : Nat) (ks : List P) (w : World) (hn : ks.length = n) (hA : A = none → c = 0) (hcl : Cl w w.heap.size A (ks.flatMap Sc.cells)) (h10 : n ≤ 1000) :
  Calls Try.prog 21 #[.slice A n c] w fun e w' => ∃ A' c', (e = .returned (.slice A' n c') ∧ Lie w' 48 A' (ks.flatMap Sc.cells)) ∧ Below w.heap.size w w' := by
 obtain ⟨iP, hiP, hP0, hP1, hP2⟩ := info_parts infoPat
 have HCL := Lib.hid hcl
 have HN := Lib.hid hn
 have hnews : ∀ o : Obj, ∀ j u, (ks.flatMap Sc.cells)[j]? = some u → ∃ ad, A = some ad ∧ (w.alloc o).cell? (ad.add j) = some u := fun o j u hj => by
  obtain ⟨b, o', rfl, hb, hc⟩ := hcl.ex (fun e => by rw [e] at hj; simp at hj)
  refine ⟨_, rfl, ?_⟩
  rw [Go.WideShapes.add_plain, (Below.refl w.heap.size w |>.alloc (Nat.le_refl _) o).cell (p := ⟨b, _, none⟩) hb]
  exact hc j u hj
 have HNW := Lib.hid hnews
 have hl : (ks.flatMap Sc.cells).length = n * 3 := by rw [flat_len Sc.cells 3 cells_len, hn]
 have hc3 : 0 + n ≤ maxLen := by unfold maxLen; omega
 have hc4 : Grows 0 n 40 := Grows.of (by omega)
 have q22 : ∀ (w : World) (a : Option Addr) (n c n' c' : Nat), (binOp .eql 22 (.slice a n c) (.slice none n' c')).run Try.prog w = .ok (.bool a.isNone) w := fun w a n c n' c' => Lib.run_eql_slice_nil w _ _ a n c n' c' Try.underlying22
 clear hcl hnews hn
 cases A with
 | none =>
  obtain rfl := hA rfl
  have h0 : ks.flatMap Sc.cells = [] := by
   cases hk : ks.flatMap Sc.cells with
   | nil => rfl
   | cons u l =>
    obtain ⟨ad, he, _⟩ := HNW.out (.cells #[] 0) 0 u (by rw [hk]; rfl)
    cases he
  rw [h0] at hl ⊢
  obtain rfl : n = 0 := by simp at hl; omega
  clear hA hl h0 HCL HNW hc3 hc4
  go_enter Try.func21, Try.ntmps21
  go_wp2_with fail
  go_ret
  exact ⟨none, 0, ⟨rfl, Lie.nil _ _ _⟩, Below.refl _ _⟩
 | some a =>
  clear hA
  go_enter Try.func21, Try.ntmps21
  go_wp2_with (at_builtin; refine wpList_append_own5 _ rfl (.tmp 5) (.tmp 6) 22 rfl w.heap.size 48 iP _ 3 40 Try.underlying22 hiP hP0 hP1 hP2 rfl (by decide) (.slice (some ⟨w.heap.size, 0, none⟩) 0 0) 0 [] rfl (own_empty3 w _ _ (Nat.le_refl _)) (some a) n c (ks.flatMap Sc.cells) rfl hl (HNW.out _) (cells_one ks) hc3 hc4 (by simp) ?_)
  intro v' w5 hown hg hsn
  obtain ⟨a5, s5, rfl⟩ := own_form hown
  have HB := Lib.hid (Below.grown ((Below.refl w.heap.size w).alloc (Nat.le_refl _) _) hg (by simp) (fun j hj => by simp [Value.ownBlock] at hj; omega))
  have HO := Lib.hid hown
  clear hown hg hsn
  go_wp2_with fail
  go_ret
  exact ⟨a5, s5, ⟨rfl, Lie.own HO.out⟩, HB.out⟩
structure IsSc (w : World) (g : Nat) (s : ByteArray) (ts ks : List P) (a k : Nat) : Prop where
 ex : ∃ A1 c1 A2 c2, At w g 59 #[.string s, .slice A1 ts.length c1, .slice A2 ks.length c2, .int .i64 (a : Int), .int .i64 (k : Int)] ∧ Lie w 48 A1 (ts.flatMap Sc.cells) ∧ Lie w 48 A2 (ks.flatMap Sc.cells)
theorem IsSc.below {w w' : World} {g : Nat} {s : ByteArray} {ts ks : List P} {a k : Nat} (h : IsSc w g s ts ks a k) (hb : Below w.heap.size w w') : IsSc w' g s ts ks a k := by
 obtain ⟨A1, c1, A2, c2, h1, h2, h3⟩ := h.ex
 exact ⟨A1, c1, A2, c2, h1.below hb h1.lt, h2.below hb, h3.below hb⟩
set_option maxHeartbeats 8000000 in
theorem new_any (A : Option Addr) (c : Nat) (ts : List P) (Ak : Option Addr) (ck : Nat) (ks : List P) (s : ByteArray) (w : World) (hcl : Cl w w.heap.size A (ts.flatMap Sc.tok)) (hck : Cl w w.heap.size Ak (ks.flatMap Sc.cells)) (hAk : Ak = none → ck = 0) (h20 : ts.length ≤ 1000) (h10 : ks.length ≤ 1000) :
  Calls Try.prog 13 #[.agg #[.slice A ts.length c, .slice Ak ks.length ck, .slice none 0 0, .string ⟨#[]⟩, .slice none 0 0], .string s] w fun e w' => ∃ g, (e = .returned (.pointer (some ⟨g, 0, none⟩)) ∧ w.heap.size ≤ g ∧ IsSc w' g s ts ks 0 0) ∧ Below w.heap.size w w' := by
 obtain ⟨iP, hiP, hP0, hP1, hP2⟩ := info_parts infoPat
 obtain ⟨N, hN⟩ : ∃ N, ts.length = N := ⟨_, rfl⟩
 obtain ⟨M, hM⟩ : ∃ M, ks.length = M := ⟨_, rfl⟩
 rw [hN] at h20 ⊢
 rw [hM] at h10 ⊢
 have HN := Lib.hid hN
 have HM := Lib.hid hM
 have HCL := Lib.hid hcl
 have hat := At.new w 28 #[.slice A N c, .slice Ak M ck, .slice none 0 0, .string ⟨#[]⟩, .slice none 0 0]
 have hb := (Below.refl w.heap.size w).alloc (Nat.le_refl _) (.cells #[.slice A N c, .slice Ak M ck, .slice none 0 0, .string ⟨#[]⟩, .slice none 0 0] 28)
 obtain ⟨W0, hW0⟩ : ∃ W0, w.alloc (.cells #[.slice A N c, .slice Ak M ck, .slice none 0 0, .string ⟨#[]⟩, .slice none 0 0] 28) = W0 := ⟨_, rfl⟩
 rw [hW0] at hat hb
 have hs0 : W0.heap.size = w.heap.size + 1 := by rw [← hW0]; simp
 obtain ⟨gb, hgb⟩ : ∃ g, g = w.heap.size := ⟨_, rfl⟩
 have HKL := Lib.hid (clone_any Ak M ck ks W0 hM hAk ((hck.below hb).mono hb.size) h10)
 rw [← hgb] at hat hb hs0 HCL
 have HGB := Lib.hid hgb
 have HAT := Lib.hid hat
 have HB := Lib.hid hb
 have HW0 := Lib.hid hW0
 have HS0 := Lib.hid hs0
 have x0 := hat.cell 0
 have x1 := hat.cell 1
 have xl := hat.lt
 simp only [List.getElem?_toArray, List.getElem?_cons_zero, List.getElem?_cons_succ] at x0 x1
 clear hcl hck hat hb hW0 hs0 hgb hN hM hAk
 go_enter Try.func13, Try.ntmps13
 go_wp2_with fail
 rw [HW0.out, ← HGB.out]
 go_wp2_with fail
 refine HKL.out.mono ?_
 rintro e W1 ⟨A2, c2, ⟨rfl, hlie⟩, hb1⟩
 have HL2 := Lib.hid hlie
 have HB1 := Lib.hid hb1
 have hat1 := HAT.out.below hb1 xl
 have hs1 := hb1.size
 obtain ⟨g, hg⟩ : ∃ g, g = W1.heap.size := ⟨_, rfl⟩
 have hat2 := At.new W1 59 #[.string s, .slice none 0 0, .slice A2 M c2, .int .i64 0, .int .i64 0]
 have hb2 := (Below.refl W1.heap.size W1).alloc (Nat.le_refl _) (.cells #[.string s, .slice none 0 0, .slice A2 M c2, .int .i64 0, .int .i64 0] 59)
 have hat12 := hat1.alloc (.cells #[.string s, .slice none 0 0, .slice A2 M c2, .int .i64 0, .int .i64 0] 59)
 obtain ⟨W2, hW2⟩ : ∃ W2, W1.alloc (.cells #[.string s, .slice none 0 0, .slice A2 M c2, .int .i64 0, .int .i64 0] 59) = W2 := ⟨_, rfl⟩
 have hs2 : W2.heap.size = W1.heap.size + 1 := by rw [← hW2]; simp
 rw [hW2] at hat2 hb2 hat12
 rw [← hg] at hat2 hb2 hs2
 have y0 := hat1.cell 0
 have hl1 := hat1.lt
 simp only [List.getElem?_toArray, List.getElem?_cons_zero, List.getElem?_cons_succ] at y0
 have hgb1 : gb < g := by omega
 have HAT2 := Lib.hid hat2
 have HB2 := Lib.hid hb2
 have HW2 := Lib.hid hW2
 have HG := Lib.hid hg
 have HS2 := Lib.hid hs2
 have HBW := Lib.hid ((HB.out.trans (hb1.mono (by omega))))
 clear hlie hb1 hat1 hs1 hat2 hb2 hat12 hW2 hg hs2 x0 x1
 go_wp2_with fail
 rw [HW2.out, ← HG.out]
 go_loopw [17] (fun i wr => ∃ (k : Nat) (a : Option Addr) (cc : Nat), k ≤ N ∧ i = .int .i64 (k : Int) ∧ At wr g 59 #[.string s, .slice a k cc, .slice A2 M c2, .int .i64 0, .int .i64 0] ∧ wr.ownsRow (g + 1) 48 3 (.slice a k cc) k ((ts.take k).flatMap Sc.cells) ∧ Below g W1 wr) (fun i _ => N - (intOf i).toNat)
 case atStart => exact ⟨0, none, 0, by omega, rfl, HAT2.out, World.ownsRow_nil _ _ _ _, HB2.out⟩
 case round =>
  obtain ⟨k, a, cc, hk, rfl, hat, hown, hbe⟩ := hrel
  have HA := Lib.hid hat
  have HO := Lib.hid hown
  have HBE := Lib.hid hbe
  have hgw := hat.lt
  clear hat hown hbe y0
  by_cases hlt : k < N
  ·obtain ⟨p, hp⟩ : ∃ p, ts[k]? = some p := ⟨_, List.getElem?_eq_getElem (by rw [HN.out]; exact hlt)⟩
   have hbw : Below gb w wr := HBW.out.trans (HBE.out.mono (by omega))
   obtain ⟨b, o, hA, hbl, y0, y1, y2, y3⟩ := (HCL.out.below hbw).tok hp
   subst hA
   have hblw : b < wr.heap.size := by omega
   have htk : (ts.take (k + 1)).flatMap Sc.cells = (ts.take k).flatMap Sc.cells ++ Sc.cells p := by
    rw [List.take_add_one, hp, List.flatMap_append]; simp
   have HTK := Lib.hid htk
   obtain ⟨XT, hXT⟩ : ∃ X, str p.T = X := ⟨_, rfl⟩
   obtain ⟨XS, hXS⟩ : ∃ X, str p.S = X := ⟨_, rfl⟩
   obtain ⟨xm, hxm⟩ : ∃ X, p.m = X := ⟨_, rfl⟩
   have htp : Sc.cells p = [.string XT, .string XS, .bool xm] := by rw [← hXT, ← hXS, ← hxm]; rfl
   have HTP := Lib.hid htp
   rw [hXT] at y1
   rw [hXS] at y2
   rw [hxm] at y3
   have hki : (k : Int) < (N : Int) := by omega
   have hk0 : (0 : Int) ≤ (k : Int) := by omega
   have hc3 : k + 1 ≤ maxLen := by unfold maxLen; omega
   have hc4 : Grows k 1 40 := Grows.of (by omega)
   have hatx := At.new wr 54 #[.string ⟨#[116]⟩, .string XT, .string XS, .bool xm]
   have HA1 := Lib.hid (HA.out.alloc (.cells #[.string ⟨#[116]⟩, .string XT, .string XS, .bool xm] 54))
   have HO1 := Lib.hid (HO.out.alloc (.cells #[.string ⟨#[116]⟩, .string XT, .string XS, .bool xm] 54))
   have HBE1 := Lib.hid (HBE.out.alloc (by omega) (.cells #[.string ⟨#[116]⟩, .string XT, .string XS, .bool xm] 54))
   obtain ⟨wx, hwx⟩ : ∃ wx, wr.alloc (.cells #[.string ⟨#[116]⟩, .string XT, .string XS, .bool xm] 54) = wx := ⟨_, rfl⟩
   have hsx : wx.heap.size = wr.heap.size + 1 := by rw [← hwx]; simp
   obtain ⟨gx, hgx⟩ : ∃ g, g = wr.heap.size := ⟨_, rfl⟩
   rw [hwx, ← hgx] at hatx
   rw [hwx] at HA1 HO1 HBE1
   rw [← hgx] at hsx
   have HWX := Lib.hid hwx
   have HGX := Lib.hid hgx
   have z1 := hatx.cell 1
   have z2 := hatx.cell 2
   have z3 := hatx.cell 3
   have p1 := HA1.out.cell 1
   have hlx := hatx.lt
   have hlg := HA1.out.lt
   simp only [List.getElem?_toArray, List.getElem?_cons_zero, List.getElem?_cons_succ] at z1 z2 z3 p1
   have hgg : g + 1 ≤ wx.heap.size := by omega
   clear hp htk htp hXT hXS hxm hwx hgx hatx hbw hsx
   go_wp2_with fail
   rw [HWX.out, ← HGX.out]
   have hz0 : Below wx.heap.size wx wx.drew := below_drew (Below.refl _ _)
   refine Zed.begin_ (fun w' => Below wx.heap.size wx w') [8, 11] (by kernel_rfl) ?_
   refine Zd.pureD (i := 0) (d := some 21) (v := ?va0) rfl rfl (by kernel_rfl) (by kernel_rfl) (by kernel_rfl) (by kernel_rfl) (by kernel_rfl) (fun _ _ _ h => h) (Or.inl ⟨by kernel_rfl, ?hya0⟩) (.inr hz0) ?resta0
   case hya0 => (intro w _; go_simp; try with_reducible rfl)
   try simp only [Act.put, List.setIfInBounds_toArray, List.set_cons_zero, List.set_cons_succ]
   refine Zd.pureD (i := 1) (d := some 22) (v := ?va1) rfl rfl (by kernel_rfl) (by kernel_rfl) (by kernel_rfl) (by kernel_rfl) (by kernel_rfl) (fun _ _ _ h => h) (Or.inl ⟨by kernel_rfl, ?hya1⟩) (.inr hz0) ?resta1
   case hya1 => (intro w _; go_simp; try with_reducible rfl)
   try simp only [Act.put, List.setIfInBounds_toArray, List.set_cons_zero, List.set_cons_succ]
   refine Zd.pureD (i := 2) (d := some 23) (v := ?va2) rfl rfl (by kernel_rfl) (by kernel_rfl) (by kernel_rfl) (by kernel_rfl) (by kernel_rfl) (fun _ _ _ h => h) (Or.inl ⟨by kernel_rfl, ?hya2⟩) (.inr hz0) ?resta2
   case hya2 => (intro w _; go_simp; try with_reducible rfl)
   try simp only [Act.put, List.setIfInBounds_toArray, List.set_cons_zero, List.set_cons_succ]
   refine Zd.pureD (i := 3) (d := some 24) (v := ?va3) rfl rfl (by kernel_rfl) (by kernel_rfl) (by kernel_rfl) (by kernel_rfl) (by kernel_rfl) (fun _ _ _ h => h) (Or.inl ⟨by kernel_rfl, ?hya3⟩) (.inr hz0) ?resta3
   case hya3 => (intro w _; go_simp; try with_reducible rfl)
   try simp only [Act.put, List.setIfInBounds_toArray, List.set_cons_zero, List.set_cons_succ]
   refine Zd.takeD (i := 4) (d := some 25) (v := ?va4) rfl rfl (by kernel_rfl) (by kernel_rfl) (by kernel_rfl) (by kernel_rfl) (by kernel_rfl) (fun _ _ _ h => h) (Or.inl ⟨by kernel_rfl, ?hya4⟩) hz0 ?resta4
   case hya4 => (intro w hSw; (try dsimp only at hSw); have hc := (hSw.cell (p := ⟨g, 1, none⟩) hlg).trans p1; go_simp; try with_reducible rfl)
   try simp only [Act.put, List.setIfInBounds_toArray, List.set_cons_zero, List.set_cons_succ]
   refine Zd.pureD (i := 5) (d := some 26) (v := ?va5) rfl rfl (by kernel_rfl) (by kernel_rfl) (by kernel_rfl) (by kernel_rfl) (by kernel_rfl) (fun _ _ _ h => h) (Or.inl ⟨by kernel_rfl, ?hya5⟩) (.inr hz0) ?resta5
   case hya5 => (intro w _; go_simp; try with_reducible rfl)
   try simp only [Act.put, List.setIfInBounds_toArray, List.set_cons_zero, List.set_cons_succ]
   refine Zd.takeD (i := 6) (d := some 27) (v := ?va6) rfl rfl (by kernel_rfl) (by kernel_rfl) (by kernel_rfl) (by kernel_rfl) (by kernel_rfl) (fun _ _ _ h => h) (Or.inl ⟨by kernel_rfl, ?hya6⟩) hz0 ?resta6
   case hya6 => (intro w hSw; (try dsimp only at hSw); have hc0 := (hSw.cell (p := ⟨gx, 1, none⟩) hlx).trans z1; have hc1 := (hSw.cell (p := ⟨gx, 2, none⟩) hlx).trans z2; have hc2 := (hSw.cell (p := ⟨gx, 3, none⟩) hlx).trans z3; go_simp; try with_reducible rfl)
   try simp only [Act.put, List.setIfInBounds_toArray, List.set_cons_zero, List.set_cons_succ]
   refine Zed.one (i := 7) (by kernel_rfl) rfl (fun K hK => ?_)
   go_simp
   have hz1 := hz0.alloc hz0.size (.cells #[.string XT, .string XS, .bool xm] 48)
   refine hK.out _ _ (.inr hz1) ?_
   clear hK K
   try simp only [Act.put, List.setIfInBounds_toArray, List.set_cons_zero, List.set_cons_succ]
   refine Zed.one (i := 8) (by kernel_rfl) rfl (fun K hK => ?_)
   refine step_append_own5 _ rfl _ _ 22 rfl (g + 1) 48 iP _ 3 40 Try.underlying22 hiP hP0 hP1 hP2 rfl (by decide) _ _ _ rfl (HO1.out.drew.alloc (.cells #[.string XT, .string XS, .bool xm] 48)) ⟨wx.heap.size, 0, none⟩ 1 1 [.string XT, .string XS, .bool xm] rfl rfl (cells_new _ _ _) (by simp [Value.oneCell']) hc3 hc4 (by simp; omega) ?_
   intro v' w5 hown5 hg5 hn5
   obtain ⟨a5, s5, rfl⟩ := own_form hown5
   have hA5 := At.grown (HA1.out.drew.alloc (.cells #[.string XT, .string XS, .bool xm] 48)) hg5 (fun e => own_apart (HO1.out.drew.alloc (.cells #[.string XT, .string XS, .bool xm] 48)) (HA1.out.drew.alloc (.cells #[.string XT, .string XS, .bool xm] 48)) (by decide) e.symm)
   have r0 := hA5.cell 1
   have rf := hA5.frozen
   simp only [List.getElem?_toArray, List.getElem?_cons_zero, List.getElem?_cons_succ] at r0
   refine hK.out _ _ (.inl (by kernel_rfl)) ?_
   clear hK K
   try simp only [Act.put, List.setIfInBounds_toArray, List.set_cons_zero, List.set_cons_succ]
   refine Zd.pureD (i := 9) (d := some 30) (v := ?va9) rfl rfl (by kernel_rfl) (by kernel_rfl) (by kernel_rfl) (by kernel_rfl) (by kernel_rfl) (fun _ _ _ h => h) (Or.inl ⟨by kernel_rfl, ?hya9⟩) (.inl (by kernel_rfl)) ?resta9
   case hya9 => (intro w _; go_simp; try with_reducible rfl)
   try simp only [Act.put, List.setIfInBounds_toArray, List.set_cons_zero, List.set_cons_succ]
   refine Zd.pureD (i := 10) (d := some 31) (v := ?va10) rfl rfl (by kernel_rfl) (by kernel_rfl) (by kernel_rfl) (by kernel_rfl) (by kernel_rfl) (fun _ _ _ h => h) (Or.inl ⟨by kernel_rfl, ?hya10⟩) (.inl (by kernel_rfl)) ?resta10
   case hya10 => (intro w _; go_simp; try with_reducible rfl)
   try simp only [Act.put, List.setIfInBounds_toArray, List.set_cons_zero, List.set_cons_succ]
   refine Zed.one (i := 11) (by kernel_rfl) rfl (fun K hK => ?_)
   go_simp
   refine hK.out _ _ (.inl (by kernel_rfl)) ?_
   clear hK K
   try simp only [Act.put, List.setIfInBounds_toArray, List.set_cons_zero, List.set_cons_succ]
   refine Zed.all (by kernel_rfl) ?_ _
   have hown6 : w5.ownsRow (g + 1) 48 3 (.slice a5 (k + 1) s5) (k + 1) ((ts.take (k + 1)).flatMap Sc.cells) := by rw [HTK.out, HTP.out]; exact hown5
   have HO6 := Lib.hid (own_stay hown6 (Stay.far hA5 (by decide) (grown_set (grown_refl w5 (some g)) 1 (.slice a5 (k + 1) s5))))
   have HA6 := Lib.hid (show At (w5.setCell ⟨g, 1, none⟩ (.slice a5 (k + 1) s5)) g 59 #[.string s, .slice a5 (k + 1) s5, .slice A2 M c2, .int .i64 0, .int .i64 0] by simpa using hA5.set 1 (.slice a5 (k + 1) s5))
   have hB5 : Below g W1 w5 := Below.grown ((below_drew HBE1.out).alloc (by simp; omega) _) hg5 (by simp; omega) (fun j hj => by have := (own_lt HO1.out j hj).1; omega)
   have HB6 := Lib.hid (below_set hB5 (p := ⟨g, 1, none⟩) (by simp) (.slice a5 (k + 1) s5))
   clear hown5 hg5 hn5 hA5 r0 rf hz0 hz1 hown6 hB5
   go_wp2_with fail
   go_roundw
   case rel => exact ⟨k + 1, a5, s5, by omega, by go_num, HA6.out, HO6.out, HB6.out⟩
   case measure => simp [intOf]; omega
  ·obtain rfl : N = k := by omega
   have hall : (ts.take N).flatMap Sc.cells = ts.flatMap Sc.cells := by rw [← HN.out, List.take_length]
   rw [hall] at HO
   clear hall hlt
   go_wp2_with fail
   go_ret
   refine ⟨g, ⟨rfl, by have := HGB.out; omega, ⟨a, cc, A2, c2, ?_, Lie.own HO.out, ?_⟩⟩, ?_⟩
   ·rw [HN.out, HM.out]; exact HA.out
   ·exact HL2.out.below (by rw [← HG.out]; exact HBE.out)
   ·rw [← HGB.out]; exact HBW.out.trans (HBE.out.mono (by omega))
end Go.Proofs.Ytddjmhhdpfebkaa
