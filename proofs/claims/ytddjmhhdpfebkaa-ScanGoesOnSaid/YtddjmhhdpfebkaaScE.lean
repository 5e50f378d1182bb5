import Derived.Test.YtddjmhhdpfebkaaScD
namespace Go.Proofs.Ytddjmhhdpfebkaa
set_option maxRecDepth 100000
open Go.RowKit
set_option linter.unusedVariables false
set_option linter.unusedSimpArgs false
set_option maxHeartbeats 4000000 in
theorem longest_any (g a k0 : Nat) (s : ByteArray) (ts ks : List P) (w : World) (hz : ∀ p, p ∈ ts ∨ p ∈ ks → Sz p) (hsz : s.size ≤ 9223372036854775807) (h20 : ts.length ≤ 1000) (h10 : ks.length ≤ 1000)
  (hg : IsSc w g s ts ks a k0) :
  Calls Try.prog 22 #[.pointer (some ⟨g, 0, none⟩)] w fun e w' => e = .returned (.tuple #[.int .i64 ((Sc.next ts ks (bl s) a).1 : Int), .int .i64 ((Sc.next ts ks (bl s) a).2 : Int)]) ∧ Below w.heap.size w w' := by
 have hA1 := ((At.new w 37 #[.pointer (some ⟨g, 0, none⟩)]).alloc (.cells #[.int .i64 0] 3)).alloc (.cells #[.int .i64 0] 3)
 have hA2 := (At.new (w.alloc (.cells #[.pointer (some ⟨g, 0, none⟩)] 37)) 3 #[.int .i64 0]).alloc (.cells #[.int .i64 0] 3)
 have hA3 := At.new ((w.alloc (.cells #[.pointer (some ⟨g, 0, none⟩)] 37)).alloc (.cells #[.int .i64 0] 3)) 3 #[.int .i64 0]
 simp only [World.size_alloc] at hA2 hA3
 have hB := (((Below.refl w.heap.size w).alloc (Nat.le_refl _) (.cells #[.pointer (some ⟨g, 0, none⟩)] 37)).alloc (by simp) (.cells #[.int .i64 0] 3)).alloc (by simp; omega) (.cells #[.int .i64 0] 3)
 obtain ⟨W, hW⟩ : ∃ W, ((w.alloc (.cells #[.pointer (some ⟨g, 0, none⟩)] 37)).alloc (.cells #[.int .i64 0] 3)).alloc (.cells #[.int .i64 0] 3) = W := ⟨_, rfl⟩
 rw [hW] at hA1 hA2 hA3 hB
 obtain ⟨q, hq⟩ : ∃ q, q = w.heap.size := ⟨_, rfl⟩
 rw [← hq] at hA1 hA2 hA3 hB
 have HEA := Lib.hid (each_any g q (q + 1 + 1) (q + 1) a k0 s ts ks W hz hsz h20 h10 hA1 (hg.below (by rw [← hq]; exact hB)) ⟨hA3, hA2⟩ (by omega))
 have c1 := hA1.cell 0
 have c2 := hA2.cell 0
 have c3 := hA3.cell 0
 simp only [List.getElem?_toArray, List.getElem?_cons_zero] at c1 c2 c3
 have HB := Lib.hid hB
 have HW := Lib.hid hW
 have HQ := Lib.hid hq
 have hlt := hA1.lt
 have hqW : q ≤ W.heap.size := by omega
 obtain ⟨x, hx⟩ : ∃ x, Sc.next ts ks (bl s) a = x := ⟨_, rfl⟩
 rw [hx] at HEA ⊢
 clear hA1 hA2 hA3 hB hW hq hz hg hx
 go_enter Try.func22, Try.ntmps22
 go_wp2_with fail
 rw [HW.out, ← HQ.out]
 go_wp2_with fail
 refine HEA.out.mono ?_
 rintro e w1 ⟨rfl, hk, hke⟩
 have HK := Lib.hid hk
 have HKE := Lib.hid hke
 have d2 := hk.term.cell 0
 have d3 := hk.size.cell 0
 have f2 := hk.term.frozen 0
 have f3 := hk.size.frozen 0
 simp only [List.getElem?_toArray, List.getElem?_cons_zero] at d2 d3
 clear hk hke c1 c2 c3
 have l2 := HK.out.term.lt
 have l3 := HK.out.size.lt
 go_wp2_with fail
 go_region
 have hat2 := ((HK.out.term.set 0 (.int .i64 (x.1 : Int))).far (p := ⟨q + 1 + 1, 0, none⟩) (by simp) (.int .i64 (x.2 : Int))).drew
 have hat3 := ((HK.out.size.far (p := ⟨q + 1, 0, none⟩) (by simp) (.int .i64 (x.1 : Int))).set 0 (.int .i64 (x.2 : Int))).drew
 have e2 := hat2.cell 0
 have e3 := hat3.cell 0
 simp only [List.getElem?_toArray, List.getElem?_cons_zero, List.setIfInBounds_toArray, List.set_cons_zero] at e2 e3
 clear hat2 hat3
 go_wp2_with fail
 refine bodyPost_ret (v := .tuple #[.int .i64 (x.1 : Int), .int .i64 (x.2 : Int)]) (by simp [results, Try.results22, go_sem, e2, e3]) rfl ?_
 refine ⟨rfl, ?_⟩
 have h1 : Below q w w1 := HB.out.trans (HKE.out.below (fun x hx => by simp at hx; omega) hqW)
 have h2 := below_drew (below_set (below_set h1 (p := ⟨q + 1, 0, none⟩) (by simp) (.int .i64 (x.1 : Int))) (p := ⟨q + 1 + 1, 0, none⟩) (by simp; omega) (.int .i64 (x.2 : Int)))
 rw [← HQ.out]; exact h2
end Go.Proofs.Ytddjmhhdpfebkaa
