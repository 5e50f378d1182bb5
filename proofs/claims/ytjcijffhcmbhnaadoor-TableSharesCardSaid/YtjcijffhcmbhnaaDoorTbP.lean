import Derived.Test.YtjcijffhcmbhnaaDoorTbO
namespace Go.Proofs.YtjcijffhcmbhnaaDoor
set_option maxRecDepth 100000
open Go.RowKit
open BitKit
set_option linter.unusedVariables false
set_option linter.unusedSimpArgs false
theorem RowsL.alloc {w : World} {v : Value} {LL : List (List Int)} (h : RowsL w v LL) (o : Obj) : RowsL (w.alloc o) v LL := h.below ((Below.refl _ _).alloc (Nat.le_refl _) _)
theorem below_up {w W : World} (h : Below w.heap.size w W) (o : Obj) : Below w.heap.size w (W.alloc o) := h.alloc h.size o
theorem own_lit (W : World) (B : Nat) (hB : B ≤ W.heap.size) (l : List Int) (hl : l.length ≤ 1000) : (W.alloc (.cells (vals l).toArray 3)).ownsRow B 3 1 (.slice (some ⟨W.heap.size, 0, none⟩) l.length l.length) l.length (vals l) :=
 World.ownsRow_lit (base := B) (e := 3) (size := 1) W (vals l).toArray l.length hB (by unfold maxLen; omega) (by simp [vals_length])
theorem small_of (l : List Int) (h : l.all (fun x => decide (-9223372036854775808 ≤ x) && decide (x ≤ 9223372036854775807)) = true) : Small l := by
 intro x hx
 have := List.all_eq_true.1 h x hx
 simpa using this
theorem lit3 (W : World) (a b c : List Int) (ha : Small a) (hb : Small b) (hc : Small c) (la : a.length ≤ 1000) (lb : b.length ≤ 1000) (lc : c.length ≤ 1000) :
  RowsL ((((W.alloc (.cells (vals a).toArray 3)).alloc (.cells (vals b).toArray 3)).alloc (.cells (vals c).toArray 3)).alloc (.cells #[.slice (some ⟨W.heap.size, 0, none⟩) a.length a.length, .slice (some ⟨W.heap.size + 1, 0, none⟩) b.length b.length, .slice (some ⟨W.heap.size + 1 + 1, 0, none⟩) c.length c.length] 25))
   (.slice (some ⟨W.heap.size + 1 + 1 + 1, 0, none⟩) 3 3) [a, b, c] := by
 have o1 := (((own_lit W 0 (Nat.zero_le _) a la).alloc (.cells (vals b).toArray 3)).alloc (.cells (vals c).toArray 3))
 have o2 := ((own_lit (W.alloc (.cells (vals a).toArray 3)) 0 (Nat.zero_le _) b lb).alloc (.cells (vals c).toArray 3))
 have o3 := own_lit ((W.alloc (.cells (vals a).toArray 3)).alloc (.cells (vals b).toArray 3)) 0 (Nat.zero_le _) c lc
 simp only [World.size_alloc] at o2 o3
 have oo := World.ownsRow_lit (base := 0) (e := 25) (size := 1) (((W.alloc (.cells (vals a).toArray 3)).alloc (.cells (vals b).toArray 3)).alloc (.cells (vals c).toArray 3)) #[.slice (some ⟨W.heap.size, 0, none⟩) a.length a.length, .slice (some ⟨W.heap.size + 1, 0, none⟩) b.length b.length, .slice (some ⟨W.heap.size + 1 + 1, 0, none⟩) c.length c.length] 3 (Nat.zero_le _) (by decide) rfl
 simp only [World.size_alloc] at oo
 refine RowsL.own oo rfl (fun i l u h1 h2 => ?_)
 match i, h1, h2 with
 | 0, h1, h2 => simp at h1 h2; subst h1; subst h2; exact RowIn.own (o1.alloc _) ha
 | 1, h1, h2 => simp at h1 h2; subst h1; subst h2; exact RowIn.own (o2.alloc _) hb
 | 2, h1, h2 => simp at h1 h2; subst h1; subst h2; exact RowIn.own (o3.alloc _) hc
 | i + 3, h1, _ => simp at h1
def AtTells (x y iv : Int) (e : Ending) : Prop := e = .returned (.int .i64 (if y = iv + 1 then x else 0))
set_option maxHeartbeats 2000000 in
theorem at_any (B1 B2 B3 B4 : Nat) (v1 bv nv ov : Value) (I BL N W : List Int) (m n row col b J : Nat) (iv x y : Int) (w : World) (hI : OwnI w B1 v1 I) (hB : OwnI w B2 bv BL) (hN : OwnI w B3 nv N) (hW : OwnI w B4 ov W)
  (hIl : I.length = m) (hBl : BL.length = m) (hNl : N.length = n) (hWl : W.length = n) (hr : row < m) (hb : BL[row]? = some (b : Int)) (hi : I[row]? = some iv) (hJ : b + col = J) (hJn : J < n) (hx : N[J]? = some x) (hy : W[J]? = some y)
  (hm : m ≤ 1000) (hn : n ≤ 10000) (hiv : 0 ≤ iv ∧ iv ≤ 1000) :
  Calls Tryd.prog 19 #[.agg #[v1, bv, nv, ov], .int .i64 (row : Int), .int .i64 (col : Int)] w fun e w' => AtTells x y iv e ∧ Below w.heap.size w w' := by
 unfold OwnI at hI hB hN hW
 rw [hIl] at hI
 rw [hBl] at hB
 rw [hNl] at hN
 rw [hWl] at hW
 obtain ⟨gi, ci, rfl, _⟩ := own_pos hI (by omega)
 obtain ⟨gb, cb, rfl, _⟩ := own_pos hB (by omega)
 obtain ⟨gn, cn, rfl, _⟩ := own_pos hN (by omega)
 obtain ⟨go, co, rfl, _⟩ := own_pos hW (by omega)
 have k1 := (hI.alloc (.cells #[.slice (some ⟨gi, 0, none⟩) m ci, .slice (some ⟨gb, 0, none⟩) m cb, .slice (some ⟨gn, 0, none⟩) n cn, .slice (some ⟨go, 0, none⟩) n co] 29)).cellAt row (by omega)
 have k2 := (hB.alloc (.cells #[.slice (some ⟨gi, 0, none⟩) m ci, .slice (some ⟨gb, 0, none⟩) m cb, .slice (some ⟨gn, 0, none⟩) n cn, .slice (some ⟨go, 0, none⟩) n co] 29)).cellAt row (by omega)
 have k3 := (hN.alloc (.cells #[.slice (some ⟨gi, 0, none⟩) m ci, .slice (some ⟨gb, 0, none⟩) m cb, .slice (some ⟨gn, 0, none⟩) n cn, .slice (some ⟨go, 0, none⟩) n co] 29)).cellAt J (by omega)
 have k4 := (hW.alloc (.cells #[.slice (some ⟨gi, 0, none⟩) m ci, .slice (some ⟨gb, 0, none⟩) m cb, .slice (some ⟨gn, 0, none⟩) n cn, .slice (some ⟨go, 0, none⟩) n co] 29)).cellAt J (by omega)
 have hA := At.new w 29 #[.slice (some ⟨gi, 0, none⟩) m ci, .slice (some ⟨gb, 0, none⟩) m cb, .slice (some ⟨gn, 0, none⟩) n cn, .slice (some ⟨go, 0, none⟩) n co]
 have p0 := hA.cell 0
 have p1 := hA.cell 1
 have p2 := hA.cell 2
 have p3 := hA.cell 3
 simp only [List.getElem?_toArray, List.getElem?_cons_zero, List.getElem?_cons_succ] at p0 p1 p2 p3
 rw [vals_get hi] at k1
 rw [vals_get hb] at k2
 rw [vals_get hx] at k3
 rw [vals_get hy] at k4
 have hb0 := (Below.refl w.heap.size w).alloc (Nat.le_refl _) (.cells #[.slice (some ⟨gi, 0, none⟩) m ci, .slice (some ⟨gb, 0, none⟩) m cb, .slice (some ⟨gn, 0, none⟩) n cn, .slice (some ⟨go, 0, none⟩) n co] 29)
 have Kb0 := Lib.hid hb0
 have q1 : (0 : Int) ≤ (row : Int) := by omega
 have q2 : (row : Int) < (m : Int) := by omega
 have q3 : ((row : Int)).toNat = row := by omega
 have q4 : (0 : Int) ≤ (J : Int) := by omega
 have q5 : (J : Int) < (n : Int) := by omega
 have q6 : ((J : Int)).toNat = J := by omega
 have q7 : ¬ (col : Int) < 0 := by omega
 have q8 : ¬ (b : Int) < 0 := by omega
 have q9 : ¬ (n : Int) - (b : Int) ≤ (col : Int) := by omega
 have q10 : (n : Int) ≤ 10000 := by omega
 have q11 : (b : Int) ≤ 10000 := by omega
 have q12 : IntKind.i64.wrap ((b : Int) + (col : Int)) = (J : Int) := by rw [← hJ, Int.natCast_add]; exact IntWalk.i64_in _ (by omega)
 have q13 : IntKind.i64.wrap (iv + 1) = iv + 1 := IntWalk.i64_in _ (by omega)
 have q15 : y = iv + 1 ∨ ¬ y = iv + 1 := by omega
 have q14 : (b : Int) + (col : Int) = (J : Int) := by omega
 clear hI hB hN hW hIl hBl hNl hWl hb hi hx hy hJ hA hb0
 go_enter Tryd.func19, Tryd.ntmps19
 go_wp2_with fail
 go_quiet (fail)
 go_wp2_with fail
 go_quiet (fail)
 rcases q15 with q15 | q15
 ·go_wp2_with fail
  go_ret
  refine ⟨?_, ?_⟩
  ·unfold AtTells
   rw [if_pos q15]
   rfl
  ·first | exact below_drewN (below_drewN Kb0.out _) _ | exact below_drewN Kb0.out _
 ·go_wp2_with fail
  go_ret
  refine ⟨?_, ?_⟩
  ·unfold AtTells
   rw [if_neg q15]
   rfl
  ·first | exact below_drewN (below_drewN Kb0.out _) _ | exact below_drewN Kb0.out _
end Go.Proofs.YtjcijffhcmbhnaaDoor
