import Derived.Test.YtcjpmcmjnmcngaaPtG
import Derived.Deep.Strs
namespace Go.Proofs.Ytcjpmcmjnmcngaa
set_option maxRecDepth 100000
open Go.RowKit Go.ChangeShapes Go.WideShapes Go.ChangeAt
set_option linter.unusedVariables false
set_option linter.unusedSimpArgs false
section
variable {H : Type} {enc : TypeId × Value → H} {W : World}
theorem list3 {α : Type} {l : List α} (h : l.length = 3) : ∃ a b c, l = [a, b, c] := by
 match l, h with
 | [a, b, c], _ => exact ⟨a, b, c, rfl⟩
theorem cs1 : Try.prog.cellsOf 9 = 1 := by kernel_rfl
theorem cb1 : Try.prog.cellsOf 4 = 1 := by kernel_rfl
theorem cp3 : Try.prog.cellsOf 23 = 3 := by kernel_rfl
theorem open_pat {base : Nat} {v : Value} {d : DataW H} {p : List MemPlace} (hv : Value.okWide Try.prog W .any base 23 v) (h : DataW.Trod enc Try.prog W 0 (fun _ => true) true 23 v d p) :
  ∃ (T S : ByteArray) (m : Bool), v = patV T S m ∧ T.size ≤ 9223372036854775807 ∧ S.size ≤ 9223372036854775807 := by
 obtain ⟨cs, rfl, hcs⟩ := okWide_struct Try.underlying23 hv
 obtain ⟨fuel, ht⟩ := h
 obtain ⟨y0, y1, y2, n, hx, hl, h0, h1, h2⟩ := Go.Deep.trod_struct3 Try.underlying23 ht
 rw [cp3] at hl
 obtain ⟨a, b, c, hcv⟩ := list3 hl
 rw [hcv] at h0 h1 h2
 have hce : cs = #[a, b, c] := by
  have : cs.toList = [a, b, c] := by simpa [Value.cells] using hcv
  exact Array.toList_inj.1 (by simpa using this)
 subst hce
 have h0 : DataW.trod enc Try.prog W 0 (fun _ => true) true n 9 (([a, b, c].drop 0).take (Try.prog.cellsOf 9)) = some y0 := h0
 have h1 : DataW.trod enc Try.prog W 0 (fun _ => true) true n 9 (([a, b, c].drop 1).take (Try.prog.cellsOf 9)) = some y1 := h1
 have h2 : DataW.trod enc Try.prog W 0 (fun _ => true) true n 4 (([a, b, c].drop 2).take (Try.prog.cellsOf 4)) = some y2 := h2
 rw [cs1] at h0 h1
 rw [cb1] at h2
 obtain ⟨t0, e0, _, b0⟩ := DataW.trod_string Try.underlying9 h0
 obtain ⟨t1, e1, _, b1⟩ := DataW.trod_string Try.underlying9 h1
 obtain ⟨t2, e2, _⟩ := DataW.trod_bool Try.underlying4 h2
 simp only [List.drop_zero, List.drop_succ_cons, List.take_succ_cons, List.take_zero, List.cons.injEq, and_true] at e0 e1 e2
 subst e0 e1 e2
 exact ⟨t0, t1, t2, rfl, maxLen_le b0, maxLen_le b1⟩
end
theorem one_boxed (T S : ByteArray) (m : Bool) (w : World) : ∃ (G : World → World) (x : World), Qt.Class (w.heap.size + 1) (G x) G ∧ w.alloc (.cells #[.string T, .string S, .bool m] 23) = G x ∧ (∀ x, Below w.heap.size w (G x)) ∧
  (∀ x, (G x).cell? ⟨w.heap.size, 0, none⟩ = some (.string T)) ∧ (∀ x, (G x).cell? ⟨w.heap.size, 1, none⟩ = some (.string S)) ∧ (∀ x, (G x).cell? ⟨w.heap.size, 2, none⟩ = some (.bool m)) := by
 have hA := At.new w 23 #[.string T, .string S, .bool m]
 have hB := (Below.refl w.heap.size w).alloc (Nat.le_refl _) (.cells #[.string T, .string S, .bool m] 23)
 have hsz : (w.alloc (.cells #[.string T, .string S, .bool m] 23)).heap.size = w.heap.size + 1 := World.size_alloc _ _
 generalize w.alloc (.cells #[.string T, .string S, .bool m] 23) = W at hA hB hsz
 obtain ⟨G, hG⟩ := Qt.class_of (w.heap.size + 1) W (by omega)
 obtain ⟨x, hx⟩ := hG.onto W ⟨rfl, rfl, rfl, Nat.le_refl _, fun _ _ => rfl⟩
 have k0 := hA.cell 0
 have k1 := hA.cell 1
 have k2 := hA.cell 2
 simp only [List.getElem?_toArray, List.getElem?_cons_zero, List.getElem?_cons_succ] at k0 k1 k2
 rw [hx] at hG
 exact ⟨G, x, hG, hx, fun y => by have h := hG.below y; rw [← hx] at h; exact hB.trans (h.mono (by omega)), Qt.cell hG (by omega) (by rw [← hx]; exact k0), Qt.cell hG (by omega) (by rw [← hx]; exact k1), Qt.cell hG (by omega) (by rw [← hx]; exact k2)⟩
theorem two_boxed (T S : ByteArray) (m : Bool) (T' S' : ByteArray) (m' : Bool) (w : World) : ∃ (G : World → World) (x : World), Qt.Class (w.heap.size + 1 + 1) (G x) G ∧ (w.alloc (.cells #[.string T, .string S, .bool m] 23)).alloc (.cells #[.string T', .string S', .bool m'] 23) = G x ∧ (∀ x, Below w.heap.size w (G x)) ∧
  ((∀ x, (G x).cell? ⟨w.heap.size, 0, none⟩ = some (.string T)) ∧ (∀ x, (G x).cell? ⟨w.heap.size, 1, none⟩ = some (.string S)) ∧ (∀ x, (G x).cell? ⟨w.heap.size, 2, none⟩ = some (.bool m))) ∧
  ((∀ x, (G x).cell? ⟨w.heap.size + 1, 0, none⟩ = some (.string T')) ∧ (∀ x, (G x).cell? ⟨w.heap.size + 1, 1, none⟩ = some (.string S')) ∧ (∀ x, (G x).cell? ⟨w.heap.size + 1, 2, none⟩ = some (.bool m'))) := by
 have hA := (At.new w 23 #[.string T, .string S, .bool m]).alloc (.cells #[.string T', .string S', .bool m'] 23)
 have hA' := At.new (w.alloc (.cells #[.string T, .string S, .bool m] 23)) 23 #[.string T', .string S', .bool m']
 rw [World.size_alloc] at hA'
 have hB := ((Below.refl w.heap.size w).alloc (Nat.le_refl _) (.cells #[.string T, .string S, .bool m] 23)).alloc (by simp) (.cells #[.string T', .string S', .bool m'] 23)
 have hsz : ((w.alloc (.cells #[.string T, .string S, .bool m] 23)).alloc (.cells #[.string T', .string S', .bool m'] 23)).heap.size = w.heap.size + 1 + 1 := by rw [World.size_alloc, World.size_alloc]
 generalize (w.alloc (.cells #[.string T, .string S, .bool m] 23)).alloc (.cells #[.string T', .string S', .bool m'] 23) = W at hA hA' hB hsz
 obtain ⟨G, hG⟩ := Qt.class_of (w.heap.size + 1 + 1) W (by omega)
 obtain ⟨x, hx⟩ := hG.onto W ⟨rfl, rfl, rfl, Nat.le_refl _, fun _ _ => rfl⟩
 have k0 := hA.cell 0
 have k1 := hA.cell 1
 have k2 := hA.cell 2
 have j0 := hA'.cell 0
 have j1 := hA'.cell 1
 have j2 := hA'.cell 2
 simp only [List.getElem?_toArray, List.getElem?_cons_zero, List.getElem?_cons_succ] at k0 k1 k2 j0 j1 j2
 rw [hx] at hG
 exact ⟨G, x, hG, hx, fun y => by have h := hG.below y; rw [← hx] at h; exact hB.trans (h.mono (by omega)),
  ⟨Qt.cell hG (by omega) (by rw [← hx]; exact k0), Qt.cell hG (by omega) (by rw [← hx]; exact k1), Qt.cell hG (by omega) (by rw [← hx]; exact k2)⟩,
  ⟨Qt.cell hG (by omega) (by rw [← hx]; exact j0), Qt.cell hG (by omega) (by rw [← hx]; exact j1), Qt.cell hG (by omega) (by rw [← hx]; exact j2)⟩⟩
theorem Qt.start {P : Program} {id : Nat} {Q : Exit → Act → World → Prop} {a : Act} {l : List Oper} {B : Nat} {W : World} {G : World → World} {x : World} (hG : Class B W G) (hm : P.follows .mixedOrders = true) (hB : Region.lexB .any l.toArray = true)
  (h : wpQuiet P l.toArray (fun w' => ∃ x, w' = G x) (fun a' => ∀ w', (∃ x, w' = G x) → Q .normal a' w') l a) : (Code.region id l.toArray true).wp P Q a (G x) :=
 Qt.begin_ hG (hG.below x) hm hB h
set_option maxHeartbeats 4000000 in
theorem tells16_law (T S : ByteArray) (m : Bool) (hT : T.size ≤ 9223372036854775807) (hS : S.size ≤ 9223372036854775807) (T' S' : ByteArray) (m' : Bool) (hT' : T'.size ≤ 9223372036854775807) (hS' : S'.size ≤ 9223372036854775807)
  (s : ByteArray) (hs : s.size ≤ 9223372036854775807) (a : Int) (ha : -9223372036854775808 ≤ a ∧ a ≤ 9223372036854775807) (w : World) :
  Calls Try.prog 3 #[patV T S m, patV T' S' m', .string s, .int .i64 a] w fun e w' => e = .returned (.bool true) ∧ Below w.heap.size w w' := by
 obtain ⟨G, x0, hG, hW, hB, ⟨k0, k1, k2⟩, ⟨j0, j1, j2⟩⟩ := two_boxed T S m T' S' m' w
 have HG := Lib.hid hG
 have HW := Lib.hid hW
 have HB := Lib.hid hB
 have KA := Lib.hid (Qt.calls hG awake16_any)
 have KF := Lib.hid (Qt.calls hG fun w => few_any T S m w hT hS)
 have KF' := Lib.hid (Qt.calls hG fun w => few_any T' S' m' w hT' hS')
 have KL := Lib.hid (fun i => Qt.calls hG fun w => len_any T S m s i w hT hS hs)
 have KR := Lib.hid (fun i => Qt.calls hG fun w => reflen_any T S m s i w hT hS hs)
 have KI := Lib.hid (Qt.calls hG fun w => is_any T S m s w hT hS hs)
 have KJ := Lib.hid (Qt.calls hG fun w => refis_any T S m s w hT hS hs)
 have KM := Lib.hid (Qt.calls hG fun w => meets_any T S m T' S' m' w hT hS hT' hS')
 have KN := Lib.hid (Qt.calls hG fun w => refmeets_any T S m T' S' m' w hT hS hT' hS')
 have KE := Lib.hid (Qt.calls hG fun w => example_any T S m w hT hS)
 have KX := Lib.hid (Qt.calls hG fun w => refexample_any T S m w hT hS)
 obtain ⟨r1, h1⟩ : ∃ r, fewB T S = r := ⟨_, rfl⟩
 obtain ⟨r2, h2⟩ : ∃ r, fewB T' S' = r := ⟨_, rfl⟩
 obtain ⟨b1, h3⟩ : ∃ r, Pt.is (bl T) (bl S) m (bl s) = r := ⟨_, rfl⟩
 obtain ⟨b2, h4⟩ : ∃ r, Pt.meets (bl T) (bl S) m (bl T') (bl S') m' = r := ⟨_, rfl⟩
 obtain ⟨E, h5⟩ : ∃ r, str (Pt.ex (bl T) (bl S)) = r := ⟨_, rfl⟩
 obtain ⟨L, h6⟩ : ∃ L : Int → Nat, (fun i => Pt.lenAt (bl T) (bl S) m (bl s) i) = L := ⟨_, rfl⟩
 have h6' : ∀ i, Pt.lenAt (bl T) (bl S) m (bl s) i = L i := fun i => by rw [← h6]
 simp only [h6'] at KL KR
 rw [h1] at KF
 rw [h2] at KF'
 rw [h3] at KI KJ
 rw [h4] at KM KN
 rw [h5] at KE KX
 unfold patV at KF KF' KL KR KI KJ KM KN KE KX ⊢
 clear hG hW hB h1 h2 h3 h4 h5 h6 h6' hT hS hT' hS'
 go_enter Try.func3, Try.ntmps3
 go_wp2_with fail
 rw [HW.out]
 refine (KA.out _).mono ?_
 rintro e _ ⟨rfl, x1, rfl⟩
 go_wp2_with fail
 refine (KF.out _).mono ?_
 rintro e _ ⟨rfl, x2, rfl⟩
 go_wp2_with fail
 refine (KF'.out _).mono ?_
 rintro e _ ⟨rfl, x3, rfl⟩
 cases r1 with
 | false =>
  go_wp2_with fail
  go_ret
  exact ⟨rfl, HB.out _⟩
 | true =>
  cases r2 with
  | false =>
   go_wp2_with fail
   go_ret
   exact ⟨rfl, HB.out _⟩
  | true =>
   by_cases h100 : (100 : Int) < (s.size : Int)
   ·go_wp2_with fail
    go_ret
    exact ⟨rfl, HB.out _⟩
   ·have h100' : (s.size : Int) ≤ 100 := by omega
    go_wp2_with fail
    go_loopw [12] (fun t wr => ∃ (k : Nat) (x : World), k ≤ s.size + 2 ∧ t = .int .i64 ((k : Int) - 1) ∧ wr = G x) (fun t _ => s.size + 2 - (intOf t + 1).toNat)
    case atStart => exact ⟨0, x3, by omega, rfl, rfl⟩
    case round =>
     obtain ⟨k, x, hk, rfl, rfl⟩ := hrel
     by_cases hlt : k < s.size + 2
     ·have hi : (k : Int) - 1 ≤ (s.size : Int) := by omega
      go_wp2_with fail
      refine Qt.start HG.out (by kernel_rfl) (by kernel_rfl) ?_
      repeat (go_big_quiet_step (first | with_reducible exact KL.out _ _ | with_reducible exact KR.out _ _))
      refine wpQuiet_nil ?_
      intro _ hw'
      obtain ⟨y, hw''⟩ := hw'
      subst hw''
      go_wp2_with fail
      go_roundw
      case rel => exact ⟨k + 1, y, by omega, by go_num, rfl⟩
      case measure => simp [intOf]; omega
     ·have hi : (s.size : Int) < (k : Int) - 1 := by omega
      go_wp2_with fail
      refine Qt.start HG.out (by kernel_rfl) (by kernel_rfl) ?_
      repeat (go_big_quiet_step (first | with_reducible exact KL.out _ _ | with_reducible exact KR.out _ _ | with_reducible exact KI.out _ | with_reducible exact KJ.out _ | with_reducible exact KM.out _ | with_reducible exact KN.out _ | with_reducible exact KE.out _ | with_reducible exact KX.out _))
      refine wpQuiet_nil ?_
      intro _ hw'
      obtain ⟨y, hw''⟩ := hw'
      subst hw''
      go_wp2_with fail
      go_ret
      exact ⟨rfl, HB.out _⟩
end Go.Proofs.Ytcjpmcmjnmcngaa
