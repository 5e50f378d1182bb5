import Derived.Test.YtcjpmcmjnmcngaaPtB
import Derived.DeepKeys
namespace Go.Proofs.Ytcjpmcmjnmcngaa
set_option maxRecDepth 100000
open Go.RowKit
set_option linter.unusedVariables false
set_option linter.unusedSimpArgs false
namespace Qt
structure Class (B : Nat) (W : World) (G : World → World) : Prop where
 below : ∀ x, Below B W (G x)
 onto : ∀ w, Below B W w → ∃ x, w = G x
 le : B ≤ W.heap.size
open Classical in
theorem class_of (B : Nat) (W : World) (hB : B ≤ W.heap.size) : ∃ G, Class B W G := by
 refine ⟨fun x => if Below B W x then x else W, fun x => ?_, fun w h => ⟨w, by rw [if_pos h]⟩, hB⟩
 by_cases h : Below B W x
 ·rw [if_pos h]; exact h
 ·rw [if_neg h]; exact ⟨rfl, rfl, rfl, Nat.le_refl _, fun _ _ => rfl⟩
theorem begin_ {P : Program} {id : Nat} {Q : Exit → Act → World → Prop} {a : Act} {w : World} {l : List Oper} {B : Nat} {W : World} {G : World → World} (hG : Class B W G) (hw : Below B W w) (hm : P.follows .mixedOrders = true) (hB : Region.lexB .any l.toArray = true)
  (h : wpQuiet P l.toArray (fun w' => ∃ x, w' = G x) (fun a' => ∀ w', (∃ x, w' = G x) → Q .normal a' w') l a) : (Code.region id l.toArray true).wp P Q a w :=
 wp_region_quiet (C := fun w' => ∃ x, w' = G x) hm hB (hG.onto _ ⟨hw.os, hw.tape, hw.output, hw.size, hw.block⟩) (by simpa using h)
theorem cell {B : Nat} {W : World} {G : World → World} (hG : Class B W G) {b o : Nat} {v : Value} (hb : b < B) (h : W.cell? ⟨b, o, none⟩ = some v) : ∀ x, (G x).cell? ⟨b, o, none⟩ = some v :=
 fun x => ((hG.below x).cell (p := ⟨b, o, none⟩) hb).trans h
theorem calls {P : Program} {f : FuncId} {args : Array Value} {v : Value} {B : Nat} {W : World} {G : World → World} (hG : Class B W G) (h : ∀ w, Calls P f args w fun e w' => e = .returned v ∧ Below w.heap.size w w') :
  ∀ x, Calls P f args (G x) fun e w'' => e = .returned v ∧ ∃ y, w'' = G y :=
 fun x => (h (G x)).mono fun _ _ ⟨he, hb⟩ => ⟨he, hG.onto _ ((hG.below x).trans (hb.mono (Nat.le_trans hG.le (hG.below x).size)))⟩
end Qt
theorem mapM_all {α β : Type} {f : α → Option β} {g : α → β} : ∀ l : List α, (∀ a ∈ l, f a = some (g a)) → l.mapM f = some (l.map g)
 | [], _ => rfl
 | a :: l, h => by
  rw [List.mapM_cons, h a (by simp), mapM_all l fun b hb => h b (by simp [hb])]; rfl
theorem Try.cells_set : Try.prog.cellsOf 37 = 256 := by kernel_rfl
theorem Try.cells_bool : Try.prog.cellsOf 4 = 1 := by kernel_rfl
theorem lits_set (F : Nat → Bool) : Try.prog.keyLits 3 37 (hasCells F) = some ((List.range 256).map fun j => Lit.bool (F j)) := by
 have h1 : ∀ i, i < 256 → Try.prog.keyLits 2 4 (((hasCells F).drop (i * 1)).take 1) = some [.bool (F i)] := fun i hi => by
  have : ((hasCells F).drop (i * 1)).take 1 = [.bool (F i)] := by
   rw [Nat.mul_one, List.drop_eq_getElem_cons (by rw [hasCells_length]; exact hi)]
   simp [hasCells]
  rw [this]
  simp [Program.keyLits, Try.underlying4]
 unfold Program.keyLits
 simp only [Try.underlying37, Try.cells_set, Try.cells_bool, hasCells_length, if_true]
 rw [mapM_all (g := fun i => [Lit.bool (F i)]) _ (fun i hi => h1 i (List.mem_range.1 hi))]
 rw [Option.map_some]
 refine congrArg some ?_
 generalize List.range 256 = l
 induction l with
 | nil => rfl
 | cons a l ih => simp [ih]
theorem eq_sets (F G : Nat → Bool) : ∃ r : Bool, (∀ w, (Op.equalIn 10000 37 (.agg (hasCells F).toArray) (.agg (hasCells G).toArray)).run Try.prog w = .ok r w) ∧ (r = true ↔ ∀ j, j < 256 → F j = G j) := by
 have h := run_equalIn_deep (P := Try.prog) 9997 3 37 (by kernel_rfl)
 have h2 : ∀ w, ∃ r : Bool, (Op.equalIn 10000 37 (.agg (hasCells F).toArray) (.agg (hasCells G).toArray)).run Try.prog w = .ok r w ∧ (r = true ↔ ∀ j, j < 256 → F j = G j) := fun w => by
  obtain ⟨r, hr, hiff⟩ := h w 3 3 (.agg (hasCells F).toArray) (.agg (hasCells G).toArray) _ _ (by kernel_rfl) (by kernel_rfl) (by simpa [Value.cells] using lits_set F) (by simpa [Value.cells] using lits_set G)
  refine ⟨r, hr, hiff.trans ?_⟩
  constructor
  ·intro he j hj
   have := congrArg (fun l : List Lit => l[j]?) he
   simpa [hj] using this
  ·intro he
   apply List.map_congr_left
   intro j hj
   rw [he j (List.mem_range.1 hj)]
 obtain ⟨r, hr⟩ : ∃ r : Bool, r = true ↔ ∀ j, j < 256 → F j = G j := by
  by_cases hh : ∀ j, j < 256 → F j = G j
  ·exact ⟨true, ⟨fun _ => hh, fun _ => rfl⟩⟩
  ·exact ⟨false, ⟨fun h => (by cases h), fun h => absurd h hh⟩⟩
 exact ⟨r, fun w => by
  obtain ⟨r', h1, h3⟩ := h2 w
  have : r' = r := by rw [Bool.eq_iff_iff, h3, hr]
  rw [← this]; exact h1, hr⟩
set_option maxHeartbeats 2000000 in
theorem meets_any (T S : ByteArray) (m : Bool) (T' S' : ByteArray) (m' : Bool) (w : World) (hT : T.size ≤ 9223372036854775807) (hS : S.size ≤ 9223372036854775807) (hT' : T'.size ≤ 9223372036854775807) (hS' : S'.size ≤ 9223372036854775807) :
  Calls Try.prog 15 #[patV T S m, patV T' S' m'] w fun e w' => e = .returned (.bool (Pt.meets (bl T) (bl S) m (bl T') (bl S') m')) ∧ Below w.heap.size w w' := by
 have hA := (At.new w 23 #[.string T, .string S, .bool m]).alloc (.cells #[.string T', .string S', .bool m'] 23)
 have hA' := At.new (w.alloc (.cells #[.string T, .string S, .bool m] 23)) 23 #[.string T', .string S', .bool m']
 rw [World.size_alloc] at hA'
 have KB := Lib.hid (((Below.refl w.heap.size w).alloc (Nat.le_refl _) (.cells #[.string T, .string S, .bool m] 23)).alloc (by simp) (.cells #[.string T', .string S', .bool m'] 23))
 obtain ⟨W, hW⟩ : ∃ W, W = (w.alloc (.cells #[.string T, .string S, .bool m] 23)).alloc (.cells #[.string T', .string S', .bool m'] 23) := ⟨_, rfl⟩
 rw [← hW] at hA hA' KB
 have KW := Lib.hid hW
 obtain ⟨g, hg⟩ : ∃ g, g = w.heap.size := ⟨_, rfl⟩
 rw [← hg] at hA hA' KB
 have KG := Lib.hid hg
 have hgl := hA.lt
 have hgl' := hA'.lt
 have hsz : g ≤ W.heap.size := by omega
 have k0 := hA.cell 0
 have k1 := hA.cell 1
 have k2 := hA.cell 2
 have j0 := hA'.cell 0
 have j1 := hA'.cell 1
 have j2 := hA'.cell 2
 simp only [List.getElem?_toArray, List.getElem?_cons_zero, List.getElem?_cons_succ] at k0 k1 k2 j0 j1 j2
 clear hA hA' hW hg
 unfold patV
 by_cases h1 : bl T = []
 ·obtain ⟨z1, z2⟩ := empty_yes h1
  by_cases h2 : bl T' = []
  ·obtain ⟨y1, y2⟩ := empty_yes h2
   obtain ⟨F, hF⟩ : ∃ F, F = Pt.fS (bl S) := ⟨_, rfl⟩
   obtain ⟨F', hF'⟩ : ∃ F, F = Pt.fS (bl S') := ⟨_, rfl⟩
   obtain ⟨b, he, hb⟩ := eq_sets (fun j => F j && F' j) (fun _ => false)
   have hv : Pt.meets (bl T) (bl S) m (bl T') (bl S') m' = !b := by
    unfold Pt.meets
    rw [if_pos h1, if_pos h2, ← hF, ← hF', Bool.eq_iff_iff, List.any_eq_true, Bool.not_eq_true', ← Bool.not_eq_true, hb]
    constructor
    ·rintro ⟨j, hj, h⟩ hall
     rw [hall j (List.mem_range.1 hj)] at h; cases h
    ·intro h
     apply Classical.byContradiction
     intro hn
     refine h fun j hj => ?_
     rw [← Bool.not_eq_true]
     exact fun hh => hn ⟨j, List.mem_range.2 hj, hh⟩
   rw [hv]
   clear hv hb
   obtain ⟨G, hG⟩ := Qt.class_of W.heap.size W (Nat.le_refl _)
   have c1 := Qt.calls hG (fun w => of_any S w hS)
   have c2 := Qt.calls hG (fun w => of_any S' w hS')
   have c3 := Qt.calls hG (fun w => and_any F F' w)
   rw [← hF] at c1
   rw [← hF'] at c2
   have q1 := Qt.cell hG hgl k1
   have q2 := Qt.cell hG hgl' j1
   have hz := zero_set
   unfold setV at c1 c2 c3
   have HG := Lib.hid hG
   clear hF hF' hG h1 h2
   have K1 := Lib.hid c1
   have K2 := Lib.hid c2
   have K3 := Lib.hid c3
   clear c1 c2 c3
   go_enter Try.func15, Try.ntmps15
   go_wp2_with fail
   rw [← KW.out, ← KG.out]
   go_wp2_with fail
   refine Qt.begin_ HG.out (Below.refl _ _) (by kernel_rfl) (by kernel_rfl) ?_
   repeat (go_big_quiet_step (first | with_reducible exact K1.out _ | with_reducible exact K2.out _ | with_reducible exact K3.out _))
   refine wpQuiet_nil ?_
   intro _ hw'
   obtain ⟨x, hw''⟩ := hw'
   subst hw''
   go_wp2_with fail
   go_ret
   exact ⟨rfl, by have := KB.out.trans ((HG.out.below x).mono hsz); rwa [KG.out] at this⟩
  ·obtain ⟨y1, y2⟩ := empty_no h2
   have hv : Pt.meets (bl T) (bl S) m (bl T') (bl S') m' = Pt.is (bl T) (bl S) m (bl T') := by unfold Pt.meets; rw [if_pos h1, if_neg h2]
   rw [hv]
   have K1 := Lib.hid (fun w => is_any T S m T' w hT hS hT')
   unfold patV at K1
   clear hv h1 h2
   go_enter Try.func15, Try.ntmps15
   go_wp2_with fail
   rw [← KW.out, ← KG.out]
   go_wp2_with fail
   refine (K1.out _).mono ?_
   rintro e w1 ⟨rfl, hb1⟩
   clear k0 k1 k2 j0 j1 j2
   go_wp2_with fail
   go_ret
   exact ⟨rfl, by have := KB.out.trans (hb1.mono hsz); rwa [KG.out] at this⟩
 ·obtain ⟨z1, z2⟩ := empty_no h1
  have hv : Pt.meets (bl T) (bl S) m (bl T') (bl S') m' = Pt.is (bl T') (bl S') m' (bl T) := by unfold Pt.meets; rw [if_neg h1]
  rw [hv]
  have K1 := Lib.hid (fun w => is_any T' S' m' T w hT' hS' hT)
  unfold patV at K1
  clear hv h1
  go_enter Try.func15, Try.ntmps15
  go_wp2_with fail
  rw [← KW.out, ← KG.out]
  go_wp2_with fail
  refine (K1.out _).mono ?_
  rintro e w1 ⟨rfl, hb1⟩
  clear k0 k1 k2 j0 j1 j2
  go_wp2_with fail
  go_ret
  exact ⟨rfl, by have := KB.out.trans (hb1.mono hsz); rwa [KG.out] at this⟩
theorem Pt.first_some {F : Nat → Bool} {k : Nat} (hk : k < 256) (h : F k = true) (hb : ∀ j, j < k → F j = false) : Pt.firstS F = [UInt8.ofNat k] := by
 unfold Pt.firstS
 have : (List.range 256).find? F = some k := by
  rw [List.find?_range_eq_some]
  exact ⟨h, List.mem_range.2 hk, fun j hj => by rw [hb j hj]; rfl⟩
 rw [this]
theorem Pt.first_none {F : Nat → Bool} (hb : ∀ j, j < 256 → F j = false) : Pt.firstS F = [] := by
 unfold Pt.firstS
 have : (List.range 256).find? F = none := by
  rw [List.find?_eq_none]
  exact fun j hj => by rw [hb j (List.mem_range.1 hj)]; decide
 rw [this]
theorem conv_at {w : World} {g : Nat} (c : UInt8) (h : w.cell? ⟨g, 0, none⟩ = some (.int .u8 (c.toNat : Int))) :
  (convert 42 9 (.slice (some ⟨g, 0, none⟩) 1 1)).run Try.prog w = .ok (.string (str [c])) w := by
 refine run_convert_bytes_back w _ _ 5 _ 1 [c] Try.underlying42 Try.underlying5 Try.underlying9 fun j hj => ?_
 obtain rfl : j = 0 := by simpa using hj
 exact h
theorem u8_wrap {k : Nat} (h : k < 256) : IntKind.u8.wrap (k : Int) = (k : Int) := by
 simp [IntKind.wrap, IntKind.bits, IntKind.signed]; omega
set_option maxHeartbeats 2000000 in
theorem example_any (T S : ByteArray) (m : Bool) (w : World) (hT : T.size ≤ 9223372036854775807) (hS : S.size ≤ 9223372036854775807) :
  Calls Try.prog 17 #[patV T S m] w fun e w' => e = .returned (.string (str (Pt.ex (bl T) (bl S)))) ∧ Below w.heap.size w w' := by
 have hA := At.new w 23 #[.string T, .string S, .bool m]
 have KB := Lib.hid ((Below.refl w.heap.size w).alloc (Nat.le_refl _) (.cells #[.string T, .string S, .bool m] 23))
 obtain ⟨W, hW⟩ : ∃ W, W = w.alloc (.cells #[.string T, .string S, .bool m] 23) := ⟨_, rfl⟩
 rw [← hW] at hA KB
 have KW := Lib.hid hW
 obtain ⟨g, hg⟩ : ∃ g, g = w.heap.size := ⟨_, rfl⟩
 rw [← hg] at hA KB
 have KG := Lib.hid hg
 have hgl := hA.lt
 have hsz : g ≤ W.heap.size := by omega
 have k0 := hA.cell 0
 have k1 := hA.cell 1
 have k2 := hA.cell 2
 simp only [List.getElem?_toArray, List.getElem?_cons_zero, List.getElem?_cons_succ] at k0 k1 k2
 clear hA hW hg
 unfold patV
 by_cases h1 : bl T = []
 ·obtain ⟨z1, z2⟩ := empty_yes h1
  have hv : Pt.ex (bl T) (bl S) = Pt.firstS (Pt.fS (bl S)) := if_pos h1
  rw [hv]
  have K1 := Lib.hid (fun w => of_any S w hS)
  obtain ⟨F, hF⟩ : ∃ F, Pt.fS (bl S) = F := ⟨_, rfl⟩
  rw [hF] at K1 ⊢
  unfold setV at K1
  clear hv h1 hF
  go_enter Try.func17, Try.ntmps17
  go_wp2_with fail
  rw [← KW.out, ← KG.out]
  go_wp2_with fail
  refine (K1.out _).mono ?_
  rintro e w1 ⟨rfl, hb1⟩
  have KB1 := Lib.hid (KB.out.trans (hb1.mono hsz))
  clear k0 k1 k2 hb1 hgl
  go_wp2_with fail
  go_loopw [13] (fun i wr => ∃ k : Nat, k ≤ 256 ∧ i = .int .i64 (k : Int) ∧ wr = w1 ∧ ∀ j, j < k → F j = false) (fun i _ => 256 - (intOf i).toNat)
  case atStart => exact ⟨0, by omega, rfl, rfl, fun j hj => by omega⟩
  case round =>
   obtain ⟨k, hk, rfl, rfl, hr⟩ := hrel
   have HR := Lib.hid hr
   clear hr
   by_cases hlt : k < 256
   ·have hk0 : (0 : Int) ≤ (k : Int) := by omega
    have hki : (k : Int) < 256 := by omega
    have hidx := index_set F k hlt
    cases hF : F k with
    | true =>
     rw [hF] at hidx
     have HF := Lib.hid hF
     obtain ⟨c, hc⟩ : ∃ c : UInt8, c.toNat = k := ⟨UInt8.ofNat k, by simp; omega⟩
     have hck : c = UInt8.ofNat k := by rw [← hc]; simp
     have HV := Lib.hid (Pt.first_some hlt hF HR.out)
     rw [← hck] at HV
     have HC := Lib.hid hc
     have hu8 := u8_wrap hlt
     clear hF hc hck
     go_wp2_with fail
     rw [conv_at c (by rw [HC.out]; simp [go_sem])]
     rw [← HV.out]
     obtain ⟨X, hX⟩ : ∃ X, str (Pt.firstS F) = X := ⟨_, rfl⟩
     rw [hX]
     have HX := Lib.hid hX
     clear hX
     go_wp2_with fail
     go_ret
     refine ⟨by rw [HX.out]; rfl, ?_⟩
     have := KB1.out.alloc (by have := KB1.out.size; rwa [← KG.out] at this) (.cells #[.int .u8 (k : Int)] 5)
     rwa [KG.out] at this
    | false =>
     rw [hF] at hidx
     have HF := Lib.hid hF
     clear hF
     go_wp2_with fail
     go_roundw
     case rel => exact ⟨k + 1, by omega, by go_num, trivial, fun j hj => by
      by_cases e : j = k
      ·rw [e]; exact HF.out
      ·exact HR.out j (by omega)⟩
     case measure => simp [intOf]; omega
   ·obtain rfl : k = 256 := by omega
    clear hlt
    go_wp2_with fail
    go_ret
    exact ⟨by rw [Pt.first_none HR.out]; rfl, by have := KB1.out; rwa [KG.out] at this⟩
 ·obtain ⟨z1, z2⟩ := empty_no h1
  have hv : Pt.ex (bl T) (bl S) = bl T := if_neg h1
  rw [hv, str_bl]
  clear hv h1
  go_enter Try.func17, Try.ntmps17
  go_wp2_with fail
  rw [← KW.out, ← KG.out]
  go_wp2_with fail
  go_ret
  exact ⟨rfl, by have := KB.out; rwa [KG.out] at this⟩
end Go.Proofs.Ytcjpmcmjnmcngaa
