/-
  The walks of lexer's classes: a class's parts so far ('IsParts'), add, closed, class; action.
  The walk of lexer's class.
-/
import Derived.Test.YtpgmapjjjpcmfaaGreatDoorLxAA
import Derived.Deep.WholeRow
import Derived.Deep.MidRow
import Derived.Laws.NewBlocks
namespace Go.Proofs.YtpgmapjjjpcmfaaGreatDoor
open Go.RowKit
open Lx
set_option linter.unusedVariables false
set_option linter.unusedSimpArgs false

def partCell (p : Parts) (f : UInt8) (j : Nat) : Value :=
  if j < 256 then .bool (p.has j) else if j = 256 then .bool p.single.isSome else if j = 257 then .int .u8 (f.toNat : Int) else .int .i64 (p.dash : Int)
def partCells (p : Parts) (f : UInt8) : Array Value := ((List.range 259).map (partCell p f)).toArray
theorem map_get {n : Nat} (F : Nat → Value) {j : Nat} (hj : j < n) : (((List.range n).map F).toArray)[j]? = some (F j) := by simp [hj]
def setF (F : Nat → Value) (i : Nat) (v : Value) : Nat → Value := fun j => if j = i then v else F j
theorem map_set {n : Nat} (F : Nat → Value) (i : Nat) (v : Value) : (((List.range n).map F).toArray).setIfInBounds i v = ((List.range n).map (setF F i v)).toArray := by
  apply Array.ext_getElem?
  intro j
  rw [Array.getElem?_setIfInBounds]
  by_cases hj : j < n
  · rw [map_get (setF F i v) hj]
    by_cases e : i = j
    · subst e; simp [hj, setF]
    · rw [if_neg e, map_get F hj]; simp [setF, Ne.symm e]
  · have h1 : ∀ K : Nat → Value, (((List.range n).map K).toArray)[j]? = none := fun K => by apply Array.getElem?_eq_none; simp; omega
    rw [h1 F, h1]
    split
    · simp; omega
    · rfl
theorem map_same {n : Nat} {F G : Nat → Value} (h : ∀ j, j < n → F j = G j) : ((List.range n).map F).toArray = ((List.range n).map G).toArray := by
  congr 1
  apply List.map_congr_left
  intro j hj
  exact h j (List.mem_range.1 hj)
/-- Block b holds the parts p; f: what is in 'first'. -/
structure IsParts (w : World) (b : Nat) (p : Parts) (f : UInt8) : Prop where
  at_ : At w b 162 (partCells p f)
  sing : ∀ x, p.single = some x → x = f.toNat
  dash : p.dash ≠ 0 → p.single ≠ none
theorem IsParts.below {w w' : World} {b B : Nat} {p : Parts} {f : UInt8} (h : IsParts w b p f) (hb : Below B w w') (hl : b < B) : IsParts w' b p f := ⟨h.at_.below hb hl, h.sing, h.dash⟩
theorem IsParts.drewN {w : World} {b : Nat} {p : Parts} {f : UInt8} (h : IsParts w b p f) (n : Nat) : IsParts (w.drewN n) b p f := ⟨h.at_.drewN n, h.sing, h.dash⟩
theorem IsParts.grown {w w' : World} {b : Nat} {row : Option Nat} {p : Parts} {f : UInt8} (h : IsParts w b p f) (hg : w.grownBy w' row) (hne : some b ≠ row) : IsParts w' b p f := ⟨h.at_.grown hg hne, h.sing, h.dash⟩
theorem IsParts.alloc {w : World} {b : Nat} {p : Parts} {f : UInt8} (h : IsParts w b p f) (o : Obj) : IsParts (w.alloc o) b p f := ⟨h.at_.alloc o, h.sing, h.dash⟩
theorem IsParts.has {w : World} {b : Nat} {p : Parts} {f : UInt8} (h : IsParts w b p f) {j : Nat} (hj : j < 256) : w.cell? ⟨b, j, none⟩ = some (.bool (p.has j)) := by
  rw [h.at_.cell]; unfold partCells; rw [map_get _ (by omega)]; simp [partCell, hj]
theorem IsParts.c256 {w : World} {b : Nat} {p : Parts} {f : UInt8} (h : IsParts w b p f) : w.cell? ⟨b, 256, none⟩ = some (.bool p.single.isSome) := by
  rw [h.at_.cell]; unfold partCells; rw [map_get _ (by omega)]; rfl
theorem IsParts.c257 {w : World} {b : Nat} {p : Parts} {f : UInt8} (h : IsParts w b p f) : w.cell? ⟨b, 257, none⟩ = some (.int .u8 (f.toNat : Int)) := by
  rw [h.at_.cell]; unfold partCells; rw [map_get _ (by omega)]; rfl
theorem IsParts.c258 {w : World} {b : Nat} {p : Parts} {f : UInt8} (h : IsParts w b p f) : w.cell? ⟨b, 258, none⟩ = some (.int .i64 (p.dash : Int)) := by
  rw [h.at_.cell]; unfold partCells; rw [map_get _ (by omega)]; rfl

theorem add_one (g : Nat) (p : Parts) (f b : UInt8) (w : World) (hp : IsParts w g p f) (hd : p.dash = 0) :
    Calls Tryz.prog 130 #[.pointer (some ⟨g, 0, none⟩), .int .u8 (b.toNat : Int)] w fun e w' => e = .returned (.bool true) ∧ IsParts w' g ⟨fun j => p.has j || j == b.toNat, some b.toNat, 0⟩ b ∧ w.grownBy w' (some g) := by
  have hb : b.toNat < 256 := b.toNat_lt
  have c0 := hp.c258
  have c1 := hp.has hb
  have c2 := hp.c256
  have c3 := hp.c257
  have f0 := hp.at_.frozen
  rw [hd] at c0
  have HP := Lib.hid hp
  have HD := Lib.hid hd
  clear hp hd
  go_enter Tryz.func130, Tryz.ntmps130
  go_wp2_with fail
  go_ret
  refine ⟨rfl, ⟨?_, fun x hx => by injection hx with hx; exact hx.symm, fun h => absurd rfl h⟩, grown_set (grown_set (grown_set (grown_refl _ _) _ _) _ _) _ _⟩
  have h := ((HP.out.at_.set b.toNat (.bool true)).set 256 (.bool true)).set 257 (.int .u8 (b.toNat : Int))
  unfold partCells at h
  rw [map_set, map_set, map_set] at h
  unfold partCells
  rw [← map_same (n := 259) (F := setF (setF (setF (partCell p f) b.toNat (.bool true)) 256 (.bool true)) 257 (.int .u8 (b.toNat : Int)))]
  · exact h
  · intro j hj
    unfold setF partCell
    simp only []
    by_cases h1 : j = 257
    · subst h1; simp
    · by_cases h2 : j = 256
      · subst h2; simp
      · by_cases h3 : j < 256
        · by_cases h4 : j = b.toNat
          · subst h4; simp [h1, h2, h3]
          · simp [h1, h2, h3, h4]
        · have : j ≠ b.toNat := by omega
          simp [h1, h2, h3, this, HD.out]

theorem add_no (g : Nat) (p : Parts) (f b : UInt8) (w : World) (hp : IsParts w g p f) (hd : p.dash ≠ 0) (hd2 : p.dash ≤ 4000) (hlt : b.toNat < f.toNat) :
    Calls Tryz.prog 130 #[.pointer (some ⟨g, 0, none⟩), .int .u8 (b.toNat : Int)] w fun e w' => e = .returned (.bool false) ∧ w = w' := by
  have c0 := hp.c258
  have c3 := hp.c257
  have t1 : ((p.dash : Int) == 0) = false := by rw [beq_eq_false_iff_ne]; omega
  have t2 : (b.toNat : Int) < (f.toNat : Int) := by omega
  clear hd hp
  go_enter Tryz.func130, Tryz.ntmps130
  go_wp2_with fail
  go_ret
  exact ⟨rfl, rfl⟩

set_option maxHeartbeats 1000000 in
theorem add_range (g : Nat) (p : Parts) (f b : UInt8) (w : World) (hp : IsParts w g p f) (hd : p.dash ≠ 0) (hd2 : p.dash ≤ 4000) (hlt : f.toNat ≤ b.toNat) :
    Calls Tryz.prog 130 #[.pointer (some ⟨g, 0, none⟩), .int .u8 (b.toNat : Int)] w fun e w' => e = .returned (.bool true) ∧ IsParts w' g ⟨fun j => p.has j || (decide (f.toNat ≤ j) && decide (j ≤ b.toNat)), none, 0⟩ f ∧ w.grownBy w' (some g) := by
  have hb : b.toNat < 256 := b.toNat_lt
  have c0 := hp.c258
  have c3 := hp.c257
  have t1 : ((p.dash : Int) == 0) = false := by rw [beq_eq_false_iff_ne]; omega
  have t2 : (f.toNat : Int) ≤ (b.toNat : Int) := by omega
  have HP := Lib.hid hp
  clear hd hp
  go_enter Tryz.func130, Tryz.ntmps130
  go_wp2_with fail
  go_loopw [5] (fun i wr => ∃ k : Nat, f.toNat ≤ k ∧ k ≤ b.toNat + 1 ∧ i = .int .i64 (k : Int) ∧ At wr g 162 (partCells ⟨fun j => p.has j || (decide (f.toNat ≤ j) && decide (j < k)), p.single, p.dash⟩ f) ∧ w.grownBy wr (some g)) (fun i _ => 257 - (intOf i).toNat)
  case atStart =>
    refine ⟨f.toNat, by omega, by omega, rfl, ?_, grown_refl _ _⟩
    have e : (fun j => p.has j || (decide (f.toNat ≤ j) && decide (j < f.toNat))) = p.has := by
      funext j
      by_cases h : f.toNat ≤ j
      · have : ¬ j < f.toNat := by omega
        simp [this]
      · simp [h]
    rw [e]; exact HP.out.at_
  case round =>
    obtain ⟨k, hk1, hk2, rfl, hat, hg⟩ := hrel
    have HAT := Lib.hid hat
    have HG := Lib.hid hg
    clear hat hg
    have f0 := HAT.out.frozen
    by_cases hlt2 : k ≤ b.toNat
    · have t3 : (k : Int) ≤ (b.toNat : Int) := by omega
      have cc : wr.cell? ⟨g, k, none⟩ = some (partCell ⟨fun j => p.has j || (decide (f.toNat ≤ j) && decide (j < k)), p.single, p.dash⟩ f k) := by
        rw [HAT.out.cell]; unfold partCells; exact map_get _ (by omega)
      go_wp2_with fail
      go_roundw
      case rel =>
        refine ⟨k + 1, by omega, by omega, by go_num, ?_, grown_set HG.out _ _⟩
        have h := HAT.out.set k (.bool true)
        unfold partCells at h
        rw [map_set] at h
        unfold partCells
        rw [← map_same (n := 259) (F := setF (partCell ⟨fun j => p.has j || (decide (f.toNat ≤ j) && decide (j < k)), p.single, p.dash⟩ f) k (.bool true))]
        · exact h
        · intro j hj
          unfold setF partCell
          simp only []
          by_cases h1 : j = k
          · subst h1
            have h3 : j < 256 := by omega
            simp [h3, hk1]
          · rw [if_neg h1]
            by_cases h3 : j < 256
            · rw [if_pos h3, if_pos h3]
              congr 3
              rw [decide_eq_decide]; omega
            · rw [if_neg h3, if_neg h3]
      case measure => simp [intOf]; omega
    · obtain rfl : k = b.toNat + 1 := by omega
      have c6 : wr.cell? ⟨g, 256, none⟩ = some (.bool p.single.isSome) := by
        rw [HAT.out.cell]; unfold partCells; rw [map_get _ (by omega)]; rfl
      have c8 : wr.cell? ⟨g, 258, none⟩ = some (.int .i64 (p.dash : Int)) := by
        rw [HAT.out.cell]; unfold partCells; rw [map_get _ (by omega)]; rfl
      go_wp2_with fail
      go_ret
      refine ⟨rfl, ⟨?_, fun x hx => (by cases hx), fun h => absurd rfl h⟩, grown_set (grown_set HG.out _ _) _ _⟩
      have h := (HAT.out.set 256 (.bool false)).set 258 (.int .i64 0)
      unfold partCells at h
      rw [map_set, map_set] at h
      unfold partCells
      rw [← map_same (n := 259) (F := setF (setF (partCell ⟨fun j => p.has j || (decide (f.toNat ≤ j) && decide (j < b.toNat + 1)), p.single, p.dash⟩ f) 256 (.bool false)) 258 (.int .i64 0))]
      · exact h
      · intro j hj
        unfold setF partCell
        simp only []
        by_cases h1 : j = 258
        · subst h1; simp
        · by_cases h2 : j = 256
          · subst h2; simp
          · rw [if_neg h1, if_neg h2]
            by_cases h3 : j < 256
            · rw [if_pos h3, if_pos h3]
              congr 3
              rw [decide_eq_decide]; omega
            · have h4 : j = 257 := by omega
              subst h4; simp

def hasCells (has : Nat → Bool) : List Value := (List.range 256).map fun j => .bool (has j)
theorem hasCells_length (has : Nat → Bool) : (hasCells has).length = 256 := by simp [hasCells]
theorem Tryz.sizeHas : (Tryz.prog.info? 160).map (·.size) = some 256 := by kernel_rfl
theorem sizeHas' (has : Nat → Bool) : (Tryz.prog.info? 160).map (·.size) = some (hasCells has).length := by rw [hasCells_length]; exact Tryz.sizeHas
theorem IsParts.range {w : World} {b : Nat} {p : Parts} {f : UInt8} (h : IsParts w b p f) : w.rangeAt b 0 (hasCells p.has) := by
  intro j v hv
  have hj : j < 256 := by have := (List.getElem?_eq_some_iff.1 hv).1; rwa [hasCells_length] at this
  rw [Nat.zero_add, h.has hj, ← hv]
  simp [hasCells, hj]
theorem index_has (has : Nat → Bool) (k : Nat) (hk : k < 256) (w : World) : (Instr.index 160 (.agg (hasCells has).toArray) (.int .i64 (k : Int))).run Tryz.prog w = .ok (.bool (has k)) w := by
  have h2 : (0 : Int) ≤ (k : Int) ∧ (k : Int) < 256 := by omega
  have h3 : (hasCells has)[k]? = some (.bool (has k)) := by simp [hasCells, hk]
  simp [Instr.index, run_underlying Tryz.underlying160, asIntOf, hk, part, Tryz.isAgg4, Tryz.sizeOf4, h3]

/-- The first k numbers of a class, as bytes. -/
def risingTo (has : Nat → Bool) (k : Nat) : List UInt8 := ((List.range k).filter has).map UInt8.ofNat
theorem risingTo_all (has : Nat → Bool) : risingTo has 256 = rising has := rfl
theorem risingTo_yes {has : Nat → Bool} {k : Nat} (h : has k = true) : risingTo has (k + 1) = risingTo has k ++ [UInt8.ofNat k] := by
  unfold risingTo; rw [List.range_succ, List.filter_append]; simp [h]
theorem risingTo_no {has : Nat → Bool} {k : Nat} (h : has k = false) : risingTo has (k + 1) = risingTo has k := by
  unfold risingTo; rw [List.range_succ, List.filter_append]; simp [h]
theorem risingTo_length (has : Nat → Bool) (k : Nat) : (risingTo has k).length ≤ k := by
  unfold risingTo
  rw [List.length_map]
  have := List.length_filter_le has (List.range k)
  simpa using this

theorem At.four {w : World} {g : Nat} {t : TypeId} {a b c d : Value} (h : At w g t #[a, b, c, d]) (a' b' c' d' : Value) :
    At ((((w.setCell ⟨g, 0, none⟩ a').setCell ⟨g, 1, none⟩ b').setCell ⟨g, 2, none⟩ c').setCell ⟨g, 3, none⟩ d') g t #[a', b', c', d'] := by
  have := (((h.set 0 a').set 1 b').set 2 c').set 3 d'
  simpa using this
theorem grown_four (w : World) (g : Nat) (a' b' c' d' : Value) : w.grownBy ((((w.setCell ⟨g, 0, none⟩ a').setCell ⟨g, 1, none⟩ b').setCell ⟨g, 2, none⟩ c').setCell ⟨g, 3, none⟩ d') (some g) :=
  grown_set (grown_set (grown_set (grown_set (grown_refl _ _) _ _) _ _) _ _) _ _
/-- What a class tells at its end. -/
def closedS (p : Parts) (i : Nat) : Step := if 0 < p.dash then .bad 10 p.dash else if rising p.has = [] then .bad 10 0 else .mark 4 (rising p.has) (i + 1)

set_option maxHeartbeats 1000000 in
set_option maxRecDepth 100000 in
theorem closed_any (g : Nat) (p : Parts) (f : UInt8) (i : Nat) (w : World) (hp : IsParts w g p f) (hd2 : p.dash ≤ 4000) (hi2 : i ≤ 4000) :
    Calls Tryz.prog 129 #[.pointer (some ⟨g, 0, none⟩), .int .i64 (i : Int)] w fun e w' => e = .returned (pieceV (closedS p i)) ∧ Below w.heap.size w w' := by
  obtain ⟨i0, hi, hz0, hz1, hz2⟩ := info_parts u8info
  have c0 := hp.c258
  have hg := hp.at_.lt
  have HP := Lib.hid hp
  clear hp
  generalize hst : closedS p i = st
  have HST := Lib.hid hst
  clear hst
  by_cases hd : 0 < p.dash
  · have t1 : (0 : Int) < (p.dash : Int) := by omega
    have hs : st = .bad 10 p.dash := by rw [← HST.out]; unfold closedS; rw [if_pos hd]
    have HS := Lib.hid hs
    clear hs
    have HAT := Lib.hid (At.new w 131 #[.int .i64 0, .string ⟨#[]⟩, .int .i64 0, .int .i64 0])
    have HBEL := Lib.hid ((Below.refl w.heap.size w).alloc (Nat.le_refl _) (.cells #[.int .i64 0, .string ⟨#[]⟩, .int .i64 0, .int .i64 0] 131))
    go_enter Tryz.func129, Tryz.ntmps129
    go_wp2_with fail
    refine (fault_any 10 p.dash _).mono ?_
    rintro e w1 ⟨rfl, hb⟩
    first | (rename_i hK; refine hK _ _ ?_) | (rename_i hK _; refine hK _ _ ?_) | (rename_i hK _ _; refine hK _ _ ?_) | (rename_i hK _ _ _; refine hK _ _ ?_)
    have HA := Lib.hid (HAT.out.below hb HAT.out.lt)
    refine wpList_store_at rfl _ _ _ rfl rfl w.heap.size _ _ [_, _, _, _] rfl rfl HA.out 4 Tryz.sizePiece rfl rfl rfl ?_
    intro w2 hat hg
    go_wp2_with fail
    exact bodyPost_ret (results_cell_row rfl _ _ w.heap.size _ _ (0, 0) _ rfl hat Tryz.underlying131 rfl Tryz.sizePiece) rfl ⟨by rw [HS.out]; rfl, below_grown (HBEL.out.trans (hb.mono HBEL.out.size)) hg (by have := hb.size; have := HBEL.out.size; omega) (Nat.le_refl _)⟩
  · have hd0 : p.dash = 0 := by omega
    rw [hd0] at c0
    have HS : Hid (st = if rising p.has = [] then .bad 10 0 else .mark 4 (rising p.has) (i + 1)) := Lib.hid (by rw [← HST.out]; unfold closedS; rw [if_neg hd])
    clear hd hd0
    go_enter Tryz.func129, Tryz.ntmps129
    go_wp2_with (refine wpList_load_mid rfl 160 _ rfl g 0 rfl (hasCells p.has) _ (HP.out.alloc _).range Tryz.underlying160 rfl (sizeHas' p.has) ?_)
    go_loopw [5, 22] (fun v i wr => ∃ (k : Nat) (ao : Option Addr) (cap : Nat), k ≤ 256 ∧ i = .int .i64 (k : Int) ∧ v = .slice ao (risingTo p.has k).length cap ∧ wr.ownsRow (w.heap.size + 1) 5 1 (.slice ao (risingTo p.has k).length cap) (risingTo p.has k).length (bytesV (risingTo p.has k)) ∧ At wr w.heap.size 131 #[.int .i64 0, .string ⟨#[]⟩, .int .i64 0, .int .i64 0] ∧ Below w.heap.size w wr) (fun _ i _ => 256 - (intOf i).toNat)
    case atStart => exact ⟨0, _, _, by omega, rfl, rfl, World.ownsRow_nil _ _ _ _, At.new _ _ _, (Below.refl _ _).alloc (Nat.le_refl _) _⟩
    case round =>
      obtain ⟨k, ao, cap, hk, rfl, rfl, hown, hat, hbel⟩ := hrel
      obtain ⟨R, hR⟩ : ∃ R, risingTo p.has k = R := ⟨_, rfl⟩
      have hRl : R.length ≤ k := by rw [← hR]; exact risingTo_length _ _
      rw [hR] at hown
      rw [hR]
      have HR0 := Lib.hid hR
      have HOWN := Lib.hid hown
      have HAT := Lib.hid hat
      have HBEL := Lib.hid hbel
      clear hown hat hbel hR
      by_cases hlt : k < 256
      · have hidx := index_has p.has k hlt
        cases hh : p.has k with
        | false =>
          have HH := Lib.hid hh
          rw [hh] at hidx
          clear hh
          go_wp2_with fail
          go_roundw
          case rel => exact ⟨k + 1, ao, cap, by omega, by go_num, by rw [risingTo_no HH.out, HR0.out], by rw [risingTo_no HH.out, HR0.out]; exact HOWN.out, HAT.out, HBEL.out⟩
          case measure => simp [intOf]; omega
        | true =>
          have HH := Lib.hid hh
          rw [hh] at hidx
          clear hh
          have hc3 : R.length + 1 ≤ maxLen := by unfold maxLen; omega
          have hc4 : (R.length + 1) * 1 ≤ 140737488355328 := by omega
          have hc5 : ∀ o, w.heap.size + 1 ≤ (wr.alloc o).heap.size := fun o => by have := HAT.out.lt; simp; omega
          have hw8 : (k : Int) = ((UInt8.ofNat k).toNat : Int) := by
            have : (UInt8.ofNat k).toNat = k := by simp; omega
            rw [this]
          have HW8 := Lib.hid hw8
          clear hw8
          go_wp2_with (at_builtin; refine wpList_append_own2 _ rfl (.tmp 27) (.tmp 30) 52 rfl (w.heap.size + 1) 5 i0 _ 1 1 Tryz.underlying52 hi hz0 hz1 hz2 rfl (by decide) _ R.length (bytesV R) rfl (HOWN.out.alloc _) ⟨wr.heap.size, 0, none⟩ 1 1 [.int .u8 (k : Int)] rfl rfl (one_cell _ _ _) (one_one rfl) hc3 hc4 (hc5 _) ?_)
          intro v' w5 hown' hgrow hsn
          obtain ⟨ao', cap', rfl⟩ := own_form hown'
          have R5 : w5.ownsRow (w.heap.size + 1) 5 1 (.slice ao' (R.length + 1) cap') (R.length + 1) (bytesV (R ++ [UInt8.ofNat k])) ∧ At w5 w.heap.size 131 #[.int .i64 0, .string ⟨#[]⟩, .int .i64 0, .int .i64 0] ∧ Below w.heap.size w w5 :=
            ⟨by rw [bytesV_snoc, ← HW8.out]; exact hown', (HAT.out.alloc _).grown hgrow (fun e => by have := (own_lt HOWN.out _ e.symm).1; omega), (HBEL.out.alloc HBEL.out.size _).grown hgrow (by simp; exact Nat.le_trans HBEL.out.size (Nat.le_succ _)) (fun j hj => by have := (own_lt HOWN.out _ hj).1; omega)⟩
          have HR := Lib.hid R5
          clear hown' hgrow hsn R5
          go_wp2_with fail
          go_roundw
          case rel => exact ⟨k + 1, ao', cap', by omega, by go_num, by rw [risingTo_yes HH.out, HR0.out]; simp, by rw [risingTo_yes HH.out, HR0.out]; simpa using HR.out.1, HR.out.2⟩
          case measure => simp [intOf]; omega
      · obtain rfl : k = 256 := by omega
        have hrr : rising p.has = R := by rw [← risingTo_all]; exact HR0.out
        have HS2 : Hid (st = if R = [] then .bad 10 0 else .mark 4 R (i + 1)) := Lib.hid (by rw [← hrr]; exact HS.out)
        clear hrr
        by_cases hn : R = []
        · have hl0 : ((R.length : Int) == 0) = true := by rw [hn]; rfl
          have hl1 : (R.length == 0) = true := by rw [hn]; rfl
          have hl2 : (R.length : Int) = 0 := by rw [hn]; rfl
          have HN := Lib.hid hn
          clear hn
          go_wp2_with fail
          refine (fault_any 10 0 _).mono ?_
          rintro e w1 ⟨rfl, hb⟩
          first | (rename_i hK; refine hK _ _ ?_) | (rename_i hK _; refine hK _ _ ?_) | (rename_i hK _ _; refine hK _ _ ?_) | (rename_i hK _ _ _; refine hK _ _ ?_)
          have HA := Lib.hid (HAT.out.below hb HAT.out.lt)
          refine wpList_store_at rfl _ _ _ rfl rfl w.heap.size _ _ [_, _, _, _] rfl rfl HA.out 4 Tryz.sizePiece rfl rfl rfl ?_
          intro w2 hat hg
          go_wp2_with fail
          exact bodyPost_ret (results_cell_row rfl _ _ w.heap.size _ _ (0, 0) _ rfl hat Tryz.underlying131 rfl Tryz.sizePiece) rfl ⟨by rw [HS2.out, if_pos HN.out]; rfl, below_grown (HBEL.out.trans (hb.mono HBEL.out.size)) hg (by have := hb.size; have := HBEL.out.size; omega) (Nat.le_refl _)⟩
        · have hpos : 0 < R.length := List.length_pos_iff.2 hn
          have hpi : ((R.length : Int) == 0) = false := by rw [beq_eq_false_iff_ne]; omega
          have hpn : (R.length == 0) = false := by rw [beq_eq_false_iff_ne]; omega
          have kc := own_str HOWN.out
          have HN := Lib.hid hn
          clear hn
          have cr0 := HAT.out.cell 0
          have cr1 := HAT.out.cell 1
          have cr2 := HAT.out.cell 2
          have cr3 := HAT.out.cell 3
          have cf := HAT.out.frozen
          simp only [List.getElem?_toArray, List.getElem?_cons_zero, List.getElem?_cons_succ] at cr0 cr1 cr2 cr3
          go_wp2_with fail
          exact bodyPost_ret (results_cell_row rfl _ _ w.heap.size _ _ (0, 0) _ rfl (HAT.out.four _ _ _ _) Tryz.underlying131 rfl Tryz.sizePiece) rfl ⟨by rw [HS2.out, if_neg HN.out]; rfl, below_grown HBEL.out (grown_four _ _ _ _ _ _) HBEL.out.size (Nat.le_refl _)⟩

theorem act_end (acc : List UInt8) (o : Nat) : act [] acc o = .bad 11 0 := by rw [act.eq_def]
theorem act_open (r acc : List UInt8) (o : Nat) : act (123 :: r) acc o = if o = 4 then .bad 13 (acc.length + 1) else act r (acc ++ [123]) (o + 1) := by rw [act.eq_def]; rfl
theorem act_close (r acc : List UInt8) (o : Nat) : act (125 :: r) acc o = if o = 1 then (if 200 < acc.length then .bad 12 0 else .mark 9 acc (acc.length + 2)) else act r (acc ++ [125]) (o - 1) := by rw [act.eq_def]; rfl
theorem act_else {c : UInt8} (r acc : List UInt8) (o : Nat) (h1 : c ≠ 123) (h2 : c ≠ 125) : act (c :: r) acc o = act r (acc ++ [c]) o := by
  rw [act.eq_def]; simp only [if_neg h1, if_neg h2]

set_option maxHeartbeats 1000000 in
theorem action_any (s : ByteArray) (w : World) (hs : s.size ≤ 4000) (h1 : 1 ≤ s.size) (hp : s[0] = 123) :
    Calls Tryz.prog 115 #[.string s] w fun e w' => e = .returned (pieceV (act ((bl s).drop 1) [] 1)) ∧ Below w.heap.size w w' := by
  generalize hst : act ((bl s).drop 1) [] 1 = st
  have HST := Lib.hid hst
  clear hst
  have HP := Lib.hid hp
  clear hp
  have HAT := Lib.hid (At.new w 131 #[.int .i64 0, .string ⟨#[]⟩, .int .i64 0, .int .i64 0])
  have HBEL := Lib.hid ((Below.refl w.heap.size w).alloc (Nat.le_refl _) (.cells #[.int .i64 0, .string ⟨#[]⟩, .int .i64 0, .int .i64 0] 131))
  go_enter Tryz.func115, Tryz.ntmps115
  go_wp2_with fail
  go_loop [3, 7] (fun o i => ∃ (k n : Nat), k ≤ s.size ∧ n ≤ 4 ∧ i = .int .i64 (k : Int) ∧ o = .int .i64 (n : Int) ∧ ((k = 0 ∧ n = 0) ∨ (1 ≤ k ∧ 1 ≤ n ∧ act ((bl s).drop k) (((bl s).take k).drop 1) n = st))) (fun _ i => s.size - (intOf i).toNat)
  case atStart => exact ⟨0, 0, by omega, by omega, rfl, rfl, .inl ⟨rfl, rfl⟩⟩
  case round =>
    obtain ⟨k, n, hk, hn4, rfl, rfl, hor⟩ := hrel
    by_cases hlt : k < s.size
    · have HD := Lib.hid (bl_drop s k hlt)
      have HTK := Lib.hid (bl_take s k hlt)
      rcases hor with ⟨hk0, hn0⟩ | ⟨hk1, hn1, ha⟩
      · have hc : s[k] = 123 := by
          have := HP.out
          simp only [hk0]; exact this
        have c1 : ((s[k].toNat : Int) == 123) = true := u8_is hc
        have c2 : ((s[k].toNat : Int) == 125) = false := by rw [hc]; rfl
        have HC := Lib.hid hc
        have HK0 := Lib.hid hk0
        have HN0 := Lib.hid hn0
        have b1 : (n : Int) + 1 ≤ 4 := by omega
        clear hc hk0 hn0
        go_wp2_with fail
        go_round
        case rel => exact ⟨k + 1, n + 1, by omega, by have := HN0.out; omega, by go_num, by go_num, .inr ⟨by omega, by omega, by
          rw [← HST.out]
          have e1 := HK0.out
          have e2 := HN0.out
          subst e1 e2
          rw [HTK.out]; rfl⟩⟩
        case measure => simp [intOf]; omega
      · have hl : (((bl s).take k).drop 1).length = k - 1 := by simp [bl_length]; omega
        have hda : ((bl s).take (k + 1)).drop 1 = ((bl s).take k).drop 1 ++ [s[k]] := by
          rw [HTK.out, List.drop_append_of_le_length (by simp [bl_length]; omega)]
        have HL := Lib.hid hl
        have HDA := Lib.hid hda
        have HA := Lib.hid ha
        clear hl hda ha
        by_cases h123 : s[k] = 123
        · have c1 : ((s[k].toNat : Int) == 123) = true := u8_is h123
          have c2 : ((s[k].toNat : Int) == 125) = false := by rw [h123]; rfl
          have hm := (HA.out.symm.trans (by rw [HD.out, h123])).trans (act_open ((bl s).drop (k + 1)) (((bl s).take k).drop 1) n)
          have HM := Lib.hid hm
          have H123 := Lib.hid h123
          clear hm h123
          by_cases h4 : n = 4
          · have b1 : (4 : Int) < (n : Int) + 1 := by omega
            have H4 := Lib.hid h4
            clear h4
            go_wp2_with fail
            refine (fault_any 13 k _).mono ?_
            rintro e w1 ⟨rfl, hb⟩
            first | (rename_i hK; refine hK _ _ ?_) | (rename_i hK _; refine hK _ _ ?_) | (rename_i hK _ _; refine hK _ _ ?_) | (rename_i hK _ _ _; refine hK _ _ ?_)
            have HA := Lib.hid (HAT.out.below hb HAT.out.lt)
            refine wpList_store_at rfl _ _ _ rfl rfl w.heap.size _ _ [_, _, _, _] rfl rfl HA.out 4 Tryz.sizePiece rfl rfl rfl ?_
            intro w2 hat hg
            go_wp2_with fail
            exact bodyPost_ret (results_cell_row rfl _ _ w.heap.size _ _ (0, 0) _ rfl hat Tryz.underlying131 rfl Tryz.sizePiece) rfl ⟨by rw [HM.out, if_pos H4.out, HL.out, show k - 1 + 1 = k by omega]; rfl, below_grown (HBEL.out.trans (hb.mono HBEL.out.size)) hg (by have := hb.size; have := HBEL.out.size; omega) (Nat.le_refl _)⟩
          · have b1 : (n : Int) + 1 ≤ 4 := by omega
            have H4 := Lib.hid h4
            clear h4
            go_wp2_with fail
            go_round
            case rel => exact ⟨k + 1, n + 1, by omega, by omega, by go_num, by go_num, .inr ⟨by omega, by omega, by rw [HDA.out, H123.out, HM.out, if_neg H4.out]⟩⟩
            case measure => simp [intOf]; omega
        · have c1 : ((s[k].toNat : Int) == 123) = false := u8_ne h123
          by_cases h125 : s[k] = 125
          · have c2 : ((s[k].toNat : Int) == 125) = true := u8_is h125
            have hm := (HA.out.symm.trans (by rw [HD.out, h125])).trans (act_close ((bl s).drop (k + 1)) (((bl s).take k).drop 1) n)
            have HM := Lib.hid hm
            have H125 := Lib.hid h125
            clear hm h123 h125
            by_cases hn : n = 1
            · have b1 : ((n : Int) - 1 == 0) = true := by rw [hn]; rfl
              have b2 : (n : Int) = 1 := by omega
              have HN := Lib.hid hn
              clear hn
              have b3 : (1 : Int) ≤ (k : Int) := by omega
              have b4 : (k : Int) ≤ (s.size : Int) := by omega
              have hz : (s.extract 1 k).size = k - 1 := size_ext s 1 k hk1 (by omega)
              have HZ := Lib.hid hz
              have hq : (if 200 < (s.extract 1 k).size then Step.bad 12 0 else Step.mark 9 (s.extract 1 k).data.toList (k + 1)) = st := by
                rw [HM.out, if_pos HN.out, HL.out, hz]
                have e1 : k - 1 + 2 = k + 1 := by omega
                have e2 : (s.extract 1 k).data.toList = ((bl s).take k).drop 1 := by
                  show bl (s.extract 1 k) = _
                  rw [bl_ext, List.drop_take]
                rw [e1, e2]
              have HQ := Lib.hid hq
              clear hq hz
              go_wp2_with fail
              rw [show ((k : Int) + 1) = ((k + 1 : Nat) : Int) by omega]
              refine (limited_any 9 (k + 1) 200 (s.extract 1 k) _ (by rw [HZ.out]; omega)).mono ?_
              rw [HQ.out]
              rintro e w1 ⟨rfl, hb⟩
              unfold pieceV
              first | (rename_i hK; refine hK _ _ ?_) | (rename_i hK _; refine hK _ _ ?_) | (rename_i hK _ _; refine hK _ _ ?_) | (rename_i hK _ _ _; refine hK _ _ ?_)
              have HA := Lib.hid (HAT.out.below hb HAT.out.lt)
              refine wpList_store_at rfl _ _ _ rfl rfl w.heap.size _ _ [_, _, _, _] rfl rfl HA.out 4 Tryz.sizePiece rfl rfl rfl ?_
              intro w2 hat hg
              go_wp2_with fail
              exact bodyPost_ret (results_cell_row rfl _ _ w.heap.size _ _ (0, 0) _ rfl hat Tryz.underlying131 rfl Tryz.sizePiece) rfl ⟨rfl, below_grown (HBEL.out.trans (hb.mono HBEL.out.size)) hg (by have := hb.size; have := HBEL.out.size; omega) (Nat.le_refl _)⟩
            · have b1 : ((n : Int) - 1 == 0) = false := by rw [beq_eq_false_iff_ne]; omega
              have b2 : ((n : Int) == 1) = false := by rw [beq_eq_false_iff_ne]; omega
              have HN := Lib.hid hn
              clear hn
              go_wp2_with fail
              go_round
              case rel => exact ⟨k + 1, n - 1, by omega, by omega, by go_num, by congr 1; omega, .inr ⟨by omega, by have := HN.out; omega, by rw [HDA.out, H125.out, HM.out, if_neg HN.out]⟩⟩
              case measure => simp [intOf]; omega
          · have c2 : ((s[k].toNat : Int) == 125) = false := u8_ne h125
            have hm := (HA.out.symm.trans (by rw [HD.out])).trans (act_else ((bl s).drop (k + 1)) (((bl s).take k).drop 1) n h123 h125)
            have HM := Lib.hid hm
            clear hm h123 h125
            go_wp2_with fail
            go_round
            case rel => exact ⟨k + 1, n, by omega, by omega, by go_num, rfl, .inr ⟨by omega, by omega, by rw [HDA.out, HM.out]⟩⟩
            case measure => simp [intOf]; omega
    · have hk1 : 1 ≤ k := by omega
      have ha : act ((bl s).drop k) (((bl s).take k).drop 1) n = st := by
        rcases hor with ⟨h0, _⟩ | ⟨_, _, h⟩
        · omega
        · exact h
      have e : (bl s).drop k = [] := List.drop_of_length_le (by rw [bl_length]; omega)
      rw [e, act_end] at ha
      clear e
      have HM := Lib.hid ha
      clear ha hor
      go_wp2_with fail
      refine (fault_any 11 0 _).mono ?_
      rintro e w1 ⟨rfl, hb⟩
      first | (rename_i hK; refine hK _ _ ?_) | (rename_i hK _; refine hK _ _ ?_) | (rename_i hK _ _; refine hK _ _ ?_) | (rename_i hK _ _ _; refine hK _ _ ?_)
      have HA := Lib.hid (HAT.out.below hb HAT.out.lt)
      refine wpList_store_at rfl _ _ _ rfl rfl w.heap.size _ _ [_, _, _, _] rfl rfl HA.out 4 Tryz.sizePiece rfl rfl rfl ?_
      intro w2 hat hg
      go_wp2_with fail
      exact bodyPost_ret (results_cell_row rfl _ _ w.heap.size _ _ (0, 0) _ rfl hat Tryz.underlying131 rfl Tryz.sizePiece) rfl ⟨by rw [← HM.out]; rfl, below_grown (HBEL.out.trans (hb.mono HBEL.out.size)) hg (by have := hb.size; have := HBEL.out.size; omega) (Nat.le_refl _)⟩

end Go.Proofs.YtpgmapjjjpcmfaaGreatDoor

namespace Go.Proofs.YtpgmapjjjpcmfaaGreatDoor
open Go.RowKit
open Lx
set_option linter.unusedVariables false
set_option linter.unusedSimpArgs false

theorem single_of {p : Parts} {f : UInt8} (h1 : ∀ x, p.single = some x → x = f.toNat) (h2 : p.single ≠ none) : p.single = some f.toNat := by
  cases h : p.single with
  | none => exact absurd h h2
  | some x => rw [h1 x h]
theorem add_none (g : Nat) (p : Parts) (f b : UInt8) (w : World) (hp : IsParts w g p f) (hd2 : p.dash ≤ 4000) (h : p.put b = none) :
    Calls Tryz.prog 130 #[.pointer (some ⟨g, 0, none⟩), .int .u8 (b.toNat : Int)] w fun e w' => e = .returned (.bool false) ∧ w = w' := by
  unfold Parts.put at h
  split at h
  · cases h
  · rename_i hd
    rw [single_of hp.sing (hp.dash hd)] at h
    simp only [Option.getD_some] at h
    split at h
    · exact add_no g p f b w hp hd hd2 ‹_›
    · cases h
/-- The parts at g are q now. -/
structure Added (w : World) (g : Nat) (q : Parts) (e : Ending) (w' : World) : Prop where
  eq : e = .returned (.bool true)
  parts : ∃ f', IsParts w' g q f'
  grown : w.grownBy w' (some g)
theorem add_some (g : Nat) (p q : Parts) (f b : UInt8) (w : World) (hp : IsParts w g p f) (hd2 : p.dash ≤ 4000) (h : p.put b = some q) :
    Calls Tryz.prog 130 #[.pointer (some ⟨g, 0, none⟩), .int .u8 (b.toNat : Int)] w (Added w g q) := by
  unfold Parts.put at h
  split at h
  · injection h with h
    subst h
    exact (add_one g p f b w hp ‹_›).mono fun e w' ⟨h1, h2, h3⟩ => ⟨h1, ⟨_, h2⟩, h3⟩
  · rename_i hd
    rw [single_of hp.sing (hp.dash hd)] at h
    simp only [Option.getD_some] at h
    split at h
    · cases h
    · injection h with h
      subst h
      exact (add_range g p f b w hp hd hd2 (by omega)).mono fun e w' ⟨h1, h2, h3⟩ => ⟨h1, ⟨_, h2⟩, h3⟩
theorem IsParts.dashed {w : World} {g : Nat} {p : Parts} {f : UInt8} (h : IsParts w g p f) (hs : p.single ≠ none) (k : Nat) : IsParts (w.setCell ⟨g, 258, none⟩ (.int .i64 (k : Int))) g { p with dash := k } f := by
  refine ⟨?_, h.sing, fun _ => hs⟩
  have h1 := h.at_.set 258 (.int .i64 (k : Int))
  unfold partCells at h1
  rw [map_set] at h1
  unfold partCells
  rw [← map_same (n := 259) (F := setF (partCell p f) 258 (.int .i64 (k : Int)))]
  · exact h1
  · intro j hj
    unfold setF partCell
    simp only []
    by_cases h2 : j = 258
    · subst h2; simp
    · rw [if_neg h2]
      by_cases h3 : j < 256
      · simp [h3]
      · by_cases h4 : j = 256
        · simp [h4]
        · have h5 : j = 257 := by omega
          simp [h5]

def putS (p : Parts) (b : UInt8) (r : List UInt8) (i : Nat) : Step := match p.put b with
  | none => .bad 10 p.dash
  | some q => cls r i q
theorem putS_none {p : Parts} {b : UInt8} {r : List UInt8} {i : Nat} (h : p.put b = none) : putS p b r i = .bad 10 p.dash := by unfold putS; rw [h]
theorem putS_some {p q : Parts} {b : UInt8} {r : List UInt8} {i : Nat} (h : p.put b = some q) : putS p b r i = cls r i q := by unfold putS; rw [h]
theorem cls_end (i : Nat) (p : Parts) : cls [] i p = .bad 11 0 := by rw [cls.eq_def]
theorem cls_close (r : List UInt8) (i : Nat) (p : Parts) : cls (93 :: r) i p = closedS p i := by rw [cls.eq_def]; rfl
theorem cls_lf (r : List UInt8) (i : Nat) (p : Parts) : cls (10 :: r) i p = .bad 11 0 := by rw [cls.eq_def]; rfl
theorem cls_dash0 (r : List UInt8) (i : Nat) (p : Parts) (hd : p.dash = 0) (hs : p.single = none) : cls (45 :: r) i p = .bad 10 i := by
  rw [cls.eq_def]; simp [hd, hs]
theorem cls_dash1 (r : List UInt8) (i : Nat) (p : Parts) (hd : p.dash = 0) (hs : p.single ≠ none) : cls (45 :: r) i p = cls r (i + 1) { p with dash := i } := by
  rw [cls.eq_def]
  cases h : p.single with
  | none => exact absurd h hs
  | some x => simp [hd, h]
theorem cls_esc (r : List UInt8) (i : Nat) (p : Parts) : cls (92 :: r) i p = if (escV 4 r).2 = true then putS p (escV 4 r).1 (r.drop 1) (i + 2) else .bad 10 i := by
  rw [cls.eq_def]
  cases r with
  | nil => rfl
  | cons d r' =>
    simp only [if_neg (show ¬ (92 : UInt8) = 93 by decide), if_neg (show ¬ (92 : UInt8) = 10 by decide), if_neg (show ¬ ((92 : UInt8) = 45 ∧ p.dash = 0) from fun h => absurd h.1 (by decide)), if_true]
    cases h : esc 4 d with
    | none => simp [escV, h]
    | some b => simp only [escV, h, if_true, List.drop_one, List.tail_cons]; rfl
theorem cls_else {c : UInt8} (r : List UInt8) (i : Nat) (p : Parts) (h1 : c ≠ 93) (h2 : c ≠ 10) (h3 : ¬ (c = 45 ∧ p.dash = 0)) (h4 : c ≠ 92) : cls (c :: r) i p = putS p c r (i + 1) := by
  rw [cls.eq_def]; simp only [if_neg h1, if_neg h2, if_neg h3, if_neg h4]; rfl

theorem Tryz.zeroParts : (Tryz.prog.info? 162).map (fun i => (i.zero, i.size)) = some (some (.agg (partCells none_ 0)), 259) := by kernel_rfl

set_option maxHeartbeats 2000000 in
set_option maxRecDepth 100000 in
theorem class_any (s : ByteArray) (w : World) (hs : s.size ≤ 4000) (hT : Tab w) (h0 : 1 < w.heap.size) :
    Calls Tryz.prog 114 #[.string s] w fun e w' => e = .returned (pieceV (cls ((bl s).drop 1) 1 none_)) ∧ Below w.heap.size w w' := by
  have HT := Lib.hid hT
  clear hT
  generalize hst : cls ((bl s).drop 1) 1 none_ = st
  have HST := Lib.hid hst
  clear hst
  obtain ⟨hzv, _⟩ := zero_of_info Tryz.zeroParts
  obtain ⟨Z, hZ⟩ : ∃ Z, partCells none_ 0 = Z := ⟨_, rfl⟩
  rw [hZ] at hzv
  have HZ := Lib.hid hZ
  clear hZ
  go_enter Tryz.func114, Tryz.ntmps114
  go_wp2_with fail
  go_loopw [4] (fun i wr => ∃ (k : Nat) (p : Parts) (f : UInt8), 1 ≤ k ∧ i = .int .i64 (k : Int) ∧ p.dash ≤ k ∧ p.dash ≤ s.size ∧ cls ((bl s).drop k) k p = st ∧ IsParts wr (w.heap.size + 1) p f ∧ At wr w.heap.size 131 #[.int .i64 0, .string ⟨#[]⟩, .int .i64 0, .int .i64 0] ∧ Below w.heap.size w wr) (fun i _ => s.size - (intOf i).toNat)
  case atStart =>
    have hn := At.new (w.alloc (.cells #[.int .i64 0, .string ⟨#[]⟩, .int .i64 0, .int .i64 0] 131)) 162 Z
    simp only [World.size_alloc] at hn
    rw [← HZ.out] at hn ⊢
    exact ⟨1, none_, 0, by omega, rfl, by simp [none_], by simp [none_], HST.out, ⟨hn, fun x h => (by cases h), fun h => absurd rfl h⟩, (At.new _ _ _).alloc _, ((Below.refl _ _).alloc (Nat.le_refl _) _).alloc (by simp) _⟩
  case round =>
    obtain ⟨k, p, f, hk1, rfl, hdk, hds, hcl, hpa, hat, hbel⟩ := hrel
    have HCL := Lib.hid hcl
    have HPA := Lib.hid hpa
    have HAT := Lib.hid hat
    have HBEL := Lib.hid hbel
    clear hcl hpa hat hbel
    by_cases hlt : k < s.size
    · have HD := Lib.hid (bl_drop s k hlt)
      have c6 := HPA.out.c256
      have c8 := HPA.out.c258
      have f0 := HPA.out.at_.frozen
      by_cases h93 : s[k] = 93
      · have c1 : ((s[k].toNat : Int) == 93) = true := u8_is h93
        have hm := (HCL.out.symm.trans (by rw [HD.out, h93])).trans (cls_close ((bl s).drop (k + 1)) k p)
        have HM := Lib.hid hm
        clear hm h93
        go_wp2_with fail
        refine (closed_any (w.heap.size + 1) p f k _ HPA.out (by omega) (by omega)).mono ?_
        rw [← HM.out]
        rintro e w1 ⟨rfl, hb⟩
        unfold pieceV
        first | (rename_i hK; refine hK _ _ ?_) | (rename_i hK _; refine hK _ _ ?_) | (rename_i hK _ _; refine hK _ _ ?_) | (rename_i hK _ _ _; refine hK _ _ ?_)
        have HA := Lib.hid (HAT.out.below hb HAT.out.lt)
        refine wpList_store_at rfl _ _ _ rfl rfl w.heap.size _ _ [_, _, _, _] rfl rfl HA.out 4 Tryz.sizePiece rfl rfl rfl ?_
        intro w2 hat hg
        go_wp2_with fail
        exact bodyPost_ret (results_cell_row rfl _ _ w.heap.size _ _ (0, 0) _ rfl hat Tryz.underlying131 rfl Tryz.sizePiece) rfl ⟨rfl, below_grown (HBEL.out.trans (hb.mono HBEL.out.size)) hg (by have := hb.size; have := HBEL.out.size; omega) (Nat.le_refl _)⟩
      · have c1 : ((s[k].toNat : Int) == 93) = false := u8_ne h93
        by_cases h10 : s[k] = 10
        · have c2 : ((s[k].toNat : Int) == 10) = true := u8_is h10
          have hm := (HCL.out.symm.trans (by rw [HD.out, h10])).trans (cls_lf ((bl s).drop (k + 1)) k p)
          have HM := Lib.hid hm
          clear hm h93 h10
          go_wp2_with fail
          refine (fault_any 11 0 _).mono ?_
          rintro e w1 ⟨rfl, hb⟩
          first | (rename_i hK; refine hK _ _ ?_) | (rename_i hK _; refine hK _ _ ?_) | (rename_i hK _ _; refine hK _ _ ?_) | (rename_i hK _ _ _; refine hK _ _ ?_)
          have HA := Lib.hid (HAT.out.below hb HAT.out.lt)
          refine wpList_store_at rfl _ _ _ rfl rfl w.heap.size _ _ [_, _, _, _] rfl rfl HA.out 4 Tryz.sizePiece rfl rfl rfl ?_
          intro w2 hat hg
          go_wp2_with fail
          exact bodyPost_ret (results_cell_row rfl _ _ w.heap.size _ _ (0, 0) _ rfl hat Tryz.underlying131 rfl Tryz.sizePiece) rfl ⟨by rw [HM.out]; rfl, below_grown (HBEL.out.trans (hb.mono HBEL.out.size)) hg (by have := hb.size; have := HBEL.out.size; omega) (Nat.le_refl _)⟩
        · have c2 : ((s[k].toNat : Int) == 10) = false := u8_ne h10
          by_cases h45 : s[k] = 45 ∧ p.dash = 0
          · have c3 : ((s[k].toNat : Int) == 45) = true := u8_is h45.1
            have hd0 := h45.2
            rw [hd0] at c8
            cases hsi : p.single with
            | none =>
              have hm := (HCL.out.symm.trans (by rw [HD.out, h45.1])).trans (cls_dash0 ((bl s).drop (k + 1)) k p hd0 hsi)
              have HM := Lib.hid hm
              rw [hsi] at c6
              simp only [Option.isSome_none] at c6
              clear hm h93 h10 h45 hd0 hsi
              go_wp2_with fail
              refine (fault_any 10 k _).mono ?_
              rintro e w1 ⟨rfl, hb⟩
              first | (rename_i hK; refine hK _ _ ?_) | (rename_i hK _; refine hK _ _ ?_) | (rename_i hK _ _; refine hK _ _ ?_) | (rename_i hK _ _ _; refine hK _ _ ?_)
              have HA := Lib.hid (HAT.out.below hb HAT.out.lt)
              refine wpList_store_at rfl _ _ _ rfl rfl w.heap.size _ _ [_, _, _, _] rfl rfl HA.out 4 Tryz.sizePiece rfl rfl rfl ?_
              intro w2 hat hg
              go_wp2_with fail
              exact bodyPost_ret (results_cell_row rfl _ _ w.heap.size _ _ (0, 0) _ rfl hat Tryz.underlying131 rfl Tryz.sizePiece) rfl ⟨by rw [HM.out]; rfl, below_grown (HBEL.out.trans (hb.mono HBEL.out.size)) hg (by have := hb.size; have := HBEL.out.size; omega) (Nat.le_refl _)⟩
            | some x =>
              have hne : p.single ≠ none := by rw [hsi]; simp
              have hm := (HCL.out.symm.trans (by rw [HD.out, h45.1])).trans (cls_dash1 ((bl s).drop (k + 1)) k p hd0 hne)
              have HM := Lib.hid hm
              have HNE := Lib.hid hne
              rw [hsi] at c6
              simp only [Option.isSome_some] at c6
              clear hm h93 h10 h45 hd0 hsi hne
              go_wp2_with fail
              go_roundw
              case rel => exact ⟨k + 1, { p with dash := k }, f, by omega, by go_num, by simp, by simp; omega, HM.out.symm, HPA.out.dashed HNE.out k, HAT.out.far (by simp) _, HBEL.out.setCell (by simp) _⟩
              case measure => simp [intOf]; omega
          · have H45 := Lib.hid h45
            by_cases h92 : s[k] = 92
            · have c3 : ((s[k].toNat : Int) == 45) = false := by rw [h92]; rfl
              have c4 : ((s[k].toNat : Int) == 92) = true := u8_is h92
              have hm := (HCL.out.symm.trans (by rw [HD.out, h92])).trans (cls_esc ((bl s).drop (k + 1)) k p)
              have HM := Lib.hid hm
              clear hm h93 h10 h45 h92
              have hz : (s.extract (k + 1) s.size).size ≤ 9223372036854775807 := by rw [size_ext s _ _ (by omega) (by omega)]; omega
              have hsz := HBEL.out.size
              rcases hev : escV 4 ((bl s).drop (k + 1)) with ⟨b, ok⟩
              have HEV := Lib.hid hev
              have HM2 : Hid (st = if ok = true then putS p b (((bl s).drop (k + 1)).drop 1) (k + 2) else .bad 10 k) := Lib.hid (by rw [HM.out, hev])
              clear hev
              cases ok with
              | false =>
                go_wp2_with fail
                refine (escaped_any 4 _ _ (.inr rfl) hz (HT.out.below HBEL.out h0) (by omega)).mono ?_
                rw [bl_end, HEV.out]
                rintro e w1 ⟨rfl, hb0⟩
                have HAT1 := Lib.hid (HAT.out.below hb0 HAT.out.lt)
                have HBEL1 := Lib.hid (HBEL.out.trans (hb0.mono HBEL.out.size))
                clear hb0 c6 c8 f0
                go_wp2_with fail
                refine (fault_any 10 k _).mono ?_
                rintro e w1 ⟨rfl, hb⟩
                first | (rename_i hK; refine hK _ _ ?_) | (rename_i hK _; refine hK _ _ ?_) | (rename_i hK _ _; refine hK _ _ ?_) | (rename_i hK _ _ _; refine hK _ _ ?_)
                have HA := Lib.hid (HAT1.out.below hb HAT1.out.lt)
                refine wpList_store_at rfl _ _ _ rfl rfl w.heap.size _ _ [_, _, _, _] rfl rfl HA.out 4 Tryz.sizePiece rfl rfl rfl ?_
                intro w2 hat hg
                go_wp2_with fail
                exact bodyPost_ret (results_cell_row rfl _ _ w.heap.size _ _ (0, 0) _ rfl hat Tryz.underlying131 rfl Tryz.sizePiece) rfl ⟨by rw [HM2.out]; rfl, below_grown (HBEL1.out.trans (hb.mono HBEL1.out.size)) hg (by have := hb.size; have := HBEL1.out.size; omega) (Nat.le_refl _)⟩
              | true =>
                have HM3 : Hid (st = putS p b ((bl s).drop (k + 2)) (k + 2)) := Lib.hid (by rw [HM2.out, if_pos rfl, List.drop_drop])
                go_wp2_with fail
                refine (escaped_any 4 _ _ (.inr rfl) hz (HT.out.below HBEL.out h0) (by omega)).mono ?_
                rw [bl_end, HEV.out]
                rintro e w1 ⟨rfl, hb0⟩
                have HAT1 := Lib.hid (HAT.out.below hb0 HAT.out.lt)
                have HBEL1 := Lib.hid (HBEL.out.trans (hb0.mono HBEL.out.size))
                have HPA1 := Lib.hid (HPA.out.below hb0 HPA.out.at_.lt)
                clear hb0 c6 c8 f0
                cases hput : p.put b with
                | none =>
                  have HP2 : Hid (st = .bad 10 p.dash) := Lib.hid (by rw [HM3.out, putS_none hput])
                  have HPUT := Lib.hid hput
                  clear hput
                  have d8 := HPA1.out.c258
                  go_wp2_with fail
                  refine (add_none _ p f b _ HPA1.out (by omega) HPUT.out).mono ?_
                  rintro e w2 ⟨rfl, rfl⟩
                  go_wp2_with fail
                  refine (fault_any 10 p.dash _).mono ?_
                  rintro e w1 ⟨rfl, hb⟩
                  first | (rename_i hK; refine hK _ _ ?_) | (rename_i hK _; refine hK _ _ ?_) | (rename_i hK _ _; refine hK _ _ ?_) | (rename_i hK _ _ _; refine hK _ _ ?_)
                  have HA := Lib.hid (HAT1.out.below hb HAT1.out.lt)
                  refine wpList_store_at rfl _ _ _ rfl rfl w.heap.size _ _ [_, _, _, _] rfl rfl HA.out 4 Tryz.sizePiece rfl rfl rfl ?_
                  intro w2 hat hg
                  go_wp2_with fail
                  exact bodyPost_ret (results_cell_row rfl _ _ w.heap.size _ _ (0, 0) _ rfl hat Tryz.underlying131 rfl Tryz.sizePiece) rfl ⟨by rw [HP2.out]; rfl, below_grown (HBEL1.out.trans (hb.mono HBEL1.out.size)) hg (by have := hb.size; have := HBEL1.out.size; omega) (Nat.le_refl _)⟩
                | some q =>
                  have HP2 : Hid (st = cls ((bl s).drop (k + 2)) (k + 2) q) := Lib.hid (by rw [HM3.out, putS_some hput])
                  have hq0 := put_dash hput
                  have HPUT := Lib.hid hput
                  have HQ0 := Lib.hid hq0
                  clear hput hq0
                  go_wp2_with fail
                  refine (add_some _ p q f b _ HPA1.out (by omega) HPUT.out).mono ?_
                  rintro e w2 ⟨rfl, ⟨f', hpp⟩, hgg⟩
                  have HPP := Lib.hid hpp
                  have HAT2 := Lib.hid (HAT1.out.grown hgg (by simp))
                  have HBEL2 := Lib.hid (below_grown HBEL1.out hgg HBEL1.out.size (by omega))
                  clear hpp hgg
                  go_wp2_with fail
                  go_roundw
                  case rel => exact ⟨k + 2, q, f', by omega, by first | go_num | (congr 1; omega), by rw [HQ0.out]; omega, by rw [HQ0.out]; omega, HP2.out.symm, HPP.out, HAT2.out, HBEL2.out⟩
                  case measure => simp [intOf]; omega
            · have c4 : ((s[k].toNat : Int) == 92) = false := u8_ne h92
              have hm := (HCL.out.symm.trans (by rw [HD.out])).trans (cls_else ((bl s).drop (k + 1)) k p h93 h10 h45 h92)
              have HM := Lib.hid hm
              clear hm h93 h10 h92
              by_cases hc45 : s[k] = 45
              · have c3 : ((s[k].toNat : Int) == 45) = true := u8_is hc45
                have hdn : ((p.dash : Int) == 0) = false := by
                  rw [beq_eq_false_iff_ne]; intro e; exact h45 ⟨hc45, by omega⟩
                clear h45 hc45
                cases hput : p.put s[k] with
                | none =>
                  have HP2 : Hid (st = .bad 10 p.dash) := Lib.hid (by rw [HM.out, putS_none hput])
                  have HPUT := Lib.hid hput
                  clear hput
                  have d8 := HPA.out.c258
                  go_wp2_with fail
                  refine (add_none _ p f s[k] _ HPA.out (by omega) HPUT.out).mono ?_
                  rintro e w2 ⟨rfl, rfl⟩
                  go_wp2_with fail
                  refine (fault_any 10 p.dash _).mono ?_
                  rintro e w1 ⟨rfl, hb⟩
                  first | (rename_i hK; refine hK _ _ ?_) | (rename_i hK _; refine hK _ _ ?_) | (rename_i hK _ _; refine hK _ _ ?_) | (rename_i hK _ _ _; refine hK _ _ ?_)
                  have HA := Lib.hid (HAT.out.below hb HAT.out.lt)
                  refine wpList_store_at rfl _ _ _ rfl rfl w.heap.size _ _ [_, _, _, _] rfl rfl HA.out 4 Tryz.sizePiece rfl rfl rfl ?_
                  intro w2 hat hg
                  go_wp2_with fail
                  exact bodyPost_ret (results_cell_row rfl _ _ w.heap.size _ _ (0, 0) _ rfl hat Tryz.underlying131 rfl Tryz.sizePiece) rfl ⟨by rw [HP2.out]; rfl, below_grown (HBEL.out.trans (hb.mono HBEL.out.size)) hg (by have := hb.size; have := HBEL.out.size; omega) (Nat.le_refl _)⟩
                | some q =>
                  have HP2 : Hid (st = cls ((bl s).drop (k + 1)) (k + 1) q) := Lib.hid (by rw [HM.out, putS_some hput])
                  have hq0 := put_dash hput
                  have HPUT := Lib.hid hput
                  have HQ0 := Lib.hid hq0
                  clear hput hq0
                  go_wp2_with fail
                  refine (add_some _ p q f s[k] _ HPA.out (by omega) HPUT.out).mono ?_
                  rintro e w2 ⟨rfl, ⟨f', hpp⟩, hgg⟩
                  have HPP := Lib.hid hpp
                  have HAT2 := Lib.hid (HAT.out.grown hgg (by simp))
                  have HBEL2 := Lib.hid (below_grown HBEL.out hgg HBEL.out.size (by omega))
                  clear hpp hgg
                  go_wp2_with fail
                  go_roundw
                  case rel => exact ⟨k + 1, q, f', by omega, by first | go_num | (congr 1; omega), by rw [HQ0.out]; omega, by rw [HQ0.out]; omega, HP2.out.symm, HPP.out, HAT2.out, HBEL2.out⟩
                  case measure => simp [intOf]; omega
              · have c3 : ((s[k].toNat : Int) == 45) = false := u8_ne hc45
                clear h45 hc45
                cases hput : p.put s[k] with
                | none =>
                  have HP2 : Hid (st = .bad 10 p.dash) := Lib.hid (by rw [HM.out, putS_none hput])
                  have HPUT := Lib.hid hput
                  clear hput
                  have d8 := HPA.out.c258
                  go_wp2_with fail
                  refine (add_none _ p f s[k] _ HPA.out (by omega) HPUT.out).mono ?_
                  rintro e w2 ⟨rfl, rfl⟩
                  go_wp2_with fail
                  refine (fault_any 10 p.dash _).mono ?_
                  rintro e w1 ⟨rfl, hb⟩
                  first | (rename_i hK; refine hK _ _ ?_) | (rename_i hK _; refine hK _ _ ?_) | (rename_i hK _ _; refine hK _ _ ?_) | (rename_i hK _ _ _; refine hK _ _ ?_)
                  have HA := Lib.hid (HAT.out.below hb HAT.out.lt)
                  refine wpList_store_at rfl _ _ _ rfl rfl w.heap.size _ _ [_, _, _, _] rfl rfl HA.out 4 Tryz.sizePiece rfl rfl rfl ?_
                  intro w2 hat hg
                  go_wp2_with fail
                  exact bodyPost_ret (results_cell_row rfl _ _ w.heap.size _ _ (0, 0) _ rfl hat Tryz.underlying131 rfl Tryz.sizePiece) rfl ⟨by rw [HP2.out]; rfl, below_grown (HBEL.out.trans (hb.mono HBEL.out.size)) hg (by have := hb.size; have := HBEL.out.size; omega) (Nat.le_refl _)⟩
                | some q =>
                  have HP2 : Hid (st = cls ((bl s).drop (k + 1)) (k + 1) q) := Lib.hid (by rw [HM.out, putS_some hput])
                  have hq0 := put_dash hput
                  have HPUT := Lib.hid hput
                  have HQ0 := Lib.hid hq0
                  clear hput hq0
                  go_wp2_with fail
                  refine (add_some _ p q f s[k] _ HPA.out (by omega) HPUT.out).mono ?_
                  rintro e w2 ⟨rfl, ⟨f', hpp⟩, hgg⟩
                  have HPP := Lib.hid hpp
                  have HAT2 := Lib.hid (HAT.out.grown hgg (by simp))
                  have HBEL2 := Lib.hid (below_grown HBEL.out hgg HBEL.out.size (by omega))
                  clear hpp hgg
                  go_wp2_with fail
                  go_roundw
                  case rel => exact ⟨k + 1, q, f', by omega, by first | go_num | (congr 1; omega), by rw [HQ0.out]; omega, by rw [HQ0.out]; omega, HP2.out.symm, HPP.out, HAT2.out, HBEL2.out⟩
                  case measure => simp [intOf]; omega
    · have e : (bl s).drop k = [] := List.drop_of_length_le (by rw [bl_length]; omega)
      have ha := HCL.out
      rw [e, cls_end] at ha
      have HM := Lib.hid ha
      clear ha e
      go_wp2_with fail
      refine (fault_any 11 0 _).mono ?_
      rintro e w1 ⟨rfl, hb⟩
      first | (rename_i hK; refine hK _ _ ?_) | (rename_i hK _; refine hK _ _ ?_) | (rename_i hK _ _; refine hK _ _ ?_) | (rename_i hK _ _ _; refine hK _ _ ?_)
      have HA := Lib.hid (HAT.out.below hb HAT.out.lt)
      refine wpList_store_at rfl _ _ _ rfl rfl w.heap.size _ _ [_, _, _, _] rfl rfl HA.out 4 Tryz.sizePiece rfl rfl rfl ?_
      intro w2 hat hg
      go_wp2_with fail
      exact bodyPost_ret (results_cell_row rfl _ _ w.heap.size _ _ (0, 0) _ rfl hat Tryz.underlying131 rfl Tryz.sizePiece) rfl ⟨by rw [← HM.out]; rfl, below_grown (HBEL.out.trans (hb.mono HBEL.out.size)) hg (by have := hb.size; have := HBEL.out.size; omega) (Nat.le_refl _)⟩

end Go.Proofs.YtpgmapjjjpcmfaaGreatDoor
