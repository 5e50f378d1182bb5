/-
  The walk of lexer's class.
-/
import Derived.Test.YtgmihbfikggkjaaDoorLxE
namespace Go.Proofs.YtgmihbfikggkjaaDoor
open Go.RowKit
open Lx
set_option linter.unusedVariables false
set_option linter.unusedSimpArgs false

theorem single_of {p : Parts} {f : UInt8} (h1 : ∀ x, p.single = some x → x = f.toNat) (h2 : p.single ≠ none) : p.single = some f.toNat := by
  cases h : p.single with
  | none => exact absurd h h2
  | some x => rw [h1 x h]
theorem add_none (g : Nat) (p : Parts) (f b : UInt8) (w : World) (hp : IsParts w g p f) (hd2 : p.dash ≤ 4000) (h : p.put b = none) :
    Calls Tryd.prog 82 #[.pointer (some ⟨g, 0, none⟩), .int .u8 (b.toNat : Int)] w fun e w' => e = .returned (.bool false) ∧ w = w' := by
  unfold Parts.put at h
  split at h
  · cases h
  · rename_i hd
    rw [single_of hp.sing (hp.dash hd)] at h
    simp only [Option.getD_some] at h
    split at h
    · exact add_no g p f b w hp hd hd2 ‹_›
    · cases h
/-- The parts at g are q now. -/
structure Added (w : World) (g : Nat) (q : Parts) (e : Ending) (w' : World) : Prop where
  eq : e = .returned (.bool true)
  parts : ∃ f', IsParts w' g q f'
  grown : w.grownBy w' (some g)
theorem add_some (g : Nat) (p q : Parts) (f b : UInt8) (w : World) (hp : IsParts w g p f) (hd2 : p.dash ≤ 4000) (h : p.put b = some q) :
    Calls Tryd.prog 82 #[.pointer (some ⟨g, 0, none⟩), .int .u8 (b.toNat : Int)] w (Added w g q) := by
  unfold Parts.put at h
  split at h
  · injection h with h
    subst h
    exact (add_one g p f b w hp ‹_›).mono fun e w' ⟨h1, h2, h3⟩ => ⟨h1, ⟨_, h2⟩, h3⟩
  · rename_i hd
    rw [single_of hp.sing (hp.dash hd)] at h
    simp only [Option.getD_some] at h
    split at h
    · cases h
    · injection h with h
      subst h
      exact (add_range g p f b w hp hd hd2 (by omega)).mono fun e w' ⟨h1, h2, h3⟩ => ⟨h1, ⟨_, h2⟩, h3⟩
theorem IsParts.dashed {w : World} {g : Nat} {p : Parts} {f : UInt8} (h : IsParts w g p f) (hs : p.single ≠ none) (k : Nat) : IsParts (w.setCell ⟨g, 258, none⟩ (.int .i64 (k : Int))) g { p with dash := k } f := by
  refine ⟨?_, h.sing, fun _ => hs⟩
  have h1 := h.at_.set 258 (.int .i64 (k : Int))
  unfold partCells at h1
  rw [map_set] at h1
  unfold partCells
  rw [← map_same (n := 259) (F := setF (partCell p f) 258 (.int .i64 (k : Int)))]
  · exact h1
  · intro j hj
    unfold setF partCell
    simp only []
    by_cases h2 : j = 258
    · subst h2; simp
    · rw [if_neg h2]
      by_cases h3 : j < 256
      · simp [h3]
      · by_cases h4 : j = 256
        · simp [h4]
        · have h5 : j = 257 := by omega
          simp [h5]

def putS (p : Parts) (b : UInt8) (r : List UInt8) (i : Nat) : Step := match p.put b with
  | none => .bad 10 p.dash
  | some q => cls r i q
theorem putS_none {p : Parts} {b : UInt8} {r : List UInt8} {i : Nat} (h : p.put b = none) : putS p b r i = .bad 10 p.dash := by unfold putS; rw [h]
theorem putS_some {p q : Parts} {b : UInt8} {r : List UInt8} {i : Nat} (h : p.put b = some q) : putS p b r i = cls r i q := by unfold putS; rw [h]
theorem cls_end (i : Nat) (p : Parts) : cls [] i p = .bad 11 0 := by rw [cls.eq_def]
theorem cls_close (r : List UInt8) (i : Nat) (p : Parts) : cls (93 :: r) i p = closedS p i := by rw [cls.eq_def]; rfl
theorem cls_lf (r : List UInt8) (i : Nat) (p : Parts) : cls (10 :: r) i p = .bad 11 0 := by rw [cls.eq_def]; rfl
theorem cls_dash0 (r : List UInt8) (i : Nat) (p : Parts) (hd : p.dash = 0) (hs : p.single = none) : cls (45 :: r) i p = .bad 10 i := by
  rw [cls.eq_def]; simp [hd, hs]
theorem cls_dash1 (r : List UInt8) (i : Nat) (p : Parts) (hd : p.dash = 0) (hs : p.single ≠ none) : cls (45 :: r) i p = cls r (i + 1) { p with dash := i } := by
  rw [cls.eq_def]
  cases h : p.single with
  | none => exact absurd h hs
  | some x => simp [hd, h]
theorem cls_esc (r : List UInt8) (i : Nat) (p : Parts) : cls (92 :: r) i p = if (escV 4 r).2 = true then putS p (escV 4 r).1 (r.drop 1) (i + 2) else .bad 10 i := by
  rw [cls.eq_def]
  cases r with
  | nil => rfl
  | cons d r' =>
    simp only [if_neg (show ¬ (92 : UInt8) = 93 by decide), if_neg (show ¬ (92 : UInt8) = 10 by decide), if_neg (show ¬ ((92 : UInt8) = 45 ∧ p.dash = 0) from fun h => absurd h.1 (by decide)), if_true]
    cases h : esc 4 d with
    | none => simp [escV, h]
    | some b => simp only [escV, h, if_true, List.drop_one, List.tail_cons]; rfl
theorem cls_else {c : UInt8} (r : List UInt8) (i : Nat) (p : Parts) (h1 : c ≠ 93) (h2 : c ≠ 10) (h3 : ¬ (c = 45 ∧ p.dash = 0)) (h4 : c ≠ 92) : cls (c :: r) i p = putS p c r (i + 1) := by
  rw [cls.eq_def]; simp only [if_neg h1, if_neg h2, if_neg h3, if_neg h4]; rfl

theorem Tryd.zeroParts : (Tryd.prog.info? 127).map (fun i => (i.zero, i.size)) = some (some (.agg (partCells none_ 0)), 259) := by kernel_rfl

set_option maxHeartbeats 2000000 in
set_option maxRecDepth 100000 in
theorem class_any (s : ByteArray) (w : World) (hs : s.size ≤ 4000) (hT : Tab w) (h0 : 0 < w.heap.size) :
    Calls Tryd.prog 51 #[.string s] w fun e w' => e = .returned (pieceV (cls ((bl s).drop 1) 1 none_)) ∧ Below w.heap.size w w' := by
  have HT := Lib.hid hT
  clear hT
  generalize hst : cls ((bl s).drop 1) 1 none_ = st
  have HST := Lib.hid hst
  clear hst
  obtain ⟨hzv, _⟩ := zero_of_info Tryd.zeroParts
  obtain ⟨Z, hZ⟩ : ∃ Z, partCells none_ 0 = Z := ⟨_, rfl⟩
  rw [hZ] at hzv
  have HZ := Lib.hid hZ
  clear hZ
  go_enter Tryd.func51, Tryd.ntmps51
  go_wp2_with fail
  go_loopw [4] (fun i wr => ∃ (k : Nat) (p : Parts) (f : UInt8), 1 ≤ k ∧ i = .int .i64 (k : Int) ∧ p.dash ≤ k ∧ p.dash ≤ s.size ∧ cls ((bl s).drop k) k p = st ∧ IsParts wr (w.heap.size + 1) p f ∧ At wr w.heap.size 77 #[.int .i64 0, .string ⟨#[]⟩, .int .i64 0, .int .i64 0] ∧ Below w.heap.size w wr) (fun i _ => s.size - (intOf i).toNat)
  case atStart =>
    have hn := At.new (w.alloc (.cells #[.int .i64 0, .string ⟨#[]⟩, .int .i64 0, .int .i64 0] 77)) 127 Z
    simp only [World.size_alloc] at hn
    rw [← HZ.out] at hn ⊢
    exact ⟨1, none_, 0, by omega, rfl, by simp [none_], by simp [none_], HST.out, ⟨hn, fun x h => (by cases h), fun h => absurd rfl h⟩, (At.new _ _ _).alloc _, ((Below.refl _ _).alloc (Nat.le_refl _) _).alloc (by simp) _⟩
  case round =>
    obtain ⟨k, p, f, hk1, rfl, hdk, hds, hcl, hpa, hat, hbel⟩ := hrel
    have HCL := Lib.hid hcl
    have HPA := Lib.hid hpa
    have HAT := Lib.hid hat
    have HBEL := Lib.hid hbel
    clear hcl hpa hat hbel
    by_cases hlt : k < s.size
    · have HD := Lib.hid (bl_drop s k hlt)
      have c6 := HPA.out.c256
      have c8 := HPA.out.c258
      have f0 := HPA.out.at_.frozen
      by_cases h93 : s[k] = 93
      · have c1 : ((s[k].toNat : Int) == 93) = true := u8_is h93
        have hm := (HCL.out.symm.trans (by rw [HD.out, h93])).trans (cls_close ((bl s).drop (k + 1)) k p)
        have HM := Lib.hid hm
        clear hm h93
        go_wp2_with fail
        refine (closed_any (w.heap.size + 1) p f k _ HPA.out (by omega) (by omega)).mono ?_
        rw [← HM.out]
        rintro e w1 ⟨rfl, hb⟩
        unfold pieceV
        first | (rename_i hK; refine hK _ _ ?_) | (rename_i hK _; refine hK _ _ ?_) | (rename_i hK _ _; refine hK _ _ ?_) | (rename_i hK _ _ _; refine hK _ _ ?_)
        have HA := Lib.hid (HAT.out.below hb HAT.out.lt)
        refine wpList_store_at rfl _ _ _ rfl rfl w.heap.size _ _ [_, _, _, _] rfl rfl HA.out 4 Tryd.sizePiece rfl rfl rfl ?_
        intro w2 hat hg
        go_wp2_with fail
        exact bodyPost_ret (results_cell_row rfl _ _ w.heap.size _ _ (0, 0) _ rfl hat Tryd.underlying77 rfl Tryd.sizePiece) rfl ⟨rfl, below_grown (HBEL.out.trans (hb.mono HBEL.out.size)) hg (by have := hb.size; have := HBEL.out.size; omega) (Nat.le_refl _)⟩
      · have c1 : ((s[k].toNat : Int) == 93) = false := u8_ne h93
        by_cases h10 : s[k] = 10
        · have c2 : ((s[k].toNat : Int) == 10) = true := u8_is h10
          have hm := (HCL.out.symm.trans (by rw [HD.out, h10])).trans (cls_lf ((bl s).drop (k + 1)) k p)
          have HM := Lib.hid hm
          clear hm h93 h10
          go_wp2_with fail
          refine (fault_any 11 0 _).mono ?_
          rintro e w1 ⟨rfl, hb⟩
          first | (rename_i hK; refine hK _ _ ?_) | (rename_i hK _; refine hK _ _ ?_) | (rename_i hK _ _; refine hK _ _ ?_) | (rename_i hK _ _ _; refine hK _ _ ?_)
          have HA := Lib.hid (HAT.out.below hb HAT.out.lt)
          refine wpList_store_at rfl _ _ _ rfl rfl w.heap.size _ _ [_, _, _, _] rfl rfl HA.out 4 Tryd.sizePiece rfl rfl rfl ?_
          intro w2 hat hg
          go_wp2_with fail
          exact bodyPost_ret (results_cell_row rfl _ _ w.heap.size _ _ (0, 0) _ rfl hat Tryd.underlying77 rfl Tryd.sizePiece) rfl ⟨by rw [HM.out]; rfl, below_grown (HBEL.out.trans (hb.mono HBEL.out.size)) hg (by have := hb.size; have := HBEL.out.size; omega) (Nat.le_refl _)⟩
        · have c2 : ((s[k].toNat : Int) == 10) = false := u8_ne h10
          by_cases h45 : s[k] = 45 ∧ p.dash = 0
          · have c3 : ((s[k].toNat : Int) == 45) = true := u8_is h45.1
            have hd0 := h45.2
            rw [hd0] at c8
            cases hsi : p.single with
            | none =>
              have hm := (HCL.out.symm.trans (by rw [HD.out, h45.1])).trans (cls_dash0 ((bl s).drop (k + 1)) k p hd0 hsi)
              have HM := Lib.hid hm
              rw [hsi] at c6
              simp only [Option.isSome_none] at c6
              clear hm h93 h10 h45 hd0 hsi
              go_wp2_with fail
              refine (fault_any 10 k _).mono ?_
              rintro e w1 ⟨rfl, hb⟩
              first | (rename_i hK; refine hK _ _ ?_) | (rename_i hK _; refine hK _ _ ?_) | (rename_i hK _ _; refine hK _ _ ?_) | (rename_i hK _ _ _; refine hK _ _ ?_)
              have HA := Lib.hid (HAT.out.below hb HAT.out.lt)
              refine wpList_store_at rfl _ _ _ rfl rfl w.heap.size _ _ [_, _, _, _] rfl rfl HA.out 4 Tryd.sizePiece rfl rfl rfl ?_
              intro w2 hat hg
              go_wp2_with fail
              exact bodyPost_ret (results_cell_row rfl _ _ w.heap.size _ _ (0, 0) _ rfl hat Tryd.underlying77 rfl Tryd.sizePiece) rfl ⟨by rw [HM.out]; rfl, below_grown (HBEL.out.trans (hb.mono HBEL.out.size)) hg (by have := hb.size; have := HBEL.out.size; omega) (Nat.le_refl _)⟩
            | some x =>
              have hne : p.single ≠ none := by rw [hsi]; simp
              have hm := (HCL.out.symm.trans (by rw [HD.out, h45.1])).trans (cls_dash1 ((bl s).drop (k + 1)) k p hd0 hne)
              have HM := Lib.hid hm
              have HNE := Lib.hid hne
              rw [hsi] at c6
              simp only [Option.isSome_some] at c6
              clear hm h93 h10 h45 hd0 hsi hne
              go_wp2_with fail
              go_roundw
              case rel => exact ⟨k + 1, { p with dash := k }, f, by omega, by go_num, by simp, by simp; omega, HM.out.symm, HPA.out.dashed HNE.out k, HAT.out.far (by simp) _, HBEL.out.setCell (by simp) _⟩
              case measure => simp [intOf]; omega
          · have H45 := Lib.hid h45
            by_cases h92 : s[k] = 92
            · have c3 : ((s[k].toNat : Int) == 45) = false := by rw [h92]; rfl
              have c4 : ((s[k].toNat : Int) == 92) = true := u8_is h92
              have hm := (HCL.out.symm.trans (by rw [HD.out, h92])).trans (cls_esc ((bl s).drop (k + 1)) k p)
              have HM := Lib.hid hm
              clear hm h93 h10 h45 h92
              have hz : (s.extract (k + 1) s.size).size ≤ 9223372036854775807 := by rw [size_ext s _ _ (by omega) (by omega)]; omega
              have hsz := HBEL.out.size
              rcases hev : escV 4 ((bl s).drop (k + 1)) with ⟨b, ok⟩
              have HEV := Lib.hid hev
              have HM2 : Hid (st = if ok = true then putS p b (((bl s).drop (k + 1)).drop 1) (k + 2) else .bad 10 k) := Lib.hid (by rw [HM.out, hev])
              clear hev
              cases ok with
              | false =>
                go_wp2_with fail
                refine (escaped_any 4 _ _ (.inr rfl) hz (HT.out.below HBEL.out h0) (by omega)).mono ?_
                rw [bl_end, HEV.out]
                rintro e w1 ⟨rfl, hb0⟩
                have HAT1 := Lib.hid (HAT.out.below hb0 HAT.out.lt)
                have HBEL1 := Lib.hid (HBEL.out.trans (hb0.mono HBEL.out.size))
                clear hb0 c6 c8 f0
                go_wp2_with fail
                refine (fault_any 10 k _).mono ?_
                rintro e w1 ⟨rfl, hb⟩
                first | (rename_i hK; refine hK _ _ ?_) | (rename_i hK _; refine hK _ _ ?_) | (rename_i hK _ _; refine hK _ _ ?_) | (rename_i hK _ _ _; refine hK _ _ ?_)
                have HA := Lib.hid (HAT1.out.below hb HAT1.out.lt)
                refine wpList_store_at rfl _ _ _ rfl rfl w.heap.size _ _ [_, _, _, _] rfl rfl HA.out 4 Tryd.sizePiece rfl rfl rfl ?_
                intro w2 hat hg
                go_wp2_with fail
                exact bodyPost_ret (results_cell_row rfl _ _ w.heap.size _ _ (0, 0) _ rfl hat Tryd.underlying77 rfl Tryd.sizePiece) rfl ⟨by rw [HM2.out]; rfl, below_grown (HBEL1.out.trans (hb.mono HBEL1.out.size)) hg (by have := hb.size; have := HBEL1.out.size; omega) (Nat.le_refl _)⟩
              | true =>
                have HM3 : Hid (st = putS p b ((bl s).drop (k + 2)) (k + 2)) := Lib.hid (by rw [HM2.out, if_pos rfl, List.drop_drop])
                go_wp2_with fail
                refine (escaped_any 4 _ _ (.inr rfl) hz (HT.out.below HBEL.out h0) (by omega)).mono ?_
                rw [bl_end, HEV.out]
                rintro e w1 ⟨rfl, hb0⟩
                have HAT1 := Lib.hid (HAT.out.below hb0 HAT.out.lt)
                have HBEL1 := Lib.hid (HBEL.out.trans (hb0.mono HBEL.out.size))
                have HPA1 := Lib.hid (HPA.out.below hb0 HPA.out.at_.lt)
                clear hb0 c6 c8 f0
                cases hput : p.put b with
                | none =>
                  have HP2 : Hid (st = .bad 10 p.dash) := Lib.hid (by rw [HM3.out, putS_none hput])
                  have HPUT := Lib.hid hput
                  clear hput
                  have d8 := HPA1.out.c258
                  go_wp2_with fail
                  refine (add_none _ p f b _ HPA1.out (by omega) HPUT.out).mono ?_
                  rintro e w2 ⟨rfl, rfl⟩
                  go_wp2_with fail
                  refine (fault_any 10 p.dash _).mono ?_
                  rintro e w1 ⟨rfl, hb⟩
                  first | (rename_i hK; refine hK _ _ ?_) | (rename_i hK _; refine hK _ _ ?_) | (rename_i hK _ _; refine hK _ _ ?_) | (rename_i hK _ _ _; refine hK _ _ ?_)
                  have HA := Lib.hid (HAT1.out.below hb HAT1.out.lt)
                  refine wpList_store_at rfl _ _ _ rfl rfl w.heap.size _ _ [_, _, _, _] rfl rfl HA.out 4 Tryd.sizePiece rfl rfl rfl ?_
                  intro w2 hat hg
                  go_wp2_with fail
                  exact bodyPost_ret (results_cell_row rfl _ _ w.heap.size _ _ (0, 0) _ rfl hat Tryd.underlying77 rfl Tryd.sizePiece) rfl ⟨by rw [HP2.out]; rfl, below_grown (HBEL1.out.trans (hb.mono HBEL1.out.size)) hg (by have := hb.size; have := HBEL1.out.size; omega) (Nat.le_refl _)⟩
                | some q =>
                  have HP2 : Hid (st = cls ((bl s).drop (k + 2)) (k + 2) q) := Lib.hid (by rw [HM3.out, putS_some hput])
                  have hq0 := put_dash hput
                  have HPUT := Lib.hid hput
                  have HQ0 := Lib.hid hq0
                  clear hput hq0
                  go_wp2_with fail
                  refine (add_some _ p q f b _ HPA1.out (by omega) HPUT.out).mono ?_
                  rintro e w2 ⟨rfl, ⟨f', hpp⟩, hgg⟩
                  have HPP := Lib.hid hpp
                  have HAT2 := Lib.hid (HAT1.out.grown hgg (by simp))
                  have HBEL2 := Lib.hid (below_grown HBEL1.out hgg HBEL1.out.size (by omega))
                  clear hpp hgg
                  go_wp2_with fail
                  go_roundw
                  case rel => exact ⟨k + 2, q, f', by omega, by first | go_num | (congr 1; omega), by rw [HQ0.out]; omega, by rw [HQ0.out]; omega, HP2.out.symm, HPP.out, HAT2.out, HBEL2.out⟩
                  case measure => simp [intOf]; omega
            · have c4 : ((s[k].toNat : Int) == 92) = false := u8_ne h92
              have hm := (HCL.out.symm.trans (by rw [HD.out])).trans (cls_else ((bl s).drop (k + 1)) k p h93 h10 h45 h92)
              have HM := Lib.hid hm
              clear hm h93 h10 h92
              by_cases hc45 : s[k] = 45
              · have c3 : ((s[k].toNat : Int) == 45) = true := u8_is hc45
                have hdn : ((p.dash : Int) == 0) = false := by
                  rw [beq_eq_false_iff_ne]; intro e; exact h45 ⟨hc45, by omega⟩
                clear h45 hc45
                cases hput : p.put s[k] with
                | none =>
                  have HP2 : Hid (st = .bad 10 p.dash) := Lib.hid (by rw [HM.out, putS_none hput])
                  have HPUT := Lib.hid hput
                  clear hput
                  have d8 := HPA.out.c258
                  go_wp2_with fail
                  refine (add_none _ p f s[k] _ HPA.out (by omega) HPUT.out).mono ?_
                  rintro e w2 ⟨rfl, rfl⟩
                  go_wp2_with fail
                  refine (fault_any 10 p.dash _).mono ?_
                  rintro e w1 ⟨rfl, hb⟩
                  first | (rename_i hK; refine hK _ _ ?_) | (rename_i hK _; refine hK _ _ ?_) | (rename_i hK _ _; refine hK _ _ ?_) | (rename_i hK _ _ _; refine hK _ _ ?_)
                  have HA := Lib.hid (HAT.out.below hb HAT.out.lt)
                  refine wpList_store_at rfl _ _ _ rfl rfl w.heap.size _ _ [_, _, _, _] rfl rfl HA.out 4 Tryd.sizePiece rfl rfl rfl ?_
                  intro w2 hat hg
                  go_wp2_with fail
                  exact bodyPost_ret (results_cell_row rfl _ _ w.heap.size _ _ (0, 0) _ rfl hat Tryd.underlying77 rfl Tryd.sizePiece) rfl ⟨by rw [HP2.out]; rfl, below_grown (HBEL.out.trans (hb.mono HBEL.out.size)) hg (by have := hb.size; have := HBEL.out.size; omega) (Nat.le_refl _)⟩
                | some q =>
                  have HP2 : Hid (st = cls ((bl s).drop (k + 1)) (k + 1) q) := Lib.hid (by rw [HM.out, putS_some hput])
                  have hq0 := put_dash hput
                  have HPUT := Lib.hid hput
                  have HQ0 := Lib.hid hq0
                  clear hput hq0
                  go_wp2_with fail
                  refine (add_some _ p q f s[k] _ HPA.out (by omega) HPUT.out).mono ?_
                  rintro e w2 ⟨rfl, ⟨f', hpp⟩, hgg⟩
                  have HPP := Lib.hid hpp
                  have HAT2 := Lib.hid (HAT.out.grown hgg (by simp))
                  have HBEL2 := Lib.hid (below_grown HBEL.out hgg HBEL.out.size (by omega))
                  clear hpp hgg
                  go_wp2_with fail
                  go_roundw
                  case rel => exact ⟨k + 1, q, f', by omega, by first | go_num | (congr 1; omega), by rw [HQ0.out]; omega, by rw [HQ0.out]; omega, HP2.out.symm, HPP.out, HAT2.out, HBEL2.out⟩
                  case measure => simp [intOf]; omega
              · have c3 : ((s[k].toNat : Int) == 45) = false := u8_ne hc45
                clear h45 hc45
                cases hput : p.put s[k] with
                | none =>
                  have HP2 : Hid (st = .bad 10 p.dash) := Lib.hid (by rw [HM.out, putS_none hput])
                  have HPUT := Lib.hid hput
                  clear hput
                  have d8 := HPA.out.c258
                  go_wp2_with fail
                  refine (add_none _ p f s[k] _ HPA.out (by omega) HPUT.out).mono ?_
                  rintro e w2 ⟨rfl, rfl⟩
                  go_wp2_with fail
                  refine (fault_any 10 p.dash _).mono ?_
                  rintro e w1 ⟨rfl, hb⟩
                  first | (rename_i hK; refine hK _ _ ?_) | (rename_i hK _; refine hK _ _ ?_) | (rename_i hK _ _; refine hK _ _ ?_) | (rename_i hK _ _ _; refine hK _ _ ?_)
                  have HA := Lib.hid (HAT.out.below hb HAT.out.lt)
                  refine wpList_store_at rfl _ _ _ rfl rfl w.heap.size _ _ [_, _, _, _] rfl rfl HA.out 4 Tryd.sizePiece rfl rfl rfl ?_
                  intro w2 hat hg
                  go_wp2_with fail
                  exact bodyPost_ret (results_cell_row rfl _ _ w.heap.size _ _ (0, 0) _ rfl hat Tryd.underlying77 rfl Tryd.sizePiece) rfl ⟨by rw [HP2.out]; rfl, below_grown (HBEL.out.trans (hb.mono HBEL.out.size)) hg (by have := hb.size; have := HBEL.out.size; omega) (Nat.le_refl _)⟩
                | some q =>
                  have HP2 : Hid (st = cls ((bl s).drop (k + 1)) (k + 1) q) := Lib.hid (by rw [HM.out, putS_some hput])
                  have hq0 := put_dash hput
                  have HPUT := Lib.hid hput
                  have HQ0 := Lib.hid hq0
                  clear hput hq0
                  go_wp2_with fail
                  refine (add_some _ p q f s[k] _ HPA.out (by omega) HPUT.out).mono ?_
                  rintro e w2 ⟨rfl, ⟨f', hpp⟩, hgg⟩
                  have HPP := Lib.hid hpp
                  have HAT2 := Lib.hid (HAT.out.grown hgg (by simp))
                  have HBEL2 := Lib.hid (below_grown HBEL.out hgg HBEL.out.size (by omega))
                  clear hpp hgg
                  go_wp2_with fail
                  go_roundw
                  case rel => exact ⟨k + 1, q, f', by omega, by first | go_num | (congr 1; omega), by rw [HQ0.out]; omega, by rw [HQ0.out]; omega, HP2.out.symm, HPP.out, HAT2.out, HBEL2.out⟩
                  case measure => simp [intOf]; omega
    · have e : (bl s).drop k = [] := List.drop_of_length_le (by rw [bl_length]; omega)
      have ha := HCL.out
      rw [e, cls_end] at ha
      have HM := Lib.hid ha
      clear ha e
      go_wp2_with fail
      refine (fault_any 11 0 _).mono ?_
      rintro e w1 ⟨rfl, hb⟩
      first | (rename_i hK; refine hK _ _ ?_) | (rename_i hK _; refine hK _ _ ?_) | (rename_i hK _ _; refine hK _ _ ?_) | (rename_i hK _ _ _; refine hK _ _ ?_)
      have HA := Lib.hid (HAT.out.below hb HAT.out.lt)
      refine wpList_store_at rfl _ _ _ rfl rfl w.heap.size _ _ [_, _, _, _] rfl rfl HA.out 4 Tryd.sizePiece rfl rfl rfl ?_
      intro w2 hat hg
      go_wp2_with fail
      exact bodyPost_ret (results_cell_row rfl _ _ w.heap.size _ _ (0, 0) _ rfl hat Tryd.underlying77 rfl Tryd.sizePiece) rfl ⟨by rw [← HM.out]; rfl, below_grown (HBEL.out.trans (hb.mono HBEL.out.size)) hg (by have := hb.size; have := HBEL.out.size; omega) (Nat.le_refl _)⟩

end Go.Proofs.YtgmihbfikggkjaaDoor
