/-
  The walk of tronageref05's word.
-/
import Derived.Test.YtcchljghlgnkkaaDoorLyB
namespace Go.Proofs.YtcchljghlgnkkaaDoor
open Go.RowKit
open Lx
set_option linter.unusedVariables false
set_option linter.unusedSimpArgs false

theorem small_eq (c : UInt8) : isSmall c = (decide (97 ≤ (c.toNat : Int)) && decide ((c.toNat : Int) ≤ 122)) := by
  unfold isSmall; rw [Bool.eq_iff_iff]; simp [UInt8.le_iff_toNat_le]; omega
theorem word_yes {r : List UInt8} (h : wordOf r ∈ words) : word r = .mark 2 (wordOf r) (1 + (wordOf r).length) := by unfold word; rw [if_pos h]
theorem word_no {r : List UInt8} (h : wordOf r ∉ words) : word r = .bad 10 0 := by unfold word; rw [if_neg h]

set_option maxHeartbeats 4000000 in
theorem rword_any (s : ByteArray) (i0 : Nat) (w : World) (hs : s.size ≤ 4000) (hi : i0 < s.size) :
    Calls Tryd.prog 38 #[.string s, .int .i64 (i0 : Int)] w fun e w' => e = .returned (foundV i0 (word ((bl s).drop (i0 + 1)))) ∧ Below w.heap.size w w' := by
  generalize hr : (bl s).drop (i0 + 1) = r
  have HR := Lib.hid hr
  clear hr
  go_enter Tryd.func38, Tryd.ntmps38
  have HF0 := Lib.hid (At.new w 52 #[.int .i64 0, .string ⟨#[]⟩, .int .i64 0, .int .i64 0, .int .i64 0])
  have HB0 := Lib.hid ((Below.refl w.heap.size w).alloc (Nat.le_refl _) (.cells #[.int .i64 0, .string ⟨#[]⟩, .int .i64 0, .int .i64 0, .int .i64 0] 52))
  by_cases hpc : ∃ h : i0 + 1 < s.size, s[i0 + 1] = 37
  · obtain ⟨hlt, h37⟩ := hpc
    have c1 : ((s[i0 + 1].toNat : Int) == 37) = true := u8_is h37
    have hj : ((i0 : Int) + 1).toNat = i0 + 1 := by omega
    have hl : (i0 : Int) + 1 < (s.size : Int) := by omega
    have hw : bl ⟨#[37]⟩ = wordOf r := by
      rw [← HR.out, bl_drop s (i0 + 1) hlt, h37]; rfl
    obtain ⟨T, hT⟩ : ∃ T : ByteArray, T = ⟨#[37]⟩ := ⟨_, rfl⟩
    have hTs : T.size ≤ 4000 := by rw [hT]; decide
    rw [← hT] at hw
    have HW := Lib.hid hw
    have HTT := Lib.hid hT
    clear hw h37 hT
    go_wp2_with fail
    generalize hW1 : w.alloc (.cells #[.int .i64 0, .string ⟨#[]⟩, .int .i64 0, .int .i64 0, .int .i64 0] 52) = W1 at HF0 HB0 ⊢
    rw [← HTT.out]
    go_wp2_with fail
    refine (words2_any _).mono ?_
    rintro e w' ⟨rfl, rfl⟩
    have HWA := Lib.hid (show WordsAt (W1.alloc (.cells wordsCells 9)) (W1).heap.size from At.new _ _ _)
    have HAT3 := Lib.hid (HF0.out.alloc (.cells wordsCells 9))
    have HB3 := Lib.hid (HB0.out.alloc HB0.out.size (.cells wordsCells 9))
    go_wp2_with fail
    generalize (W1.alloc (.cells wordsCells 9)) = W3 at HWA HAT3 HB3 ⊢
    generalize (W1).heap.size = gw at HWA ⊢
    have h3f := HAT3.out.lt
    go_loop [8] (fun i => ∃ k : Nat, k ≤ 8 ∧ i = .int .i64 (k : Int) ∧ ∀ j, j < k → wordAt j ≠ bl T) (fun i => 8 - (intOf i).toNat)
    case atStart => exact ⟨0, by omega, rfl, fun j hj => by omega⟩
    case round =>
      obtain ⟨k8, hk8, rfl, hno⟩ := hrel
      have HNO := Lib.hid hno
      clear hno
      by_cases hlt8 : k8 < 8
      · have cc := HWA.out.cell hlt8
        have hki : (k8 : Int) < 8 := by omega
        have hk0 : (0 : Int) ≤ (k8 : Int) := by omega
        have hbq : ((str (wordAt k8)).toList == (T).toList) = (wordAt k8 == bl T) := by rw [toList_eq, toList_eq, bl_str]
        by_cases heq : wordAt k8 = bl T
        · have hq : ((str (wordAt k8)).toList == (T).toList) = true := by rw [hbq, heq]; simp
          have hmem : wordOf r ∈ words := by rw [← HW.out]; exact mem_words.2 ⟨k8, hlt8, heq⟩
          have HM := Lib.hid (word_yes hmem)
          have hif8 : ((T).size : Int) ≤ 4000 := by omega
          generalize str (wordAt k8) = SW at cc hq
          clear hbq heq hmem
          have cd0 := HAT3.out.cell 0
          have cd1 := HAT3.out.cell 1
          have cd2 := HAT3.out.cell 2
          have cd3 := HAT3.out.cell 3
          have cd4 := HAT3.out.cell 4
          have cdf := HAT3.out.frozen
          simp only [List.getElem?_toArray, List.getElem?_cons_zero, List.getElem?_cons_succ] at cd0 cd1 cd2 cd3 cd4
          go_wp2_with fail
          refine bodyPost_ret (results_cell_row rfl _ _ w.heap.size _ _ (0, 0) _ rfl (HAT3.out.five _ _ _ _ _) Tryd.underlying52 rfl Tryd.sizeFound) rfl ⟨?_, below_grown HB3.out (grown_five _ _ _ _ _ _ _) HB3.out.size (Nat.le_refl _)⟩
          rw [HM.out, foundV_mark, ← HW.out, str_bl, bl_length, show i0 + (1 + (T).size) = i0 + 1 + (T).size by omega]
          rfl
        · have hq : ((str (wordAt k8)).toList == (T).toList) = false := by rw [hbq, beq_eq_false_iff_ne]; exact heq
          have HEQ := Lib.hid heq
          generalize str (wordAt k8) = SW at cc hq
          clear hbq heq
          go_wp2_with fail
          go_round
          case rel => exact ⟨k8 + 1, by omega, by go_num, fun j hj => by
            by_cases e : j = k8
            · subst e; exact HEQ.out
            · exact HNO.out j (by omega)⟩
          case measure => simp [intOf]; omega
      · obtain rfl : k8 = 8 := by omega
        have hmem : wordOf r ∉ words := by
          rw [← HW.out]
          intro h
          obtain ⟨j, hj, e⟩ := mem_words.1 h
          exact HNO.out j hj e
        have HM := Lib.hid (word_no hmem)
        clear hmem
        go_wp2_with fail
        refine (bad_any 10 i0 _).mono ?_
        rintro e w1 ⟨rfl, hb⟩
        first | (rename_i hK; refine hK _ _ ?_) | (rename_i hK _; refine hK _ _ ?_) | (rename_i hK _ _; refine hK _ _ ?_) | (rename_i hK _ _ _; refine hK _ _ ?_)
        have HA := Lib.hid (HAT3.out.below hb HAT3.out.lt)
        refine wpList_store_at rfl _ _ _ rfl rfl w.heap.size _ _ [_, _, _, _, _] rfl rfl HA.out 5 Tryd.sizeFound rfl rfl rfl ?_
        intro w2 hat hg
        go_wp2_with fail
        exact bodyPost_ret (results_cell_row rfl _ _ w.heap.size _ _ (0, 0) _ rfl hat Tryd.underlying52 rfl Tryd.sizeFound) rfl ⟨by rw [HM.out]; rfl, below_grown (HB3.out.trans (hb.mono HB3.out.size)) hg (by have := hb.size; have := HB3.out.size; omega) (Nat.le_refl _)⟩
  · have hw0 : wordOf r = r.takeWhile isSmall := by
      unfold wordOf
      rw [if_neg]
      intro h
      apply hpc
      by_cases hlt : i0 + 1 < s.size
      · refine ⟨hlt, ?_⟩
        rw [← HR.out, bl_drop s (i0 + 1) hlt] at h
        simpa using h
      · rw [← HR.out, List.drop_of_length_le (by rw [bl_length]; omega)] at h
        cases h
    have HW0 := Lib.hid hw0
    have hj : ((i0 : Int) + 1).toNat = i0 + 1 := by omega
    have hcase : (s.size ≤ i0 + 1) ∨ ∃ h : i0 + 1 < s.size, s[i0 + 1] ≠ 37 := by
      by_cases hlt : i0 + 1 < s.size
      · exact .inr ⟨hlt, fun e => hpc ⟨hlt, e⟩⟩
      · exact .inl (by omega)
    clear hpc hw0
    rcases hcase with hc | ⟨hlt0, hc⟩
    · have hc1 : (s.size : Int) ≤ (i0 : Int) + 1 := by omega
      go_wp2_with fail
      generalize hW1 : w.alloc (.cells #[.int .i64 0, .string ⟨#[]⟩, .int .i64 0, .int .i64 0, .int .i64 0] 52) = W1 at HF0 HB0 ⊢
      go_loop [5, 6] (fun vt vi => ∃ (k : Nat) (tt : ByteArray), vt = .string tt ∧ vi = .int .i64 (k : Int) ∧ i0 < k ∧ k ≤ s.size ∧ tt.size ≤ k ∧ bl tt ++ ((bl s).drop k).takeWhile isSmall = r.takeWhile isSmall) (fun _ i => s.size - (intOf i).toNat)
      case atStart => exact ⟨i0 + 1, _, rfl, by go_num, by omega, by omega, Nat.zero_le _, by rw [HR.out]; rfl⟩
      case round =>
        obtain ⟨k, tt, rfl, rfl, hik, hks, htk, htw⟩ := hrel
        have HTW := Lib.hid htw
        clear htw
        by_cases hlt : k < s.size
        · exfalso; omega
        · have hd : (bl s).drop k = [] := List.drop_of_length_le (by rw [bl_length]; omega)
          have hw : bl tt = wordOf r := by rw [HW0.out, ← HTW.out, hd]; simp
          have HW := Lib.hid hw
          have hks' : (s.size : Int) ≤ (k : Int) := by omega
          have hTs : tt.size ≤ 4000 := by omega
          clear hd hw
          go_wp2_with fail
          refine (words2_any _).mono ?_
          rintro e w' ⟨rfl, rfl⟩
          have HWA := Lib.hid (show WordsAt (W1.alloc (.cells wordsCells 9)) (W1).heap.size from At.new _ _ _)
          have HAT3 := Lib.hid (HF0.out.alloc (.cells wordsCells 9))
          have HB3 := Lib.hid (HB0.out.alloc HB0.out.size (.cells wordsCells 9))
          go_wp2_with fail
          generalize (W1.alloc (.cells wordsCells 9)) = W3 at HWA HAT3 HB3 ⊢
          generalize (W1).heap.size = gw at HWA ⊢
          have h3f := HAT3.out.lt
          go_loop [8] (fun i => ∃ k : Nat, k ≤ 8 ∧ i = .int .i64 (k : Int) ∧ ∀ j, j < k → wordAt j ≠ bl tt) (fun i => 8 - (intOf i).toNat)
          case atStart => exact ⟨0, by omega, rfl, fun j hj => by omega⟩
          case round =>
            obtain ⟨k8, hk8, rfl, hno⟩ := hrel
            have HNO := Lib.hid hno
            clear hno
            by_cases hlt8 : k8 < 8
            · have cc := HWA.out.cell hlt8
              have hki : (k8 : Int) < 8 := by omega
              have hk0 : (0 : Int) ≤ (k8 : Int) := by omega
              have hbq : ((str (wordAt k8)).toList == (tt).toList) = (wordAt k8 == bl tt) := by rw [toList_eq, toList_eq, bl_str]
              by_cases heq : wordAt k8 = bl tt
              · have hq : ((str (wordAt k8)).toList == (tt).toList) = true := by rw [hbq, heq]; simp
                have hmem : wordOf r ∈ words := by rw [← HW.out]; exact mem_words.2 ⟨k8, hlt8, heq⟩
                have HM := Lib.hid (word_yes hmem)
                have hif8 : ((tt).size : Int) ≤ 4000 := by omega
                generalize str (wordAt k8) = SW at cc hq
                clear hbq heq hmem
                have cd0 := HAT3.out.cell 0
                have cd1 := HAT3.out.cell 1
                have cd2 := HAT3.out.cell 2
                have cd3 := HAT3.out.cell 3
                have cd4 := HAT3.out.cell 4
                have cdf := HAT3.out.frozen
                simp only [List.getElem?_toArray, List.getElem?_cons_zero, List.getElem?_cons_succ] at cd0 cd1 cd2 cd3 cd4
                go_wp2_with fail
                refine bodyPost_ret (results_cell_row rfl _ _ w.heap.size _ _ (0, 0) _ rfl (HAT3.out.five _ _ _ _ _) Tryd.underlying52 rfl Tryd.sizeFound) rfl ⟨?_, below_grown HB3.out (grown_five _ _ _ _ _ _ _) HB3.out.size (Nat.le_refl _)⟩
                rw [HM.out, foundV_mark, ← HW.out, str_bl, bl_length, show i0 + (1 + (tt).size) = i0 + 1 + (tt).size by omega]
                rfl
              · have hq : ((str (wordAt k8)).toList == (tt).toList) = false := by rw [hbq, beq_eq_false_iff_ne]; exact heq
                have HEQ := Lib.hid heq
                generalize str (wordAt k8) = SW at cc hq
                clear hbq heq
                go_wp2_with fail
                go_round
                case rel => exact ⟨k8 + 1, by omega, by go_num, fun j hj => by
                  by_cases e : j = k8
                  · subst e; exact HEQ.out
                  · exact HNO.out j (by omega)⟩
                case measure => simp [intOf]; omega
            · obtain rfl : k8 = 8 := by omega
              have hmem : wordOf r ∉ words := by
                rw [← HW.out]
                intro h
                obtain ⟨j, hj, e⟩ := mem_words.1 h
                exact HNO.out j hj e
              have HM := Lib.hid (word_no hmem)
              clear hmem
              go_wp2_with fail
              refine (bad_any 10 i0 _).mono ?_
              rintro e w1 ⟨rfl, hb⟩
              first | (rename_i hK; refine hK _ _ ?_) | (rename_i hK _; refine hK _ _ ?_) | (rename_i hK _ _; refine hK _ _ ?_) | (rename_i hK _ _ _; refine hK _ _ ?_)
              have HA := Lib.hid (HAT3.out.below hb HAT3.out.lt)
              refine wpList_store_at rfl _ _ _ rfl rfl w.heap.size _ _ [_, _, _, _, _] rfl rfl HA.out 5 Tryd.sizeFound rfl rfl rfl ?_
              intro w2 hat hg
              go_wp2_with fail
              exact bodyPost_ret (results_cell_row rfl _ _ w.heap.size _ _ (0, 0) _ rfl hat Tryd.underlying52 rfl Tryd.sizeFound) rfl ⟨by rw [HM.out]; rfl, below_grown (HB3.out.trans (hb.mono HB3.out.size)) hg (by have := hb.size; have := HB3.out.size; omega) (Nat.le_refl _)⟩
    · have hc1 : (i0 : Int) + 1 < (s.size : Int) := by omega
      have hc2 : ((s[i0 + 1].toNat : Int) == 37) = false := u8_ne hc
      clear hc
      go_wp2_with fail
      generalize hW1 : w.alloc (.cells #[.int .i64 0, .string ⟨#[]⟩, .int .i64 0, .int .i64 0, .int .i64 0] 52) = W1 at HF0 HB0 ⊢
      go_loop [5, 6] (fun vt vi => ∃ (k : Nat) (tt : ByteArray), vt = .string tt ∧ vi = .int .i64 (k : Int) ∧ i0 < k ∧ k ≤ s.size ∧ tt.size ≤ k ∧ bl tt ++ ((bl s).drop k).takeWhile isSmall = r.takeWhile isSmall) (fun _ i => s.size - (intOf i).toNat)
      case atStart => exact ⟨i0 + 1, _, rfl, by go_num, by omega, by omega, Nat.zero_le _, by rw [HR.out]; rfl⟩
      case round =>
        obtain ⟨k, tt, rfl, rfl, hik, hks, htk, htw⟩ := hrel
        have HTW := Lib.hid htw
        clear htw
        by_cases hlt : k < s.size
        · have HD := Lib.hid (bl_drop s k hlt)
          obtain ⟨c, hc⟩ : ∃ c, s[k] = c := ⟨_, rfl⟩
          have HC := Lib.hid hc
          have hki : (k : Int) < (s.size : Int) := by omega
          by_cases h1 : 97 ≤ (c.toNat : Int)
          · by_cases h2 : (c.toNat : Int) ≤ 122
            · have hsm : isSmall c = true := by rw [small_eq]; simp [h1, h2]
              obtain ⟨E, hE⟩ : ∃ E, s.extract k (k + 1) = E := ⟨_, rfl⟩
              have hEs : E.size = 1 := by rw [← hE, size_ext _ _ _ (by omega) (by omega)]; omega
              have hEb : bl E = [c] := by rw [← hE, ext_one s k hlt, bl_str, HC.out]
              have HE := Lib.hid hEb
              have HSM := Lib.hid hsm
              have hif : ¬ (9223372036854775807 < tt.size + E.size) := by omega
              have hk1 : ((k : Int) + 1).toNat = k + 1 := by omega
              clear hEb hsm
              go_wp2_with fail
              go_round
              case rel => exact ⟨k + 1, _, rfl, by go_num, by omega, by omega, by rw [ByteArray.size_append]; omega, by rw [← HTW.out, HD.out, HC.out, List.takeWhile_cons_of_pos HSM.out, bl_append, HE.out]; simp⟩
              case measure => simp [intOf]; omega
            · have hsm : ¬ isSmall c = true := by rw [small_eq]; simp; omega
              have hw : bl tt = wordOf r := by rw [HW0.out, ← HTW.out, HD.out, HC.out, List.takeWhile_cons_of_neg hsm]; simp
              have HW := Lib.hid hw
              have h2' : 122 < (c.toNat : Int) := by omega
              have hTs : tt.size ≤ 4000 := by omega
              clear hsm hw h2
              go_wp2_with fail
              refine (words2_any _).mono ?_
              rintro e w' ⟨rfl, rfl⟩
              have HWA := Lib.hid (show WordsAt (W1.alloc (.cells wordsCells 9)) (W1).heap.size from At.new _ _ _)
              have HAT3 := Lib.hid (HF0.out.alloc (.cells wordsCells 9))
              have HB3 := Lib.hid (HB0.out.alloc HB0.out.size (.cells wordsCells 9))
              go_wp2_with fail
              generalize (W1.alloc (.cells wordsCells 9)) = W3 at HWA HAT3 HB3 ⊢
              generalize (W1).heap.size = gw at HWA ⊢
              have h3f := HAT3.out.lt
              go_loop [8] (fun i => ∃ k : Nat, k ≤ 8 ∧ i = .int .i64 (k : Int) ∧ ∀ j, j < k → wordAt j ≠ bl tt) (fun i => 8 - (intOf i).toNat)
              case atStart => exact ⟨0, by omega, rfl, fun j hj => by omega⟩
              case round =>
                obtain ⟨k8, hk8, rfl, hno⟩ := hrel
                have HNO := Lib.hid hno
                clear hno
                by_cases hlt8 : k8 < 8
                · have cc := HWA.out.cell hlt8
                  have hki : (k8 : Int) < 8 := by omega
                  have hk0 : (0 : Int) ≤ (k8 : Int) := by omega
                  have hbq : ((str (wordAt k8)).toList == (tt).toList) = (wordAt k8 == bl tt) := by rw [toList_eq, toList_eq, bl_str]
                  by_cases heq : wordAt k8 = bl tt
                  · have hq : ((str (wordAt k8)).toList == (tt).toList) = true := by rw [hbq, heq]; simp
                    have hmem : wordOf r ∈ words := by rw [← HW.out]; exact mem_words.2 ⟨k8, hlt8, heq⟩
                    have HM := Lib.hid (word_yes hmem)
                    have hif8 : ((tt).size : Int) ≤ 4000 := by omega
                    generalize str (wordAt k8) = SW at cc hq
                    clear hbq heq hmem
                    have cd0 := HAT3.out.cell 0
                    have cd1 := HAT3.out.cell 1
                    have cd2 := HAT3.out.cell 2
                    have cd3 := HAT3.out.cell 3
                    have cd4 := HAT3.out.cell 4
                    have cdf := HAT3.out.frozen
                    simp only [List.getElem?_toArray, List.getElem?_cons_zero, List.getElem?_cons_succ] at cd0 cd1 cd2 cd3 cd4
                    go_wp2_with fail
                    refine bodyPost_ret (results_cell_row rfl _ _ w.heap.size _ _ (0, 0) _ rfl (HAT3.out.five _ _ _ _ _) Tryd.underlying52 rfl Tryd.sizeFound) rfl ⟨?_, below_grown HB3.out (grown_five _ _ _ _ _ _ _) HB3.out.size (Nat.le_refl _)⟩
                    rw [HM.out, foundV_mark, ← HW.out, str_bl, bl_length, show i0 + (1 + (tt).size) = i0 + 1 + (tt).size by omega]
                    rfl
                  · have hq : ((str (wordAt k8)).toList == (tt).toList) = false := by rw [hbq, beq_eq_false_iff_ne]; exact heq
                    have HEQ := Lib.hid heq
                    generalize str (wordAt k8) = SW at cc hq
                    clear hbq heq
                    go_wp2_with fail
                    go_round
                    case rel => exact ⟨k8 + 1, by omega, by go_num, fun j hj => by
                      by_cases e : j = k8
                      · subst e; exact HEQ.out
                      · exact HNO.out j (by omega)⟩
                    case measure => simp [intOf]; omega
                · obtain rfl : k8 = 8 := by omega
                  have hmem : wordOf r ∉ words := by
                    rw [← HW.out]
                    intro h
                    obtain ⟨j, hj, e⟩ := mem_words.1 h
                    exact HNO.out j hj e
                  have HM := Lib.hid (word_no hmem)
                  clear hmem
                  go_wp2_with fail
                  refine (bad_any 10 i0 _).mono ?_
                  rintro e w1 ⟨rfl, hb⟩
                  first | (rename_i hK; refine hK _ _ ?_) | (rename_i hK _; refine hK _ _ ?_) | (rename_i hK _ _; refine hK _ _ ?_) | (rename_i hK _ _ _; refine hK _ _ ?_)
                  have HA := Lib.hid (HAT3.out.below hb HAT3.out.lt)
                  refine wpList_store_at rfl _ _ _ rfl rfl w.heap.size _ _ [_, _, _, _, _] rfl rfl HA.out 5 Tryd.sizeFound rfl rfl rfl ?_
                  intro w2 hat hg
                  go_wp2_with fail
                  exact bodyPost_ret (results_cell_row rfl _ _ w.heap.size _ _ (0, 0) _ rfl hat Tryd.underlying52 rfl Tryd.sizeFound) rfl ⟨by rw [HM.out]; rfl, below_grown (HB3.out.trans (hb.mono HB3.out.size)) hg (by have := hb.size; have := HB3.out.size; omega) (Nat.le_refl _)⟩
          · have hsm : ¬ isSmall c = true := by rw [small_eq]; simp; omega
            have hw : bl tt = wordOf r := by rw [HW0.out, ← HTW.out, HD.out, HC.out, List.takeWhile_cons_of_neg hsm]; simp
            have HW := Lib.hid hw
            have h1' : (c.toNat : Int) < 97 := by omega
            have hTs : tt.size ≤ 4000 := by omega
            clear hsm hw h1
            go_wp2_with fail
            refine (words2_any _).mono ?_
            rintro e w' ⟨rfl, rfl⟩
            have HWA := Lib.hid (show WordsAt (W1.alloc (.cells wordsCells 9)) (W1).heap.size from At.new _ _ _)
            have HAT3 := Lib.hid (HF0.out.alloc (.cells wordsCells 9))
            have HB3 := Lib.hid (HB0.out.alloc HB0.out.size (.cells wordsCells 9))
            go_wp2_with fail
            generalize (W1.alloc (.cells wordsCells 9)) = W3 at HWA HAT3 HB3 ⊢
            generalize (W1).heap.size = gw at HWA ⊢
            have h3f := HAT3.out.lt
            go_loop [8] (fun i => ∃ k : Nat, k ≤ 8 ∧ i = .int .i64 (k : Int) ∧ ∀ j, j < k → wordAt j ≠ bl tt) (fun i => 8 - (intOf i).toNat)
            case atStart => exact ⟨0, by omega, rfl, fun j hj => by omega⟩
            case round =>
              obtain ⟨k8, hk8, rfl, hno⟩ := hrel
              have HNO := Lib.hid hno
              clear hno
              by_cases hlt8 : k8 < 8
              · have cc := HWA.out.cell hlt8
                have hki : (k8 : Int) < 8 := by omega
                have hk0 : (0 : Int) ≤ (k8 : Int) := by omega
                have hbq : ((str (wordAt k8)).toList == (tt).toList) = (wordAt k8 == bl tt) := by rw [toList_eq, toList_eq, bl_str]
                by_cases heq : wordAt k8 = bl tt
                · have hq : ((str (wordAt k8)).toList == (tt).toList) = true := by rw [hbq, heq]; simp
                  have hmem : wordOf r ∈ words := by rw [← HW.out]; exact mem_words.2 ⟨k8, hlt8, heq⟩
                  have HM := Lib.hid (word_yes hmem)
                  have hif8 : ((tt).size : Int) ≤ 4000 := by omega
                  generalize str (wordAt k8) = SW at cc hq
                  clear hbq heq hmem
                  have cd0 := HAT3.out.cell 0
                  have cd1 := HAT3.out.cell 1
                  have cd2 := HAT3.out.cell 2
                  have cd3 := HAT3.out.cell 3
                  have cd4 := HAT3.out.cell 4
                  have cdf := HAT3.out.frozen
                  simp only [List.getElem?_toArray, List.getElem?_cons_zero, List.getElem?_cons_succ] at cd0 cd1 cd2 cd3 cd4
                  go_wp2_with fail
                  refine bodyPost_ret (results_cell_row rfl _ _ w.heap.size _ _ (0, 0) _ rfl (HAT3.out.five _ _ _ _ _) Tryd.underlying52 rfl Tryd.sizeFound) rfl ⟨?_, below_grown HB3.out (grown_five _ _ _ _ _ _ _) HB3.out.size (Nat.le_refl _)⟩
                  rw [HM.out, foundV_mark, ← HW.out, str_bl, bl_length, show i0 + (1 + (tt).size) = i0 + 1 + (tt).size by omega]
                  rfl
                · have hq : ((str (wordAt k8)).toList == (tt).toList) = false := by rw [hbq, beq_eq_false_iff_ne]; exact heq
                  have HEQ := Lib.hid heq
                  generalize str (wordAt k8) = SW at cc hq
                  clear hbq heq
                  go_wp2_with fail
                  go_round
                  case rel => exact ⟨k8 + 1, by omega, by go_num, fun j hj => by
                    by_cases e : j = k8
                    · subst e; exact HEQ.out
                    · exact HNO.out j (by omega)⟩
                  case measure => simp [intOf]; omega
              · obtain rfl : k8 = 8 := by omega
                have hmem : wordOf r ∉ words := by
                  rw [← HW.out]
                  intro h
                  obtain ⟨j, hj, e⟩ := mem_words.1 h
                  exact HNO.out j hj e
                have HM := Lib.hid (word_no hmem)
                clear hmem
                go_wp2_with fail
                refine (bad_any 10 i0 _).mono ?_
                rintro e w1 ⟨rfl, hb⟩
                first | (rename_i hK; refine hK _ _ ?_) | (rename_i hK _; refine hK _ _ ?_) | (rename_i hK _ _; refine hK _ _ ?_) | (rename_i hK _ _ _; refine hK _ _ ?_)
                have HA := Lib.hid (HAT3.out.below hb HAT3.out.lt)
                refine wpList_store_at rfl _ _ _ rfl rfl w.heap.size _ _ [_, _, _, _, _] rfl rfl HA.out 5 Tryd.sizeFound rfl rfl rfl ?_
                intro w2 hat hg
                go_wp2_with fail
                exact bodyPost_ret (results_cell_row rfl _ _ w.heap.size _ _ (0, 0) _ rfl hat Tryd.underlying52 rfl Tryd.sizeFound) rfl ⟨by rw [HM.out]; rfl, below_grown (HB3.out.trans (hb.mono HB3.out.size)) hg (by have := hb.size; have := HB3.out.size; omega) (Nat.le_refl _)⟩
        · have hd : (bl s).drop k = [] := List.drop_of_length_le (by rw [bl_length]; omega)
          have hw : bl tt = wordOf r := by rw [HW0.out, ← HTW.out, hd]; simp
          have HW := Lib.hid hw
          have hks' : (s.size : Int) ≤ (k : Int) := by omega
          have hTs : tt.size ≤ 4000 := by omega
          clear hd hw
          go_wp2_with fail
          refine (words2_any _).mono ?_
          rintro e w' ⟨rfl, rfl⟩
          have HWA := Lib.hid (show WordsAt (W1.alloc (.cells wordsCells 9)) (W1).heap.size from At.new _ _ _)
          have HAT3 := Lib.hid (HF0.out.alloc (.cells wordsCells 9))
          have HB3 := Lib.hid (HB0.out.alloc HB0.out.size (.cells wordsCells 9))
          go_wp2_with fail
          generalize (W1.alloc (.cells wordsCells 9)) = W3 at HWA HAT3 HB3 ⊢
          generalize (W1).heap.size = gw at HWA ⊢
          have h3f := HAT3.out.lt
          go_loop [8] (fun i => ∃ k : Nat, k ≤ 8 ∧ i = .int .i64 (k : Int) ∧ ∀ j, j < k → wordAt j ≠ bl tt) (fun i => 8 - (intOf i).toNat)
          case atStart => exact ⟨0, by omega, rfl, fun j hj => by omega⟩
          case round =>
            obtain ⟨k8, hk8, rfl, hno⟩ := hrel
            have HNO := Lib.hid hno
            clear hno
            by_cases hlt8 : k8 < 8
            · have cc := HWA.out.cell hlt8
              have hki : (k8 : Int) < 8 := by omega
              have hk0 : (0 : Int) ≤ (k8 : Int) := by omega
              have hbq : ((str (wordAt k8)).toList == (tt).toList) = (wordAt k8 == bl tt) := by rw [toList_eq, toList_eq, bl_str]
              by_cases heq : wordAt k8 = bl tt
              · have hq : ((str (wordAt k8)).toList == (tt).toList) = true := by rw [hbq, heq]; simp
                have hmem : wordOf r ∈ words := by rw [← HW.out]; exact mem_words.2 ⟨k8, hlt8, heq⟩
                have HM := Lib.hid (word_yes hmem)
                have hif8 : ((tt).size : Int) ≤ 4000 := by omega
                generalize str (wordAt k8) = SW at cc hq
                clear hbq heq hmem
                have cd0 := HAT3.out.cell 0
                have cd1 := HAT3.out.cell 1
                have cd2 := HAT3.out.cell 2
                have cd3 := HAT3.out.cell 3
                have cd4 := HAT3.out.cell 4
                have cdf := HAT3.out.frozen
                simp only [List.getElem?_toArray, List.getElem?_cons_zero, List.getElem?_cons_succ] at cd0 cd1 cd2 cd3 cd4
                go_wp2_with fail
                refine bodyPost_ret (results_cell_row rfl _ _ w.heap.size _ _ (0, 0) _ rfl (HAT3.out.five _ _ _ _ _) Tryd.underlying52 rfl Tryd.sizeFound) rfl ⟨?_, below_grown HB3.out (grown_five _ _ _ _ _ _ _) HB3.out.size (Nat.le_refl _)⟩
                rw [HM.out, foundV_mark, ← HW.out, str_bl, bl_length, show i0 + (1 + (tt).size) = i0 + 1 + (tt).size by omega]
                rfl
              · have hq : ((str (wordAt k8)).toList == (tt).toList) = false := by rw [hbq, beq_eq_false_iff_ne]; exact heq
                have HEQ := Lib.hid heq
                generalize str (wordAt k8) = SW at cc hq
                clear hbq heq
                go_wp2_with fail
                go_round
                case rel => exact ⟨k8 + 1, by omega, by go_num, fun j hj => by
                  by_cases e : j = k8
                  · subst e; exact HEQ.out
                  · exact HNO.out j (by omega)⟩
                case measure => simp [intOf]; omega
            · obtain rfl : k8 = 8 := by omega
              have hmem : wordOf r ∉ words := by
                rw [← HW.out]
                intro h
                obtain ⟨j, hj, e⟩ := mem_words.1 h
                exact HNO.out j hj e
              have HM := Lib.hid (word_no hmem)
              clear hmem
              go_wp2_with fail
              refine (bad_any 10 i0 _).mono ?_
              rintro e w1 ⟨rfl, hb⟩
              first | (rename_i hK; refine hK _ _ ?_) | (rename_i hK _; refine hK _ _ ?_) | (rename_i hK _ _; refine hK _ _ ?_) | (rename_i hK _ _ _; refine hK _ _ ?_)
              have HA := Lib.hid (HAT3.out.below hb HAT3.out.lt)
              refine wpList_store_at rfl _ _ _ rfl rfl w.heap.size _ _ [_, _, _, _, _] rfl rfl HA.out 5 Tryd.sizeFound rfl rfl rfl ?_
              intro w2 hat hg
              go_wp2_with fail
              exact bodyPost_ret (results_cell_row rfl _ _ w.heap.size _ _ (0, 0) _ rfl hat Tryd.underlying52 rfl Tryd.sizeFound) rfl ⟨by rw [HM.out]; rfl, below_grown (HB3.out.trans (hb.mono HB3.out.size)) hg (by have := hb.size; have := HB3.out.size; omega) (Nat.le_refl _)⟩

end Go.Proofs.YtcchljghlgnkkaaDoor
