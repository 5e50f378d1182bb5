/-
  The walk of tronageref05's class.
-/
import Derived.Test.YtcchljghlgnkkaaDoorLyB
namespace Go.Proofs.YtcchljghlgnkkaaDoor
open Go.RowKit
open Lx
set_option linter.unusedVariables false
set_option linter.unusedSimpArgs false

namespace Lx
theorem cls_escAt (r : List UInt8) (i : Nat) (p : Parts) : cls (92 :: r) i p = match escAt r 4 with
    | none => .bad 10 i
    | some b => putS p b (r.drop 1) (i + 2) := by
  rw [cls.eq_def]
  cases r with
  | nil => rfl
  | cons d r' =>
    simp only [if_neg (show ¬ (92 : UInt8) = 93 by decide), if_neg (show ¬ (92 : UInt8) = 10 by decide), if_neg (show ¬ ((92 : UInt8) = 45 ∧ p.dash = 0) from fun h => absurd h.1 (by decide)), if_true]
    show _ = match esc 4 d with
      | none => Step.bad 10 i
      | some b => putS p b r' (i + 2)
    cases h : esc 4 d with
    | none => rfl
    | some b => rfl
theorem rising_ne {has : Nat → Bool} : rising has ≠ [] ↔ ∃ j, j < 256 ∧ has j = true := by
  unfold rising
  rw [Ne, List.map_eq_nil_iff, List.filter_eq_nil_iff]
  simp
theorem put_single (has : Nat → Bool) (sg : Option Nat) (b : UInt8) : Parts.put ⟨has, sg, 0⟩ b = some ⟨fun j => has j || j == b.toNat, some b.toNat, 0⟩ := rfl
theorem put_range_no {has : Nat → Bool} {x d : Nat} {b : UInt8} (hd : d ≠ 0) (h : b.toNat < x) : Parts.put ⟨has, some x, d⟩ b = none := by
  unfold Parts.put; rw [if_neg hd]; exact if_pos h
theorem put_range {has : Nat → Bool} {x d : Nat} {b : UInt8} (hd : d ≠ 0) (h : ¬ b.toNat < x) : Parts.put ⟨has, some x, d⟩ b = some ⟨fun j => has j || (decide (x ≤ j) && decide (j ≤ b.toNat)), none, 0⟩ := by
  unfold Parts.put; rw [if_neg hd]; exact if_neg h
def singV : Option Nat → Int
  | none => -1
  | some x => x
end Lx

theorem made256 : madeCells #[.bool false] 256 = ((List.range 256).map (fun j => Value.bool (none_.has j))).toArray := by kernel_rfl
theorem make256 (w : World) : (Instr.makeSlice 68 (.int .i64 256) (.int .i64 256)).run Tryd.prog w = .ok (.slice (some ⟨w.heap.size, 0, none⟩) 256 256) (w.alloc (.cells (((List.range 256).map (fun j => Value.bool (none_.has j))).toArray) 4)) := by
  have hI : (Tryd.prog.info? 4).map (fun i => (i.zero, i.size, i.bytes)) = some (some (.bool false), 1, 1) := by kernel_rfl
  obtain ⟨i0, hi, hz0, hz1, hz2⟩ := info_parts hI
  have := run_make (P := Tryd.prog) w 68 4 i0 (.bool false) Tryd.underlying68 hi hz0 .i64 .i64 256 256 (by omega) (by omega) (by rw [hz2]; omega) (by omega)
  rw [hz1] at this
  simp only [show (256 : Int).toNat = 256 from rfl, Nat.mul_one] at this
  rw [this]
  have e : (Value.bool false).cells = #[.bool false] := rfl
  rw [e, made256]

set_option maxHeartbeats 8000000 in
set_option maxRecDepth 100000 in
theorem rclass_any (s : ByteArray) (i0 : Nat) (w : World) (hs : s.size ≤ 4000) (hi : i0 < s.size) :
    Calls Tryd.prog 40 #[.string s, .int .i64 (i0 : Int)] w fun e w' => e = .returned (foundV i0 (cls ((bl s).drop (i0 + 1)) 1 none_)) ∧ Below w.heap.size w w' := by
  obtain ⟨Z, hZ⟩ : ∃ Z, ((List.range 256).map (fun j => Value.bool (none_.has j))).toArray = Z := ⟨_, rfl⟩
  have hmk := make256
  rw [hZ] at hmk
  have HZ := Lib.hid hZ
  clear hZ
  generalize hst : cls ((bl s).drop (i0 + 1)) 1 none_ = st
  have HST := Lib.hid hst
  clear hst
  go_enter Tryd.func40, Tryd.ntmps40
  go_wp2_with fail
  clear hmk
  go_loopw [6, 7, 8] (fun va vs vi wr => ∃ (k : Nat) (has : Nat → Bool) (sg : Option Nat) (b : Bool), va = .bool b ∧ vs = .int .i64 (singV sg) ∧ vi = .int .i64 (k : Int) ∧ i0 < k ∧ k ≤ s.size ∧ (∀ x, sg = some x → x ≤ 255 ∧ b = true) ∧ (b = true ↔ rising has ≠ []) ∧ cls ((bl s).drop k) (k - i0) ⟨has, sg, 0⟩ = st ∧ At wr w.heap.size 52 #[.int .i64 0, .string ⟨#[]⟩, .int .i64 0, .int .i64 0, .int .i64 0] ∧ At wr (w.heap.size + 1) 4 (((List.range 256).map (fun j => Value.bool (has j))).toArray) ∧ Below w.heap.size w wr) (fun _ _ i _ => s.size - (intOf i).toNat)
  case atStart => exact ⟨i0 + 1, none_.has, none, false, rfl, rfl, by go_num, by omega, by omega, (fun x hx => by cases hx), ⟨(fun h => by cases h), fun h => absurd (show rising none_.has = [] by decide) h⟩, by rw [show i0 + 1 - i0 = 1 by omega]; exact HST.out, (At.new _ _ _).alloc _, by rw [HZ.out]; simpa using At.new (w.alloc _) 4 Z, ((Below.refl w.heap.size w).alloc (Nat.le_refl _) _).alloc (by simp) _⟩
  case round =>
    obtain ⟨k, has, sg, b, rfl, rfl, rfl, hik, hks, hsg, hbr, hcl, hat, hah, hbel⟩ := hrel
    have HSG := Lib.hid hsg
    have HBR := Lib.hid hbr
    have HCL := Lib.hid hcl
    have HAT := Lib.hid hat
    have HAH := Lib.hid hah
    have HBEL := Lib.hid hbel
    have hsz := hat.lt
    have hsh := hah.lt
    have fz := hah.frozen
    have hBs := hbel.size
    clear hsg hbr hcl hat hah hbel
    by_cases hlt : k < s.size
    · have HD := Lib.hid (bl_drop s k hlt)
      obtain ⟨c, hc⟩ : ∃ c, s[k] = c := ⟨_, rfl⟩
      have HC := Lib.hid hc
      have hki : (k : Int) < (s.size : Int) := by omega
      by_cases e1 : c = 10
      · have c1 : ((c.toNat : Int) != 10) = false := by rw [e1]; rfl
        have c1' : ((c.toNat : Int) == 10) = true := u8_is e1
        have HM : Hid (Step.bad 11 0 = st) := Lib.hid (by rw [← HCL.out, HD.out, HC.out, e1, cls_lf])
        clear e1
        go_wp2_with fail
        refine (bad_any 11 i0 _).mono ?_
        rintro e w1 ⟨rfl, hb⟩
        first | (rename_i hK; refine hK _ _ ?_) | (rename_i hK _; refine hK _ _ ?_) | (rename_i hK _ _; refine hK _ _ ?_) | (rename_i hK _ _ _; refine hK _ _ ?_)
        have HA := Lib.hid (HAT.out.below hb HAT.out.lt)
        refine wpList_store_at rfl _ _ _ rfl rfl w.heap.size _ _ [_, _, _, _, _] rfl rfl HA.out 5 Tryd.sizeFound rfl rfl rfl ?_
        intro w2 hat hg
        go_wp2_with fail
        exact bodyPost_ret (results_cell_row rfl _ _ w.heap.size _ _ (0, 0) _ rfl hat Tryd.underlying52 rfl Tryd.sizeFound) rfl ⟨by rw [← HM.out]; rfl, below_grown (HBEL.out.trans (hb.mono HBEL.out.size)) hg (by have := hb.size; have := HBEL.out.size; omega) (Nat.le_refl _)⟩
      have c1' : ((c.toNat : Int) == 10) = false := u8_ne e1
      have c1 : ((c.toNat : Int) != 10) = true := by rw [bne, c1']; rfl
      by_cases e2 : c = 93
      · have c2 : ((c.toNat : Int) == 93) = true := u8_is e2
        have hm := HCL.out
        rw [HD.out, HC.out, e2, cls_close] at hm
        unfold closedS at hm
        rw [if_neg (Nat.lt_irrefl 0)] at hm
        dsimp only at hm
        cases b with
        | false =>
          have hr : rising has = [] := by
            refine Classical.byContradiction fun h => ?_
            have := HBR.out.2 h
            cases this
          rw [if_pos hr] at hm
          have HM := Lib.hid hm
          clear e1 e2 hm hr
          go_wp2_with fail
          refine (bad_any 10 i0 _).mono ?_
          rintro e w1 ⟨rfl, hb⟩
          first | (rename_i hK; refine hK _ _ ?_) | (rename_i hK _; refine hK _ _ ?_) | (rename_i hK _ _; refine hK _ _ ?_) | (rename_i hK _ _ _; refine hK _ _ ?_)
          have HA := Lib.hid (HAT.out.below hb HAT.out.lt)
          refine wpList_store_at rfl _ _ _ rfl rfl w.heap.size _ _ [_, _, _, _, _] rfl rfl HA.out 5 Tryd.sizeFound rfl rfl rfl ?_
          intro w2 hat hg
          go_wp2_with fail
          exact bodyPost_ret (results_cell_row rfl _ _ w.heap.size _ _ (0, 0) _ rfl hat Tryd.underlying52 rfl Tryd.sizeFound) rfl ⟨by rw [← HM.out]; rfl, below_grown (HBEL.out.trans (hb.mono HBEL.out.size)) hg (by have := hb.size; have := HBEL.out.size; omega) (Nat.le_refl _)⟩
        | true =>
          rw [if_neg (HBR.out.1 rfl)] at hm
          have HM := Lib.hid hm
          clear e1 e2 hm
          go_wp2_with fail
          go_loopw [9, 10] (fun vo vc wq => ∃ (m : Nat) (tt : ByteArray), vo = .string tt ∧ vc = .int .i64 (m : Int) ∧ m ≤ 256 ∧ bl tt = risingTo has m ∧ At wq w.heap.size 52 #[.int .i64 0, .string ⟨#[]⟩, .int .i64 0, .int .i64 0, .int .i64 0] ∧ At wq (w.heap.size + 1) 4 (((List.range 256).map (fun j => Value.bool (has j))).toArray) ∧ Below w.heap.size w wq) (fun _ i _ => 257 - (intOf i).toNat)
          case atStart => exact ⟨0, _, rfl, rfl, by omega, rfl, HAT.out, HAH.out, HBEL.out⟩
          case round =>
            obtain ⟨m, tt, rfl, rfl, hm256, htt, hat2, hah2, hbel2⟩ := hrel
            have HTT := Lib.hid htt
            have hts : tt.size ≤ m := by rw [← bl_length, htt]; exact risingTo_length _ _
            have HAT2 := Lib.hid hat2
            have HAH2 := Lib.hid hah2
            have HBEL2 := Lib.hid hbel2
            have hsz2 := hat2.lt
            have hsh2 := hah2.lt
            have fz2 := hah2.frozen
            have hBs2 := hbel2.size
            clear hat2 hah2 hbel2 htt
            by_cases hm2 : m < 256
            · have hmi : (m : Int) < 256 := by omega
              have cc : wr.cell? ⟨w.heap.size + 1, m, none⟩ = some (Value.bool (has m)) := by
                rw [HAH2.out.cell]; exact map_get _ (by omega)
              cases hh : has m with
              | false =>
                rw [hh] at cc
                have HH := Lib.hid hh
                clear hh
                go_wp2_with fail
                go_roundw
                case rel => exact ⟨m + 1, tt, rfl, by go_num, by omega, by rw [risingTo_no HH.out]; exact HTT.out, HAT2.out, HAH2.out, HBEL2.out⟩
                case measure => simp [intOf]; omega
              | true =>
                rw [hh] at cc
                have HH := Lib.hid hh
                have hw8 : (m : Int) = ((UInt8.ofNat m).toNat : Int) := by
                  have : (UInt8.ofNat m).toNat = m := by simp; omega
                  rw [this]
                have HW8 := Lib.hid hw8
                obtain ⟨E, hE⟩ : ∃ E, str [UInt8.ofNat m] = E := ⟨_, rfl⟩
                have hEs : E.size = 1 := by rw [← hE]; rfl
                have HE := Lib.hid hE
                have hif : ¬ (9223372036854775807 < tt.size + E.size) := by omega
                clear hh hw8 hE
                go_wp2_with fail
                rw [conv_at (UInt8.ofNat m) (by rw [← HW8.out]; simp [go_sem])]
                rw [HE.out]
                go_wp2_with fail
                go_roundw
                case rel => exact ⟨m + 1, _, rfl, by go_num, by omega, by rw [bl_append, HTT.out, ← HE.out, bl_str, risingTo_yes HH.out], HAT2.out.alloc _, HAH2.out.alloc _, HBEL2.out.alloc hBs2 _⟩
                case measure => simp [intOf]; omega
            · obtain rfl : m = 256 := by omega
              have cd0 := HAT2.out.cell 0
              have cd1 := HAT2.out.cell 1
              have cd2 := HAT2.out.cell 2
              have cd3 := HAT2.out.cell 3
              have cd4 := HAT2.out.cell 4
              have cdf := HAT2.out.frozen
              simp only [List.getElem?_toArray, List.getElem?_cons_zero, List.getElem?_cons_succ] at cd0 cd1 cd2 cd3 cd4
              go_wp2_with fail
              refine bodyPost_ret (results_cell_row rfl _ _ w.heap.size _ _ (0, 0) _ rfl (HAT2.out.five _ _ _ _ _) Tryd.underlying52 rfl Tryd.sizeFound) rfl ⟨?_, below_grown HBEL2.out (grown_five _ _ _ _ _ _ _) HBEL2.out.size (Nat.le_refl _)⟩
              rw [← HM.out, foundV_mark, ← risingTo_all, ← HTT.out, str_bl, show i0 + (k - i0 + 1) = k + 1 by omega]
              rfl
      have c2 : ((c.toNat : Int) == 93) = false := u8_ne e2
      by_cases e3 : c = 45
      · have c3 : ((c.toNat : Int) == 45) = true := u8_is e3
        cases sg with
        | none =>
          have HM : Hid (Step.bad 10 (k - i0) = st) := Lib.hid (by rw [← HCL.out, HD.out, HC.out, e3, cls_dash0 _ _ _ rfl rfl])
          clear e1 e2 e3
          unfold singV
          go_wp2_with fail
          refine (bad_any 10 k _).mono ?_
          rintro e w1 ⟨rfl, hb⟩
          first | (rename_i hK; refine hK _ _ ?_) | (rename_i hK _; refine hK _ _ ?_) | (rename_i hK _ _; refine hK _ _ ?_) | (rename_i hK _ _ _; refine hK _ _ ?_)
          have HA := Lib.hid (HAT.out.below hb HAT.out.lt)
          refine wpList_store_at rfl _ _ _ rfl rfl w.heap.size _ _ [_, _, _, _, _] rfl rfl HA.out 5 Tryd.sizeFound rfl rfl rfl ?_
          intro w2 hat hg
          go_wp2_with fail
          exact bodyPost_ret (results_cell_row rfl _ _ w.heap.size _ _ (0, 0) _ rfl hat Tryd.underlying52 rfl Tryd.sizeFound) rfl ⟨by rw [← HM.out, foundV_bad i0, show i0 + (k - i0) = k by omega]; rfl, below_grown (HBEL.out.trans (hb.mono HBEL.out.size)) hg (by have := hb.size; have := HBEL.out.size; omega) (Nat.le_refl _)⟩
        | some x =>
          obtain ⟨hx255, hbt⟩ := HSG.out x rfl
          have HBT := Lib.hid hbt
          have HDS : Hid (cls ((bl s).drop (k + 1)) (k + 1 - i0) ⟨has, some x, k - i0⟩ = st) := Lib.hid (by
            rw [← HCL.out, HD.out, HC.out, e3, cls_dash1 _ _ _ rfl (by simp), show k - i0 + 1 = k + 1 - i0 by omega])
          have hx0 : (0 : Int) ≤ (x : Int) := by omega
          unfold singV
          clear e1 e2 e3
          by_cases hl1 : k + 1 < s.size
          · have hl1i : (k : Int) + 1 < (s.size : Int) := by omega
            have hj : ((k : Int) + 1).toNat = k + 1 := by omega
            have HD1 := Lib.hid (bl_drop s (k + 1) hl1)
            obtain ⟨d, hd⟩ : ∃ d, s[k + 1] = d := ⟨_, rfl⟩
            have HDD := Lib.hid hd
            by_cases f1 : d = 10
            · have g1 : ((d.toNat : Int) == 10) = true := u8_is f1
              have HM : Hid (Step.bad 11 0 = st) := Lib.hid (by rw [← HDS.out, HD1.out, HDD.out, f1, cls_lf])
              clear f1
              go_wp2_with fail
              refine (bad_any 11 i0 _).mono ?_
              rintro e w1 ⟨rfl, hb⟩
              first | (rename_i hK; refine hK _ _ ?_) | (rename_i hK _; refine hK _ _ ?_) | (rename_i hK _ _; refine hK _ _ ?_) | (rename_i hK _ _ _; refine hK _ _ ?_)
              have HA := Lib.hid (HAT.out.below hb HAT.out.lt)
              refine wpList_store_at rfl _ _ _ rfl rfl w.heap.size _ _ [_, _, _, _, _] rfl rfl HA.out 5 Tryd.sizeFound rfl rfl rfl ?_
              intro w2 hat hg
              go_wp2_with fail
              exact bodyPost_ret (results_cell_row rfl _ _ w.heap.size _ _ (0, 0) _ rfl hat Tryd.underlying52 rfl Tryd.sizeFound) rfl ⟨by rw [← HM.out]; rfl, below_grown (HBEL.out.trans (hb.mono HBEL.out.size)) hg (by have := hb.size; have := HBEL.out.size; omega) (Nat.le_refl _)⟩
            have g1 : ((d.toNat : Int) == 10) = false := u8_ne f1
            by_cases f2 : d = 93
            · have g2 : ((d.toNat : Int) == 93) = true := u8_is f2
              have HM : Hid (Step.bad 10 (k - i0) = st) := Lib.hid (by
                rw [← HDS.out, HD1.out, HDD.out, f2, cls_close]; unfold closedS; rw [if_pos (show 0 < k - i0 by omega)])
              clear f1 f2
              go_wp2_with fail
              refine (bad_any 10 k _).mono ?_
              rintro e w1 ⟨rfl, hb⟩
              first | (rename_i hK; refine hK _ _ ?_) | (rename_i hK _; refine hK _ _ ?_) | (rename_i hK _ _; refine hK _ _ ?_) | (rename_i hK _ _ _; refine hK _ _ ?_)
              have HA := Lib.hid (HAT.out.below hb HAT.out.lt)
              refine wpList_store_at rfl _ _ _ rfl rfl w.heap.size _ _ [_, _, _, _, _] rfl rfl HA.out 5 Tryd.sizeFound rfl rfl rfl ?_
              intro w2 hat hg
              go_wp2_with fail
              exact bodyPost_ret (results_cell_row rfl _ _ w.heap.size _ _ (0, 0) _ rfl hat Tryd.underlying52 rfl Tryd.sizeFound) rfl ⟨by rw [← HM.out, foundV_bad i0, show i0 + (k - i0) = k by omega]; rfl, below_grown (HBEL.out.trans (hb.mono HBEL.out.size)) hg (by have := hb.size; have := HBEL.out.size; omega) (Nat.le_refl _)⟩
            have g2 : ((d.toNat : Int) == 93) = false := u8_ne f2
            by_cases f3 : d = 92
            · have g3 : ((d.toNat : Int) == 92) = true := u8_is f3
              have hm := HDS.out
              rw [HD1.out, HDD.out, f3, cls_escAt, List.drop_drop] at hm
              cases hea : escAt ((bl s).drop (k + 1 + 1)) 4 with
              | none =>
                rw [hea] at hm
                have HM := Lib.hid hm
                have HEA := Lib.hid hea
                clear hm hea f1 f2 f3
                go_wp2_with fail
                refine (told_any s (k + 1) true _ hs hl1).mono ?_
                rw [show (if true = true then 4 else 3) = 4 from rfl, HEA.out]
                rintro e w' ⟨rfl, rfl⟩
                unfold toldV
                go_wp2_with fail
                refine (bad_any 10 (k + 1) _).mono ?_
                rintro e w1 ⟨rfl, hb⟩
                first | (rename_i hK; refine hK _ _ ?_) | (rename_i hK _; refine hK _ _ ?_) | (rename_i hK _ _; refine hK _ _ ?_) | (rename_i hK _ _ _; refine hK _ _ ?_)
                have HA := Lib.hid (HAT.out.below hb HAT.out.lt)
                refine wpList_store_at rfl _ _ _ rfl rfl w.heap.size _ _ [_, _, _, _, _] rfl rfl HA.out 5 Tryd.sizeFound rfl rfl rfl ?_
                intro w2 hat hg
                go_wp2_with fail
                exact bodyPost_ret (results_cell_row rfl _ _ w.heap.size _ _ (0, 0) _ rfl hat Tryd.underlying52 rfl Tryd.sizeFound) rfl ⟨by rw [← HM.out, foundV_bad i0, show i0 + (k + 1 - i0) = k + 1 by omega]; rfl, below_grown (HBEL.out.trans (hb.mono HBEL.out.size)) hg (by have := hb.size; have := HBEL.out.size; omega) (Nat.le_refl _)⟩
              | some y =>
                rw [hea] at hm
                have HM := Lib.hid (show putS ⟨has, some x, k - i0⟩ y ((bl s).drop (k + 3)) (k + 3 - i0) = st by rw [← hm, show k + 3 - i0 = k + 1 - i0 + 2 by omega])
                have HEA := Lib.hid hea
                have hk2 : k + 2 < s.size := by
                  refine Nat.lt_of_not_le fun h => ?_
                  have e : (bl s).drop (k + 1 + 1) = [] := List.drop_of_length_le (by rw [bl_length]; exact h)
                  rw [e] at hea; cases hea
                clear hm hea f1 f2 f3
                go_wp2_with fail
                refine (told_any s (k + 1) true _ hs hl1).mono ?_
                rw [show (if true = true then 4 else 3) = 4 from rfl, HEA.out]
                rintro e w' ⟨rfl, rfl⟩
                unfold toldV
                by_cases hlo : y.toNat < x
                · have HM : Hid (Step.bad 10 (k - i0) = st) := Lib.hid (by rw [← HM.out]; unfold putS; rw [put_range_no (by omega) hlo])
                  have hlo2 : (y.toNat : Int) < (x : Int) := by omega
                  go_wp2_with fail
                  refine (bad_any 10 k _).mono ?_
                  rintro e w1 ⟨rfl, hb⟩
                  first | (rename_i hK; refine hK _ _ ?_) | (rename_i hK _; refine hK _ _ ?_) | (rename_i hK _ _; refine hK _ _ ?_) | (rename_i hK _ _ _; refine hK _ _ ?_)
                  have HA := Lib.hid (HAT.out.below hb HAT.out.lt)
                  refine wpList_store_at rfl _ _ _ rfl rfl w.heap.size _ _ [_, _, _, _, _] rfl rfl HA.out 5 Tryd.sizeFound rfl rfl rfl ?_
                  intro w2 hat hg
                  go_wp2_with fail
                  exact bodyPost_ret (results_cell_row rfl _ _ w.heap.size _ _ (0, 0) _ rfl hat Tryd.underlying52 rfl Tryd.sizeFound) rfl ⟨by rw [← HM.out, foundV_bad i0, show i0 + (k - i0) = k by omega]; rfl, below_grown (HBEL.out.trans (hb.mono HBEL.out.size)) hg (by have := hb.size; have := HBEL.out.size; omega) (Nat.le_refl _)⟩
                · have HP2 : Hid (cls ((bl s).drop (k + 3)) (k + 3 - i0) ⟨fun j => has j || (decide (x ≤ j) && decide (j ≤ y.toNat)), none, 0⟩ = st) := Lib.hid (by rw [← HM.out]; unfold putS; rw [put_range (by omega) hlo])
                  have hb256 := y.toNat_lt
                  have hlo2 : (x : Int) ≤ (y.toNat : Int) := by omega
                  go_wp2_with fail
                  go_loopw [17] (fun i wq => ∃ m : Nat, i = .int .i64 (m : Int) ∧ x ≤ m ∧ m ≤ y.toNat + 1 ∧ At wq w.heap.size 52 #[.int .i64 0, .string ⟨#[]⟩, .int .i64 0, .int .i64 0, .int .i64 0] ∧ At wq (w.heap.size + 1) 4 (((List.range 256).map (fun j => Value.bool (has j || (decide (x ≤ j) && decide (j < m))))).toArray) ∧ Below w.heap.size w wq) (fun i _ => 257 - (intOf i).toNat)
                  case atStart =>
                    refine ⟨x, rfl, by omega, by omega, HAT.out, ?_, HBEL.out⟩
                    rw [← map_same (n := 256) (F := fun j => Value.bool (has j))]
                    · exact HAH.out
                    · intro j hj
                      have : (decide (x ≤ j) && decide (j < x)) = false := by
                        by_cases h : x ≤ j
                        · have : ¬ j < x := by omega
                          simp [this]
                        · simp [h]
                      rw [this, Bool.or_false]
                  case round =>
                    obtain ⟨m, rfl, hxm, hmb, hat2, hah2, hbel2⟩ := hrel
                    have HAT2 := Lib.hid hat2
                    have HAH2 := Lib.hid hah2
                    have HBEL2 := Lib.hid hbel2
                    have hsz2 := hat2.lt
                    have hsh2 := hah2.lt
                    have fz2 := hah2.frozen
                    have hBs2 := hbel2.size
                    clear hat2 hah2 hbel2
                    by_cases hm : m ≤ y.toNat
                    · have hmi : (m : Int) ≤ (y.toNat : Int) := by omega
                      have cc : wr.cell? ⟨w.heap.size + 1, m, none⟩ = some (Value.bool (has m || (decide (x ≤ m) && decide (m < m)))) := by
                        rw [HAH2.out.cell]; exact map_get _ (by omega)
                      go_wp2_with fail
                      go_roundw
                      case rel =>
                        refine ⟨m + 1, by go_num, by omega, by omega, HAT2.out.grown (grown_set (grown_refl _ _) _ _) (by intro e; injection e with e; omega), ?_, HBEL2.out.setCell (by simp) _⟩
                        have h := HAH2.out.set m (.bool true)
                        rw [map_set] at h
                        rw [← map_same (n := 256) (F := setF (fun j => Value.bool (has j || (decide (x ≤ j) && decide (j < m)))) m (.bool true))]
                        · exact h
                        · intro j hj
                          unfold setF
                          simp only []
                          by_cases h4 : j = m
                          · subst h4; simp [hxm]
                          · rw [if_neg h4]
                            have : decide (j < m) = decide (j < m + 1) := by simp; omega
                            rw [this]
                      case measure => simp [intOf]; omega
                    · have hmi : (y.toNat : Int) < (m : Int) := by omega
                      have HAH3 := Lib.hid (show At wr (w.heap.size + 1) 4 (((List.range 256).map (fun j => Value.bool (has j || (decide (x ≤ j) && decide (j ≤ y.toNat))))).toArray) by
                        have h := HAH2.out
                        rwa [map_same (G := fun j => Value.bool (has j || (decide (x ≤ j) && decide (j ≤ y.toNat)))) (fun j _ => by
                          have : decide (j < m) = decide (j ≤ y.toNat) := by simp; omega
                          rw [this])] at h)
                      go_wp2_with fail
                      go_roundw
                      case rel =>
                        refine ⟨k + 3, _, none, true, rfl, rfl, by first | rfl | go_num, by omega, by omega, (fun y hy => by cases hy), ⟨fun hb => ?_, fun _ => rfl⟩, HP2.out, HAT2.out, HAH3.out, HBEL2.out⟩
                        obtain ⟨j, h1, h2⟩ := rising_ne.1 (HBR.out.1 HBT.out)
                        exact rising_ne.2 ⟨j, h1, by simp [h2]⟩
                      case measure => simp [intOf]; omega
            have g3 : ((d.toNat : Int) == 92) = false := u8_ne f3
            have HM := Lib.hid (show putS ⟨has, some x, k - i0⟩ d ((bl s).drop (k + 2)) (k + 2 - i0) = st by
              rw [← HDS.out, HD1.out, HDD.out, cls_else _ _ _ f2 f1 (fun h => by have := h.2; dsimp only at this; omega) f3, show k + 2 - i0 = k + 1 - i0 + 1 by omega])
            clear f1 f2 f3
            by_cases hlo : d.toNat < x
            · have HM : Hid (Step.bad 10 (k - i0) = st) := Lib.hid (by rw [← HM.out]; unfold putS; rw [put_range_no (by omega) hlo])
              have hlo2 : (d.toNat : Int) < (x : Int) := by omega
              go_wp2_with fail
              refine (bad_any 10 k _).mono ?_
              rintro e w1 ⟨rfl, hb⟩
              first | (rename_i hK; refine hK _ _ ?_) | (rename_i hK _; refine hK _ _ ?_) | (rename_i hK _ _; refine hK _ _ ?_) | (rename_i hK _ _ _; refine hK _ _ ?_)
              have HA := Lib.hid (HAT.out.below hb HAT.out.lt)
              refine wpList_store_at rfl _ _ _ rfl rfl w.heap.size _ _ [_, _, _, _, _] rfl rfl HA.out 5 Tryd.sizeFound rfl rfl rfl ?_
              intro w2 hat hg
              go_wp2_with fail
              exact bodyPost_ret (results_cell_row rfl _ _ w.heap.size _ _ (0, 0) _ rfl hat Tryd.underlying52 rfl Tryd.sizeFound) rfl ⟨by rw [← HM.out, foundV_bad i0, show i0 + (k - i0) = k by omega]; rfl, below_grown (HBEL.out.trans (hb.mono HBEL.out.size)) hg (by have := hb.size; have := HBEL.out.size; omega) (Nat.le_refl _)⟩
            · have HP2 : Hid (cls ((bl s).drop (k + 2)) (k + 2 - i0) ⟨fun j => has j || (decide (x ≤ j) && decide (j ≤ d.toNat)), none, 0⟩ = st) := Lib.hid (by rw [← HM.out]; unfold putS; rw [put_range (by omega) hlo])
              have hb256 := d.toNat_lt
              have hlo2 : (x : Int) ≤ (d.toNat : Int) := by omega
              go_wp2_with fail
              go_loopw [17] (fun i wq => ∃ m : Nat, i = .int .i64 (m : Int) ∧ x ≤ m ∧ m ≤ d.toNat + 1 ∧ At wq w.heap.size 52 #[.int .i64 0, .string ⟨#[]⟩, .int .i64 0, .int .i64 0, .int .i64 0] ∧ At wq (w.heap.size + 1) 4 (((List.range 256).map (fun j => Value.bool (has j || (decide (x ≤ j) && decide (j < m))))).toArray) ∧ Below w.heap.size w wq) (fun i _ => 257 - (intOf i).toNat)
              case atStart =>
                refine ⟨x, rfl, by omega, by omega, HAT.out, ?_, HBEL.out⟩
                rw [← map_same (n := 256) (F := fun j => Value.bool (has j))]
                · exact HAH.out
                · intro j hj
                  have : (decide (x ≤ j) && decide (j < x)) = false := by
                    by_cases h : x ≤ j
                    · have : ¬ j < x := by omega
                      simp [this]
                    · simp [h]
                  rw [this, Bool.or_false]
              case round =>
                obtain ⟨m, rfl, hxm, hmb, hat2, hah2, hbel2⟩ := hrel
                have HAT2 := Lib.hid hat2
                have HAH2 := Lib.hid hah2
                have HBEL2 := Lib.hid hbel2
                have hsz2 := hat2.lt
                have hsh2 := hah2.lt
                have fz2 := hah2.frozen
                have hBs2 := hbel2.size
                clear hat2 hah2 hbel2
                by_cases hm : m ≤ d.toNat
                · have hmi : (m : Int) ≤ (d.toNat : Int) := by omega
                  have cc : wr.cell? ⟨w.heap.size + 1, m, none⟩ = some (Value.bool (has m || (decide (x ≤ m) && decide (m < m)))) := by
                    rw [HAH2.out.cell]; exact map_get _ (by omega)
                  go_wp2_with fail
                  go_roundw
                  case rel =>
                    refine ⟨m + 1, by go_num, by omega, by omega, HAT2.out.grown (grown_set (grown_refl _ _) _ _) (by intro e; injection e with e; omega), ?_, HBEL2.out.setCell (by simp) _⟩
                    have h := HAH2.out.set m (.bool true)
                    rw [map_set] at h
                    rw [← map_same (n := 256) (F := setF (fun j => Value.bool (has j || (decide (x ≤ j) && decide (j < m)))) m (.bool true))]
                    · exact h
                    · intro j hj
                      unfold setF
                      simp only []
                      by_cases h4 : j = m
                      · subst h4; simp [hxm]
                      · rw [if_neg h4]
                        have : decide (j < m) = decide (j < m + 1) := by simp; omega
                        rw [this]
                  case measure => simp [intOf]; omega
                · have hmi : (d.toNat : Int) < (m : Int) := by omega
                  have HAH3 := Lib.hid (show At wr (w.heap.size + 1) 4 (((List.range 256).map (fun j => Value.bool (has j || (decide (x ≤ j) && decide (j ≤ d.toNat))))).toArray) by
                    have h := HAH2.out
                    rwa [map_same (G := fun j => Value.bool (has j || (decide (x ≤ j) && decide (j ≤ d.toNat)))) (fun j _ => by
                      have : decide (j < m) = decide (j ≤ d.toNat) := by simp; omega
                      rw [this])] at h)
                  go_wp2_with fail
                  go_roundw
                  case rel =>
                    refine ⟨k + 2, _, none, true, rfl, rfl, by first | rfl | go_num, by omega, by omega, (fun y hy => by cases hy), ⟨fun hb => ?_, fun _ => rfl⟩, HP2.out, HAT2.out, HAH3.out, HBEL2.out⟩
                    obtain ⟨j, h1, h2⟩ := rising_ne.1 (HBR.out.1 HBT.out)
                    exact rising_ne.2 ⟨j, h1, by simp [h2]⟩
                  case measure => simp [intOf]; omega
          · have hl1i : (s.size : Int) ≤ (k : Int) + 1 := by omega
            have HM : Hid (Step.bad 11 0 = st) := Lib.hid (by rw [← HDS.out, List.drop_of_length_le (by rw [bl_length]; omega), cls_end])
            go_wp2_with fail
            refine (bad_any 11 i0 _).mono ?_
            rintro e w1 ⟨rfl, hb⟩
            first | (rename_i hK; refine hK _ _ ?_) | (rename_i hK _; refine hK _ _ ?_) | (rename_i hK _ _; refine hK _ _ ?_) | (rename_i hK _ _ _; refine hK _ _ ?_)
            have HA := Lib.hid (HAT.out.below hb HAT.out.lt)
            refine wpList_store_at rfl _ _ _ rfl rfl w.heap.size _ _ [_, _, _, _, _] rfl rfl HA.out 5 Tryd.sizeFound rfl rfl rfl ?_
            intro w2 hat hg
            go_wp2_with fail
            exact bodyPost_ret (results_cell_row rfl _ _ w.heap.size _ _ (0, 0) _ rfl hat Tryd.underlying52 rfl Tryd.sizeFound) rfl ⟨by rw [← HM.out]; rfl, below_grown (HBEL.out.trans (hb.mono HBEL.out.size)) hg (by have := hb.size; have := HBEL.out.size; omega) (Nat.le_refl _)⟩
      have c3 : ((c.toNat : Int) == 45) = false := u8_ne e3
      by_cases e4 : c = 92
      · have c4 : ((c.toNat : Int) == 92) = true := u8_is e4
        have hm := HCL.out
        rw [HD.out, HC.out, e4, cls_escAt, List.drop_drop] at hm
        cases hea : escAt ((bl s).drop (k + 1)) 4 with
        | none =>
          rw [hea] at hm
          have HM := Lib.hid hm
          have HEA := Lib.hid hea
          clear hm hea e1 e2 e3 e4
          go_wp2_with fail
          refine (told_any s k true _ hs hlt).mono ?_
          rw [show (if true = true then 4 else 3) = 4 from rfl, HEA.out]
          rintro e w' ⟨rfl, rfl⟩
          unfold toldV
          go_wp2_with fail
          refine (bad_any 10 k _).mono ?_
          rintro e w1 ⟨rfl, hb⟩
          first | (rename_i hK; refine hK _ _ ?_) | (rename_i hK _; refine hK _ _ ?_) | (rename_i hK _ _; refine hK _ _ ?_) | (rename_i hK _ _ _; refine hK _ _ ?_)
          have HA := Lib.hid (HAT.out.below hb HAT.out.lt)
          refine wpList_store_at rfl _ _ _ rfl rfl w.heap.size _ _ [_, _, _, _, _] rfl rfl HA.out 5 Tryd.sizeFound rfl rfl rfl ?_
          intro w2 hat hg
          go_wp2_with fail
          exact bodyPost_ret (results_cell_row rfl _ _ w.heap.size _ _ (0, 0) _ rfl hat Tryd.underlying52 rfl Tryd.sizeFound) rfl ⟨by rw [← HM.out, foundV_bad i0, show i0 + (k - i0) = k by omega]; rfl, below_grown (HBEL.out.trans (hb.mono HBEL.out.size)) hg (by have := hb.size; have := HBEL.out.size; omega) (Nat.le_refl _)⟩
        | some y =>
          rw [hea] at hm
          have HM := Lib.hid (show putS ⟨has, sg, 0⟩ y ((bl s).drop (k + 2)) (k + 2 - i0) = st by rw [← hm, show k + 2 - i0 = k - i0 + 2 by omega])
          have HEA := Lib.hid hea
          have hk2 : k + 1 < s.size := by
            refine Nat.lt_of_not_le fun h => ?_
            have e : (bl s).drop (k + 1) = [] := List.drop_of_length_le (by rw [bl_length]; exact h)
            rw [e] at hea; cases hea
          clear hm hea e1 e2 e3 e4
          go_wp2_with fail
          refine (told_any s k true _ hs hlt).mono ?_
          rw [show (if true = true then 4 else 3) = 4 from rfl, HEA.out]
          rintro e w' ⟨rfl, rfl⟩
          unfold toldV
          have HP2 : Hid (cls ((bl s).drop (k + 2)) (k + 2 - i0) ⟨fun j => has j || j == y.toNat, some y.toNat, 0⟩ = st) := Lib.hid (by rw [← HM.out]; unfold putS; rw [put_single])
          have hb256 := y.toNat_lt
          have hbi : (y.toNat : Int) < 256 := by omega
          have cc : wr.cell? ⟨w.heap.size + 1, y.toNat, none⟩ = some (Value.bool (has y.toNat)) := by
            rw [HAH.out.cell]; exact map_get _ (by omega)
          go_wp2_with fail
          go_roundw
          case rel =>
            refine ⟨k + 2, fun j => has j || j == y.toNat, some y.toNat, true, rfl, rfl, by first | rfl | go_num, by omega, by omega, fun x hx => ⟨by injection hx with hx; omega, rfl⟩, ⟨fun _ => rising_ne.2 ⟨y.toNat, by omega, by simp⟩, fun _ => rfl⟩, HP2.out, HAT.out.grown (grown_set (grown_refl _ _) _ _) (by intro e; injection e with e; omega), ?_, HBEL.out.setCell (by simp) _⟩
            have h := HAH.out.set y.toNat (.bool true)
            rw [map_set] at h
            rw [← map_same (n := 256) (F := setF (fun j => Value.bool (has j)) y.toNat (.bool true))]
            · exact h
            · intro j hj
              unfold setF
              simp only []
              by_cases h4 : j = y.toNat
              · subst h4; simp
              · rw [if_neg h4]
                have : (j == y.toNat) = false := by rw [beq_eq_false_iff_ne]; exact h4
                rw [this, Bool.or_false]
          case measure => simp [intOf]; omega
      have c4 : ((c.toNat : Int) == 92) = false := u8_ne e4
      have HM := Lib.hid (show putS ⟨has, sg, 0⟩ c ((bl s).drop (k + 1)) (k + 1 - i0) = st by
        rw [← HCL.out, HD.out, HC.out, cls_else _ _ _ e2 e1 (fun h => e3 h.1) e4, show k + 1 - i0 = k - i0 + 1 by omega])
      clear e1 e2 e3 e4
      have HP2 : Hid (cls ((bl s).drop (k + 1)) (k + 1 - i0) ⟨fun j => has j || j == c.toNat, some c.toNat, 0⟩ = st) := Lib.hid (by rw [← HM.out]; unfold putS; rw [put_single])
      have hb256 := c.toNat_lt
      have hbi : (c.toNat : Int) < 256 := by omega
      have cc : wr.cell? ⟨w.heap.size + 1, c.toNat, none⟩ = some (Value.bool (has c.toNat)) := by
        rw [HAH.out.cell]; exact map_get _ (by omega)
      go_wp2_with fail
      go_roundw
      case rel =>
        refine ⟨k + 1, fun j => has j || j == c.toNat, some c.toNat, true, rfl, rfl, by first | rfl | go_num, by omega, by omega, fun x hx => ⟨by injection hx with hx; omega, rfl⟩, ⟨fun _ => rising_ne.2 ⟨c.toNat, by omega, by simp⟩, fun _ => rfl⟩, HP2.out, HAT.out.grown (grown_set (grown_refl _ _) _ _) (by intro e; injection e with e; omega), ?_, HBEL.out.setCell (by simp) _⟩
        have h := HAH.out.set c.toNat (.bool true)
        rw [map_set] at h
        rw [← map_same (n := 256) (F := setF (fun j => Value.bool (has j)) c.toNat (.bool true))]
        · exact h
        · intro j hj
          unfold setF
          simp only []
          by_cases h4 : j = c.toNat
          · subst h4; simp
          · rw [if_neg h4]
            have : (j == c.toNat) = false := by rw [beq_eq_false_iff_ne]; exact h4
            rw [this, Bool.or_false]
      case measure => simp [intOf]; omega
    · have hki : (s.size : Int) ≤ (k : Int) := by omega
      have HM : Hid (Step.bad 11 0 = st) := Lib.hid (by rw [← HCL.out, List.drop_of_length_le (by rw [bl_length]; omega), cls_end])
      go_wp2_with fail
      refine (bad_any 11 i0 _).mono ?_
      rintro e w1 ⟨rfl, hb⟩
      first | (rename_i hK; refine hK _ _ ?_) | (rename_i hK _; refine hK _ _ ?_) | (rename_i hK _ _; refine hK _ _ ?_) | (rename_i hK _ _ _; refine hK _ _ ?_)
      have HA := Lib.hid (HAT.out.below hb HAT.out.lt)
      refine wpList_store_at rfl _ _ _ rfl rfl w.heap.size _ _ [_, _, _, _, _] rfl rfl HA.out 5 Tryd.sizeFound rfl rfl rfl ?_
      intro w2 hat hg
      go_wp2_with fail
      exact bodyPost_ret (results_cell_row rfl _ _ w.heap.size _ _ (0, 0) _ rfl hat Tryd.underlying52 rfl Tryd.sizeFound) rfl ⟨by rw [← HM.out]; rfl, below_grown (HBEL.out.trans (hb.mono HBEL.out.size)) hg (by have := hb.size; have := HBEL.out.size; omega) (Nat.le_refl _)⟩

end Go.Proofs.YtcchljghlgnkkaaDoor
