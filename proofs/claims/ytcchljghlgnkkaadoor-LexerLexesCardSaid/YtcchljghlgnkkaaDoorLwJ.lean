/-
  The walk of LexerClasses.
-/
import Derived.Test.YtcchljghlgnkkaaDoorLwI
namespace Go.Proofs.YtcchljghlgnkkaaDoor
open Go.RowKit
open Lx
set_option linter.unusedVariables false
set_option linter.unusedSimpArgs false

theorem conv_at {w : World} {g : Nat} (c : UInt8) (h : w.cell? ⟨g, 0, none⟩ = some (.int .u8 (c.toNat : Int))) :
    (convert 43 9 (.slice (some ⟨g, 0, none⟩) 1 1)).run Tryd.prog w = .ok (.string (str [c])) w := by
  refine run_convert_bytes_back w _ _ 5 _ 1 [c] Tryd.underlying43 Tryd.underlying5 Tryd.underlying9 fun j hj => ?_
  obtain rfl : j = 0 := by simpa using hj
  exact h
theorem classes_zero0 : Tryd.zeroCells44 = ((List.range 256).map (fun _ => Value.bool false)).toArray := by kernel_rfl
theorem classes_zero (a : Nat) : Tryd.zeroCells44 = ((List.range 256).map (fun j => Value.bool (decide (a ≤ j) && decide (j < a)))).toArray := by
  rw [classes_zero0]
  apply map_same
  intro j _
  by_cases h : a ≤ j
  · have : ¬ j < a := by omega
    simp [this]
  · simp [h]

set_option maxHeartbeats 4000000 in
set_option maxRecDepth 100000 in
theorem classes_law (x : Int) (hx : 0 ≤ x ∧ x ≤ 255) (y : Int) (hy : 0 ≤ y ∧ y ≤ 255) (A : Option Addr) (n cap : Nat) (X : Nat → Nat) (W : World) (hX : Bytes8 W W.heap.size A n X) (hT : Tab W) (h0 : 0 < W.heap.size) :
    Calls Tryd.prog 9 #[.int .u8 x, .int .u8 y, .slice A n cap] W fun e w' => e = .returned (.bool true) ∧ Below W.heap.size W w' := by
  have HT := Lib.hid hT
  have HX := Lib.hid hX
  clear hT hX
  have hnl := HX.out.len
  go_enter Tryd.func9, Tryd.ntmps9
  go_wp2_with fail
  refine (awake_any _ HT.out h0).mono ?_
  rintro e w1 ⟨rfl, hb1⟩
  have HB1 := Lib.hid hb1
  have HT1 := Lib.hid (HT.out.below hb1 h0)
  have hs1 := hb1.size
  clear hb1
  by_cases hn1 : (20 : Int) < (n : Int)
  · go_wp2_with fail
    go_ret
    exact ⟨rfl, HB1.out⟩
  · have hn1 : (n : Int) ≤ 20 := by omega
    obtain ⟨k1, hk1⟩ : ∃ k : Nat, x % 62 = (k : Int) := ⟨(x % 62).toNat, by omega⟩
    obtain ⟨k2, hk2⟩ : ∃ k : Nat, y % 62 = (k : Int) := ⟨(y % 62).toNat, by omega⟩
    have l1 : (k1 : Int) < 62 := by omega
    have l2 : (k2 : Int) < 62 := by omega
    go_wp2_with fail
    generalize hga : (⟨#[48, 49, 50, 51, 52, 53, 54, 55, 56, 57, 65, 66, 67, 68, 69, 70, 71, 72, 73, 74, 75, 76, 77, 78, 79, 80, 81, 82, 83, 84, 85, 86, 87, 88, 89, 90, 97, 98, 99, 100, 101, 102, 103, 104, 105, 106, 107, 108, 109, 110, 111, 112, 113, 114, 115, 116, 117, 118, 119, 120, 121, 122]⟩ : ByteArray)[k1]'(by rw [show (⟨#[48, 49, 50, 51, 52, 53, 54, 55, 56, 57, 65, 66, 67, 68, 69, 70, 71, 72, 73, 74, 75, 76, 77, 78, 79, 80, 81, 82, 83, 84, 85, 86, 87, 88, 89, 90, 97, 98, 99, 100, 101, 102, 103, 104, 105, 106, 107, 108, 109, 110, 111, 112, 113, 114, 115, 116, 117, 118, 119, 120, 121, 122]⟩ : ByteArray).size = 62 from rfl]; omega) = a
    generalize hgb : (⟨#[48, 49, 50, 51, 52, 53, 54, 55, 56, 57, 65, 66, 67, 68, 69, 70, 71, 72, 73, 74, 75, 76, 77, 78, 79, 80, 81, 82, 83, 84, 85, 86, 87, 88, 89, 90, 97, 98, 99, 100, 101, 102, 103, 104, 105, 106, 107, 108, 109, 110, 111, 112, 113, 114, 115, 116, 117, 118, 119, 120, 121, 122]⟩ : ByteArray)[k2]'(by rw [show (⟨#[48, 49, 50, 51, 52, 53, 54, 55, 56, 57, 65, 66, 67, 68, 69, 70, 71, 72, 73, 74, 75, 76, 77, 78, 79, 80, 81, 82, 83, 84, 85, 86, 87, 88, 89, 90, 97, 98, 99, 100, 101, 102, 103, 104, 105, 106, 107, 108, 109, 110, 111, 112, 113, 114, 115, 116, 117, 118, 119, 120, 121, 122]⟩ : ByteArray).size = 62 from rfl]; omega) = b
    have haA : isAlnum a = true := by rw [← hga]; exact all_alnum k1 _
    have hbA : isAlnum b = true := by rw [← hgb]; exact all_alnum k2 _
    clear hga hgb
    have hAA : ∀ k (h : k < (⟨#[48, 49, 50, 51, 52, 53, 54, 55, 56, 57, 65, 66, 67, 68, 69, 70, 71, 72, 73, 74, 75, 76, 77, 78, 79, 80, 81, 82, 83, 84, 85, 86, 87, 88, 89, 90, 97, 98, 99, 100, 101, 102, 103, 104, 105, 106, 107, 108, 109, 110, 111, 112, 113, 114, 115, 116, 117, 118, 119, 120, 121, 122]⟩ : ByteArray).size), isAlnum (⟨#[48, 49, 50, 51, 52, 53, 54, 55, 56, 57, 65, 66, 67, 68, 69, 70, 71, 72, 73, 74, 75, 76, 77, 78, 79, 80, 81, 82, 83, 84, 85, 86, 87, 88, 89, 90, 97, 98, 99, 100, 101, 102, 103, 104, 105, 106, 107, 108, 109, 110, 111, 112, 113, 114, 115, 116, 117, 118, 119, 120, 121, 122]⟩ : ByteArray)[k] = true := all_alnum
    have hAS : (⟨#[48, 49, 50, 51, 52, 53, 54, 55, 56, 57, 65, 66, 67, 68, 69, 70, 71, 72, 73, 74, 75, 76, 77, 78, 79, 80, 81, 82, 83, 84, 85, 86, 87, 88, 89, 90, 97, 98, 99, 100, 101, 102, 103, 104, 105, 106, 107, 108, 109, 110, 111, 112, 113, 114, 115, 116, 117, 118, 119, 120, 121, 122]⟩ : ByteArray).size = 62 := rfl
    generalize (⟨#[48, 49, 50, 51, 52, 53, 54, 55, 56, 57, 65, 66, 67, 68, 69, 70, 71, 72, 73, 74, 75, 76, 77, 78, 79, 80, 81, 82, 83, 84, 85, 86, 87, 88, 89, 90, 97, 98, 99, 100, 101, 102, 103, 104, 105, 106, 107, 108, 109, 110, 111, 112, 113, 114, 115, 116, 117, 118, 119, 120, 121, 122]⟩ : ByteArray) = AL at hAA hAS ⊢
    have HAA := Lib.hid hAA
    clear hAA
    have ha256 := a.toNat_lt
    have hb256 := b.toNat_lt
    have hw1 : wrap64 (a.toNat : Int) = (a.toNat : Int) := IntWalk.wrap64_in _ (by omega)
    rw [hw1]
    have hz : Tryd.zeroCells44 = ((List.range 256).map (fun j => Value.bool (decide (a.toNat ≤ j) && decide (j < a.toNat)))).toArray := classes_zero _
    rw [hz]
    have HG0 := Lib.hid (At.new w1 44 ((List.range 256).map (fun j => Value.bool (decide (a.toNat ≤ j) && decide (j < a.toNat)))).toArray)
    have HB2 := Lib.hid (HB1.out.alloc hs1 (.cells ((List.range 256).map (fun j => Value.bool (decide (a.toNat ≤ j) && decide (j < a.toNat)))).toArray 44))
    generalize w1.alloc (.cells ((List.range 256).map (fun j => Value.bool (decide (a.toNat ≤ j) && decide (j < a.toNat)))).toArray 44) = W2 at HG0 HB2 ⊢
    obtain ⟨g, hg⟩ : ∃ g, g = w1.heap.size := ⟨_, rfl⟩
    rw [← hg] at HG0 ⊢
    have hgW : W.heap.size ≤ g := by omega
    clear hz hw1 hg
    go_loopw [12] (fun i wr => ∃ k : Nat, a.toNat ≤ k ∧ (k ≤ b.toNat + 1 ∨ k = a.toNat) ∧ i = .int .i64 (k : Int) ∧ At wr g 44 (((List.range 256).map (fun j => Value.bool (decide (a.toNat ≤ j) && decide (j < k)))).toArray) ∧ Below W.heap.size W wr) (fun i _ => 257 - (intOf i).toNat)
    case atStart => exact ⟨a.toNat, by omega, by omega, rfl, HG0.out, HB2.out⟩
    case round =>
      obtain ⟨k, hka, hkb, rfl, hat, hbel⟩ := hrel
      have HAT := Lib.hid hat
      have HBE := Lib.hid hbel
      have hlt := hat.lt
      have f0 := hat.frozen
      clear hat hbel
      by_cases hlt2 : k ≤ b.toNat
      · have t3 : (k : Int) ≤ (b.toNat : Int) := by omega
        have cc : wr.cell? ⟨g, k, none⟩ = some (Value.bool (decide (a.toNat ≤ k) && decide (k < k))) := by
          rw [HAT.out.cell]; exact map_get _ (by omega)
        go_wp2_with fail
        go_roundw
        case rel =>
          refine ⟨k + 1, by omega, by omega, by go_num, ?_, HBE.out.setCell (by simpa using hgW) _⟩
          have h := HAT.out.set k (.bool true)
          rw [map_set] at h
          rw [← map_same (n := 256) (F := setF (fun j => Value.bool (decide (a.toNat ≤ j) && decide (j < k))) k (.bool true))]
          · exact h
          · intro j hj
            unfold setF
            simp only []
            by_cases h4 : j = k
            · subst h4; simp [hka]
            · rw [if_neg h4]
              have : decide (j < k) = decide (j < k + 1) := by simp; omega
              rw [this]
        case measure => simp [intOf]; omega
      · have t3 : (b.toNat : Int) < (k : Int) := by omega
        have HAT2 := Lib.hid (show At wr g 44 (((List.range 256).map (fun j => Value.bool (decide (a.toNat ≤ j) && decide (j ≤ b.toNat)))).toArray) by
          have h := HAT.out
          rwa [map_same (G := fun j => Value.bool (decide (a.toNat ≤ j) && decide (j ≤ b.toNat))) (fun j _ => by
            congr 1
            by_cases h1 : a.toNat ≤ j
            · have : j < k ↔ j ≤ b.toNat := by omega
              simp [this]
            · simp [h1])] at h)
        have hEa : ∃ E, str [a] = E := ⟨_, rfl⟩
        obtain ⟨E, hE⟩ := hEa
        have hEb : ∃ E, str [b] = E := ⟨_, rfl⟩
        obtain ⟨E2, hE2⟩ := hEb
        have hEs : E.size = 1 := by rw [← hE]; rfl
        have hEs2 : E2.size = 1 := by rw [← hE2]; rfl
        have HE := Lib.hid hE
        have HE2 := Lib.hid hE2
        clear hE hE2
        go_wp2_with fail
        rw [conv_at a (by simp [go_sem])]
        rw [HE.out]
        go_wp2_with fail
        rw [conv_at b (by simp [go_sem])]
        rw [HE2.out]
        go_wp2_with fail
        have HG3 := Lib.hid ((HAT2.out.alloc (.cells #[.int .u8 (a.toNat : Int)] 5)).alloc (.cells #[.int .u8 (b.toNat : Int)] 5))
        have HB3 := Lib.hid ((HBE.out.alloc HBE.out.size (.cells #[.int .u8 (a.toNat : Int)] 5)).alloc (by have := HBE.out.size; simp; omega) (.cells #[.int .u8 (b.toNat : Int)] 5))
        generalize (wr.alloc (.cells #[.int .u8 (a.toNat : Int)] 5)).alloc (.cells #[.int .u8 (b.toNat : Int)] 5) = W3 at HG3 HB3 ⊢
        obtain ⟨T0, hT0⟩ : ∃ T0, (⟨#[91]⟩ : ByteArray) ++ E ++ ⟨#[45]⟩ ++ E2 = T0 := ⟨_, rfl⟩
        have hbT0 : bl T0 = 91 :: a :: 45 :: b :: [] := by
          rw [← hT0, ← HE.out, ← HE2.out]
          simp only [bl_append, bl_str]; rfl
        rw [hT0]
        have HT0 := Lib.hid hbT0
        clear hT0 hbT0 t3 hka hkb hEs hEs2 hlt2 hlt f0
        have hlen : (n : Int) ≤ 20 := hn1
        go_loopw [13, 14] (fun t i wr => ∃ (k : Nat) (tt : ByteArray) (cs : List UInt8), k ≤ n ∧ i = .int .i64 (k : Int) ∧ t = .string tt ∧ bl tt = 91 :: a :: 45 :: b :: cs ∧ cs.length = k ∧ (∀ c ∈ cs, isAlnum c = true) ∧ At wr g 44 (((List.range 256).map (fun j => Value.bool ((decide (a.toNat ≤ j) && decide (j ≤ b.toNat)) || cs.any (fun c => j == c.toNat)))).toArray) ∧ Below W.heap.size W wr) (fun _ i _ => n - (intOf i).toNat)
        case atStart => exact ⟨0, T0, [], by omega, rfl, rfl, HT0.out, rfl, by simp, by simpa using HG3.out, HB3.out⟩
        case round =>
          obtain ⟨k, tt, cs, hkn, rfl, rfl, htt, hcsl, hcsa, hat, hbel⟩ := hrel
          have HTT := Lib.hid htt
          have HCA := Lib.hid hcsa
          have HAT := Lib.hid hat
          have HBE := Lib.hid hbel
          have hlt := hat.lt
          have f0 := hat.frozen
          have htts : tt.size = k + 4 := by rw [← bl_length, htt]; simp; omega
          have HCL := Lib.hid hcsl
          clear hat hbel htt hcsa hcsl
          by_cases hlt2 : k < n
          · obtain ⟨b0, o, rfl, hb0, hcell⟩ := (HX.out.below HBE.out).each k hlt2
            have hx := HX.out.rx k hlt2
            obtain ⟨m, hm⟩ : ∃ m : Nat, (X k : Int) % 62 = (m : Int) := ⟨X k % 62, by omega⟩
            have hml : m < AL.size := by omega
            obtain ⟨c, hc⟩ : ∃ c, AL[m]'hml = c := ⟨_, rfl⟩
            have hca : isAlnum c = true := by rw [← hc]; exact HAA.out m hml
            have hc256 := c.toNat_lt
            have hc2 : (c.toNat : Int) < 256 := by omega
            have cc : wr.cell? ⟨g, c.toNat, none⟩ = some (Value.bool ((decide (a.toNat ≤ c.toNat) && decide (c.toNat ≤ b.toNat)) || cs.any (fun c' => c.toNat == c'.toNat))) := by
              rw [HAT.out.cell]; exact map_get _ (by omega)
            generalize ((decide (a.toNat ≤ c.toNat) && decide (c.toNat ≤ b.toNat)) || cs.any (fun c' => c.toNat == c'.toNat)) = old at cc
            have hml2 : (m : Int) < (AL.size : Int) := by omega
            have hk0 : (0 : Int) ≤ (k : Int) := by omega
            have hki : (k : Int) < (n : Int) := by omega
            obtain ⟨E3, hE3⟩ : ∃ E, str [c] = E := ⟨_, rfl⟩
            have hE3s : E3.size = 1 := by rw [← hE3]; rfl
            have HE3 := Lib.hid hE3
            have hif : ¬ (9223372036854775807 < tt.size + E3.size) := by omega
            clear hE3
            go_wp2_with fail
            rw [conv_at c (by simp [go_sem])]
            rw [HE3.out]
            go_wp2_with fail
            go_roundw
            case rel =>
              refine ⟨k + 1, _, cs ++ [c], by omega, by go_num, rfl, by rw [bl_append, HTT.out, ← HE3.out, bl_str]; rfl, by rw [List.length_append, HCL.out]; rfl, fun x hx => ?_, ?_, (HBE.out.setCell (by simpa using hgW) _).alloc (by have := HBE.out.size; simp; omega) _⟩
              · rcases List.mem_append.1 hx with h | h
                · exact HCA.out x h
                · simp at h; subst h; exact hca
              · have h := HAT.out.set c.toNat (.bool true)
                rw [map_set] at h
                rw [← map_same (n := 256) (F := setF (fun j => Value.bool ((decide (a.toNat ≤ j) && decide (j ≤ b.toNat)) || cs.any (fun c => j == c.toNat))) c.toNat (.bool true))]
                · exact h.alloc _
                · intro j hj
                  unfold setF
                  simp only [List.any_append, List.any_cons, List.any_nil, Bool.or_false]
                  by_cases h4 : j = c.toNat
                  · subst h4; simp
                  · rw [if_neg h4]
                    have : (j == c.toNat) = false := by rw [beq_eq_false_iff_ne]; exact h4
                    rw [this, Bool.or_false]
            case measure => simp [intOf]; omega
          · obtain rfl : n = k := by omega
            obtain ⟨F, hF⟩ : ∃ F : Nat → Bool, ∀ j, F j = ((decide (a.toNat ≤ j) && decide (j ≤ b.toNat)) || cs.any (fun c => j == c.toNat)) := ⟨_, fun _ => rfl⟩
            have HAF := Lib.hid (show At wr g 44 (((List.range 256).map (fun j => Value.bool (F j))).toArray) by
              have h := HAT.out
              rwa [map_same (G := fun j => Value.bool (F j)) (fun j _ => by rw [hF])] at h)
            obtain ⟨Y, hY⟩ : ∃ Y, tt ++ (⟨#[93]⟩ : ByteArray) = Y := ⟨_, rfl⟩
            have hbY : bl Y = classy a b cs := by rw [← hY, bl_append, HTT.out]; rfl
            have hYs : Y.size ≤ 30 := by rw [← bl_length, hbY, classy_len, HCL.out]; omega
            have hif : ¬ (9223372036854775807 < tt.size + 1) := by omega
            have HF := Lib.hid hF
            have HYY := Lib.hid hY
            have HBY := Lib.hid hbY
            have HTW := Lib.hid (HT.out.below HBE.out h0)
            have hwr : W.heap.size ≤ wr.heap.size := HBE.out.size
            clear hF hY hbY
            by_cases hab : a.toNat ≤ b.toNat
            · have hlex : lex (bl Y) = .ok [(4, rising F, 0), (0, [], cs.length + 5)] := by rw [HBY.out]; exact lex_classy haA hbA HCA.out hab HF.out (by have := HCL.out; omega)
              obtain ⟨m2, hm2⟩ : ∃ m2, mkOf (bl Y) (0, [], cs.length + 5) = m2 := ⟨_, rfl⟩
              have hm : (lex (bl Y)).marks (bl Y) = [⟨4, rising F, 1, 1⟩, m2] := by rw [hlex, ← hm2]; rfl
              have hd : (lex (bl Y)).diag (bl Y) = (0, 0, 0) := by rw [hlex]; rfl
              have hab2 : (a.toNat : Int) ≤ (b.toNat : Int) := by omega
              have HM := Lib.hid hm
              have HD := Lib.hid hd
              clear hlex hm2 hm hd
              go_wp2_with fail
              rw [HYY.out]
              refine (lex_is Y _ _ _ (by omega) HTW.out (by omega) HM.out HD.out).mono ?_
              rintro e w2 ⟨⟨A2, cap2, rfl, hmm⟩, hb2⟩
              simp only [List.length_cons, List.length_nil, diagV]
              have hs2 := hb2.size
              have HGx := Lib.hid (((HAF.out.below hb2 hlt)).alloc (.cells #[.int .i64 0, .int .i64 0, .int .i64 0] 28))
              have HMx := Lib.hid (hmm.below ((Below.refl _ _).alloc (Nat.le_refl _) (.cells #[.int .i64 0, .int .i64 0, .int .i64 0] 28)))
              have HDx := Lib.hid (At.new w2 28 #[.int .i64 0, .int .i64 0, .int .i64 0])
              have HBx := Lib.hid ((HBE.out.trans (hb2.mono HBE.out.size)).alloc (by omega) (.cells #[.int .i64 0, .int .i64 0, .int .i64 0] 28))
              have hgd : W.heap.size ≤ w2.heap.size := by omega
              clear hmm hb2
              go_wp2_with fail
              generalize (w2.alloc (.cells #[.int .i64 0, .int .i64 0, .int .i64 0] 28)) = W4 at HGx HMx HDx HBx ⊢
              generalize w2.heap.size = gd at HDx hgd ⊢
              have z : ((0 : Nat) : Int) = 0 := rfl
              have hdec : decide (b.toNat < a.toNat) = false := decide_eq_false (by omega)
              simp only [z, hdec, Nat.zero_add, Nat.reduceAdd]
              clear z hdec
              go_loopw [18, 19] (fun t i wr => ∃ (k : Nat) (tt : ByteArray), k ≤ 256 ∧ i = .int .i64 (k : Int) ∧ t = .string tt ∧ bl tt = ((List.range k).filter F).map UInt8.ofNat ∧ At wr g 44 (((List.range 256).map (fun j => Value.bool (F j))).toArray) ∧ MAt wr A2 [⟨4, rising F, 1, 1⟩, m2] ∧ At wr gd 28 #[.int .i64 0, .int .i64 0, .int .i64 0] ∧ Below W.heap.size W wr) (fun _ i _ => 256 - (intOf i).toNat)
              case atStart => exact ⟨0, _, by omega, rfl, rfl, rfl, HGx.out, HMx.out, HDx.out, HBx.out⟩
              case round =>
                obtain ⟨k, tt2, hk, rfl, rfl, htt, hat, hma, hda, hbe⟩ := hrel
                have HTT2 := Lib.hid htt
                have HAT2 := Lib.hid hat
                have HMA := Lib.hid hma
                have HDA := Lib.hid hda
                have HBE2 := Lib.hid hbe
                have htl : tt2.size ≤ 256 := by
                  rw [← bl_length, htt, List.length_map]
                  have := List.length_filter_le F (List.range k)
                  simp at this; omega
                have hwr2 := hbe.size
                have hgl := hat.lt
                have hdl := hda.lt
                clear htt hat hma hda hbe
                by_cases hlt3 : k < 256
                · have cc : wr.cell? ⟨g, k, none⟩ = some (Value.bool (F k)) := by
                    rw [HAT2.out.cell]; exact map_get _ (by omega)
                  have hki : (k : Int) < 256 := by omega
                  have hk0 : (0 : Int) ≤ (k : Int) := by omega
                  have hrng : (List.range (k + 1)).filter F = (List.range k).filter F ++ (if F k then [k] else []) := by
                    rw [List.range_succ, List.filter_append]
                    congr 1
                    by_cases h : F k = true
                    · simp [h]
                    · simp [h]
                  have HRNG := Lib.hid hrng
                  clear hrng
                  cases hFk : F k with
                  | true =>
                    have HFK := Lib.hid hFk
                    rw [hFk] at cc
                    obtain ⟨c, hc⟩ : ∃ c : UInt8, c.toNat = k := ⟨UInt8.ofNat k, by simp; omega⟩
                    have hck : c = UInt8.ofNat k := by rw [← hc]; simp
                    have HCK := Lib.hid hck
                    have HC := Lib.hid hc
                    obtain ⟨E4, hE4⟩ : ∃ E, str [c] = E := ⟨_, rfl⟩
                    have hE4s : E4.size = 1 := by rw [← hE4]; rfl
                    have HE4 := Lib.hid hE4
                    have hif : ¬ (9223372036854775807 < tt2.size + E4.size) := by omega
                    have hu8 : IntKind.u8.wrap (k : Int) = (k : Int) := by show IntKind.u8.wrap (k : Int) = _; simp [IntKind.wrap, IntKind.bits, IntKind.signed]; omega
                    clear hE4 hFk hc hck
                    go_wp2_with fail
                    rw [conv_at c (by rw [HC.out]; simp [go_sem])]
                    rw [HE4.out]
                    go_wp2_with fail
                    go_roundw
                    case rel => exact ⟨k + 1, _, by omega, by go_num, rfl, by rw [HRNG.out, HFK.out, bl_append, HTT2.out, ← HE4.out, bl_str, HCK.out]; simp, HAT2.out.alloc _, HMA.out.below ((Below.refl _ _).alloc (Nat.le_refl _) _), HDA.out.alloc _, HBE2.out.alloc hwr2 _⟩
                    case measure => simp [intOf]; omega
                  | false =>
                    have HFK := Lib.hid hFk
                    rw [hFk] at cc
                    clear hFk
                    go_wp2_with fail
                    go_roundw
                    case rel => exact ⟨k + 1, tt2, by omega, by go_num, rfl, by rw [HRNG.out, HFK.out, HTT2.out]; simp, HAT2.out, HMA.out, HDA.out, HBE2.out⟩
                    case measure => simp [intOf]; omega
                · obtain rfl : k = 256 := by omega
                  have htx : tt2 = str (rising F) := by rw [← str_bl tt2, HTT2.out]; rfl
                  subst htx
                  obtain ⟨b1, rfl, q4, c11, c12, _, _⟩ := HMA.out.cell (i := 0) (by simp)
                  have c11' : wr.cell? ⟨b1, 0, none⟩ = some (.int .i64 4) := c11
                  have c12' : wr.cell? ⟨b1, 1, none⟩ = some (.string (str (rising F))) := c12
                  have d0 := HDA.out.cell 0
                  simp only [List.getElem?_toArray, List.getElem?_cons_zero] at d0
                  generalize str (rising F) = RF at c12' htl ⊢
                  clear c11 c12
                  go_wp2_with fail
                  go_ret
                  exact ⟨rfl, HBE2.out⟩
            · have hab2 : (b.toNat : Int) < (a.toNat : Int) := by omega
              have hlex : lex (bl Y) = .bad 10 2 := by rw [HBY.out]; exact lex_classy_no haA hbA (by omega) (by have := HCL.out; omega)
              have hm : (lex (bl Y)).marks (bl Y) = [] := by rw [hlex]; rfl
              have hd : (lex (bl Y)).diag (bl Y) = (10, 1, 3) := by
                rw [hlex]
                show (10, (pos (bl Y) 2).1, (pos (bl Y) 2).2) = _
                rw [HBY.out, pos_classy haA]
              have HM := Lib.hid hm
              have HD := Lib.hid hd
              clear hlex hm hd
              go_wp2_with fail
              rw [HYY.out]
              refine (lex_is Y _ _ _ (by omega) HTW.out (by omega) HM.out HD.out).mono ?_
              rintro e w2 ⟨⟨A2, cap2, rfl, hmm⟩, hb2⟩
              simp only [List.length_nil, diagV]
              have hs2 := hb2.size
              have HBx := Lib.hid ((HBE.out.trans (hb2.mono HBE.out.size)))
              have hw2 := HBx.out.size
              clear hmm hb2
              go_wp2_with fail
              go_ret
              exact ⟨rfl, HBx.out.alloc hw2 _⟩

end Go.Proofs.YtcchljghlgnkkaaDoor
