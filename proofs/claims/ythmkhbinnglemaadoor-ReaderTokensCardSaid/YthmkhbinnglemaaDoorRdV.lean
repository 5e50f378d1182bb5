/-
  The walks of tronagelaw06's word, and of ReaderTokens.
-/
import Derived.Test.YthmkhbinnglemaaDoorRdT
import Derived.Test.YthmkhbinnglemaaDoorRdU
import Derived.Test.YthmkhbinnglemaaDoorLwI
import Derived.Deep.RegionHeld3
import Derived.BigQuiet
import Derived.Deep.QuietTactic
namespace Go.Proofs.YthmkhbinnglemaaDoor
open Go.RowKit
open Lx
set_option linter.unusedVariables false
set_option linter.unusedSimpArgs false
set_option maxRecDepth 100000

theorem first_ext : ∀ k : Fin 10, (⟨#[97, 98, 99, 100, 101, 102, 103, 104, 105, 106]⟩ : ByteArray).extract k (k + 1) = str [UInt8.ofNat (97 + k)] := by decide
theorem last_ext : ∀ k : Fin 3, (⟨#[120, 121, 122]⟩ : ByteArray).extract k (k + 1) = str [UInt8.ofNat (120 + k)] := by decide
theorem word6_any (x : Nat) (hx : x ≤ 255) (w : World) :
    Calls Tryd.prog 11 #[.int .u8 (x : Int)] w fun e w' => e = .returned (.string (str (Rd.wd x))) ∧ ∃ n, w' = w.drewN n := by
  have E1 := Lib.hid (first_ext ⟨x % 10, by omega⟩)
  have E2 := Lib.hid (last_ext ⟨x / 10 % 3, by omega⟩)
  obtain ⟨k, hk⟩ : ∃ k : Nat, x % 10 = k := ⟨_, rfl⟩
  obtain ⟨m, hm⟩ : ∃ m : Nat, x / 10 % 3 = m := ⟨_, rfl⟩
  have hk1 : (x : Int) % 10 = (k : Int) := by omega
  have hm1 : (x : Int) / 10 % 3 = (m : Int) := by omega
  have hk2 : (k : Int) < 10 := by omega
  have hm2 : (m : Int) < 3 := by omega
  have hx0 : (0 : Int) ≤ (x : Int) := by omega
  have hx1 : (x : Int) ≤ 255 := by omega
  have HK := Lib.hid hk
  have HM := Lib.hid hm
  clear hk hm
  go_enter Tryd.func11, Tryd.ntmps11
  go_wp2_with fail
  go_quiet (fail)
  go_wp2_with fail
  go_ret
  refine ⟨?_, nq, rfl⟩
  have h1 := E1.out
  have h2 := E2.out
  have e1 : (⟨#[97, 98, 99, 100, 101, 102, 103, 104, 105, 106]⟩ : ByteArray).extract k (k + 1) = str [UInt8.ofNat (97 + x % 10)] := by rw [← HK.out]; exact h1
  have e2 : (⟨#[120, 121, 122]⟩ : ByteArray).extract m (m + 1) = str [UInt8.ofNat (120 + x / 10 % 3)] := by rw [← HM.out]; exact h2
  show Ending.returned (Value.string (_ ++ _)) = _
  rw [e1, e2, ← str_bl (str [UInt8.ofNat (97 + x % 10)] ++ str [UInt8.ofNat (120 + x / 10 % 3)]), bl_append, bl_str, bl_str]
  rfl

def px (X : Nat → Nat) (k : Nat) : List Nat := (List.range k).map X
theorem px_succ (X : Nat → Nat) (k : Nat) : px X (k + 1) = px X k ++ [X k] := by simp [px, List.range_succ]
theorem px_len (X : Nat → Nat) (k : Nat) : (px X k).length = k := by simp [px]
theorem px_get {X : Nat → Nat} {k i : Nat} (h : i < k) : (px X k)[i]? = some (X i) := by simp [px, h]
theorem px_split (X : Nat → Nat) {j n : Nat} (h : j < n) : ∃ l, px X n = px X j ++ X j :: l := by
  obtain ⟨d, rfl⟩ : ∃ d, n = j + 1 + d := ⟨n - (j + 1), by omega⟩
  refine ⟨(List.range d).map (fun i => X (j + 1 + i)), ?_⟩
  induction d with
  | zero => rw [Nat.add_zero, px_succ]; rfl
  | succ d ih =>
    rw [show j + 1 + (d + 1) = (j + 1 + d) + 1 by omega, px_succ, ih (by omega), List.range_succ, List.map_append]
    simp
/-- How far the law's own list has come: nothing is wrong so far; or the j-th token was. -/
def TkSt (X : Nat → Nat) (cde L k : Nat) : Prop := (cde = 0 ∧ L = k ∧ Rd.Good_ [] (px X k)) ∨ (∃ j, L = j + 1 ∧ j < k ∧ Rd.Good_ [] (px X j) ∧ Rd.Fails ((px X j).map Rd.tokOf) (X j) cde)
def TkIn (X : Nat → Nat) (k k2 cd : Nat) : Prop := ((((px X k2).map Rd.tokOf).any fun t => t.name == Rd.wd (X k)) = true ∧ cd = 15) ∨ ((((px X k2).map Rd.tokOf).any fun t => t.name == Rd.wd (X k)) = false ∧ cd = 0)
theorem any_succ (X : Nat → Nat) (k k2 : Nat) : (((px X (k2 + 1)).map Rd.tokOf).any fun t => t.name == Rd.wd (X k)) = ((((px X k2).map Rd.tokOf).any fun t => t.name == Rd.wd (X k)) || (Rd.wd (X k2) == Rd.wd (X k))) := by
  rw [px_succ, List.map_append, List.any_append]; simp [Rd.tokOf]
theorem good_snoc {d : List Rd.Tok} {l : List Nat} {n : Nat} (h : Rd.Good_ d l) (h1 : ((d ++ l.map Rd.tokOf).any fun t => t.name == Rd.wd n) = false) (h2 : (d ++ l.map Rd.tokOf).length ≠ 20) : Rd.Good_ d (l ++ [n]) := by
  induction l generalizing d with
  | nil => exact ⟨by simpa using h1, by simpa using h2, trivial⟩
  | cons m r ih =>
    obtain ⟨g1, g2, g3⟩ := h
    exact ⟨g1, g2, ih g3 (by simpa using h1) (by simpa using h2)⟩
theorem tok_text {X : Nat → Nat} {k : Nat} {t T : ByteArray} (ht : bl t = Rd.txt (px X k)) (hT : str (Rd.wd (X k)) = T) :
    bl (t ++ ⟨#[37, 116, 111, 107, 101, 110, 32]⟩ ++ T ++ ⟨#[32, 34]⟩ ++ T ++ ⟨#[34, 10]⟩) = Rd.txt (px X (k + 1)) := by
  rw [px_succ, Rd.txt_snoc, bl_append, bl_append, bl_append, bl_append, bl_append, ht, ← hT, bl_str]
  simp only [List.append_assoc]
  rfl
theorem toksV_add (X : Nat → Nat) (k : Nat) (T : ByteArray) (hT : str (Rd.wd (X k)) = T) : toksV ((px X k).map Rd.tokOf) ++ [.string T, .string T, .string ⟨#[]⟩, .bool false] = toksV ((px X (k + 1)).map Rd.tokOf) := by
  rw [px_succ, List.map_append, List.map_cons, List.map_nil, toksV_snoc, ← hT]; rfl

theorem GramIs.toks {w : World} {toks : List Rd.Tok} {A : Option Addr} {n cap g : Nat} (h2 : n = toks.length) (h3 : Lie w 41 A (toksV toks)) (h4 : At w g 51 #[.string ⟨#[101]⟩, .slice none 0 0, .string ⟨#[]⟩, .string ⟨#[]⟩]) :
    GramIs w (.agg #[.slice A n cap, .slice none 0 0, .slice none 0 0, .string ⟨#[101]⟩, .slice (some ⟨g, 0, none⟩) 1 1]) ⟨toks, [], [], [101], [⟨[101], [], [], []⟩]⟩ := by
  subst h2
  exact ⟨_, _, _, _, rfl, ⟨A, cap, rfl, h3⟩, ⟨none, 0, rfl, Lie.nil _ _ _⟩, ⟨none, 0, [], rfl, rfl, Lie.nil _ _ _, by simp⟩, ⟨some ⟨g, 0, none⟩, 1, [(⟨[101], [], [], []⟩, .slice none 0 0)], rfl, rfl, ⟨fun _ => ⟨g, 0, _, rfl, h4, fun j u h => by rw [Nat.zero_add, List.getElem?_toArray]; exact h⟩⟩, fun p hp => by
    simp only [List.mem_cons, List.not_mem_nil, or_false] at hp
    subst hp
    exact Nms.nil _⟩⟩

set_option maxHeartbeats 4000000 in
theorem tokens_law (A : Option Addr) (n c : Nat) (X : Nat → Nat) (W : World) (hX : Bytes8 W W.heap.size A n X) (hT : Tab W) (h0 : 0 < W.heap.size) :
    Calls Tryd.prog 5 #[.slice A n c] W fun e w' => e = .returned (.bool true) ∧ Below W.heap.size W w' := by
  have HT := Lib.hid hT
  have HX := Lib.hid hX
  have hn63 := hX.len
  clear hT hX
  obtain ⟨i0, hi, hz0, hz1, hz2⟩ := info_parts tokinfo
  go_enter Tryd.func5, Tryd.ntmps5
  go_wp2_with fail
  refine (awake6_any _ HT.out h0).mono ?_
  rintro e w1 ⟨rfl, hb1⟩
  have HB1 := Lib.hid hb1
  have HT1 := Lib.hid (HT.out.below hb1 h0)
  have hs1 := hb1.size
  have HX1 := Lib.hid (HX.out.below hb1)
  clear hb1
  by_cases h25 : (25 : Int) < (n : Int)
  · go_wp2_with fail
    go_ret
    exact ⟨rfl, HB1.out⟩
  have h26 : (n : Int) ≤ 25 := by omega
  clear h25
  go_wp2_with fail
  go_loopw [4, 5, 6, 7, 8] (fun s wv cv lv i wr => ∃ (k L cde : Nat) (t : ByteArray) (a5 : Option Addr) (s5 : Nat), k ≤ n ∧ L ≤ k ∧ i = .int .i64 (k : Int) ∧ s = .string t ∧ bl t = Rd.txt (px X k) ∧ cv = .int .i64 (cde : Int) ∧ lv = .int .i64 (L : Int) ∧ wv = .slice a5 L s5 ∧ wr.ownsRow w1.heap.size 41 4 (.slice a5 L s5) L (toksV ((px X L).map Rd.tokOf)) ∧ TkSt X cde L k ∧ Below w1.heap.size w1 wr) (fun _ _ _ _ i _ => n - (intOf i).toNat)
  case atStart => exact ⟨0, 0, 0, ⟨#[]⟩, none, 0, by omega, by omega, rfl, rfl, rfl, rfl, rfl, rfl, World.ownsRow_nil _ _ _ _, .inl ⟨rfl, rfl, trivial⟩, Below.refl _ _⟩
  case round =>
    obtain ⟨k, L, cde, t, a5, s5, hk, hL, rfl, rfl, htx, rfl, rfl, rfl, hown, hst, hbe⟩ := hrel
    have hts : t.size = 15 * k := by rw [← bl_length, htx, Rd.txt_len, px_len]
    have HTX := Lib.hid htx
    have HOWN := Lib.hid hown
    have HBE := Lib.hid hbe
    have HST := Lib.hid hst
    have hsz := hbe.size
    clear htx hown hst hbe
    by_cases hlt : k < n
    · obtain ⟨b0, o, hA, hb0, hcc0⟩ := HX1.out.each k hlt
      subst hA
      have hb01 : b0 < w1.heap.size := by omega
      have hcc1 := hcc0
      have hcell : wr.cell? ⟨b0, o + k, none⟩ = some (.int .u8 (X k : Int)) := (HBE.out.cell (p := ⟨b0, o + k, none⟩) hb01).trans hcc0
      have hx := HX1.out.rx k hlt
      obtain ⟨T, hTT⟩ : ∃ T, str (Rd.wd (X k)) = T := ⟨_, rfl⟩
      have hTs : T.size = 2 := by rw [← hTT]; rfl
      have HWD := Lib.hid (show ∀ w : World, Calls Tryd.prog 11 #[.int .u8 (X k : Int)] w fun e w' => e = .returned (.string T) ∧ ∃ n, w' = w.drewN n from fun w => hTT ▸ word6_any (X k) hx w)
      have HTW := Lib.hid hTT
      have hki : (k : Int) < (n : Int) := by omega
      have hk0 : (0 : Int) ≤ (k : Int) := by omega
      have l1 : (⟨#[37, 116, 111, 107, 101, 110, 32]⟩ : ByteArray).size = 7 := rfl
      have l2 : (⟨#[32, 34]⟩ : ByteArray).size = 2 := rfl
      have l3 : (⟨#[34, 10]⟩ : ByteArray).size = 2 := rfl
      clear hTT hx hcc0
      rcases HST.out with ⟨hc0, hL2, hgood⟩ | ⟨j, rfl, hj, hgood, hfail⟩
      · have hL3 : k = L := hL2.symm
        subst hc0 hL3
        clear hL2
        have HGOOD := Lib.hid hgood
        clear hgood
        go_wp2_with fail
        go_quiet (first | (go_at_call 11; refine quiet_texts (HWD.out _)))
        go_wp2_with fail
        go_loopw [6, 9] (fun cv i wr' => ∃ (k2 cd m : Nat), k2 ≤ k ∧ i = .int .i64 (k2 : Int) ∧ cv = .int .i64 (cd : Int) ∧ TkIn X k k2 cd ∧ wr' = wr.drewN m) (fun _ i _ => k - (intOf i).toNat)
        case atStart => exact ⟨0, 0, _, by omega, rfl, rfl, .inr ⟨rfl, rfl⟩, rfl⟩
        case round =>
          obtain ⟨k2, cd, mq, hk2, rfl, rfl, hin, rfl⟩ := hrel
          have HIN := Lib.hid hin
          clear hin
          by_cases hlt2 : k2 < k
          · have hv : (toksV ((px X k).map Rd.tokOf))[k2 * 4 + 0]? = some (.string (str (Rd.wd (X k2)))) := flat_get Rd.Tok.cells 4 (fun _ => rfl) _ k2 0 (Rd.tokOf (X k2)) _ (by rw [List.getElem?_map, px_get hlt2]; rfl) (by omega) rfl
            obtain ⟨b1, o1, hA5, hb1, f1⟩ := (Lie.own HOWN.out).cell (fun e => by rw [e] at hv; simp at hv)
            subst hA5
            have y0 : wr.cell? ⟨b1, o1 + k2 * 4, none⟩ = some (.string (str (Rd.wd (X k2)))) := f1 _ _ hv
            have hanys := any_succ X k k2
            have hstr : ((str (Rd.wd (X k2))).toList == T.toList) = (Rd.wd (X k2) == Rd.wd (X k)) := by rw [← HTW.out, str_same]
            obtain ⟨T2, hT2⟩ : ∃ T2, str (Rd.wd (X k2)) = T2 := ⟨_, rfl⟩
            rw [hT2] at y0 hstr
            have HAN := Lib.hid hanys
            have HSTR := Lib.hid hstr
            have hki2 : (k2 : Int) < (k : Int) := by omega
            have hk20 : (0 : Int) ≤ (k2 : Int) := by omega
            obtain ⟨W2, hW2⟩ : ∃ W2, wr.drewN mq = W2 := ⟨_, rfl⟩
            have y1 : W2.cell? ⟨b1, o1 + k2 * 4, none⟩ = some (.string T2) := hW2 ▸ y0
            have ycc : W2.cell? ⟨b0, o + k, none⟩ = some (.int .u8 (X k : Int)) := hW2 ▸ hcell
            rw [hW2]
            have HW2 := Lib.hid hW2
            clear hv f1 hT2 hanys hstr hW2 y0
            by_cases hsm : (T2.toList == T.toList) = true
            · go_wp2_with fail
              go_quiet (first | (go_at_call 11; refine quiet_texts (HWD.out _)))
              go_wp2_with fail
              go_roundw
              case rel => exact ⟨k2 + 1, 15, _, by omega, by go_num, rfl, .inl ⟨by rw [HAN.out, ← HSTR.out, hsm, Bool.or_true], rfl⟩, by rw [← HW2.out, World.drewN_drewN]⟩
              case measure => simp [intOf]; omega
            · have hsn : (T2.toList == T.toList) = false := by simpa using hsm
              clear hsm
              go_wp2_with fail
              go_quiet (first | (go_at_call 11; refine quiet_texts (HWD.out _)))
              go_wp2_with fail
              go_roundw
              case rel =>
                refine ⟨k2 + 1, cd, _, by omega, by go_num, rfl, ?_, by rw [← HW2.out, World.drewN_drewN]⟩
                unfold TkIn
                rw [HAN.out, ← HSTR.out, hsn, Bool.or_false]
                exact HIN.out
              case measure => simp [intOf]; omega
          · obtain rfl : k = k2 := by omega
            rcases HIN.out with ⟨h15, rfl⟩ | ⟨h00, rfl⟩
            · have HAN := Lib.hid h15
              clear h15
              rw [show ((15 : Nat) : Int) = 15 from rfl]
              go_wp2_with fail
              obtain ⟨W2, hW2⟩ : ∃ W2, wr.drewN mq = W2 := ⟨_, rfl⟩
              have hB2 := below_drewN HBE.out mq
              have hO2 := own_stay HOWN.out (Stay.below (below_drewN (Below.refl wr.heap.size wr) mq))
              have hcc2 : (wr.drewN mq).cell? ⟨b0, o + k, none⟩ = some (.int .u8 (X k : Int)) := hcell
              rw [hW2] at hB2 hO2 hcc2 ⊢
              have HB2 := Lib.hid hB2
              have HOX := Lib.hid (show ∀ w', Below W2.heap.size W2 w' → w'.ownsRow w1.heap.size 41 4 (.slice a5 k s5) k (toksV ((px X k).map Rd.tokOf)) from fun w' hb => own_stay hO2 (Stay.below hb))
              have hS2 := hB2.size
              have hc3 : k + 1 ≤ maxLen := by unfold maxLen; omega
              have hc4 : (k + 1) * 56 ≤ 140737488355328 := by omega
              clear hB2 hO2 hW2 hcell
              go_region_held3 (fun w' => w'.cell? ⟨b0, o + k, none⟩ = some (.int .u8 (X k : Int))) (first | exact hcc2 | go_keep | exact hcc5) (first
                | (go_at_call 11; refine Calls.mono (HWD.out _) ?_; rintro e w4 ⟨rfl, q4, rfl⟩)
                | (refine step_append_own3 (by rfl) _ _ 23 rfl w1.heap.size 41 i0 _ 4 56 Tryd.underlying23 hi hz0 hz1 hz2 rfl (by decide) _ k (toksV ((px X k).map Rd.tokOf)) rfl (HOX.out _ (by repeat (first | exact Below.refl _ _ | refine below_drewN ?_ _ | refine below_drew ?_ | refine Below.alloc ?_ (by simp) _))) _ 1 1 [.string T, .string T, .string ⟨#[]⟩, .bool false] rfl rfl (cells_new _ _ _) (by simp [Value.oneCell']) hc3 hc4 (by simp; omega) ?_
                   intro v5 w5 hown5 hg5 hn5
                   rw [toksV_add X k T HTW.out] at hown5
                   have hb5 : Below w1.heap.size w1 w5 := Below.grown (HB2.out.trans (Below.mono (show Below W2.heap.size W2 _ by repeat (first | exact Below.refl _ _ | refine below_drewN ?_ _ | refine below_drew ?_ | refine Below.alloc ?_ (by simp) _)) hS2)) hg5 (by simp; omega) (fun j hj => (own_lt (HOX.out W2 (Below.refl _ _)) j hj).1)
                   have hcc5 : w5.cell? ⟨b0, o + k, none⟩ = some (.int .u8 (X k : Int)) := (hb5.cell (p := ⟨b0, o + k, none⟩) hb01).trans hcc1
                   obtain ⟨a6, s6, rfl⟩ := own_form hown5))
              go_wp2_with fail
              go_roundw
              case rel => exact ⟨k + 1, k + 1, 15, _, a6, s6, by omega, Nat.le_refl _, by go_num, rfl, tok_text HTX.out HTW.out, rfl, by go_num, by go_num, hown5, (.inr ⟨k, rfl, by omega, HGOOD.out, .inl ⟨HAN.out, rfl⟩⟩), hb5⟩
              case measure => simp [intOf]; omega
            · have HAN := Lib.hid h00
              clear h00
              rw [show ((0 : Nat) : Int) = 0 from rfl]
              by_cases h20 : k = 20
              · have n1 : ((k : Int) == 20) = true := by rw [h20]; rfl
                have n2 : (k == 20) = true := by rw [h20]; rfl
                have H20 := Lib.hid h20
                clear h20
                go_wp2_with fail
                obtain ⟨W2, hW2⟩ : ∃ W2, wr.drewN mq = W2 := ⟨_, rfl⟩
                have hB2 := below_drewN HBE.out mq
                have hO2 := own_stay HOWN.out (Stay.below (below_drewN (Below.refl wr.heap.size wr) mq))
                have hcc2 : (wr.drewN mq).cell? ⟨b0, o + k, none⟩ = some (.int .u8 (X k : Int)) := hcell
                rw [hW2] at hB2 hO2 hcc2 ⊢
                have HB2 := Lib.hid hB2
                have HOX := Lib.hid (show ∀ w', Below W2.heap.size W2 w' → w'.ownsRow w1.heap.size 41 4 (.slice a5 k s5) k (toksV ((px X k).map Rd.tokOf)) from fun w' hb => own_stay hO2 (Stay.below hb))
                have hS2 := hB2.size
                have hc3 : k + 1 ≤ maxLen := by unfold maxLen; omega
                have hc4 : (k + 1) * 56 ≤ 140737488355328 := by omega
                clear hB2 hO2 hW2 hcell
                go_region_held3 (fun w' => w'.cell? ⟨b0, o + k, none⟩ = some (.int .u8 (X k : Int))) (first | exact hcc2 | go_keep | exact hcc5) (first
                  | (go_at_call 11; refine Calls.mono (HWD.out _) ?_; rintro e w4 ⟨rfl, q4, rfl⟩)
                  | (refine step_append_own3 (by rfl) _ _ 23 rfl w1.heap.size 41 i0 _ 4 56 Tryd.underlying23 hi hz0 hz1 hz2 rfl (by decide) _ k (toksV ((px X k).map Rd.tokOf)) rfl (HOX.out _ (by repeat (first | exact Below.refl _ _ | refine below_drewN ?_ _ | refine below_drew ?_ | refine Below.alloc ?_ (by simp) _))) _ 1 1 [.string T, .string T, .string ⟨#[]⟩, .bool false] rfl rfl (cells_new _ _ _) (by simp [Value.oneCell']) hc3 hc4 (by simp; omega) ?_
                     intro v5 w5 hown5 hg5 hn5
                     rw [toksV_add X k T HTW.out] at hown5
                     have hb5 : Below w1.heap.size w1 w5 := Below.grown (HB2.out.trans (Below.mono (show Below W2.heap.size W2 _ by repeat (first | exact Below.refl _ _ | refine below_drewN ?_ _ | refine below_drew ?_ | refine Below.alloc ?_ (by simp) _)) hS2)) hg5 (by simp; omega) (fun j hj => (own_lt (HOX.out W2 (Below.refl _ _)) j hj).1)
                     have hcc5 : w5.cell? ⟨b0, o + k, none⟩ = some (.int .u8 (X k : Int)) := (hb5.cell (p := ⟨b0, o + k, none⟩) hb01).trans hcc1
                     obtain ⟨a6, s6, rfl⟩ := own_form hown5))
                go_wp2_with fail
                go_roundw
                case rel => exact ⟨k + 1, k + 1, 3, _, a6, s6, by omega, Nat.le_refl _, by go_num, rfl, tok_text HTX.out HTW.out, rfl, by go_num, by go_num, hown5, (.inr ⟨k, rfl, by omega, HGOOD.out, .inr ⟨HAN.out, by rw [List.length_map, px_len]; exact H20.out, rfl⟩⟩), hb5⟩
                case measure => simp [intOf]; omega
              · have n1 : ((k : Int) == 20) = false := by rw [beq_eq_false_iff_ne]; omega
                have n2 : (k == 20) = false := by rw [beq_eq_false_iff_ne]; omega
                have H20 := Lib.hid h20
                clear h20
                go_wp2_with fail
                obtain ⟨W2, hW2⟩ : ∃ W2, wr.drewN mq = W2 := ⟨_, rfl⟩
                have hB2 := below_drewN HBE.out mq
                have hO2 := own_stay HOWN.out (Stay.below (below_drewN (Below.refl wr.heap.size wr) mq))
                have hcc2 : (wr.drewN mq).cell? ⟨b0, o + k, none⟩ = some (.int .u8 (X k : Int)) := hcell
                rw [hW2] at hB2 hO2 hcc2 ⊢
                have HB2 := Lib.hid hB2
                have HOX := Lib.hid (show ∀ w', Below W2.heap.size W2 w' → w'.ownsRow w1.heap.size 41 4 (.slice a5 k s5) k (toksV ((px X k).map Rd.tokOf)) from fun w' hb => own_stay hO2 (Stay.below hb))
                have hS2 := hB2.size
                have hc3 : k + 1 ≤ maxLen := by unfold maxLen; omega
                have hc4 : (k + 1) * 56 ≤ 140737488355328 := by omega
                clear hB2 hO2 hW2 hcell
                go_region_held3 (fun w' => w'.cell? ⟨b0, o + k, none⟩ = some (.int .u8 (X k : Int))) (first | exact hcc2 | go_keep | exact hcc5) (first
                  | (go_at_call 11; refine Calls.mono (HWD.out _) ?_; rintro e w4 ⟨rfl, q4, rfl⟩)
                  | (refine step_append_own3 (by rfl) _ _ 23 rfl w1.heap.size 41 i0 _ 4 56 Tryd.underlying23 hi hz0 hz1 hz2 rfl (by decide) _ k (toksV ((px X k).map Rd.tokOf)) rfl (HOX.out _ (by repeat (first | exact Below.refl _ _ | refine below_drewN ?_ _ | refine below_drew ?_ | refine Below.alloc ?_ (by simp) _))) _ 1 1 [.string T, .string T, .string ⟨#[]⟩, .bool false] rfl rfl (cells_new _ _ _) (by simp [Value.oneCell']) hc3 hc4 (by simp; omega) ?_
                     intro v5 w5 hown5 hg5 hn5
                     rw [toksV_add X k T HTW.out] at hown5
                     have hb5 : Below w1.heap.size w1 w5 := Below.grown (HB2.out.trans (Below.mono (show Below W2.heap.size W2 _ by repeat (first | exact Below.refl _ _ | refine below_drewN ?_ _ | refine below_drew ?_ | refine Below.alloc ?_ (by simp) _)) hS2)) hg5 (by simp; omega) (fun j hj => (own_lt (HOX.out W2 (Below.refl _ _)) j hj).1)
                     have hcc5 : w5.cell? ⟨b0, o + k, none⟩ = some (.int .u8 (X k : Int)) := (hb5.cell (p := ⟨b0, o + k, none⟩) hb01).trans hcc1
                     obtain ⟨a6, s6, rfl⟩ := own_form hown5))
                go_wp2_with fail
                go_roundw
                case rel => exact ⟨k + 1, k + 1, 0, _, a6, s6, by omega, Nat.le_refl _, by go_num, rfl, tok_text HTX.out HTW.out, rfl, by go_num, by go_num, hown5, (.inl ⟨rfl, rfl, by rw [px_succ]; exact good_snoc HGOOD.out HAN.out (by rw [List.nil_append, List.length_map, px_len]; exact H20.out)⟩), hb5⟩
                case measure => simp [intOf]; omega
      · have hc0 : cde = 15 ∨ cde = 3 := by rcases hfail with ⟨_, h⟩ | ⟨_, _, h⟩ <;> omega
        have n1 : ((cde : Int) != 0) = true := by rw [bne_iff_ne]; omega
        have n2 : (cde != 0) = true := by rw [bne_iff_ne]; omega
        have HGOOD := Lib.hid hgood
        have HFAIL := Lib.hid hfail
        clear hgood hfail hc0
        go_wp2_with fail
        go_quiet (first | (go_at_call 11; refine quiet_texts (HWD.out _)))
        go_wp2_with fail
        go_roundw
        case rel => exact ⟨k + 1, j + 1, cde, _, a5, s5, by omega, by omega, by go_num, rfl, tok_text HTX.out HTW.out, rfl, rfl, rfl, own_stay HOWN.out (Stay.below (below_drewN (Below.refl _ _) _)), .inr ⟨j, rfl, by omega, HGOOD.out, HFAIL.out⟩, below_drewN HBE.out _⟩
        case measure => simp [intOf]; omega
    · obtain rfl : n = k := by omega
      go_wp2_with fail
      obtain ⟨T0, hT0⟩ : ∃ T0, t ++ (⟨#[37, 37, 32, 101, 32, 58, 32, 59]⟩ : ByteArray) = T0 := ⟨_, rfl⟩
      have hbT : bl T0 = Rd.txt (px X n) ++ Rd.lastT := by rw [← hT0, bl_append, HTX.out]; rfl
      have hTs : T0.size ≤ 9223372036854775807 := by
        rw [← bl_length, hbT, List.length_append, Rd.txt_len, px_len]
        show _ + 8 ≤ _
        omega
      have hTr : Tab wr := HT1.out.below HBE.out (by omega)
      have hz0r : 0 < wr.heap.size := by omega
      rw [hT0]
      clear hT0
      rcases HST.out with ⟨hc0, hL2, hgood⟩ | ⟨j, hL2, hj, hgood, hfail⟩
      · have hL3 : n = L := hL2.symm
        subst hc0 hL3
        obtain ⟨e1, e2⟩ := Rd.read_toks (px X n) (by rw [px_len]; omega) hgood
        rw [← hbT] at e1 e2
        refine (read_is T0 _ _ wr hTs hTr hz0r e2 e1).mono ?_
        clear e1 e2 hbT hTs hTr hgood hL2
        rintro e w2 ⟨⟨gv, rfl, hgi⟩, hb2⟩
        have HGI := Lib.hid hgi
        obtain ⟨tv, sv, lv, rv, rfl, ⟨A1, u1, rfl, k1⟩, ⟨A2, u2, rfl, k2⟩, ⟨A3, u3, pl, rfl, q3, k3, j3⟩, ⟨A4, u4, ql, rfl, q4, k4, j4⟩⟩ := hgi.ex
        simp only [diagV, List.length_nil, List.length_cons, List.length_map, px_len] at HGI ⊢
        rw [show ((0 : Nat) : Int) = 0 from rfl]
        have HB2 := Lib.hid hb2
        have hs2 := hb2.size
        clear hgi k1 k2 k3 k4 j3 j4 q3 q4 hb2
        go_wp2_with fail
        have hbF : Below w2.heap.size w2 (((w2.alloc (.cells #[.slice A1 n u1, .slice A2 0 u2, .slice A3 0 u3, .string (str [101]), .slice A4 1 u4] 28)).alloc (.cells #[.int .i64 0, .int .i64 0, .int .i64 0] 33)).alloc (.cells #[.string ⟨#[101]⟩, .slice none 0 0, .string ⟨#[]⟩, .string ⟨#[]⟩] 51)) :=
          (((Below.refl _ _).alloc (Nat.le_refl _) _).alloc (by simp <;> omega) _).alloc (by simp <;> omega) _
        have hAt := At.new ((w2.alloc (.cells #[.slice A1 n u1, .slice A2 0 u2, .slice A3 0 u3, .string (str [101]), .slice A4 1 u4] 28)).alloc (.cells #[.int .i64 0, .int .i64 0, .int .i64 0] 33)) 51 #[.string ⟨#[101]⟩, .slice none 0 0, .string ⟨#[]⟩, .string ⟨#[]⟩]
        have hszz : ((w2.alloc (.cells #[.slice A1 n u1, .slice A2 0 u2, .slice A3 0 u3, .string (str [101]), .slice A4 1 u4] 28)).alloc (.cells #[.int .i64 0, .int .i64 0, .int .i64 0] 33)).heap.size = w2.heap.size + 1 + 1 := by simp
        rw [hszz] at hAt
        obtain ⟨W4, hW4⟩ : ∃ W4, ((w2.alloc (.cells #[.slice A1 n u1, .slice A2 0 u2, .slice A3 0 u3, .string (str [101]), .slice A4 1 u4] 28)).alloc (.cells #[.int .i64 0, .int .i64 0, .int .i64 0] 33)).alloc (.cells #[.string ⟨#[101]⟩, .slice none 0 0, .string ⟨#[]⟩, .string ⟨#[]⟩] 51) = W4 := ⟨_, rfl⟩
        rw [hW4] at hbF hAt ⊢
        have hBW := HB2.out.trans (hbF.mono hs2)
        refine (same_any _ _ ⟨(px X n).map Rd.tokOf, [], [], [101], [⟨[101], [], [], []⟩]⟩ _ (HGI.out.below hbF) (GramIs.toks (by rw [List.length_map, px_len]) ((Lie.own HOWN.out).below hBW) hAt) ⟨by rw [List.length_map, px_len]; omega, by simp, by simp, by simp⟩ (by simp) (by simp)).mono ?_
        rintro e w5 ⟨rfl, hb5⟩
        have HB5 := Lib.hid (HB1.out.trans ((HBE.out.trans ((hBW.trans (hb5.mono hBW.size)).mono hsz)).mono hs1))
        clear hbF hAt hW4 hBW hb5
        go_wp2_with fail
        go_ret
        exact ⟨rfl, HB5.out⟩
      · obtain ⟨l2, hsp⟩ := px_split X hj
        have e := Rd.read_tokfail (px X j) (X j) l2 cde (by rw [← hsp, px_len]; omega) hgood hfail
        rw [← hsp, px_len] at e
        obtain ⟨e1, e2⟩ := e
        rw [← hbT] at e1 e2
        have hc0 : cde = 15 ∨ cde = 3 := by rcases hfail with ⟨_, h⟩ | ⟨_, _, h⟩ <;> omega
        have n1 : ((cde : Int) != 0) = true := by rw [bne_iff_ne]; omega
        have n2 : (cde != 0) = true := by rw [bne_iff_ne]; omega
        refine (read_is T0 _ _ wr hTs hTr hz0r e2 e1).mono ?_
        clear e1 e2 hbT hTs hTr hgood hsp hfail hc0
        subst hL2
        rintro e w2 ⟨⟨gv, rfl, hgi⟩, hb2⟩
        have HGI := Lib.hid hgi
        obtain ⟨tv, sv, lv, rv, rfl, ⟨A1, u1, rfl, k1⟩, ⟨A2, u2, rfl, k2⟩, ⟨A3, u3, pl, rfl, q3, k3, j3⟩, ⟨A4, u4, ql, rfl, q4, k4, j4⟩⟩ := hgi.ex
        simp only [diagV, Rd.zero, List.length_nil] at HGI ⊢
        have hs2 := hb2.size
        obtain ⟨hg, hd, hbn⟩ := two_new w2 #[.slice A1 0 u1, .slice A2 0 u2, .slice A3 0 u3, .string (str []), .slice A4 0 u4] #[.int .i64 (cde : Int), .int .i64 ((j + 1 : Nat) : Int), .int .i64 8]
        have HGZ := Lib.hid (HGI.out.below hbn)
        have HB2 := Lib.hid (HBE.out.trans ((hb2.trans (hbn.mono hs2)).mono hsz))
        have HDD := Lib.hid hd
        clear hgi k1 k2 k3 k4 j3 j4 q3 q4 hb2 hg hd hbn
        go_wp2_with fail
        refine (zero_any _ _ HGZ.out).mono ?_
        rintro e w3 ⟨rfl, hb3⟩
        have hd3 := HDD.out.below hb3 HDD.out.lt
        have d0 := hd3.cell 0
        have d1 := hd3.cell 1
        have d2 := hd3.cell 2
        simp only [List.getElem?_toArray, List.getElem?_cons_zero, List.getElem?_cons_succ] at d0 d1 d2
        have dl := hd3.lt
        have HB3 := Lib.hid (HB1.out.trans ((HB2.out.trans (hb3.mono HB2.out.size)).mono hs1))
        have m1 : ((cde : Int) == (cde : Int)) = true := by simp
        have m2 : (((j + 1 : Nat) : Int) == ((j + 1 : Nat) : Int)) = true := by simp
        clear hb3 hd3
        go_wp2_with fail
        go_ret
        exact ⟨rfl, HB3.out⟩

end Go.Proofs.YthmkhbinnglemaaDoor
