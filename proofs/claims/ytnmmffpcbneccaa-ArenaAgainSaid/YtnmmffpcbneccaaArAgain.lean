/-
  The walk over tronagelaw02.ArenaAgain.
-/
import Derived.Test.YtnmmffpcbneccaaAr6
import Derived.Test.YtnmmffpcbneccaaArAw
import Derived.Test.YtnmmffpcbneccaaOps
import Derived.StillTailTactics
import Derived.Deep.RegionWith
import Derived.BigRegion
namespace Go.Proofs.Ytnmmffpcbneccaa
open Go.RowKit
set_option linter.unusedVariables false

/-- What an arena holds behind k puts more. -/
def fill (l : Int) (X : Nat → Int) (L : List (Int × Int)) : Nat → List (Int × Int)
  | 0 => L
  | k + 1 => putL l (tot (fill l X L k)) (X k) (100 + (k : Int)) (fill l X L k)
def codeAt (l : Int) (X : Nat → Int) (L : List (Int × Int)) (k : Nat) : Int := putCode l (tot (fill l X L k)) (X k)
def codes (l : Int) (X : Nat → Int) (L : List (Int × Int)) (k : Nat) : List Value := (List.range k).map fun j => .int .i64 (codeAt l X L j)
theorem codes_succ (l : Int) (X : Nat → Int) (L : List (Int × Int)) (k : Nat) : codes l X L (k + 1) = codes l X L k ++ [.int .i64 (codeAt l X L k)] := by
  simp [codes, List.range_succ]
theorem codes_get (l : Int) (X : Nat → Int) (L : List (Int × Int)) {k j : Nat} (h : j < k) : (codes l X L k)[j]? = some (.int .i64 (codeAt l X L j)) := by
  simp [codes, h]
theorem putL_pre (l u n x : Int) (L : List (Int × Int)) : ∃ M, putL l u n x L = L ++ M := by
  unfold putL
  split
  · exact ⟨[], by simp⟩
  · split
    · exact ⟨[], by simp⟩
    · exact ⟨_, rfl⟩
theorem fill_pre (l : Int) (X : Nat → Int) (L : List (Int × Int)) : ∀ k, ∃ M, fill l X L k = L ++ M
  | 0 => ⟨[], by simp [fill]⟩
  | k + 1 => by
    obtain ⟨M, hM⟩ := fill_pre l X L k
    obtain ⟨M', hM'⟩ := putL_pre l (tot (fill l X L k)) (X k) (100 + (k : Int)) (fill l X L k)
    exact ⟨M ++ M', by rw [fill, hM', hM, List.append_assoc]⟩
theorem fill_take (l : Int) (X : Nat → Int) (L : List (Int × Int)) (k : Nat) : (fill l X L k).take L.length = L := by
  obtain ⟨M, hM⟩ := fill_pre l X L k
  rw [hM, List.take_left]
theorem fill_cut (l : Int) (X : Nat → Int) (L : List (Int × Int)) (k : Nat) : L.length = cutAt (L.length : Int) (fill l X L k).length := by
  obtain ⟨M, hM⟩ := fill_pre l X L k
  rw [hM, List.length_append]; unfold cutAt; omega
theorem own_in {w : World} {B e size n cap : Nat} {ao : Option Addr} {xs : List Value} (h : w.ownsRow B e size (.slice ao n cap) n xs) (hn : 0 < n) : ∃ g, ao = some ⟨g, 0, none⟩ := by
  rcases h.2 with ⟨h1, h2⟩ | ⟨g, cap', cur, h1, _⟩
  · omega
  · simp at h1; exact ⟨g, h1.1⟩
theorem own_form {w : World} {B e size n : Nat} {v : Value} {xs : List Value} (h : w.ownsRow B e size v n xs) : ∃ ao cap, v = .slice ao n cap := by
  rcases own_shape h with ⟨rfl, e, _⟩ | ⟨g', cap, rfl, _⟩
  · rw [e]; exact ⟨_, _, rfl⟩
  · exact ⟨_, _, rfl⟩
theorem codeAt_spell (l : Int) (X : Nat → Int) (L : List (Int × Int)) (k : Nat) : putCode l (tot (fill l X L k)) (X k) = codeAt l X L k := rfl
theorem infoE : (Try.prog.info? 44).map (fun i => (i.zero, i.size, i.bytes)) = some (some (.int .i64 0), 1, 8) := by kernel_rfl

set_option maxRecDepth 100000 in
set_option maxHeartbeats 8000000 in
theorem again_any (a : Int) (ba : -9223372036854775808 ≤ a ∧ a ≤ 9223372036854775807) (A1 : Option Addr) (n1 c1 : Nat) (X1 : Nat → Int) (A2 : Option Addr) (n2 c2 : Nat) (X2 : Nat → Int) (w : World) (O1 : Nums w w.heap.size A1 n1 X1) (O2 : Nums w w.heap.size A2 n2 X2) :
    Calls Try.prog 7 #[.int .i64 a, .slice A1 n1 c1, .slice A2 n2 c2] w fun e w' => e = .returned (.bool true) ∧ Below w.heap.size w w' := by
  have HO1 := Lib.hid O1
  have HO2 := Lib.hid O2
  clear O1 O2
  go_enter Try.func7, Try.ntmps7
  go_wp2_with fail
  refine (awake_any _).mono ?_
  rintro e w1 ⟨rfl, hb1⟩
  have HB1 := Lib.hid hb1
  clear hb1
  go_wp2_with fail
  refine (new_any a _).mono ?_
  rintro e w2 ⟨rfl, rfl⟩
  go_wp2_with fail
  refine (newI_any _ _).mono ?_
  rintro e w3 ⟨rfl, h2⟩
  have h := OneI.start HB1.out (hld_range a)
  rw [h2] at h
  have H3 := Lib.hid h
  clear h h2
  by_cases h30 : (30 : Int) < (n1 : Int)
  · go_wp2_with fail
    go_ret
    exact ⟨rfl, H3.out.bel⟩
  · by_cases h31 : (30 : Int) < (n2 : Int)
    · go_wp2_with fail
      go_ret
      exact ⟨rfl, H3.out.bel⟩
    · have hn1 : n1 ≤ 30 := by omega
      have hn2 : n2 ≤ 30 := by omega
      go_wp2_with fail
      go_loopw [10] (fun i wr => ∃ (k : Nat) (L : List (Int × Int)), k ≤ n1 ∧ i = .int .i64 (k : Int) ∧ OneI w (w1.heap.size + 1) w1.heap.size wr (hld a) L) (fun i _ => n1 - (intOf i).toNat)
      case atStart => exact ⟨0, [], by omega, rfl, H3.out⟩
      case round =>
        obtain ⟨k, L, hk, rfl, hP⟩ := hrel
        have P := Lib.hid hP
        clear hP
        by_cases hlt : k < n1
        · obtain ⟨b, o, rfl, hbo, c0⟩ := (HO1.out.below P.out.bel).each k hlt
          have rX := HO1.out.rx k hlt
          go_wp2_with fail
          refine (oneI_put_some _ _ _ _ _ _ P.out (k : Int) (X1 k) rX).mono ?_
          rintro e w5 ⟨pn, pc, L5, rfl, h5, _⟩
          have H5 := Lib.hid h5
          clear h5
          go_wp2_with fail
          go_roundw
          case rel => exact ⟨k + 1, _, by omega, by go_num, H5.out⟩
          case measure => simp [intOf]; omega
        · obtain rfl : n1 = k := by omega
          go_wp2_with fail
          refine (oneI_len _ _ _ _ _ _ P.out).mono ?_
          rintro e w4 ⟨rfl, rfl⟩
          go_wp2_with fail
          go_loopw [12, 13] (fun v i wq => ∃ (k : Nat) (ao : Option Addr) (cap : Nat), k ≤ n2 ∧ i = .int .i64 (k : Int) ∧ v = .slice ao k cap ∧ OneI w (w1.heap.size + 1) w1.heap.size wq (hld a) (fill (hld a) X2 L k) ∧ wq.ownsRow w.heap.size 44 1 (.slice ao k cap) k (codes (hld a) X2 L k)) (fun _ i _ => n2 - (intOf i).toNat)
          case atStart => exact ⟨0, none, 0, by omega, rfl, rfl, P.out, World.ownsRow_nil _ _ _ _⟩
          case round =>
            obtain ⟨j, ao, cap, hj, rfl, rfl, hQ, hown⟩ := hrel
            have Q := Lib.hid hQ
            have W := Lib.hid hown
            clear hQ hown
            by_cases hlt2 : j < n2
            · obtain ⟨b, o, rfl, hbo, c0⟩ := (HO2.out.below Q.out.bel).each j hlt2
              have rX := HO2.out.rx j hlt2
              go_wp2_with fail
              refine (oneI_put_sp _ _ _ _ _ _ Q.out (100 + (j : Int)) (X2 j) rX).mono ?_
              rw [codeAt_spell]
              rintro e w5 ⟨rfl, h5, hs5⟩
              have W5 := Lib.hid (own_spares W.out hs5 (by decide))
              have H5 := Lib.hid h5
              have hz5 := h5.bel.size
              clear h5 hs5
              obtain ⟨i0, hi, hz0, hz1, hz2⟩ := info_parts infoE
              go_wp2_with (at_builtin; go_loud (refine wpList_append_own2 _ rfl (.tmp 86) (.tmp 88) 54 rfl w.heap.size 44 i0 _ 1 8 Try.underlying54 hi hz0 hz1 hz2 rfl (by decide) (.slice ao j cap) j (codes (hld a) X2 L j) rfl (W5.out.alloc _) ⟨w5.heap.size, 0, none⟩ 1 1 [.int .i64 (codeAt (hld a) X2 L j)] rfl rfl ?c1 ?c2 ?c3 ?c4 ?c5 ?_))
              case c1 =>
                intro q u hu
                match q, hu with
                | 0, hu => simp at hu; subst hu; simp [Addr.add]
              case c2 => intro q hq; simp at hq; rcases hq with rfl; rfl
              case c3 => unfold maxLen; omega
              case c4 => omega
              case c5 => simp; omega
              intro v' w6 hown6 hgrow6 _
              rw [← codes_succ] at hown6
              obtain ⟨ao6, cap6, rfl⟩ := own_form hown6
              have H6 : OneI w (w1.heap.size + 1) w1.heap.size w6 (hld a) (fill (hld a) X2 L (j + 1)) := by
                refine H5.out.spares (ts := [44]) (((Spares.refl _ w5).alloc _).trans (grown_spares hgrow6 (W5.out.alloc _))) ?_ (by decide)
                exact (H5.out.bel.alloc hz5 _).grown hgrow6 (by simp; omega) (fun q hq => (W5.out.lt q hq).1)
              have R6 := Lib.hid (And.intro H6 hown6)
              clear H6 hown6 hgrow6
              go_wp2_with fail
              go_roundw
              case rel => exact ⟨j + 1, _, _, by omega, by go_num, rfl, R6.out.1, R6.out.2⟩
              case measure => simp [intOf]; omega
            · obtain rfl : n2 = j := by omega
              go_wp2_with fail
              refine (oneI_len _ _ _ _ _ _ Q.out).mono ?_
              rintro e w4 ⟨rfl, rfl⟩
              go_wp2_with fail
              refine (oneI_cells _ _ _ _ _ _ Q.out).mono ?_
              rintro e w4 ⟨rfl, rfl⟩
              go_wp2_with fail
              have hLl := P.out.nonneg
              refine (oneI_cut_sp _ _ _ _ _ _ Q.out (L.length : Int) (by omega) L.length _ (fill_cut _ _ _ _) rfl).mono ?_
              rw [fill_take]
              rintro e w4 ⟨rfl, h4, hs4⟩
              have W4 := Lib.hid (own_spares W.out hs4 (by decide))
              have H4 := Lib.hid h4
              clear h4 hs4 hLl
              go_wp2_with fail
              go_loopw [18] (fun i wq => ∃ (k : Nat), k ≤ n2 ∧ i = .int .i64 (k : Int) ∧ OneI w (w1.heap.size + 1) w1.heap.size wq (hld a) (fill (hld a) X2 L k) ∧ wq.ownsRow w.heap.size 44 1 (.slice ao n2 cap) n2 (codes (hld a) X2 L n2)) (fun i _ => n2 - (intOf i).toNat)
              case atStart => exact ⟨0, by omega, rfl, H4.out, W4.out⟩
              case round =>
                obtain ⟨k, hk3, rfl, hT, hown⟩ := hrel
                have T := Lib.hid hT
                have U := Lib.hid hown
                clear hT hown
                by_cases hlt3 : k < n2
                · obtain ⟨b, o, rfl, hbo, c0⟩ := (HO2.out.below T.out.bel).each k hlt3
                  have rX := HO2.out.rx k hlt3
                  go_wp2_with fail
                  refine (oneI_put_sp _ _ _ _ _ _ T.out (100 + (k : Int)) (X2 k) rX).mono ?_
                  rw [codeAt_spell]
                  rintro e w5 ⟨rfl, h5, hs5⟩
                  have W5 := own_spares U.out hs5 (by decide)
                  obtain ⟨gv, rfl⟩ := own_in W5 (by omega)
                  have d0 := W5.cellAt k (by omega)
                  rw [codes_get _ _ _ hlt3] at d0
                  have R5 := Lib.hid (And.intro h5 W5)
                  clear h5 hs5 W5
                  go_wp2_with fail
                  go_roundw
                  case rel => exact ⟨k + 1, by omega, by go_num, R5.out.1, R5.out.2⟩
                  case measure => simp [intOf]; omega
                · obtain rfl : n2 = k := by omega
                  go_wp2_with fail
                  refine (oneI_len _ _ _ _ _ _ T.out).mono ?_
                  rintro e w5 ⟨rfl, rfl⟩
                  go_wp2_with fail
                  refine (oneI_cells _ _ _ _ _ _ T.out).mono ?_
                  rintro e w5 ⟨rfl, rfl⟩
                  go_wp2_with fail
                  go_ret
                  exact ⟨rfl, T.out.bel⟩

end Go.Proofs.Ytnmmffpcbneccaa
