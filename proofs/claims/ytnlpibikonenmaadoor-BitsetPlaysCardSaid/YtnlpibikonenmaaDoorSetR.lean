/-
  tronageref03's sets: a row of bools behind a struct ('RefIs').
-/
import Derived.Test.YtnlpibikonenmaaDoorBsMeets
import Derived.Test.YtnlpibikonenmaaDoorBsOrder
import Derived.Laws.MakeOwn
namespace Go.Proofs.YtnlpibikonenmaaDoor
open Go.RowKit
open BitKit
set_option linter.unusedVariables false
set_option linter.unusedSimpArgs false

def boolsOf (n : Nat) (S : Nat → Bool) : Array Value := ((List.range n).map fun i => Value.bool (S i)).toArray
theorem bools_size (n : Nat) (S : Nat → Bool) : (boolsOf n S).size = n := by simp [boolsOf]
theorem bools_get (n : Nat) (S : Nat → Bool) (i : Nat) (h : i < n) : (boolsOf n S)[i]? = some (.bool (S i)) := by simp [boolsOf, h]
theorem bools_set (n : Nat) (S : Nat → Bool) (i : Nat) (v : Bool) : (boolsOf n S).setIfInBounds i (.bool v) = boolsOf n (ins S i v) := by
  apply Array.ext_getElem?
  intro j
  rw [Array.getElem?_setIfInBounds, bools_size]
  by_cases hj : j < n
  · rw [bools_get n S j hj, bools_get n _ j hj]
    unfold ins
    by_cases he : i = j
    · subst he; simp [hj]
    · have : ¬ j = i := fun h => he h.symm
      simp [he, this]
  · have h1 : ∀ T, (boolsOf n T)[j]? = none := fun T => Array.getElem?_eq_none (by rw [bools_size]; omega)
    rw [h1, h1]
    by_cases he : i = j
    · subst he; simp [hj]
    · simp [he]
theorem made_bools (n : Nat) : madeCells #[.bool false] n = boolsOf n (fun _ => false) := by
  apply Array.ext_getElem?
  intro j
  by_cases hj : j < n
  · rw [bools_get n _ j hj]
    simp [madeCells, hj, Nat.mod_one]
  · have h1 : (boolsOf n (fun _ => false))[j]? = none := Array.getElem?_eq_none (by rw [bools_size]; omega)
    rw [h1]
    exact Array.getElem?_eq_none (by rw [size_madeCells]; omega)

/-- Block rb holds the document's set: its bools lie in block g. -/
structure RefIs (w : World) (rb g n : Nat) (S : Nat → Bool) : Prop where
  top : At w rb 40 #[.slice (some ⟨g, 0, none⟩) n n]
  row : At w g 4 (boolsOf n S)
  le : n ≤ 1000
  fit : ∀ i, S i = true → i < n

theorem RefIs.drewN {w : World} {rb g n : Nat} {S : Nat → Bool} (h : RefIs w rb g n S) (k : Nat) : RefIs (w.drewN k) rb g n S := ⟨h.top.drewN k, h.row.drewN k, h.le, h.fit⟩
theorem RefIs.drew {w : World} {rb g n : Nat} {S : Nat → Bool} (h : RefIs w rb g n S) : RefIs w.drew rb g n S := ⟨h.top.drew, h.row.drew, h.le, h.fit⟩
theorem RefIs.grown {w w' : World} {rb g n : Nat} {S : Nat → Bool} {row : Option Nat} (h : RefIs w rb g n S) (hg : w.grownBy w' row) (h1 : some rb ≠ row) (h2 : some g ≠ row) : RefIs w' rb g n S := ⟨h.top.grown hg h1, h.row.grown hg h2, h.le, h.fit⟩
theorem RefIs.cell {w : World} {rb g n : Nat} {S : Nat → Bool} (h : RefIs w rb g n S) (i : Nat) (hi : i < n) : w.cell? ⟨g, i, none⟩ = some (.bool (S i)) := by rw [h.row.cell]; exact bools_get n S i hi
theorem RefIs.head {w : World} {rb g n : Nat} {S : Nat → Bool} (h : RefIs w rb g n S) : w.cell? ⟨rb, 0, none⟩ = some (.slice (some ⟨g, 0, none⟩) n n) := by rw [h.top.cell]; rfl
theorem RefIs.apart {w : World} {rb g n b m : Nat} {S T : Nat → Bool} (h : RefIs w rb g n S) (hs : IsSet w b m T) : some rb ≠ some b ∧ some g ≠ some b := by
  constructor
  · intro e; injection e with e; subst e
    have := h.top.type hs.at_; revert this; decide
  · intro e; injection e with e; subst e
    have := h.row.type hs.at_; revert this; decide
theorem RefIs.own {w : World} {rb g n : Nat} {S : Nat → Bool} (h : RefIs w rb g n S) : some rb ≠ some g := by
  intro e; injection e with e; subst e
  have := h.top.type h.row; revert this; decide

/-- With i made v, where it is a number of the set. -/
def setTo (n : Nat) (S : Nat → Bool) (i : Int) (v : Bool) : Nat → Bool := if 0 ≤ i ∧ i < (n : Int) then ins S i.toNat v else S
theorem put_setTo (n : Nat) (S : Nat → Bool) (i : Int) : put n S i = setTo n S i true := rfl
theorem cut_setTo (n : Nat) (S : Nat → Bool) (i : Int) : cut n S i = setTo n S i false := rfl

theorem make_bools (m : Nat) (hm : m ≤ 1000) (w : World) : (Instr.makeSlice 38 (.int .i64 (m : Int)) (.int .i64 (m : Int))).run Tryd.prog w = .ok (.slice (some ⟨w.heap.size, 0, none⟩) m m) (w.alloc (.cells (boolsOf m (fun _ => false)) 4)) := by
  have hI : (Tryd.prog.info? 4).map (fun i => (i.zero, i.size, i.bytes)) = some (some (.bool false), 1, 1) := by kernel_rfl
  obtain ⟨i0, hi, hz0, hz1, hz2⟩ := info_parts hI
  have := run_make (P := Tryd.prog) w 38 4 i0 (.bool false) Tryd.underlying38 hi hz0 .i64 .i64 (m : Int) (m : Int) (by omega) (by omega) (by rw [hz2]; omega) (by omega)
  rw [hz1] at this
  simp only [Int.toNat_natCast, Nat.mul_one] at this
  rw [this]
  have e : (Value.bool false).cells = #[.bool false] := rfl
  rw [e, made_bools]

/-- A new set of the document's: e hands its pointer back. -/
structure RNew (w : World) (n : Nat) (S : Nat → Bool) (e : Ending) (w' : World) : Prop where
  ex : ∃ rb g, e = .returned (.pointer (some ⟨rb, 0, none⟩)) ∧ w.heap.size ≤ rb ∧ w.heap.size ≤ g ∧ RefIs w' rb g n S ∧ w.grownBy w' none

theorem rnew_any (n : Int) (w : World) :
    Calls Tryd.prog 13 #[.int .i64 n] w fun e w' => RNew w (held n) (fun _ => false) e w' := by
  have h0 : ∀ w : World, (Instr.makeSlice 38 (.int .i64 0) (.int .i64 0)).run Tryd.prog w = .ok (.slice (some ⟨w.heap.size, 0, none⟩) 0 0) (w.alloc (.cells (boolsOf 0 (fun _ => false)) 4)) := make_bools 0 (by omega)
  have h1 : ∀ w : World, (Instr.makeSlice 38 (.int .i64 1000) (.int .i64 1000)).run Tryd.prog w = .ok (.slice (some ⟨w.heap.size, 0, none⟩) 1000 1000) (w.alloc (.cells (boolsOf 1000 (fun _ => false)) 4)) := make_bools 1000 (by omega)
  have fin : ∀ m : Nat, m = held n → RefIs ((w.alloc (.cells (boolsOf m (fun _ => false)) 4)).alloc (.cells #[.slice (some ⟨w.heap.size, 0, none⟩) m m] 40)) (w.heap.size + 1) w.heap.size (held n) (fun _ => false) := by
    rintro m rfl
    have hn := At.new (w.alloc (.cells (boolsOf (held n) (fun _ => false)) 4)) 40 #[.slice (some ⟨w.heap.size, 0, none⟩) (held n) (held n)]
    rw [World.size_alloc] at hn
    exact ⟨hn, (At.new w _ _).alloc _, by unfold held; omega, fun i h => by cases h⟩
  by_cases hn : n < 0
  · have hm : (0 : Nat) = held n := by unfold held; omega
    have F := Lib.hid (fin 0 hm)
    clear hm fin
    go_enter Tryd.func13, Tryd.ntmps13
    go_wp2_with fail
    go_ret
    exact ⟨⟨w.heap.size + 1, w.heap.size, rfl, by omega, Nat.le_refl _, F.out, grown_alloc (grown_alloc (grown_refl _ _) _) _⟩⟩
  · by_cases hn2 : 1000 < n
    · have hm : (1000 : Nat) = held n := by unfold held; omega
      have F := Lib.hid (fin 1000 hm)
      clear hm fin
      go_enter Tryd.func13, Tryd.ntmps13
      go_wp2_with fail
      go_ret
      exact ⟨⟨w.heap.size + 1, w.heap.size, rfl, by omega, Nat.le_refl _, F.out, grown_alloc (grown_alloc (grown_refl _ _) _) _⟩⟩
    · obtain ⟨m, rfl⟩ : ∃ m : Nat, n = (m : Int) := ⟨n.toNat, by omega⟩
      have hm : m = held (m : Int) := by unfold held; omega
      have hm' := make_bools m (by omega)
      have F := Lib.hid (fin m hm)
      clear hm fin
      go_enter Tryd.func13, Tryd.ntmps13
      go_wp2_with fail
      all_goals
        first
          | (go_ret; exact ⟨⟨w.heap.size + 1, w.heap.size, rfl, by omega, Nat.le_refl _, F.out, grown_alloc (grown_alloc (grown_refl _ _) _) _⟩⟩)
          | (obtain rfl : m = 0 := by omega
             go_ret
             exact ⟨⟨w.heap.size + 1, w.heap.size, rfl, by omega, Nat.le_refl _, F.out, grown_alloc (grown_alloc (grown_refl _ _) _) _⟩⟩)

theorem rhas_any (rb g n : Nat) (S : Nat → Bool) (i : Int) (w : World) (hs : RefIs w rb g n S) :
    Calls Tryd.prog 30 #[.pointer (some ⟨rb, 0, none⟩), .int .i64 i] w fun e w' => e = .returned (.bool (decide (0 ≤ i) && S i.toNat)) ∧ w' = w := by
  have c0 := hs.head
  have hfit := hs.fit
  by_cases h0 : 0 ≤ i
  · obtain ⟨m, rfl⟩ : ∃ m : Nat, i = (m : Int) := ⟨i.toNat, by omega⟩
    have e1 : (decide (0 ≤ (m : Int)) && S ((m : Int).toNat)) = S m := by simp
    rw [e1]
    by_cases h1 : m < n
    · have c1 := hs.cell m h1
      have h1I : (m : Int) < (n : Int) := by omega
      clear hs hfit e1
      go_enter Tryd.func30, Tryd.ntmps30
      go_wp2_with fail
      go_ret
      exact ⟨rfl, rfl⟩
    · have hS : S m = false := by
        cases h : S m
        · rfl
        · exact absurd (hfit m h) h1
      have h1I : ¬ (m : Int) < (n : Int) := by omega
      rw [hS]
      clear hs hfit e1 hS
      go_enter Tryd.func30, Tryd.ntmps30
      go_wp2_with fail
      go_ret
      exact ⟨rfl, rfl⟩
  · have e1 : (decide (0 ≤ i) && S i.toNat) = false := by rw [decide_eq_false h0]; rfl
    rw [e1]
    clear hs hfit e1
    go_enter Tryd.func30, Tryd.ntmps30
    go_wp2_with fail
    go_ret
    exact ⟨rfl, rfl⟩

theorem RefIs.set {w : World} {rb g n : Nat} {S : Nat → Bool} (h : RefIs w rb g n S) {m : Nat} (hm : m < n) (v : Bool) : RefIs (w.setCell ⟨g, m, none⟩ (.bool v)) rb g n (ins S m v) := by
  refine ⟨h.top.far (p := ⟨g, m, none⟩) (fun e => h.own (by rw [e])) _, ?_, h.le, fun i hi => ?_⟩
  · have := h.row.set m (.bool v)
    rwa [bools_set] at this
  · unfold ins at hi
    split at hi
    · omega
    · exact h.fit i hi

theorem rput_any (rb g n : Nat) (S : Nat → Bool) (i : Int) (v : Bool) (w : World) (hs : RefIs w rb g n S) :
    Calls Tryd.prog 29 #[.pointer (some ⟨rb, 0, none⟩), .int .i64 i, .bool v] w fun e w' => e = .returned (.bool (decide (0 ≤ i ∧ i < (n : Int)) && (S i.toNat != v))) ∧ RefIs w' rb g n (setTo n S i v) ∧ w.grownBy w' (some g) := by
  have c0 := hs.head
  unfold setTo
  by_cases hi : 0 ≤ i ∧ i < (n : Int)
  · obtain ⟨m, rfl⟩ : ∃ m : Nat, i = (m : Int) := ⟨i.toNat, by omega⟩
    have h1 : m < n := by omega
    have h1I : (m : Int) < (n : Int) := by omega
    have c1 := hs.cell m h1
    have cf := hs.row.frozen m
    have e1 : (decide (0 ≤ (m : Int) ∧ (m : Int) < (n : Int)) && (S ((m : Int).toNat) != v)) = (S m != v) := by rw [decide_eq_true hi]; simp
    rw [e1, if_pos hi, Int.toNat_natCast]
    have HS := Lib.hid hs
    clear hs e1 hi
    cases hb : (S m == v)
    · have hb2 : (S m != v) = true := by revert hb; cases S m <;> cases v <;> simp
      rw [hb2]
      clear hb2
      go_enter Tryd.func29, Tryd.ntmps29
      go_wp2_with fail
      go_ret
      exact ⟨rfl, HS.out.set h1 v, grown_set (grown_refl _ _) _ _⟩
    · have hb2 : (S m != v) = false := by revert hb; cases S m <;> cases v <;> simp
      have hb3 : ins S m v = S := ins_same (by simpa using hb)
      rw [hb2, hb3]
      clear hb2 hb3
      go_enter Tryd.func29, Tryd.ntmps29
      go_wp2_with fail
      go_ret
      exact ⟨rfl, HS.out, grown_refl _ _⟩
  · have e1 : (decide (0 ≤ i ∧ i < (n : Int)) && (S i.toNat != v)) = false := by rw [decide_eq_false hi]; rfl
    rw [e1, if_neg hi]
    have HS := Lib.hid hs
    clear hs e1
    by_cases h0 : 0 ≤ i
    · have h1 : ¬ i < (n : Int) := fun h => hi ⟨h0, h⟩
      clear hi
      go_enter Tryd.func29, Tryd.ntmps29
      go_wp2_with fail
      go_ret
      exact ⟨rfl, HS.out, grown_refl _ _⟩
    · clear hi
      go_enter Tryd.func29, Tryd.ntmps29
      go_wp2_with fail
      go_ret
      exact ⟨rfl, HS.out, grown_refl _ _⟩

set_option maxHeartbeats 4000000 in
theorem rof_any (n : Int) (A : Option Addr) (l c : Nat) (X : Nat → Int) (w : World) (O : Nums w w.heap.size A l X) :
    Calls Tryd.prog 12 #[.int .i64 n, .slice A l c] w fun e w' => RNew w (held n) (ofs (held n) X l) e w' := by
  have HO := Lib.hid O
  have hl : (l : Int) ≤ 9223372036854775807 := by have := maxLen_le O.len; omega
  clear O
  go_enter Tryd.func12, Tryd.ntmps12
  go_wp2_with fail
  refine (rnew_any n _).mono ?_
  rintro e w1 ⟨rb, g, rfl, h1, h2, hr, hg⟩
  have R1 := Lib.hid hr
  have G1 := Lib.hid hg
  clear hr hg
  go_wp2_with fail
  go_loopw [6] (fun i wr => ∃ k : Nat, k ≤ l ∧ i = .int .i64 (k : Int) ∧ RefIs wr rb g (held n) (ofs (held n) X k) ∧ w.grownBy wr none) (fun i _ => l - (intOf i).toNat)
  case atStart => exact ⟨0, by omega, rfl, R1.out, G1.out⟩
  case round =>
    obtain ⟨k, hk, rfl, hS, hG⟩ := hrel
    have HS := Lib.hid hS
    have HG := Lib.hid hG
    clear hS hG
    by_cases hlt : k < l
    · obtain ⟨b, o, rfl, hbo, c0⟩ := (HO.out.below (grown_below HG.out)).each k hlt
      have hx := HO.out.rx k hlt
      have hltI : (k : Int) < (l : Int) := by omega
      have h0I : (0 : Int) ≤ (k : Int) := by omega
      go_wp2_with fail
      refine (rput_any _ _ _ _ (X k) true _ HS.out).mono ?_
      rintro e w4 ⟨rfl, h4, g4⟩
      have H4 := Lib.hid h4
      have G4 := Lib.hid (grown_new_trans HG.out g4 h2)
      clear h4 g4 c0
      go_wp2_with fail
      go_roundw
      case rel => exact ⟨k + 1, by omega, by go_num, H4.out, G4.out⟩
      case measure => simp [intOf]; omega
    · obtain rfl : l = k := by omega
      go_wp2_with fail
      go_ret
      exact ⟨⟨_, _, rfl, h1, h2, HS.out, HG.out⟩⟩

/-! Union, Meets, List -/

theorem setTo_mix {n : Nat} {S T : Nat → Bool} {k : Nat} (hT : T k = true) : setTo n (mix n S T k) (k : Int) true = mix n S T (k + 1) := by
  funext j
  unfold setTo
  by_cases hk : k < n
  · rw [if_pos (by omega), Int.toNat_natCast]
    unfold ins mix
    by_cases he : j = k
    · subst he; simp [hk, hT]
    · have : decide (j < k + 1) = decide (j < k) := by rw [decide_eq_decide]; omega
      simp [he, this]
  · rw [if_neg (by omega)]
    unfold mix
    by_cases he : j = k
    · subst he; simp [hk]
    · have : decide (j < k + 1) = decide (j < k) := by rw [decide_eq_decide]; omega
      simp [this]
theorem mix_skip {n : Nat} {S T : Nat → Bool} {k : Nat} (hT : T k = false) : mix n S T (k + 1) = mix n S T k := by
  funext j
  unfold mix
  by_cases he : j = k
  · subst he; simp [hT]
  · have : decide (j < k + 1) = decide (j < k) := by rw [decide_eq_decide]; omega
    rw [this]
theorem mix_at (n : Nat) (S T : Nat → Bool) (k : Nat) : mix n S T k k = S k := by simp [mix]
theorem mix_more {n : Nat} {S T : Nat → Bool} {k : Nat} {r : Bool} (hT : T k = true) (hr : Reckons r (mix n S T k ≠ S)) :
    Reckons (r || (decide (0 ≤ (k : Int) ∧ (k : Int) < (n : Int)) && (mix n S T k (k : Int).toNat != true))) (mix n S T (k + 1) ≠ S) := by
  unfold Reckons at *
  rw [Bool.or_eq_true, hr, Int.toNat_natCast, mix_at]
  constructor
  · rintro (h | h)
    · intro he
      apply h
      funext j
      have h1 := congrFun he j
      unfold mix at h1 ⊢
      by_cases hj : j < k
      · have h2 : j < k + 1 := by omega
        rw [decide_eq_true hj]; rw [decide_eq_true h2] at h1; exact h1
      · rw [decide_eq_false hj]; simp
    · simp only [Bool.and_eq_true, decide_eq_true_eq, bne_iff_ne, ne_eq, Bool.not_eq_true] at h
      intro he
      have h1 := congrFun he k
      unfold mix at h1
      rw [h.2, hT] at h1
      have hk : k < n := by omega
      simp [hk] at h1
  · intro h
    by_cases h1 : mix n S T k = S
    · right
      by_cases hk : k < n
      · cases hS : S k
        · simp [hk]
        · exfalso; apply h
          have : mix n S T (k + 1) = mix n S T k := by
            rw [← setTo_mix hT]
            unfold setTo
            rw [if_pos (by omega)]
            exact ins_same (by rw [Int.toNat_natCast, mix_at]; exact hS)
          rw [this, h1]
      · exfalso; apply h
        have : mix n S T (k + 1) = mix n S T k := by
          rw [← setTo_mix hT]
          unfold setTo
          rw [if_neg (by omega)]
        rw [this, h1]
    · exact .inl h1
theorem mix_end {n m : Nat} {S T : Nat → Bool} (hT : ∀ i, T i = true → i < m) : mix n S T m = uni n S T := by
  funext j
  unfold mix uni
  cases h : T j
  · simp
  · simp [hT j h]

set_option maxHeartbeats 4000000 in
theorem runion_any (rb g n : Nat) (S : Nat → Bool) (rb' g' m : Nat) (T : Nat → Bool) (w : World) (hs : RefIs w rb g n S) (ht : RefIs w rb' g' m T) (hne : g ≠ g') :
    Calls Tryd.prog 31 #[.pointer (some ⟨rb, 0, none⟩), .pointer (some ⟨rb', 0, none⟩)] w fun e w' => Tells e (uni n S T ≠ S) ∧ RefIs w' rb g n (uni n S T) ∧ w.grownBy w' (some g) := by
  have HS := Lib.hid hs
  have HT := Lib.hid ht
  have hm := ht.le
  have hb : rb' ≠ g := by
    intro e; subst e
    have := ht.top.type hs.row; revert this; decide
  clear hs ht
  go_enter Tryd.func31, Tryd.ntmps31
  go_wp2_with fail
  go_loopw [5, 6] (fun b i wr => ∃ k : Nat, k ≤ m ∧ i = .int .i64 (k : Int) ∧ (∃ r, b = .bool r ∧ Reckons r (mix n S T k ≠ S)) ∧ RefIs wr rb g n (mix n S T k) ∧ w.grownBy wr (some g)) (fun _ i _ => m - (intOf i).toNat)
  case atStart => exact ⟨0, by omega, rfl, ⟨false, rfl, ⟨fun h => (by cases h), fun h => absurd (mix_zero n S T) h⟩⟩, by rw [mix_zero]; exact HS.out, grown_refl _ _⟩
  case round =>
    obtain ⟨k, hk, rfl, ⟨r, rfl, hr⟩, hS, hG⟩ := hrel
    have HR := Lib.hid hr
    have P := Lib.hid hS
    have G := Lib.hid hG
    have Q := Lib.hid (HT.out.grown hG (fun e => hb (by injection e)) (fun e => hne (by injection e with e; exact e.symm)))
    clear hr hS hG
    have c0 := Q.out.head
    by_cases hlt : k < m
    · have hltI : (k : Int) < (m : Int) := by omega
      have h0I : (0 : Int) ≤ (k : Int) := by omega
      have c1 := Q.out.cell k hlt
      cases hT : T k
      · rw [hT] at c1
        have HM := Lib.hid (mix_skip (n := n) (S := S) hT)
        go_wp2_with fail
        go_roundw
        case rel => exact ⟨k + 1, by omega, by go_num, ⟨r, rfl, by rw [HM.out]; exact HR.out⟩, by rw [HM.out]; exact P.out, G.out⟩
        case measure => simp [intOf]; omega
      · rw [hT] at c1
        have HM := Lib.hid (mix_more hT HR.out)
        have HQ := Lib.hid (setTo_mix (n := n) (S := S) hT)
        clear hT
        go_wp2_with fail
        refine (rput_any rb g n _ k true _ P.out).mono ?_
        rw [HQ.out]
        have HM' := HM.out
        obtain ⟨q, hq⟩ : ∃ q, q = (decide (0 ≤ (k : Int) ∧ (k : Int) < (n : Int)) && (mix n S T k (k : Int).toNat != true)) := ⟨_, rfl⟩
        rw [← hq] at HM' ⊢
        have HX := Lib.hid HM'
        clear hq HM' HM
        rintro e w4 ⟨rfl, h4, g4⟩
        have H4 := Lib.hid h4
        have G4 := Lib.hid (grown_trans G.out g4)
        clear h4 g4 c0 c1
        cases r
        all_goals
          go_wp2_with fail
          go_roundw
          case rel => exact ⟨k + 1, by omega, by go_num, ⟨_, rfl, by simpa using HX.out⟩, H4.out, G4.out⟩
          case measure => simp [intOf]; omega
    · obtain rfl : m = k := by omega
      have he := Lib.hid (mix_end (n := n) (S := S) HT.out.fit)
      go_wp2_with fail
      go_ret
      have h1 := HR.out
      have h2 := P.out
      rw [he.out] at h1 h2
      exact ⟨⟨r, rfl, h1⟩, h2, G.out⟩

set_option maxHeartbeats 4000000 in
theorem rmeets_any (rb g n : Nat) (S : Nat → Bool) (rb' g' m : Nat) (T : Nat → Bool) (w : World) (hs : RefIs w rb g n S) (ht : RefIs w rb' g' m T) :
    Calls Tryd.prog 32 #[.pointer (some ⟨rb, 0, none⟩), .pointer (some ⟨rb', 0, none⟩)] w fun e w' => Tells e (Meet S T) ∧ w' = w := by
  have HS := Lib.hid hs
  have HT := Lib.hid ht
  have c0 := hs.head
  have c0' := ht.head
  have hn := hs.le
  have hm := ht.le
  clear hs ht
  go_enter Tryd.func32, Tryd.ntmps32
  go_wp2_with fail
  go_loopw [5] (fun i wr => ∃ k : Nat, k ≤ n ∧ k ≤ m ∧ i = .int .i64 (k : Int) ∧ NoMeet S T k ∧ wr = w) (fun i _ => n - (intOf i).toNat)
  case atStart => exact ⟨0, by omega, by omega, rfl, fun i h => by omega, rfl⟩
  case round =>
    obtain ⟨k, hk, hk', rfl, hno, rfl⟩ := hrel
    have HN := Lib.hid hno
    clear hno
    by_cases hlt : k < n
    · have hltI : (k : Int) < (n : Int) := by omega
      have h0I : (0 : Int) ≤ (k : Int) := by omega
      have c1 := HS.out.cell k hlt
      by_cases hlt' : k < m
      · have hltI' : (k : Int) < (m : Int) := by omega
        have c1' := HT.out.cell k hlt'
        cases hS : S k
        · rw [hS] at c1
          go_wp2_with fail
          go_roundw
          case rel =>
            refine ⟨k + 1, by omega, by omega, by go_num, fun i hi h1 h2 => ?_, trivial⟩
            by_cases he : i = k
            · subst he; rw [hS] at h1; cases h1
            · exact HN.out i (by omega) h1 h2
          case measure => simp [intOf]; omega
        · cases hT : T k
          · rw [hS] at c1
            rw [hT] at c1'
            go_wp2_with fail
            go_roundw
            case rel =>
              refine ⟨k + 1, by omega, by omega, by go_num, fun i hi h1 h2 => ?_, trivial⟩
              by_cases he : i = k
              · subst he; rw [hT] at h2; cases h2
              · exact HN.out i (by omega) h1 h2
            case measure => simp [intOf]; omega
          · rw [hS] at c1
            rw [hT] at c1'
            go_wp2_with fail
            go_ret
            exact ⟨Tells.yes rfl ⟨k, hS, hT⟩, rfl⟩
      · have hltI' : ¬ (k : Int) < (m : Int) := by omega
        go_wp2_with fail
        go_ret
        refine ⟨Tells.no rfl ?_, rfl⟩
        rintro ⟨i, h1, h2⟩
        have := HT.out.fit i h2
        exact HN.out i (by omega) h1 h2
    · have hltI : ¬ (k : Int) < (n : Int) := by omega
      go_wp2_with fail
      go_ret
      refine ⟨Tells.no rfl ?_, rfl⟩
      rintro ⟨i, h1, h2⟩
      have := HS.out.fit i h1
      exact HN.out i (by omega) h1 h2

theorem all_upto {S : Nat → Bool} {n : Nat} (hn : n ≤ 1000) (hS : ∀ i, S i = true → i < n) : mem S n = mem S 1024 := by
  refine (mem_stay S (by omega) fun i h1 _ => ?_).symm
  cases h : S i
  · rfl
  · have := hS i h; omega
theorem mem_below (S : Nat → Bool) (n : Nat) (hn : n ≤ 1000) : Small (ints (mem S n)) := by
  intro x hx
  simp only [ints, List.mem_map] at hx
  obtain ⟨y, hy, rfl⟩ := hx
  have := ((mem_mem S n y).1 hy).1
  omega

set_option maxHeartbeats 4000000 in
theorem rlist_any (rb g n : Nat) (S : Nat → Bool) (w : World) (hs : RefIs w rb g n S) :
    Calls Tryd.prog 20 #[.pointer (some ⟨rb, 0, none⟩)] w fun e w' => ∃ v, e = .returned v ∧ w'.ownsRow w.heap.size 3 1 v (mem S n).length (vals (ints (mem S n))) ∧ w.grownBy w' none := by
  obtain ⟨i0, hi, hz0, hz1, hz2⟩ := info_parts Tryd.infoInt
  have HS := Lib.hid hs
  have hn := hs.le
  clear hs
  go_enter Tryd.func20, Tryd.ntmps20
  go_wp2_with fail
  go_loopw [3, 4] (fun v i wr => ∃ k : Nat, k ≤ n ∧ i = .int .i64 (k : Int) ∧ wr.ownsRow w.heap.size 3 1 v (mem S k).length (vals (ints (mem S k))) ∧ w.grownBy wr none) (fun _ i _ => n - (intOf i).toNat)
  case atStart => exact ⟨0, by omega, rfl, World.ownsRow_nil _ _ _ _, grown_refl _ _⟩
  case round =>
    obtain ⟨k, hk, rfl, hown, hG⟩ := hrel
    have HW := Lib.hid hown
    have G := Lib.hid hG
    have hz : w.heap.size ≤ wr.heap.size := hG.size
    have Q := Lib.hid (HS.out.grown hG (by simp) (by simp))
    have c0 := Q.out.head
    have hlen : (mem S k).length ≤ k := by rw [mem_length]; exact cnt_le _ _
    clear hown hG
    by_cases hlt : k < n
    · have hltI : (k : Int) < (n : Int) := by omega
      have h0I : (0 : Int) ≤ (k : Int) := by omega
      have c1 := Q.out.cell k hlt
      cases hS : S k
      · rw [hS] at c1
        have HM : RowKit.Hid (mem S (k + 1) = mem S k) := Lib.hid (by rw [mem, hS]; simp)
        go_wp2_with fail
        go_roundw
        case rel => exact ⟨k + 1, by omega, by go_num, by rw [HM.out]; exact HW.out, G.out⟩
        case measure => simp [intOf]; omega
      · rw [hS] at c1
        have HM : RowKit.Hid (mem S (k + 1) = mem S k ++ [k]) := Lib.hid (by rw [mem, hS]; simp)
        go_wp2_with (at_builtin; refine wpList_append_own2 _ rfl (.tmp 21) (.tmp 23) 22 rfl w.heap.size 3 i0 (.int .i64 0) 1 8 Tryd.underlying22 hi hz0 hz1 hz2 rfl (by decide) _ _ _ rfl (HW.out.alloc _) ⟨wr.heap.size, 0, none⟩ 1 1 [.int .i64 (k : Int)] rfl rfl ?c1 ?c2 ?c3 ?c4 ?c5 ?_)
        case c1 => intro j u h; rw [Addr.add_mid, Nat.zero_add, (At.new wr 3 #[.int .i64 (k : Int)]).cell]; simpa using h
        case c2 => simp [Value.oneCell']
        case c3 => unfold maxLen; omega
        case c4 => omega
        case c5 => simp; omega
        intro v' w5 hown5 hg5 hn5
        have HW5 := Lib.hid hown5
        have HG5 := Lib.hid (grown_row (grown_alloc G.out _) hg5 (fun q hq => (HW.out.lt q hq).1))
        clear hown5 hg5 hn5
        go_wp2_with fail
        go_roundw
        case rel =>
          refine ⟨k + 1, by omega, by go_num, ?_, HG5.out⟩
          have h5 := HW5.out
          rw [HM.out]
          simpa [ints, vals] using h5
        case measure => simp [intOf]; omega
    · obtain rfl : n = k := by omega
      go_wp2_with fail
      go_ret
      exact ⟨_, rfl, HW.out, G.out⟩

theorem rlist_row (rb g n : Nat) (S : Nat → Bool) (w : World) (hs : RefIs w rb g n S) :
    Calls Tryd.prog 20 #[.pointer (some ⟨rb, 0, none⟩)] w fun e w' => (∃ A c, e = .returned (.slice A (all S).length c) ∧ Row w' (.slice A (all S).length c) (all S) ∧ ∀ a, A = some a → w.heap.size ≤ a.block) ∧ w.grownBy w' none := by
  refine (rlist_any rb g n S w hs).mono ?_
  rintro e w' ⟨v, rfl, ho, hb⟩
  rw [all_upto hs.le hs.fit] at ho
  have hr := row_own ho (mem_small S)
  obtain ⟨A, c, rfl, hn⟩ := hr.shape
  refine ⟨⟨A, c, rfl, hr, fun a ha => ?_⟩, hb⟩
  subst ha
  rcases own_shape ho with ⟨h, _⟩ | ⟨g, cap, h, _, _, hg, _⟩
  · simp at h
  · simp at h; rw [h.1]; exact hg

end Go.Proofs.YtnlpibikonenmaaDoor
