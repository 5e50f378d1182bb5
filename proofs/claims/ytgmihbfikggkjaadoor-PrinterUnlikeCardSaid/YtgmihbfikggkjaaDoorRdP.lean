/-
  The walks of tronageref05's Texts and tronageref06's Same, at things that are the same; of tronagelaw06's zero.
-/
import Derived.Test.YtgmihbfikggkjaaDoorRdO
import Derived.BigQuiet
import Derived.Deep.QuietTactic
namespace Go.Proofs.YtgmihbfikggkjaaDoor
open Go.RowKit
open Lx
set_option linter.unusedVariables false
set_option linter.unusedSimpArgs false
set_option maxRecDepth 100000

theorem flat_get {α : Type} (f : α → List Value) (n : Nat) (hf : ∀ x, (f x).length = n) : ∀ (l : List α) (i j : Nat) (x : α) (u : Value), l[i]? = some x → j < n → (f x)[j]? = some u → (l.flatMap f)[i * n + j]? = some u
  | [], i, j, x, u, h, _, _ => by simp at h
  | s :: r, 0, j, x, u, h, hj, hu => by
    simp at h; subst h
    rw [List.flatMap_cons, List.getElem?_append_left (by rw [hf]; omega)]
    simpa using hu
  | s :: r, i + 1, j, x, u, h, hj, hu => by
    have ih := flat_get f n hf r i j x u (by simpa using h) hj hu
    rw [List.flatMap_cons, List.getElem?_append_right (by rw [hf, Nat.add_mul]; omega), hf]
    have e : (i + 1) * n + j - n = i * n + j := by rw [Nat.add_mul]; omega
    rw [e, ih]
theorem some_get {α : Type} {l : List α} {i : Nat} (h : i < l.length) : ∃ x, l[i]? = some x := ⟨_, List.getElem?_eq_getElem h⟩

theorem texts_same (A1 A2 : Option Addr) (c1 c2 : Nat) (l : List Rd.Name) (w : World) (h1 : Lie w 9 A1 (namesV l)) (h2 : Lie w 9 A2 (namesV l)) (hl : l.length ≤ 1000000) :
    Calls Tryd.prog 16 #[.slice A1 l.length c1, .slice A2 l.length c2] w fun e w' => e = .returned (.bool true) ∧ ∃ n, w' = w.drewN n := by
  have H1 := Lib.hid h1
  have H2 := Lib.hid h2
  obtain ⟨n, hn⟩ : ∃ n, l.length = n := ⟨_, rfl⟩
  rw [hn] at hl ⊢
  have HN := Lib.hid hn
  clear h1 h2 hn
  go_enter Tryd.func16, Tryd.ntmps16
  go_wp2_with fail
  go_loopw [5] (fun i wr => ∃ (k m : Nat), k ≤ n ∧ i = .int .i64 (k : Int) ∧ wr = w.drewN m) (fun i _ => n - (intOf i).toNat)
  case atStart => exact ⟨0, 0, by omega, rfl, rfl⟩
  case round =>
    obtain ⟨k, m, hk, rfl, rfl⟩ := hrel
    by_cases hlt : k < n
    · obtain ⟨x, hx⟩ := some_get (l := l) (i := k) (by rw [HN.out]; exact hlt)
      have hv : (namesV l)[k]? = some (.string (str x)) := by simp [namesV, hx]
      have hne : namesV l ≠ [] := fun e => by rw [e] at hv; simp at hv
      obtain ⟨b1, o1, rfl, _, f1⟩ := H1.out.cell hne
      obtain ⟨b2, o2, rfl, _, f2⟩ := H2.out.cell hne
      have cc : w.cell? ⟨b1, o1 + k, none⟩ = some (.string (str x)) := f1 _ _ hv
      have dd : w.cell? ⟨b2, o2 + k, none⟩ = some (.string (str x)) := f2 _ _ hv
      have t1 : ((str x).toList == (str x).toList) = true := by simp
      have t2 : ((str x).toList != (str x).toList) = false := by simp
      have hki : (k : Int) < (n : Int) := by omega
      have hk0 : (0 : Int) ≤ (k : Int) := by omega
      clear hx hv hne f1 f2
      go_wp2_with fail
      go_quiet (fail)
      go_wp2_with fail
      go_roundw
      case rel => exact ⟨k + 1, _, by omega, by go_num, rfl⟩
      case measure => simp [intOf]; omega
    · obtain rfl : n = k := by omega
      go_wp2_with fail
      go_ret
      exact ⟨rfl, m, rfl⟩

theorem quiet_texts {w : World} {q : Nat} {f : FuncId} {args : Array Value} {v : Value} (h : Calls Tryd.prog f args (w.drewN q) fun e w' => e = .returned v ∧ ∃ n, w' = (w.drewN q).drewN n) : Calls Tryd.prog f args (w.drewN q) fun e w'' => e = .returned v ∧ ∃ m, w'' = w.drewN m :=
  h.mono fun _ _ ⟨he, n, hm⟩ => ⟨he, q + n, by rw [hm, World.drewN_drewN]⟩

set_option maxHeartbeats 4000000 in
theorem same_any (v1 v2 : Value) (G : Rd.G) (w : World) (h1 : GramIs w v1 G) (h2 : GramIs w v2 G) (hs : G.toks.length ≤ 1000000 ∧ G.skips.length ≤ 1000000 ∧ G.levels.length ≤ 1000000 ∧ G.rules.length ≤ 1000000) (hn1 : ∀ l ∈ G.levels, l.names.length ≤ 1000000) (hn2 : ∀ r ∈ G.rules, r.right.length ≤ 1000000) :
    Calls Tryd.prog 9 #[v1, v2] w fun e w' => e = .returned (.bool true) ∧ Below w.heap.size w w' := by
  obtain ⟨_, _, _, _, rfl, ⟨A1, c1, rfl, k1⟩, ⟨A2, c2, rfl, k2⟩, ⟨A3, c3, pl, rfl, q3, k3, j3⟩, ⟨A4, c4, ql, rfl, q4, k4, j4⟩⟩ := h1.ex
  obtain ⟨_, _, _, _, rfl, ⟨B1, e1, rfl, m1⟩, ⟨B2, e2, rfl, m2⟩, ⟨B3, e3, pl', rfl, r3, m3, n3⟩, ⟨B4, e4, ql', rfl, r4, m4, n4⟩⟩ := h2.ex
  have K1 := Lib.hid k1
  have K2 := Lib.hid k2
  have K3 := Lib.hid k3
  have K4 := Lib.hid k4
  have M1 := Lib.hid m1
  have M2 := Lib.hid m2
  have M3 := Lib.hid m3
  have M4 := Lib.hid m4
  have Q3 := Lib.hid q3
  have Q4 := Lib.hid q4
  have R3 := Lib.hid r3
  have R4 := Lib.hid r4
  have J3 := Lib.hid j3
  have J4 := Lib.hid j4
  have N3 := Lib.hid n3
  have N4 := Lib.hid n4
  have HN1 := Lib.hid hn1
  have HN2 := Lib.hid hn2
  obtain ⟨s1, s2, s3, s4⟩ := hs
  obtain ⟨a, ha⟩ : ∃ a, G.toks.length = a := ⟨_, rfl⟩
  obtain ⟨b, hb⟩ : ∃ b, G.skips.length = b := ⟨_, rfl⟩
  obtain ⟨c, hc⟩ : ∃ c, G.levels.length = c := ⟨_, rfl⟩
  obtain ⟨d, hd⟩ : ∃ d, G.rules.length = d := ⟨_, rfl⟩
  rw [ha] at s1 ⊢
  rw [hb] at s2 ⊢
  rw [hc] at s3 ⊢
  rw [hd] at s4 ⊢
  have HA := Lib.hid ha
  have HB := Lib.hid hb
  have HC := Lib.hid hc
  have HD := Lib.hid hd
  clear h1 h2 k1 k2 k3 k4 m1 m2 m3 m4 q3 q4 r3 r4 j3 j4 n3 n4 hn1 hn2 ha hb hc hd
  obtain ⟨st, hst⟩ : ∃ st, str G.start = st := ⟨_, rfl⟩
  rw [hst]
  clear hst
  go_enter Tryd.func9, Tryd.ntmps9
  have hbw : Below w.heap.size w ((w.alloc (.cells #[.slice A1 a c1, .slice A2 b c2, .slice A3 c c3, .string st, .slice A4 d c4] 35)).alloc (.cells #[.slice B1 a e1, .slice B2 b e2, .slice B3 c e3, .string st, .slice B4 d e4] 35)) := ((Below.refl _ _).alloc (Nat.le_refl _) _).alloc (by simp) _
  have hg1 := (At.new w 35 #[.slice A1 a c1, .slice A2 b c2, .slice A3 c c3, .string st, .slice A4 d c4]).alloc (.cells #[.slice B1 a e1, .slice B2 b e2, .slice B3 c e3, .string st, .slice B4 d e4] 35)
  have hg2 := At.new (w.alloc (.cells #[.slice A1 a c1, .slice A2 b c2, .slice A3 c c3, .string st, .slice A4 d c4] 35)) 35 #[.slice B1 a e1, .slice B2 b e2, .slice B3 c e3, .string st, .slice B4 d e4]
  have hg2' : At ((w.alloc (.cells #[.slice A1 a c1, .slice A2 b c2, .slice A3 c c3, .string st, .slice A4 d c4] 35)).alloc (.cells #[.slice B1 a e1, .slice B2 b e2, .slice B3 c e3, .string st, .slice B4 d e4] 35)) (w.heap.size + 1) 35 #[.slice B1 a e1, .slice B2 b e2, .slice B3 c e3, .string st, .slice B4 d e4] := by simpa using hg2
  have u1 : (st.toList != st.toList) = false := by simp
  have u2 : (st.toList == st.toList) = true := by simp
  have u3 : ∀ k : Nat, ((k : Int) != (k : Int)) = false := fun k => by simp
  go_wp2_with fail
  obtain ⟨W, hW⟩ : ∃ W, (w.alloc (.cells #[.slice A1 a c1, .slice A2 b c2, .slice A3 c c3, .string st, .slice A4 d c4] 35)).alloc (.cells #[.slice B1 a e1, .slice B2 b e2, .slice B3 c e3, .string st, .slice B4 d e4] 35) = W := ⟨_, rfl⟩
  obtain ⟨g1, hge1⟩ : ∃ g1, w.heap.size = g1 := ⟨_, rfl⟩
  rw [hW] at hbw hg1 hg2' ⊢
  rw [hge1] at hg1 hg2' ⊢
  obtain ⟨g2, hge2⟩ : ∃ g2, g1 + 1 = g2 := ⟨_, rfl⟩
  rw [hge2] at hg2' ⊢
  have HG1 := Lib.hid hg1
  have HG2 := Lib.hid hg2'
  have HBW := Lib.hid hbw
  have L1 := Lib.hid (K1.out.below hbw)
  have L2 := Lib.hid (K2.out.below hbw)
  have L3 := Lib.hid (K3.out.below hbw)
  have L4 := Lib.hid (K4.out.below hbw)
  have P1 := Lib.hid (M1.out.below hbw)
  have P2 := Lib.hid (M2.out.below hbw)
  have P3 := Lib.hid (M3.out.below hbw)
  have P4 := Lib.hid (M4.out.below hbw)
  have J3' := Lib.hid (show ∀ p ∈ pl, Nms W p.2 p.1.names from fun p hp => (J3.out p hp).stay (Stay.below hbw))
  have J4' := Lib.hid (show ∀ p ∈ ql, Nms W p.2 p.1.right from fun p hp => (J4.out p hp).stay (Stay.below hbw))
  have N3' := Lib.hid (show ∀ p ∈ pl', Nms W p.2 p.1.names from fun p hp => (N3.out p hp).stay (Stay.below hbw))
  have N4' := Lib.hid (show ∀ p ∈ ql', Nms W p.2 p.1.right from fun p hp => (N4.out p hp).stay (Stay.below hbw))
  have hgl1 := hg1.lt
  have hgl2 := hg2'.lt
  clear hW hge1 hge2 hg1 hg2 hg2' hbw K1 K2 K3 K4 M1 M2 M3 M4 J3 J4 N3 N4
  go_loopw [5] (fun i wr => ∃ k : Nat, k ≤ a ∧ i = .int .i64 (k : Int) ∧ Below W.heap.size W wr) (fun i _ => a - (intOf i).toNat)
  case atStart => exact ⟨0, by omega, rfl, Below.refl _ _⟩
  case round =>
    obtain ⟨k, hk, rfl, hbe⟩ := hrel
    have HBE := Lib.hid hbe
    clear hbe
    have hs9 := HBE.out.size
    have hl9 : g1 < wr.heap.size := by omega
    have hl8 : g2 < wr.heap.size := by omega
    have a1' := HG1.out.below HBE.out hgl1
    have a2' := HG2.out.below HBE.out hgl2
    have x0 := a1'.cell 0
    have x1 := a1'.cell 1
    have x2 := a1'.cell 2
    have x4 := a1'.cell 4
    have w0 := a2'.cell 0
    have w1 := a2'.cell 1
    have w2 := a2'.cell 2
    have w4 := a2'.cell 4
    simp only [List.getElem?_toArray, List.getElem?_cons_zero, List.getElem?_cons_succ] at x0 x1 x2 x4 w0 w1 w2 w4
    clear a1' a2'
    by_cases hlt : k < a
    · obtain ⟨x, hx⟩ := some_get (l := G.toks) (i := k) (by rw [HA.out]; exact hlt)
      have hv := fun j u (hj : j < 4) (hu : x.cells[j]? = some u) => flat_get Rd.Tok.cells 4 (fun _ => rfl) G.toks k j x u hx hj hu
      have hne : toksV G.toks ≠ [] := fun e => by
        have h : (toksV G.toks)[k * 4 + 0]? = some (.string (str x.name)) := hv 0 _ (by omega) rfl
        rw [e] at h; simp at h
      obtain ⟨b1, o1, hA, hb1, f1⟩ := (L1.out.below HBE.out).cell hne
      obtain ⟨b2, o2, hB, hb2, f2⟩ := (P1.out.below HBE.out).cell hne
      (try rw [hA] at x0)
      (try rw [hA] at x1)
      (try rw [hA] at x2)
      (try rw [hA] at x4)
      (try rw [hB] at w0)
      (try rw [hB] at w1)
      (try rw [hB] at w2)
      (try rw [hB] at w4)
      have y0 : wr.cell? ⟨b1, o1 + k * 4, none⟩ = some (.string (str x.name)) := f1 _ _ (hv 0 _ (by omega) rfl)
      have y1 : wr.cell? ⟨b1, o1 + k * 4 + 1, none⟩ = some (.string (str x.pat.text)) := by rw [Nat.add_assoc]; exact f1 _ _ (hv 1 _ (by omega) rfl)
      have y2 : wr.cell? ⟨b1, o1 + k * 4 + 2, none⟩ = some (.string (str x.pat.set)) := by rw [Nat.add_assoc]; exact f1 _ _ (hv 2 _ (by omega) rfl)
      have y3 : wr.cell? ⟨b1, o1 + k * 4 + 3, none⟩ = some (.bool x.pat.many) := by rw [Nat.add_assoc]; exact f1 _ _ (hv 3 _ (by omega) rfl)
      have z0 : wr.cell? ⟨b2, o2 + k * 4, none⟩ = some (.string (str x.name)) := f2 _ _ (hv 0 _ (by omega) rfl)
      have z1 : wr.cell? ⟨b2, o2 + k * 4 + 1, none⟩ = some (.string (str x.pat.text)) := by rw [Nat.add_assoc]; exact f2 _ _ (hv 1 _ (by omega) rfl)
      have z2 : wr.cell? ⟨b2, o2 + k * 4 + 2, none⟩ = some (.string (str x.pat.set)) := by rw [Nat.add_assoc]; exact f2 _ _ (hv 2 _ (by omega) rfl)
      have z3 : wr.cell? ⟨b2, o2 + k * 4 + 3, none⟩ = some (.bool x.pat.many) := by rw [Nat.add_assoc]; exact f2 _ _ (hv 3 _ (by omega) rfl)
      clear hne f1 f2 hA hB
      generalize str x.name = X0 at y0 z0
      generalize str x.pat.text = X1 at y1 z1
      generalize str x.pat.set = X2 at y2 z2
      generalize x.pat.many = X3 at y3 z3
      have hki : (k : Int) < (a : Int) := by omega
      have hk0 : (0 : Int) ≤ (k : Int) := by omega
      go_wp2_with fail
      go_quiet (fail)
      go_wp2_with fail
      go_roundw
      case rel => exact ⟨k + 1, by omega, by go_num, below_drewN HBE.out _⟩
      case measure => simp [intOf]; omega
    · obtain rfl : a = k := by omega
      go_wp2_with fail
      clear x0 x1 x2 x4 w0 w1 w2 w4 hs9 hl8 hl9
      go_loopw [6] (fun i wr' => ∃ k : Nat, k ≤ b ∧ i = .int .i64 (k : Int) ∧ Below W.heap.size W wr') (fun i _ => b - (intOf i).toNat)
      case atStart => exact ⟨0, by omega, rfl, HBE.out⟩
      case round =>
        clear HBE
        rename_i wr0
        obtain ⟨k, hk, rfl, hbe⟩ := hrel
        have HBE := Lib.hid hbe
        clear hbe
        have hs9 := HBE.out.size
        have hl9 : g1 < wr.heap.size := by omega
        have hl8 : g2 < wr.heap.size := by omega
        have a1' := HG1.out.below HBE.out hgl1
        have a2' := HG2.out.below HBE.out hgl2
        have x0 := a1'.cell 0
        have x1 := a1'.cell 1
        have x2 := a1'.cell 2
        have x4 := a1'.cell 4
        have w0 := a2'.cell 0
        have w1 := a2'.cell 1
        have w2 := a2'.cell 2
        have w4 := a2'.cell 4
        simp only [List.getElem?_toArray, List.getElem?_cons_zero, List.getElem?_cons_succ] at x0 x1 x2 x4 w0 w1 w2 w4
        clear a1' a2'
        by_cases hlt : k < b
        · obtain ⟨x, hx⟩ := some_get (l := G.skips) (i := k) (by rw [HB.out]; exact hlt)
          have hv := fun j u (hj : j < 3) (hu : x.cells[j]? = some u) => flat_get Rd.Pat.cells 3 (fun _ => rfl) G.skips k j x u hx hj hu
          have hne : patsV G.skips ≠ [] := fun e => by
            have h : (patsV G.skips)[k * 3 + 0]? = some (.string (str x.text)) := hv 0 _ (by omega) rfl
            rw [e] at h; simp at h
          obtain ⟨b1, o1, hA, hb1, f1⟩ := (L2.out.below HBE.out).cell hne
          obtain ⟨b2, o2, hB, hb2, f2⟩ := (P2.out.below HBE.out).cell hne
          (try rw [hA] at x0)
          (try rw [hA] at x1)
          (try rw [hA] at x2)
          (try rw [hA] at x4)
          (try rw [hB] at w0)
          (try rw [hB] at w1)
          (try rw [hB] at w2)
          (try rw [hB] at w4)
          have y0 : wr.cell? ⟨b1, o1 + k * 3, none⟩ = some (.string (str x.text)) := f1 _ _ (hv 0 _ (by omega) rfl)
          have y1 : wr.cell? ⟨b1, o1 + k * 3 + 1, none⟩ = some (.string (str x.set)) := by rw [Nat.add_assoc]; exact f1 _ _ (hv 1 _ (by omega) rfl)
          have y2 : wr.cell? ⟨b1, o1 + k * 3 + 2, none⟩ = some (.bool x.many) := by rw [Nat.add_assoc]; exact f1 _ _ (hv 2 _ (by omega) rfl)
          have z0 : wr.cell? ⟨b2, o2 + k * 3, none⟩ = some (.string (str x.text)) := f2 _ _ (hv 0 _ (by omega) rfl)
          have z1 : wr.cell? ⟨b2, o2 + k * 3 + 1, none⟩ = some (.string (str x.set)) := by rw [Nat.add_assoc]; exact f2 _ _ (hv 1 _ (by omega) rfl)
          have z2 : wr.cell? ⟨b2, o2 + k * 3 + 2, none⟩ = some (.bool x.many) := by rw [Nat.add_assoc]; exact f2 _ _ (hv 2 _ (by omega) rfl)
          clear hne f1 f2 hA hB
          generalize str x.text = X0 at y0 z0
          generalize str x.set = X1 at y1 z1
          generalize x.many = X2 at y2 z2
          have hki : (k : Int) < (b : Int) := by omega
          have hk0 : (0 : Int) ≤ (k : Int) := by omega
          go_wp2_with fail
          go_quiet (fail)
          go_wp2_with fail
          go_roundw
          case rel => exact ⟨k + 1, by omega, by go_num, below_drewN HBE.out _⟩
          case measure => simp [intOf]; omega
        · obtain rfl : b = k := by omega
          go_wp2_with fail
          clear x0 x1 x2 x4 w0 w1 w2 w4 hs9 hl8 hl9
          go_loopw [7] (fun i wr' => ∃ k : Nat, k ≤ c ∧ i = .int .i64 (k : Int) ∧ Below W.heap.size W wr') (fun i _ => c - (intOf i).toNat)
          case atStart => exact ⟨0, by omega, rfl, HBE.out⟩
          case round =>
            clear HBE
            rename_i wr1
            obtain ⟨k, hk, rfl, hbe⟩ := hrel
            have HBE := Lib.hid hbe
            clear hbe
            have hs9 := HBE.out.size
            have hl9 : g1 < wr.heap.size := by omega
            have hl8 : g2 < wr.heap.size := by omega
            have a1' := HG1.out.below HBE.out hgl1
            have a2' := HG2.out.below HBE.out hgl2
            have x0 := a1'.cell 0
            have x1 := a1'.cell 1
            have x2 := a1'.cell 2
            have x4 := a1'.cell 4
            have w0 := a2'.cell 0
            have w1 := a2'.cell 1
            have w2 := a2'.cell 2
            have w4 := a2'.cell 4
            simp only [List.getElem?_toArray, List.getElem?_cons_zero, List.getElem?_cons_succ] at x0 x1 x2 x4 w0 w1 w2 w4
            clear a1' a2'
            by_cases hlt : k < c
            · obtain ⟨x, hx⟩ := some_get (l := G.levels) (i := k) (by rw [HC.out]; exact hlt)
              obtain ⟨p, hp, hpx⟩ : ∃ p, pl[k]? = some p ∧ p.1 = x := by
                have h := hx
                rw [← Q3.out, List.getElem?_map, Option.map_eq_some_iff] at h
                exact h
              obtain ⟨p', hp', hpx'⟩ : ∃ p, pl'[k]? = some p ∧ p.1 = x := by
                have h := hx
                rw [← R3.out, List.getElem?_map, Option.map_eq_some_iff] at h
                exact h
              obtain ⟨E1, d1, hv1, hl1⟩ := J3'.out p (List.mem_of_getElem? hp)
              obtain ⟨E2, d2, hv2, hl2⟩ := N3'.out p' (List.mem_of_getElem? hp')
              rw [hpx] at hv1 hl1
              rw [hpx'] at hv2 hl2
              have hm1 := HN1.out x (List.mem_of_getElem? hx)
              have hv := fun j u (hj : j < 2) (hu : (levCells p)[j]? = some u) => flat_get levCells 2 (fun _ => rfl) pl k j p u hp hj hu
              have hv' := fun j u (hj : j < 2) (hu : (levCells p')[j]? = some u) => flat_get levCells 2 (fun _ => rfl) pl' k j p' u hp' hj hu
              obtain ⟨b1, o1, hA, hb1, f1⟩ := (L3.out.below HBE.out).cell (fun e => by have h := hv 0 _ (by omega) rfl; rw [show pl.flatMap levCells = levsV pl from rfl, e] at h; simp at h)
              obtain ⟨b2, o2, hB, hb2, f2⟩ := (P3.out.below HBE.out).cell (fun e => by have h := hv' 0 _ (by omega) rfl; rw [show pl'.flatMap levCells = levsV pl' from rfl, e] at h; simp at h)
              rw [hA] at x2
              rw [hB] at w2
              have y0 : wr.cell? ⟨b1, o1 + k * 2, none⟩ = some (.int .i64 (p.1.assoc : Int)) := f1 _ _ (hv 0 _ (by omega) rfl)
              have y1 : wr.cell? ⟨b1, o1 + k * 2 + 1, none⟩ = some p.2 := by rw [Nat.add_assoc]; exact f1 _ _ (hv 1 _ (by omega) rfl)
              have z0 : wr.cell? ⟨b2, o2 + k * 2, none⟩ = some (.int .i64 (p'.1.assoc : Int)) := f2 _ _ (hv' 0 _ (by omega) rfl)
              have z1 : wr.cell? ⟨b2, o2 + k * 2 + 1, none⟩ = some p'.2 := by rw [Nat.add_assoc]; exact f2 _ _ (hv' 1 _ (by omega) rfl)
              rw [hpx] at y0
              rw [hpx'] at z0
              rw [hv1] at y1
              rw [hv2] at z1
              have HL1 := Lib.hid (hl1.below HBE.out)
              have HL2 := Lib.hid (hl2.below HBE.out)
              clear hx hp hpx hp' hpx' hv1 hl1 hv2 hl2 hv hv' f1 f2 hA hB
              generalize x.assoc = X0 at y0 z0
              generalize x.names = XN at y1 z1 HL1 HL2 hm1
              have hki : (k : Int) < (c : Int) := by omega
              have hk0 : (0 : Int) ≤ (k : Int) := by omega
              have u4 : ((X0 : Int) != (X0 : Int)) = false := by simp
              go_wp2_with fail
              go_quiet (first | (go_at_call 16; refine quiet_texts (texts_same _ _ _ _ XN _ (HL1.out.drewN _) (HL2.out.drewN _) hm1)))
              go_wp2_with fail
              go_roundw
              case rel => exact ⟨k + 1, by omega, by go_num, below_drewN HBE.out _⟩
              case measure => simp [intOf]; omega
            · obtain rfl : c = k := by omega
              go_wp2_with fail
              clear x0 x1 x2 x4 w0 w1 w2 w4 hs9 hl8 hl9
              go_loopw [8] (fun i wr' => ∃ k : Nat, k ≤ d ∧ i = .int .i64 (k : Int) ∧ Below W.heap.size W wr') (fun i _ => d - (intOf i).toNat)
              case atStart => exact ⟨0, by omega, rfl, HBE.out⟩
              case round =>
                clear HBE
                rename_i wr2
                obtain ⟨k, hk, rfl, hbe⟩ := hrel
                have HBE := Lib.hid hbe
                clear hbe
                have hs9 := HBE.out.size
                have hl9 : g1 < wr.heap.size := by omega
                have hl8 : g2 < wr.heap.size := by omega
                have a1' := HG1.out.below HBE.out hgl1
                have a2' := HG2.out.below HBE.out hgl2
                have x0 := a1'.cell 0
                have x1 := a1'.cell 1
                have x2 := a1'.cell 2
                have x4 := a1'.cell 4
                have w0 := a2'.cell 0
                have w1 := a2'.cell 1
                have w2 := a2'.cell 2
                have w4 := a2'.cell 4
                simp only [List.getElem?_toArray, List.getElem?_cons_zero, List.getElem?_cons_succ] at x0 x1 x2 x4 w0 w1 w2 w4
                clear a1' a2'
                by_cases hlt : k < d
                · obtain ⟨x, hx⟩ := some_get (l := G.rules) (i := k) (by rw [HD.out]; exact hlt)
                  obtain ⟨p, hp, hpx⟩ : ∃ p, ql[k]? = some p ∧ p.1 = x := by
                    have h := hx
                    rw [← Q4.out, List.getElem?_map, Option.map_eq_some_iff] at h
                    exact h
                  obtain ⟨p', hp', hpx'⟩ : ∃ p, ql'[k]? = some p ∧ p.1 = x := by
                    have h := hx
                    rw [← R4.out, List.getElem?_map, Option.map_eq_some_iff] at h
                    exact h
                  obtain ⟨E1, d1, hv1, hl1⟩ := J4'.out p (List.mem_of_getElem? hp)
                  obtain ⟨E2, d2, hv2, hl2⟩ := N4'.out p' (List.mem_of_getElem? hp')
                  rw [hpx] at hv1 hl1
                  rw [hpx'] at hv2 hl2
                  have hm1 := HN2.out x (List.mem_of_getElem? hx)
                  have hv := fun j u (hj : j < 4) (hu : (ruleCells p)[j]? = some u) => flat_get ruleCells 4 (fun _ => rfl) ql k j p u hp hj hu
                  have hv' := fun j u (hj : j < 4) (hu : (ruleCells p')[j]? = some u) => flat_get ruleCells 4 (fun _ => rfl) ql' k j p' u hp' hj hu
                  obtain ⟨b1, o1, hA, hb1, f1⟩ := (L4.out.below HBE.out).cell (fun e => by have h := hv 0 _ (by omega) rfl; rw [show ql.flatMap ruleCells = rulesV ql from rfl, e] at h; simp at h)
                  obtain ⟨b2, o2, hB, hb2, f2⟩ := (P4.out.below HBE.out).cell (fun e => by have h := hv' 0 _ (by omega) rfl; rw [show ql'.flatMap ruleCells = rulesV ql' from rfl, e] at h; simp at h)
                  rw [hA] at x4
                  rw [hB] at w4
                  have y0 : wr.cell? ⟨b1, o1 + k * 4, none⟩ = some (.string (str p.1.left)) := f1 _ _ (hv 0 _ (by omega) rfl)
                  have y1 : wr.cell? ⟨b1, o1 + k * 4 + 1, none⟩ = some p.2 := by rw [Nat.add_assoc]; exact f1 _ _ (hv 1 _ (by omega) rfl)
                  have y2 : wr.cell? ⟨b1, o1 + k * 4 + 2, none⟩ = some (.string (str p.1.prec)) := by rw [Nat.add_assoc]; exact f1 _ _ (hv 2 _ (by omega) rfl)
                  have y3 : wr.cell? ⟨b1, o1 + k * 4 + 3, none⟩ = some (.string (str p.1.action)) := by rw [Nat.add_assoc]; exact f1 _ _ (hv 3 _ (by omega) rfl)
                  have z0 : wr.cell? ⟨b2, o2 + k * 4, none⟩ = some (.string (str p'.1.left)) := f2 _ _ (hv' 0 _ (by omega) rfl)
                  have z1 : wr.cell? ⟨b2, o2 + k * 4 + 1, none⟩ = some p'.2 := by rw [Nat.add_assoc]; exact f2 _ _ (hv' 1 _ (by omega) rfl)
                  have z2 : wr.cell? ⟨b2, o2 + k * 4 + 2, none⟩ = some (.string (str p'.1.prec)) := by rw [Nat.add_assoc]; exact f2 _ _ (hv' 2 _ (by omega) rfl)
                  have z3 : wr.cell? ⟨b2, o2 + k * 4 + 3, none⟩ = some (.string (str p'.1.action)) := by rw [Nat.add_assoc]; exact f2 _ _ (hv' 3 _ (by omega) rfl)
                  rw [hpx] at y0 y2 y3
                  rw [hpx'] at z0 z2 z3
                  rw [hv1] at y1
                  rw [hv2] at z1
                  have HL1 := Lib.hid (hl1.below HBE.out)
                  have HL2 := Lib.hid (hl2.below HBE.out)
                  clear hx hp hpx hp' hpx' hv1 hl1 hv2 hl2 hv hv' f1 f2 hA hB
                  generalize str x.left = X0 at y0 z0
                  generalize str x.prec = X2 at y2 z2
                  generalize str x.action = X3 at y3 z3
                  generalize x.right = XN at y1 z1 HL1 HL2 hm1
                  have hki : (k : Int) < (d : Int) := by omega
                  have hk0 : (0 : Int) ≤ (k : Int) := by omega
                  go_wp2_with fail
                  have hbn : Below wr.heap.size wr ((wr.alloc (.cells #[.string X0, .slice E1 XN.length d1, .string X2, .string X3] 30)).alloc (.cells #[.string X0, .slice E2 XN.length d2, .string X2, .string X3] 30)) := ((Below.refl _ _).alloc (Nat.le_refl _) _).alloc (by simp) _
                  refine (texts_same _ _ _ _ XN _ (HL1.out.below hbn) (HL2.out.below hbn) hm1).mono ?_
                  rintro e w9 ⟨rfl, nn, rfl⟩
                  have HBN := Lib.hid (HBE.out.trans (hbn.mono HBE.out.size))
                  clear hbn
                  go_wp2_with fail
                  go_roundw
                  case rel => exact ⟨k + 1, by omega, by go_num, below_drewN HBN.out _⟩
                  case measure => simp [intOf]; omega
                · obtain rfl : d = k := by omega
                  go_wp2_with fail
                  go_ret
                  exact ⟨rfl, HBW.out.trans (HBE.out.mono HBW.out.size)⟩

end Go.Proofs.YtgmihbfikggkjaaDoor
