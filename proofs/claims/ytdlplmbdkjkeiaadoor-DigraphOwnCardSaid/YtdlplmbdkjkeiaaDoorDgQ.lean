import Derived.Test.YtdlplmbdkjkeiaaDoorDgP
namespace Go.Proofs.YtdlplmbdkjkeiaaDoor
set_option maxRecDepth 100000
open Go.RowKit
open BitKit
set_option linter.unusedVariables false
set_option linter.unusedSimpArgs false
def bls (n : Nat) (S : Nat → Bool) : List Value := (List.range n).map fun i => .bool (S i)
theorem bls_length (n : Nat) (S : Nat → Bool) : (bls n S).length = n := by simp [bls]
theorem bls_get {n i : Nat} (S : Nat → Bool) (h : i < n) : (bls n S)[i]? = some (.bool (S i)) := by simp [bls, h]
theorem bls_set (n i : Nat) (b : Bool) (S : Nat → Bool) : (bls n S).set i (.bool b) = bls n (Dg.upd S i b) := by
 apply List.ext_getElem?
 intro j
 rw [List.getElem?_set]
 by_cases hj : j < n
 ·by_cases he : i = j
  ·subst he; simp [bls, hj, Dg.upd]
  ·have : ¬ j = i := fun e => he e.symm
   simp [bls, hj, he, Dg.upd, this]
 ·by_cases he : i = j
  ·subst he; simp [bls, hj]
  ·simp [bls, hj, he]
theorem Tryd.infoBool : (Tryd.prog.info? 4).map (fun i => (i.zero, i.size, i.bytes)) = some (some (.bool false), 1, 1) := by kernel_rfl
theorem run_make_bools (n : Nat) (hn : n ≤ 1099511627776) (w : World) : (Instr.makeSlice 42 (.int .i64 (n : Int)) (.int .i64 (n : Int))).run Tryd.prog w = .ok (.slice (some ⟨w.heap.size, 0, none⟩) n n) (w.alloc (.cells (bls n (fun _ => false)).toArray 4)) := by
 obtain ⟨i0, hi, hz0, hz1, hz2⟩ := info_parts Tryd.infoBool
 have hr := run_make (P := Tryd.prog) w 42 4 i0 (.bool false) Tryd.underlying42 hi hz0 .i64 .i64 n n (by omega) (Int.le_refl _) (by rw [hz2]; omega) (by omega)
 rw [hr, hz1]
 have e : madeCells (Value.bool false).cells (((n : Int)).toNat * 1) = (bls n (fun _ => false)).toArray := by
  apply Array.ext'
  rw [Int.toNat_natCast, Nat.mul_one]
  show (madeCells #[.bool false] n).toList = _
  rw [toList_madeCells_one]
  apply List.ext_getElem?
  intro j
  by_cases hj : j < n
  ·rw [bls_get _ hj]; simp [hj]
  ·simp [bls, hj]
 rw [e, Int.toNat_natCast]
theorem bls_own {B n : Nat} (S : Nat → Bool) (W : World) (hB : B ≤ W.heap.size) (hn : n ≤ 1099511627776) : (W.alloc (.cells (bls n S).toArray 4)).ownsRow B 4 1 (.slice (some ⟨W.heap.size, 0, none⟩) n n) n (bls n S) := by
 have h := World.ownsRow_lit (base := B) (e := 4) (size := 1) W (bls n S).toArray n hB (by unfold maxLen; omega) (by simp [bls_length])
 simpa using h
namespace Dg
def out (n : Nat) (S : Nat → Bool) : Nat := sumTo n (fun v => if S v then 0 else 1)
theorem out_put {n x : Nat} {S : Nat → Bool} (hx : x < n) (h : S x = false) : out n (upd S x true) + 1 ≤ out n S := by
 refine sumTo_less n hx (fun v hv => ?_) ?_
 ·by_cases he : v = x
  ·subst he; rw [upd_self]; simp
  ·rw [upd_other _ _ he]; omega
 ·rw [upd_self, h]; simp
def ClosedTo (G : Nat → List Int) (n : Nat) (S : Nat → Bool) (k j : Nat) : Prop :=
 (∀ v, v < k → S v = true → ∀ u : Nat, (u : Int) ∈ G v → u < n → S u = true) ∧ (S k = true → ∀ u : Nat, (u : Int) ∈ (G k).take j → u < n → S u = true)
theorem ClosedTo.zero (G : Nat → List Int) (n : Nat) (S : Nat → Bool) : ClosedTo G n S 0 0 := ⟨(fun v hv => absurd hv (by omega)), (fun _ u hu => by simp at hu)⟩
theorem ClosedTo.next {G : Nat → List Int} {n k : Nat} {S : Nat → Bool} (h : ClosedTo G n S k (G k).length) : ClosedTo G n S (k + 1) 0 := by
 refine ⟨fun v hv hS u hu hn => ?_, (fun _ u hu => by simp at hu)⟩
 by_cases he : v = k
 ·subst he
  exact h.2 hS u (by rw [List.take_length]; exact hu) hn
 ·exact h.1 v (by omega) hS u hu hn
theorem ClosedTo.step {G : Nat → List Int} {n k j : Nat} {S : Nat → Bool} {x : Int} (h : ClosedTo G n S k j) (hx : (G k)[j]? = some x) (hs : S k = true → ∀ u : Nat, (u : Int) = x → u < n → S u = true) : ClosedTo G n S k (j + 1) := by
 refine ⟨h.1, fun hS u hu hn => ?_⟩
 rw [List.take_add_one, hx] at hu
 simp only [Option.toList_some, List.mem_append, List.mem_cons, List.not_mem_nil, or_false] at hu
 rcases hu with hu | hu
 ·exact h.2 hS u hu hn
 ·exact hs hS u hu hn
structure Grew (G : Nat → List Int) (n at_ : Nat) (S S' : Nat → Bool) : Prop where
 sub : ∀ v, S v = true → S' v = true
 sound : ∀ v, S' v = true → R G n at_ v
def Quiet (G : Nat → List Int) (n : Nat) (S S' : Nat → Bool) (m : Bool) (k j : Nat) : Prop :=
 (m = false → S' = S ∧ ClosedTo G n S k j) ∧ (m = true → out n S' < out n S) ∧ out n S' ≤ out n S
theorem quiet_step {G : Nat → List Int} {n k j : Nat} {S S' : Nat → Bool} {m : Bool} {x : Int} (h : Quiet G n S S' m k j) (hx : (G k)[j]? = some x) (hs : S' k = true → ∀ u : Nat, (u : Int) = x → u < n → S' u = true) : Quiet G n S S' m k (j + 1) :=
 ⟨fun hm => by
  obtain ⟨h1, h2⟩ := h.1 hm
  subst h1
  exact ⟨rfl, h2.step hx hs⟩, h.2⟩
theorem quiet_next {G : Nat → List Int} {n k j : Nat} {S S' : Nat → Bool} {m : Bool} (h : Quiet G n S S' m k j) (hj : j = (G k).length) : Quiet G n S S' m (k + 1) 0 := by
 subst hj
 exact ⟨fun hm => ⟨(h.1 hm).1, (h.1 hm).2.next⟩, h.2⟩
theorem quiet_less {G : Nat → List Int} {n k j : Nat} {S S' : Nat → Bool} {m : Bool} (h : Quiet G n S S' m k j) : out n S' + (if m then 1 else 0) < out n S + 1 := by
 cases m with
 | false => have := h.2.2; simp; omega
 | true => have := h.2.1 rfl; simp; omega
theorem quiet_end {G : Nat → List Int} {n k : Nat} {S S' : Nat → Bool} {m : Bool} (h : Quiet G n S S' m k 0) (hG : ∀ v, k ≤ v → G v = []) : m = false → ∀ v, v < n → S' v = true → ∀ u : Nat, (u : Int) ∈ G v → u < n → S' u = true := by
 intro hm v hv hS u hu hun
 obtain ⟨h1, h2⟩ := h.1 hm
 subst h1
 by_cases hk : v < k
 ·exact h2.1 v hk hS u hu hun
 ·rw [hG v (by omega)] at hu; cases hu
theorem quiet_full {G : Nat → List Int} {n : Nat} {S S' : Nat → Bool} {m : Bool} (h : Quiet G n S S' m n 0) : m = false → ∀ v, v < n → S' v = true → ∀ u : Nat, (u : Int) ∈ G v → u < n → S' u = true := by
 intro hm v hv hS u hu hun
 obtain ⟨h1, h2⟩ := h.1 hm
 subst h1
 exact h2.1 v hv hS u hu hun
theorem R.lt {G : Nat → List Int} {n a b : Nat} (h : R G n a b) (ha : a < n) : b < n := by
 induction h with
 | refl _ => exact ha
 | step e _ ih => exact ih e.1
theorem reached {G : Nat → List Int} {n at_ : Nat} {S : Nat → Bool} (ha : S at_ = true) (hs : ∀ v, S v = true → R G n at_ v) (hc : ∀ v, S v = true → ∀ u : Nat, (u : Int) ∈ G v → u < n → S u = true) (j : Nat) : S j = true ↔ R G n at_ j := by
 refine ⟨hs j, fun h => ?_⟩
 have : ∀ a b, R G n a b → S a = true → S b = true := by
  intro a b hab
  induction hab with
  | refl v => exact id
  | step e _ ih => exact fun hv => ih (hc _ hv _ e.2 e.1)
 exact this _ _ h ha
end Dg
structure Reached (w w' : World) (E : List (List Int)) (n at_ : Nat) (e : Ending) (L c : Nat) (S : Nat → Bool) : Prop where
 ret : e = .returned (.slice (some ⟨L, 0, none⟩) n c)
 own : w'.ownsRow w.heap.size 4 1 (.slice (some ⟨L, 0, none⟩) n c) n (bls n S)
 tells : ∀ j, S j = true ↔ Dg.R (fnL E) n at_ j
 below : Below w.heap.size w w'
set_option maxHeartbeats 16000000 in
theorem reach_any (v : Value) (E : List (List Int)) (n at_ : Nat) (w : World) (hE : RowsL w v E) (hn : n ≤ 1099511627776) (ha : at_ < n) :
  Calls Tryd.prog 27 #[v, .int .i64 (n : Int), .int .i64 (at_ : Int)] w fun e w' => ∃ L c S, Reached w w' E n at_ e L c S := by
 have KE := Lib.hid hE
 have hmk := fun wx => run_make_bools n hn wx
 obtain ⟨A, c, rfl⟩ := hE.shape
 have hEl := hE.len
 have hrow0 := bls_own (B := w.heap.size) (n := n) (fun _ => false) w (Nat.le_refl _) hn
 have c0 := hrow0.cellAt at_ (by omega)
 rw [bls_get _ ha] at c0
 have z0 := hrow0.frozenAt at_
 have hrow1 := bls_own (B := w.heap.size) (n := n) (Dg.upd (fun _ => false) at_ true) w (Nat.le_refl _) hn
 have hb1 : Below w.heap.size w (w.alloc (.cells (bls n (Dg.upd (fun _ => false) at_ true)).toArray 4)) := (Below.refl _ _).alloc (Nat.le_refl _) _
 have Krow00 := Lib.hid hrow1
 have Kb00 := Lib.hid hb1
 have a1 : (0 : Int) ≤ (at_ : Int) := by omega
 have a2 : (at_ : Int) < (n : Int) := by omega
 have a3 : ((at_ : Int)).toNat = at_ := by omega
 clear hE hrow0 hrow1 hb1
 go_enter Tryd.func27, Tryd.ntmps27
 go_wp2_with fail
 obtain ⟨lb, hlb⟩ : ∃ lb, lb = w.heap.size := ⟨_, rfl⟩
 rw [← hlb] at Krow00 Kb00 ⊢
 have KB : ∀ wx, Below lb w wx → RowsL wx (.slice A E.length c) E := fun wx hb => KE.out.below (hlb ▸ hb)
 have KBB := Lib.hid KB
 have Klb := Lib.hid hlb
 clear KB c0 z0 hmk hlb
 go_loopg [8] (Dg.out n (Dg.upd (fun _ => false) at_ true) + 1) (fun q t8 wr => ∃ (S : Nat → Bool) (m : Bool), t8 = .bool m ∧ q = Dg.out n S + (if m then 1 else 0) ∧ wr.ownsRow lb 4 1 (.slice (some ⟨lb, 0, none⟩) n n) n (bls n S) ∧ Below lb w wr ∧ S at_ = true ∧ (∀ v, S v = true → Dg.R (fnL E) n at_ v) ∧
   (m = false → ∀ v, v < n → S v = true → ∀ u : Nat, (u : Int) ∈ fnL E v → u < n → S u = true))
 case atStart =>
  rw [bls_set]
  refine ⟨_, true, rfl, rfl, Krow00.out, Kb00.out, Dg.upd_self _ _ _, fun v hv => ?_, (fun h => by cases h)⟩
  by_cases he : v = at_
  ·subst he; exact .refl v
  ·rw [Dg.upd_other _ _ he] at hv; cases hv
 case round =>
  obtain ⟨S, m, rfl, hq, ho, hb, hat, hso, hcl⟩ := hrel
  have Ko := Lib.hid ho
  have Kb := Lib.hid hb
  have Kat := Lib.hid hat
  have Kso := Lib.hid hso
  have Kcl := Lib.hid hcl
  have Kq := Lib.hid hq
  clear ho hb hat hso hcl hq
  cases m with
  | false =>
   go_wp2_with fail
   go_ret
   refine ⟨lb, n, S, rfl, Klb.out ▸ Ko.out, Dg.reached Kat.out Kso.out (fun v hv u hu hun => Kcl.out (by trivial) v ((Kso.out v hv).lt ha) hv u hu hun), Klb.out ▸ Kb.out⟩
  | true =>
   clear Kcl
   go_wp2_with fail
   go_loopg [8, 9] n (fun q t8 t9 wr => ∃ (k : Nat) (S' : Nat → Bool) (m : Bool), t9 = .int .i64 (k : Int) ∧ k ≤ n ∧ q = n - k ∧ t8 = .bool m ∧ wr.ownsRow lb 4 1 (.slice (some ⟨lb, 0, none⟩) n n) n (bls n S') ∧ Below lb w wr ∧ Dg.Grew (fnL E) n at_ S S' ∧ Dg.Quiet (fnL E) n S S' m k 0)
   case atStart => exact ⟨0, S, false, rfl, by omega, by omega, rfl, Ko.out, Kb.out, ⟨fun v h => h, Kso.out⟩, (fun _ => ⟨rfl, Dg.ClosedTo.zero _ _ _⟩), (fun h => by cases h), Nat.le_refl _⟩
   case round =>
    obtain ⟨k, S1, m1, rfl, hk, hq1, rfl, ho1, hb1, hg1, hc1⟩ := hrel
    have Ko1 := Lib.hid ho1
    have Kb1 := Lib.hid hb1
    have Kg1 := Lib.hid hg1
    have Kc1 := Lib.hid hc1
    have Kq1 := Lib.hid hq1
    clear ho1 hb1 hg1 hc1 hq1 Ko Kb
    by_cases hkn : k < n
    ·by_cases hkE : k < E.length
     ·obtain ⟨l, hl⟩ : ∃ l, E[k]? = some l := ⟨_, List.getElem?_eq_getElem hkE⟩
      have hfl := fnL_get hl
      obtain ⟨b, o, c', A', c'', he, hc, hrow⟩ := (KBB.out wr Kb1.out).cell hl
      simp only [Value.slice.injEq, true_and] at he
      obtain ⟨rfl, rfl⟩ := he
      have q1 : (0 : Int) ≤ (k : Int) := by omega
      have q2 : (k : Int) < (E.length : Int) := by omega
      have q3 : ((k : Int)).toNat = k := by omega
      have q4 : (k : Int) < (n : Int) := by omega
      have Kl := Lib.hid hl
      have Kfl := Lib.hid hfl
      have hlb : l.length ≤ 9223372036854775807 := by obtain ⟨_, _, _, _, h⟩ := hrow; exact h.len
      clear hl hfl hc hrow
      go_wp2_with fail
      go_loopg [8, 10] l.length (fun q t8 t10 wx => ∃ (j : Nat) (S' : Nat → Bool) (m : Bool), t10 = .int .i64 (j : Int) ∧ j ≤ l.length ∧ q = l.length - j ∧ t8 = .bool m ∧ wx.ownsRow lb 4 1 (.slice (some ⟨lb, 0, none⟩) n n) n (bls n S') ∧ Below lb w wx ∧ Dg.Grew (fnL E) n at_ S S' ∧ Dg.Quiet (fnL E) n S S' m k j)
      case atStart => exact ⟨0, S1, m1, rfl, by omega, by omega, rfl, Ko1.out, Kb1.out, Kg1.out, Kc1.out⟩
      case round =>
       obtain ⟨j, S2, m2, rfl, hj, hq2, rfl, ho2, hb2, hg2, hc2⟩ := hrel
       have Ko2 := Lib.hid ho2
       have Kb2 := Lib.hid hb2
       have Kg2 := Lib.hid hg2
       have Kc2 := Lib.hid hc2
       have Kq2 := Lib.hid hq2
       obtain ⟨b3, o3, c3, A3, c4, he3, hc3, hrow3⟩ := (KBB.out wr hb2).cell Kl.out
       simp only [Value.slice.injEq, Option.some.injEq, Addr.mk.injEq, true_and, and_true] at he3
       obtain ⟨⟨rfl, rfl⟩, rfl⟩ := he3
       clear hb2 hg2 hc2 hq2 Ko1 Kb1 Kg1 Kc1
       by_cases hjl : j < l.length
       ·obtain ⟨b4, o4, rfl, _, cx⟩ := hrow3.cells hjl
        obtain ⟨x, hx⟩ : ∃ x, l[j]? = some x := ⟨_, List.getElem?_eq_getElem hjl⟩
        rw [show l.getD j 0 = x by rw [List.getD, hx]; rfl] at cx
        have ck : wr.cell? ⟨lb, k, none⟩ = some (.bool (S2 k)) := by rw [ho2.cellAt k (by omega), bls_get _ hkn]
        have r1 : (0 : Int) ≤ (j : Int) := by omega
        have r2 : (j : Int) < (l.length : Int) := by omega
        have r3 : ((j : Int)).toNat = j := by omega
        have Kx := Lib.hid (show (fnL E k)[j]? = some x by rw [Kfl.out]; exact hx)
        clear hx hrow3
        by_cases hS : S2 k = true
        ·rw [hS] at ck
         have KS := Lib.hid hS
         clear hS
         by_cases hx0 : 0 ≤ x
         ·by_cases hxn : x < (n : Int)
          ·obtain ⟨t, rfl⟩ : ∃ t : Nat, x = (t : Int) := ⟨x.toNat, by omega⟩
           have htn : t < n := by omega
           have u3 : ((t : Int)).toNat = t := by omega
           have ct : wr.cell? ⟨lb, t, none⟩ = some (.bool (S2 t)) := by rw [ho2.cellAt t (by omega), bls_get _ htn]
           have zt := ho2.frozenAt t
           clear ho2
           by_cases hSt : S2 t = true
           ·rw [hSt] at ct
            have KSt := Lib.hid hSt
            clear hSt
            go_wp2_with fail
            go_roundg (l.length - (j + 1))
            case measure => have := Kq2.out; omega
            case rel => exact ⟨j + 1, S2, m2, by go_num, by omega, rfl, rfl, Ko2.out, Kb2.out, Kg2.out, Dg.quiet_step Kc2.out Kx.out (fun _ u hu hun => (show u = t by omega) ▸ KSt.out)⟩
           ·have hSf : S2 t = false := by simpa using hSt
            rw [hSf] at ct
            have KSf := Lib.hid hSf
            clear hSt hSf
            go_wp2_with fail
            go_roundg (l.length - (j + 1))
            case measure => have := Kq2.out; omega
            case rel =>
             have h1 := (Ko2.out.stored t (.bool true)).1
             rw [bls_set] at h1
             refine ⟨j + 1, Dg.upd S2 t true, true, by go_num, by omega, rfl, rfl, h1, below_set Kb2.out (Nat.le_refl _) _, ⟨fun v hv => ?_, fun v hv => ?_⟩, (fun h => by cases h), fun _ => ?_, ?_⟩
             ·by_cases he : v = t
              ·subst he; exact Dg.upd_self _ _ _
              ·rw [Dg.upd_other _ _ he]; exact Kg2.out.sub v hv
             ·by_cases he : v = t
              ·subst he
               exact (Kg2.out.sound k KS.out).snoc ⟨htn, List.mem_of_getElem? Kx.out⟩
              ·rw [Dg.upd_other _ _ he] at hv; exact Kg2.out.sound v hv
             ·have h2 := Dg.out_put htn KSf.out
              have h3 := Kc2.out.2.2
              omega
             ·have h2 := Dg.out_put htn KSf.out
              have h3 := Kc2.out.2.2
              omega
          ·clear ho2
           go_wp2_with fail
           go_roundg (l.length - (j + 1))
           case measure => have := Kq2.out; omega
           case rel => exact ⟨j + 1, S2, m2, by go_num, by omega, rfl, rfl, Ko2.out, Kb2.out, Kg2.out, Dg.quiet_step Kc2.out Kx.out (fun _ u hu hun => by omega)⟩
         ·clear ho2
          go_wp2_with fail
          go_roundg (l.length - (j + 1))
          case measure => have := Kq2.out; omega
          case rel => exact ⟨j + 1, S2, m2, by go_num, by omega, rfl, rfl, Ko2.out, Kb2.out, Kg2.out, Dg.quiet_step Kc2.out Kx.out (fun _ u hu hun => by omega)⟩
        ·have hSf : S2 k = false := by simpa using hS
         rw [hSf] at ck
         have KSf := Lib.hid hSf
         clear hS hSf ho2
         go_wp2_with fail
         go_roundg (l.length - (j + 1))
         case measure => have := Kq2.out; omega
         case rel => exact ⟨j + 1, S2, m2, by go_num, by omega, rfl, rfl, Ko2.out, Kb2.out, Kg2.out, Dg.quiet_step Kc2.out Kx.out (fun h => by rw [KSf.out] at h; cases h)⟩
       ·obtain rfl : j = l.length := by omega
        clear ho2 hrow3
        go_wp2_with fail
        go_roundg (n - (k + 1))
        case measure => have := Kq1.out; omega
        case rel => exact ⟨k + 1, S2, m2, by go_num, by omega, rfl, rfl, Ko2.out, Kb2.out, Kg2.out, Dg.quiet_next Kc2.out (by rw [Kfl.out])⟩
     ·go_wp2_with fail
      go_roundg (Dg.out n S1 + if m1 then 1 else 0)
      case measure => have := Dg.quiet_less Kc1.out; have := Kq.out; simp at this; omega
      case rel => exact ⟨S1, m1, rfl, rfl, Ko1.out, Kb1.out, Kg1.out.sub _ Kat.out, Kg1.out.sound, Dg.quiet_end Kc1.out (fun v hv => by unfold fnL; rw [List.getD, List.getElem?_eq_none (by omega)]; rfl)⟩
    ·obtain rfl : k = n := by omega
     go_wp2_with fail
     go_roundg (Dg.out k S1 + if m1 then 1 else 0)
     case measure => have := Dg.quiet_less Kc1.out; have := Kq.out; simp at this; omega
     case rel => exact ⟨S1, m1, rfl, rfl, Ko1.out, Kb1.out, Kg1.out.sub _ Kat.out, Kg1.out.sound, Dg.quiet_full Kc1.out⟩
end Go.Proofs.YtdlplmbdkjkeiaaDoor
