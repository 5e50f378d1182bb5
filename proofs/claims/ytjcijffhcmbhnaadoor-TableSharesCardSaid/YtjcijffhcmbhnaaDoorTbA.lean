import Derived.Test.YtjcijffhcmbhnaaDoorOwn
import Derived.Test.YtjcijffhcmbhnaaDoorSpare
import Derived.Test.YtjcijffhcmbhnaaDoorOps
import Derived.Test.YtjcijffhcmbhnaaDoorOps3
import Derived.Test.YtjcijffhcmbhnaaDoorLaw
import Derived.Test.YtjcijffhcmbhnaaDoorDgApn
import Derived.Test.YtjcijffhcmbhnaaDoorTbM
import Derived.BigQuiet
import Derived.BigRegion
import Derived.Deep.QuietTactic
import Derived.Lib.Hide
import Derived.Deep.LoopGhost
import Derived.Deep.Cut
import Derived.Deep.CutRange
import Derived.Deep.MidRow
import Derived.Deep.RegionWith
import Derived.Deep.RegionHeld3
import Derived.Deep.Matrix
import Derived.StillTailTactics
import Derived.WalkLawsBesides
import Derived.IntWalk
namespace Go.Proofs.YtjcijffhcmbhnaaDoor
set_option maxRecDepth 100000
open Go.RowKit Go.ChangeShapes Go.WideShapes Go.ChangeAt
set_option linter.unusedVariables false
set_option linter.unusedSimpArgs false
theorem At.to {w : World} {g : Nat} {t : TypeId} {cs cs' : Array Value} (h : At w g t cs) (e : cs = cs') : At w g t cs' := e ▸ h
theorem below_set {B : Nat} {a w : World} (h : Below B a w) {p : Addr} (hp : B ≤ p.block) (u : Value) : Below B a (w.setCell p u) :=
 ⟨h.os, h.tape, h.output, by simpa [World.setCell] using h.size, fun k hk => (Below.heap_setCell w p u k (fun e => by omega)).trans (h.block k hk)⟩
theorem Spares.set {ts : List TypeId} {a w : World} {g : Nat} {t : TypeId} {cs : Array Value} (h : Spares ts a w) (ha : At w g t cs) (ht : t ∈ ts) (i : Nat) (u : Value) : Spares ts a (w.setCell ⟨g, i, none⟩ u) :=
 ⟨by simpa [World.setCell] using h.size, fun k cs' t' ht' hk => by
  have h1 := h.block k cs' t' ht' hk
  by_cases he : k = g
  ·subst he
   exact absurd (At.type ha h1 ▸ ht) ht'
  ·rw [Below.heap_setCell w _ u k he]; exact h1⟩
theorem Spares.grown {ts : List TypeId} {a w w' : World} {B e size n : Nat} {v : Value} {xs : List Value} (h : Spares ts a w) (ho : w.ownsRow B e size v n xs) (hg : w.grownBy w' v.ownBlock) (he : e ∈ ts) : Spares ts a w' :=
 h.trans ((grown_spares hg ho).mono fun t ht => by simp at ht; exact ht ▸ he)
theorem own_at {w : World} {B e size n g c : Nat} {xs : List Value} (h : w.ownsRow B e size (.slice (some ⟨g, 0, none⟩) n c) n xs) : ∃ cs, At w g e cs := by
 rcases h.2 with ⟨h1, _⟩ | ⟨g', cap, cur, h1, _, hg, _⟩
 ·cases h1
 ·simp only [Value.slice.injEq, Option.some.injEq, Addr.mk.injEq, and_true, true_and] at h1
  obtain ⟨rfl, rfl⟩ := h1
  exact ⟨cur, hg⟩
def Ap (v u : Value) : Prop := ∀ k, v.ownBlock = some k → u.ownBlock ≠ some k
theorem Ap.symm {v u : Value} (h : Ap v u) : Ap u v := fun k h1 h2 => h k h2 h1
theorem Ap.nil (u : Value) : Ap (.slice none 0 0) u := fun k h => by simp [Value.ownBlock] at h
theorem Ap.new {w : World} {v v' u : Value} (h : Ap v u) (hs : SameOrNew w v v') (hu : ∀ k, u.ownBlock = some k → k < w.heap.size) : Ap v' u := by
 intro k hk hu'
 rcases hs k hk with h1 | h1
 ·exact h k h1 hu'
 ·have := hu k hu'; omega
theorem own_ap {w w' : World} {B e size n : Nat} {v u : Value} {xs : List Value} (h : w.ownsRow B e size v n xs) (hg : w.grownBy w' u.ownBlock) (ha : Ap v u) : w'.ownsRow B e size v n xs :=
 h.kept hg (by
  cases hv : v.ownBlock with
  | none => exact .inl rfl
  | some k => exact .inr (fun e => ha k hv e.symm))
theorem own_far {w : World} {B e size n g : Nat} {v : Value} {xs : List Value} {t : TypeId} {cs : Array Value} (h : w.ownsRow B e size v n xs) (ha : At w g t cs) (hne : t ≠ e) (i : Nat) (u : Value) : (w.setCell ⟨g, i, none⟩ u).ownsRow B e size v n xs :=
 ownsRow_setCell_other h (own_apart h ha hne) u
theorem own_block {w : World} {B e size n : Nat} {v : Value} {xs : List Value} (h : w.ownsRow B e size v n xs) : ∀ k, v.ownBlock = some k → k < w.heap.size := fun k hk => (h.lt k hk).2
theorem own_slice {w : World} {B e size n : Nat} {v : Value} {xs : List Value} (h : w.ownsRow B e size v n xs) : ∃ a c, v = .slice a n c ∧ n ≤ c := by
 rcases own_shape h with ⟨rfl, rfl, _⟩ | ⟨g, cap, rfl, hc, _⟩
 ·exact ⟨none, 0, rfl, Nat.le_refl _⟩
 ·exact ⟨_, _, rfl, hc⟩
theorem own_pos {w : World} {B e size n : Nat} {v : Value} {xs : List Value} (h : w.ownsRow B e size v n xs) (hn : 0 < n) : ∃ g c, v = .slice (some ⟨g, 0, none⟩) n c ∧ n ≤ c ∧ B ≤ g := by
 rcases own_shape h with ⟨rfl, rfl, _⟩ | ⟨g, cap, rfl, hc, _, hb, _⟩
 ·omega
 ·exact ⟨_, _, rfl, hc, hb⟩
def RowIn (w : World) (B : Nat) (v : Value) (l : List Int) : Prop := ∃ A c, v = .slice A l.length c ∧ l.length ≤ c ∧ Nums w B A l.length (fun i => l.getD i 0)
theorem RowIn.below {w w' : World} {B : Nat} {v : Value} {l : List Int} (h : RowIn w B v l) (hb : Below B w w') : RowIn w' B v l := by
 obtain ⟨A, c, h1, h2, h3⟩ := h
 exact ⟨A, c, h1, h2, h3.below hb⟩
theorem RowIn.drewN {w : World} {B : Nat} {v : Value} {l : List Int} (h : RowIn w B v l) (k : Nat) : RowIn (w.drewN k) B v l := by
 obtain ⟨A, c, h1, h2, h3⟩ := h
 exact ⟨A, c, h1, h2, ⟨h3.each, h3.rx, h3.len⟩⟩
theorem RowIn.drew {w : World} {B : Nat} {v : Value} {l : List Int} (h : RowIn w B v l) : RowIn w.drew B v l := by
 obtain ⟨A, c, h1, h2, h3⟩ := h
 exact ⟨A, c, h1, h2, ⟨h3.each, h3.rx, h3.len⟩⟩
theorem below_drew {B : Nat} {a w : World} (h : Below B a w) : Below B a w.drew := ⟨h.os, h.tape, h.output, h.size, h.block⟩
theorem Spares.drew {ts : List TypeId} {a w : World} (h : Spares ts a w) : Spares ts a w.drew := ⟨h.size, h.block⟩
theorem Nums.nil (w : World) (B : Nat) (A : Option Addr) (X : Nat → Int) : Nums w B A 0 X := ⟨fun i hi => by omega, fun i hi => by omega, by omega⟩
structure RowsI (w : World) (B : Nat) (A : Option Addr) (RV : List Value) (G : Nat → List Int) : Prop where
 lies : ∀ i rv, RV[i]? = some rv → ∃ b o, A = some ⟨b, o, none⟩ ∧ b < B ∧ w.cell? ⟨b, o + i, none⟩ = some rv
 row : ∀ i rv, RV[i]? = some rv → RowIn w B rv (G i)
theorem RowsI.below {w w' : World} {B : Nat} {A : Option Addr} {RV : List Value} {G : Nat → List Int} (h : RowsI w B A RV G) (hb : Below B w w') : RowsI w' B A RV G :=
 ⟨fun i rv hi => by
  obtain ⟨b, o, h1, h2, h3⟩ := h.lies i rv hi
  exact ⟨b, o, h1, h2, (hb.cell (p := ⟨b, _, none⟩) h2).trans h3⟩, fun i rv hi => (h.row i rv hi).below hb⟩
theorem RowsI.at_ {w : World} {B : Nat} {A : Option Addr} {RV : List Value} {G : Nat → List Int} (h : RowsI w B A RV G) : Lies w A RV := fun j u hj => by
 obtain ⟨b, o, rfl, h2, h3⟩ := h.lies j u hj
 exact ⟨_, rfl, by rw [Go.WideShapes.add_plain]; exact h3⟩
theorem RowsI.one {w : World} {B : Nat} {A : Option Addr} {RV : List Value} {G : Nat → List Int} (h : RowsI w B A RV G) : ∀ u ∈ RV, u.oneCell' = true := fun u hu => by
 obtain ⟨i, hi⟩ := List.getElem?_of_mem hu
 obtain ⟨A', c, rfl, _⟩ := h.row i u hi
 rfl
theorem Nums.upto {w : World} {B B' : Nat} {A : Option Addr} {n : Nat} {X : Nat → Int} (h : Nums w B A n X) (hB : B ≤ B') : Nums w B' A n X :=
 ⟨fun i hi => by obtain ⟨b, o, h1, h2, h3⟩ := h.each i hi; exact ⟨b, o, h1, by omega, h3⟩, h.rx, h.len⟩
theorem RowsI.wide {w : World} {B B' : Nat} {A : Option Addr} {RV : List Value} {G : Nat → List Int} (h : RowsI w B A RV G) (hB : B ≤ B') : RowsI w B' A RV G :=
 ⟨fun i rv hi => by obtain ⟨b, o, h1, h2, h3⟩ := h.lies i rv hi; exact ⟨b, o, h1, by omega, h3⟩, fun i rv hi => by
  obtain ⟨A', c, h1, h2, h3⟩ := h.row i rv hi
  exact ⟨A', c, h1, h2, h3.upto hB⟩⟩
theorem below_le {B B' : Nat} {w w' : World} (h : Below B' w w') (hB : B ≤ B') : Below B w w' := ⟨h.os, h.tape, h.output, h.size, fun k hk => h.block k (by omega)⟩
def Tells (e : Ending) (p : Prop) : Prop := ∃ r, e = .returned (.bool r) ∧ (r = true ↔ p)
theorem Tells.yes {e : Ending} {p : Prop} (he : e = .returned (.bool true)) (hp : p) : Tells e p := ⟨true, he, ⟨fun _ => hp, fun _ => rfl⟩⟩
theorem Tells.no {e : Ending} {p : Prop} (he : e = .returned (.bool false)) (hp : ¬ p) : Tells e p := ⟨false, he, ⟨fun h => (by cases h), fun h => absurd h hp⟩⟩
theorem Tryd.infoInt : (Tryd.prog.info? 3).map (fun i => (i.zero, i.size, i.bytes)) = some (some (.int .i64 0), 1, 8) := by kernel_rfl
def vals (l : List Int) : List Value := l.map (.int .i64 ·)
theorem vals_length (l : List Int) : (vals l).length = l.length := by simp [vals]
def Small (l : List Int) : Prop := ∀ x ∈ l, -9223372036854775808 ≤ x ∧ x ≤ 9223372036854775807
structure Row (w : World) (v : Value) (l : List Int) : Prop where
 shape : ∃ A c, v = .slice A l.length c ∧ Nums w w.heap.size A l.length (fun i => l.getD i 0)
theorem Nums.wide {w : World} {B B' : Nat} {A : Option Addr} {n : Nat} {X : Nat → Int} (h : Nums w B A n X) (hB : B ≤ B') : Nums w B' A n X :=
 ⟨fun i hi => by obtain ⟨b, o, h1, h2, h3⟩ := h.each i hi; exact ⟨b, o, h1, by omega, h3⟩, h.rx, h.len⟩
theorem Row.below {w w' : World} {v : Value} {l : List Int} (h : Row w v l) (hb : Below w.heap.size w w') : Row w' v l := by
 obtain ⟨A, c, rfl, hn⟩ := h.shape
 exact ⟨⟨A, c, rfl, (hn.below hb).wide hb.size⟩⟩
theorem Row.drewN {w : World} {v : Value} {l : List Int} (h : Row w v l) (k : Nat) : Row (w.drewN k) v l := by
 obtain ⟨A, c, h1, h2⟩ := h.shape
 exact ⟨⟨A, c, h1, ⟨h2.each, h2.rx, h2.len⟩⟩⟩
theorem Row.low {w : World} {v : Value} {l : List Int} (h : Row w v l) : ∀ a n c, v = .slice (some a) n c → 0 < n → a.block < w.heap.size := by
 intro a n c he hn
 obtain ⟨A, c', rfl, hN⟩ := h.shape
 injection he with h1 h2
 subst h1 h2
 obtain ⟨b', o, hb', hlt, _⟩ := hN.each 0 hn
 injection hb' with hb'
 rw [hb']; exact hlt
theorem row_own {w : World} {B n : Nat} {v : Value} {l : List Int} (h : w.ownsRow B 3 1 v n (vals l)) (hs : Small l) : Row w v l := by
 have hl : n = l.length := by have := h.1; simpa [vals_length] using this.symm
 subst hl
 rcases own_shape h with ⟨rfl, h0, h1⟩ | ⟨g, cap, rfl, hc, hm, hb, hlt⟩
 ·refine ⟨⟨none, 0, by rw [h0], ⟨fun i hi => by omega, fun i hi => by omega, by omega⟩⟩⟩
 ·refine ⟨⟨some ⟨g, 0, none⟩, cap, rfl, ⟨fun i hi => ⟨g, 0, rfl, hlt, ?_⟩, fun i hi => ?_, ?_⟩⟩⟩
  ·have := h.cells (g := g) rfl i (.int .i64 (l.getD i 0)) (by simp [vals, hi, List.getD])
   rw [Addr.add_mid] at this
   exact this
  ·have : l.getD i 0 ∈ l := by simp [List.getD, hi]
   exact hs _ this
  ·have := maxLen_le hm; omega
theorem row_new (w : World) (l : List Int) (hs : Small l) (hl : l.length ≤ 1000) : Row (w.alloc (.cells (vals l).toArray 3)) (.slice (some ⟨w.heap.size, 0, none⟩) l.length l.length) l := by
 refine ⟨⟨_, _, rfl, ⟨fun i hi => ⟨w.heap.size, 0, rfl, by simp, ?_⟩, fun i hi => ?_, by omega⟩⟩⟩
 ·rw [(At.new w _ _).cell, Nat.zero_add]; simp [vals, hi, List.getD]
 ·have : l.getD i 0 ∈ l := by simp [List.getD, hi]
  exact hs _ this
def SameTo (X Y : Nat → Int) (k : Nat) : Prop := ∀ i, i < k → X i = Y i
def SameL (n n' : Nat) (X Y : Nat → Int) : Prop := n = n' ∧ SameTo X Y n
set_option maxHeartbeats 4000000 in
theorem ints_any (A : Option Addr) (n c : Nat) (X : Nat → Int) (A' : Option Addr) (n' c' : Nat) (Y : Nat → Int) (B B' : Nat) (w : World) (O : Nums w B A n X) (O' : Nums w B' A' n' Y) :
  Calls Tryd.prog 14 #[.slice A n c, .slice A' n' c'] w fun e w' => Tells e (SameL n n' X Y) ∧ ∃ k, w' = w.drewN k := by
 have HO := Lib.hid O
 have HO' := Lib.hid O'
 have hl := O.len
 have hl' := O'.len
 clear O O'
 go_enter Tryd.func14, Tryd.ntmps14
 by_cases hn : n = n'
 ·subst hn
  go_wp2_with fail
  go_loopw [5] (fun i wr => ∃ k : Nat, k ≤ n ∧ i = .int .i64 (k : Int) ∧ SameTo X Y k ∧ ∃ m, wr = w.drewN m) (fun i _ => n - (intOf i).toNat)
  case atStart => exact ⟨0, by omega, rfl, fun i hi => by omega, 0, rfl⟩
  case round =>
   obtain ⟨k, hk, rfl, hsame, m, rfl⟩ := hrel
   have HS := Lib.hid hsame
   clear hsame
   by_cases hlt : k < n
   ·obtain ⟨b, o, rfl, _, c0⟩ := HO.out.each k hlt
    obtain ⟨b', o', rfl, _, c1⟩ := HO'.out.each k hlt
    have hltI : (k : Int) < (n : Int) := by omega
    have h0I : (0 : Int) ≤ (k : Int) := by omega
    have hkI : ((k : Int)).toNat = k := by omega
    cases hb : (X k != Y k)
    ·go_wp2_with fail
     go_quiet (fail)
     go_wp2_with fail
     go_roundw
     case rel =>
      refine ⟨k + 1, by omega, by go_num, fun i hi => ?_, _, rfl⟩
      by_cases he : i = k
      ·subst he; simpa using hb
      ·exact HS.out i (by omega)
     case measure => simp [intOf]; omega
    ·go_wp2_with fail
     go_quiet (fail)
     go_wp2_with fail
     go_ret
     refine ⟨Tells.no rfl (fun h => ?_), _, World.drewN_drewN ..⟩
     have := h.2 k hlt
     rw [this] at hb; simp at hb
   ·obtain rfl : n = k := by omega
    go_wp2_with fail
    go_ret
    exact ⟨Tells.yes rfl ⟨rfl, HS.out⟩, _, rfl⟩
 ·have hnI : ((n : Int) != (n' : Int)) = true := by simp; omega
  go_wp2_with fail
  go_ret
  exact ⟨Tells.no rfl (fun h => hn h.1), 0, rfl⟩
theorem Tells.iff {e : Ending} {p q : Prop} (h : Tells e p) (hi : p ↔ q) : Tells e q := by obtain ⟨r, h1, h2⟩ := h; exact ⟨r, h1, h2.trans hi⟩
theorem list_ext_getD {l l' : List Int} (hl : l.length = l'.length) (h : SameTo (fun i => l.getD i 0) (fun i => l'.getD i 0) l.length) : l = l' := by
 apply List.ext_getElem hl
 intro i h1 h2
 have := h i h1
 simpa [List.getD, h1, h2] using this
theorem ints_row (v v' : Value) (l l' : List Int) (w : World) (h : Row w v l) (h' : Row w v' l') :
  Calls Tryd.prog 14 #[v, v'] w fun e w' => Tells e (l = l') ∧ ∃ k, w' = w.drewN k := by
 obtain ⟨A, c, rfl, hn⟩ := h.shape
 obtain ⟨A', c', rfl, hn'⟩ := h'.shape
 refine (ints_any _ _ _ _ _ _ _ _ _ _ w hn hn').mono fun e w' hh => ⟨hh.1.iff ?_, hh.2⟩
 constructor
 ·rintro ⟨h1, h2⟩; exact list_ext_getD h1 h2
 ·rintro rfl; exact ⟨rfl, fun i _ => rfl⟩
theorem nums_drewN {w : World} {B : Nat} {A : Option Addr} {n : Nat} {X : Nat → Int} (h : Nums w B A n X) (k : Nat) : Nums (w.drewN k) B A n X := ⟨h.each, h.rx, h.len⟩
def fnL (LL : List (List Int)) : Nat → List Int := fun i => LL.getD i []
structure RowsL (w : World) (v : Value) (LL : List (List Int)) : Prop where
 ex : ∃ A c RV, v = .slice A LL.length c ∧ RV.length = LL.length ∧ RowsI w w.heap.size A RV (fnL LL)
 len : LL.length ≤ 9223372036854775807
theorem RowsL.below {w w' : World} {v : Value} {LL : List (List Int)} (h : RowsL w v LL) (hb : Below w.heap.size w w') : RowsL w' v LL := by
 obtain ⟨A, c, RV, h1, h2, h3⟩ := h.ex
 exact ⟨⟨A, c, RV, h1, h2, (h3.below hb).wide hb.size⟩, h.len⟩
theorem RowsL.drewN {w : World} {v : Value} {LL : List (List Int)} (h : RowsL w v LL) (k : Nat) : RowsL (w.drewN k) v LL := h.below (below_drewN (Below.refl _ _) k)
theorem RowsL.nil (w : World) (c : Nat) : RowsL w (.slice none 0 c) [] := ⟨⟨none, c, [], rfl, rfl, (fun i rv h => by simp at h), (fun i rv h => by simp at h)⟩, by simp⟩
theorem RowIn.row {w : World} {B : Nat} {v : Value} {l : List Int} (h : RowIn w B v l) (hB : B ≤ w.heap.size) : Row w v l := by
 obtain ⟨A, c, h1, h2, h3⟩ := h
 exact ⟨⟨A, c, h1, h3.upto hB⟩⟩
theorem RowsL.cell {w : World} {v : Value} {LL : List (List Int)} (h : RowsL w v LL) {i : Nat} {l : List Int} (hi : LL[i]? = some l) :
  ∃ b o c A' c', v = .slice (some ⟨b, o, none⟩) LL.length c ∧ w.cell? ⟨b, o + i, none⟩ = some (.slice A' l.length c') ∧ RowIn w w.heap.size (.slice A' l.length c') l := by
 obtain ⟨A, c, RV, rfl, h2, h3⟩ := h.ex
 have hlt := (List.getElem?_eq_some_iff.1 hi).1
 have hrv : RV[i]? = some RV[i] := List.getElem?_eq_getElem (by omega)
 obtain ⟨b, o, rfl, _, hc⟩ := h3.lies i _ hrv
 have hr := h3.row i _ hrv
 have hl : fnL LL i = l := by unfold fnL; rw [List.getD, hi]; rfl
 rw [hl] at hr
 obtain ⟨A', c', e1, e2, e3⟩ := hr
 rw [e1] at hc
 exact ⟨b, o, c, A', c', rfl, hc, A', c', rfl, e2, e3⟩
theorem RowsL.shape {w : World} {v : Value} {LL : List (List Int)} (h : RowsL w v LL) : ∃ A c, v = .slice A LL.length c := by
 obtain ⟨A, c, RV, h1, _⟩ := h.ex
 exact ⟨A, c, h1⟩
theorem RowIn.own {w : World} {B n : Nat} {v : Value} {l : List Int} (h : w.ownsRow B 3 1 v n (vals l)) (hs : Small l) : RowIn w w.heap.size v l := by
 have hl : n = l.length := by have := h.1; simpa [vals_length] using this.symm
 subst hl
 obtain ⟨A, c, h1, h2⟩ := (row_own h hs).shape
 obtain ⟨A', c', h3, h4⟩ := own_slice h
 rw [h1] at h3
 simp only [Value.slice.injEq, true_and] at h3
 obtain ⟨rfl, rfl⟩ := h3
 exact ⟨A, c, h1, h4, h2⟩
theorem RowsL.own {w : World} {B : Nat} {v : Value} {PV : List Value} {LL : List (List Int)} (h : w.ownsRow B 25 1 v PV.length PV) (hl : PV.length = LL.length) (he : ∀ (i : Nat) (l : List Int) (u : Value), LL[i]? = some l → PV[i]? = some u → RowIn w w.heap.size u l) : RowsL w v LL := by
 have hcase := own_shape h
 rcases hcase with ⟨rfl, h0, h1⟩ | ⟨g, cap, rfl, hc, hm, hb, hlt⟩
 ·have : LL = [] := List.eq_nil_of_length_eq_zero (by omega)
  subst this
  exact RowsL.nil w 0
 ·refine ⟨⟨_, cap, PV, by rw [← hl], hl, fun i rv hi => ⟨g, 0, rfl, hlt, ?_⟩, fun i rv hi => ?_⟩, ?_⟩
  ·have hlt' := (List.getElem?_eq_some_iff.1 hi).1
   rw [Nat.zero_add, h.cellAt i (by omega)]; exact hi
  ·have hlt' := (List.getElem?_eq_some_iff.1 hi).1
   have h2 : LL[i]? = some (fnL LL i) := by
    unfold fnL
    rw [List.getD, List.getElem?_eq_getElem (by omega)]; rfl
   exact he i _ rv h2 hi
  ·have := maxLen_le (Nat.le_trans hc hm); omega
section
variable {H : Type} {enc : TypeId × Value → H} {P : Program} {W : World} {base : Nat} {v : Value} {d : DataW H} {p : List MemPlace}
theorem open_rowsl {t e q : TypeId} (ht : P.underlying t = some (.slice e)) (he : P.underlying e = some (.slice q)) (hq : P.underlying q = some (.int .i64)) (ce : P.cellsOf e = 1) (cq : P.cellsOf q = 1)
  (hv : Value.okWide P W .any base t v) (h : DataW.Trod enc P W 0 (fun _ => true) true t v d p) : ∃ LL, RowsL W v LL := by
 obtain ⟨A, n, c, rfl⟩ := okWide_slice ht hv
 obtain ⟨fuel, hf⟩ := h
 rcases Go.Deep.open_int_rows ht he hq ce cq hf with ⟨hcs, _⟩ | ⟨a, len, cap, A', L, C, Z, hcs, hb, hl, hm, _, hx⟩
 ·simp [Value.cells] at hcs
  obtain ⟨rfl, rfl, rfl⟩ := hcs
  exact ⟨[], RowsL.nil W 0⟩
 ·simp [Value.cells] at hcs
  obtain ⟨rfl, rfl, rfl⟩ := hcs
  let LL : List (List Int) := (List.range n).map fun r => (Z r).take (L r)
  have hLL : ∀ i, i < n → fnL LL i = (Z i).take (L i) := fun i hi => by simp [fnL, LL, List.getD, hi]
  have hlen : LL.length = n := by simp [LL]
  refine ⟨LL, ⟨some a, c, (List.range n).map fun r => .slice (A' r) (L r) (C r), by rw [hlen], by simp [LL], fun i rv hi => ?_, fun i rv hi => ?_⟩, by have := maxLen_le (Nat.le_trans hl hm); omega⟩
  ·have hlt : i < n := by have := (List.getElem?_eq_some_iff.1 hi).1; simpa using this
   simp [hlt] at hi
   subst hi
   obtain ⟨h1, _⟩ := hx i (by omega)
   obtain ⟨g00, _⟩ := hx 0 (by omega)
   obtain ⟨ab, ao, rfl, hlt2⟩ := at_zero (a := a) (by simpa [Addr.add] using g00)
   rw [Go.WideShapes.add_plain] at h1
   exact ⟨ab, ao, rfl, hlt2, h1⟩
  ·have hlt : i < n := by have := (List.getElem?_eq_some_iff.1 hi).1; simpa using this
   simp [hlt] at hi
   subst hi
   rw [hLL i hlt]
   obtain ⟨_, h2, h3, h4, h5, h6, h7⟩ := hx i (by omega)
   have hzl : ((Z i).take (L i)).length = L i := by rw [List.length_take]; omega
   refine ⟨A' i, C i, by rw [hzl], by rw [hzl]; exact h2, ?_⟩
   rw [hzl]
   have hget : ∀ j, j < L i → ((Z i).take (L i)).getD j 0 = (Z i).getD j 0 := fun j hj => by
    simp [List.getD, List.getElem?_take, hj]
   refine ⟨fun j hj => ?_, fun j hj => ?_, maxLen_le (Nat.le_trans h2 h3)⟩
   ·rw [hget j hj]
    cases hA : A' i with
    | none => have := h6 hA; omega
    | some a' =>
     obtain ⟨_, h8⟩ := h7 a' hA
     have g00 := h8 0 (by omega)
     have g := h8 j (by omega)
     obtain ⟨ab, ao, rfl, hlt2⟩ := at_zero (a := a') (by simpa [Addr.add] using g00)
     rw [Go.WideShapes.add_plain] at g
     exact ⟨ab, ao, rfl, hlt2, g⟩
   ·rw [hget j hj]
    have hj' : j < (Z i).length := by omega
    have hmem : (Z i).getD j 0 ∈ Z i := by
     rw [List.getD, List.getElem?_eq_getElem hj']; exact List.getElem_mem hj'
    simpa [Lit.wf, IntKind.min, IntKind.max, IntKind.signed, IntKind.bits] using h5 _ hmem
end
theorem ints_says (v v' : Value) (l l' : List Int) (w : World) (h : Row w v l) (h' : Row w v' l') :
  Calls Tryd.prog 14 #[v, v'] w fun e w' => e = .returned (.bool (decide (l = l'))) ∧ ∃ k, w' = w.drewN k :=
 (ints_row v v' l l' w h h').mono fun e w' ⟨⟨r, he, hr⟩, hk⟩ => ⟨by rw [he, show r = decide (l = l') by rw [Bool.eq_iff_iff, hr, decide_eq_true_eq]], hk⟩
set_option maxHeartbeats 1000000 in
theorem lists_any (v v' : Value) (L L' : List (List Int)) (w : World) (h : RowsL w v L) (h' : RowsL w v' L') :
  Calls Tryd.prog 15 #[v, v'] w fun e w' => e = .returned (.bool (decide (L = L'))) ∧ ∃ k, w' = w.drewN k := by
 have KL := Lib.hid h
 have KL' := Lib.hid h'
 have hll := h.len
 have hll' := h'.len
 obtain ⟨A, c, rfl⟩ := h.shape
 obtain ⟨A', c', rfl⟩ := h'.shape
 clear h h'
 go_enter Tryd.func15, Tryd.ntmps15
 by_cases hn : L.length = L'.length
 ·have hnI : ((L.length : Int) != (L'.length : Int)) = false := by simp [hn]
  have Kn := Lib.hid hn
  clear hn
  go_wp2_with fail
  go_loopg [5] L.length (fun q t5 wr => ∃ k : Nat, t5 = .int .i64 (k : Int) ∧ k ≤ L.length ∧ q = L.length - k ∧ (∀ i, i < k → L[i]? = L'[i]?) ∧ ∃ m, wr = w.drewN m)
  case atStart => exact ⟨0, rfl, by omega, by omega, (fun i hi => absurd hi (by omega)), 0, rfl⟩
  case round =>
   obtain ⟨k, rfl, hk, hq, hsame, m, hwr⟩ := hrel
   have hLr : RowsL wr (.slice A L.length c) L := by rw [hwr]; exact KL.out.drewN m
   have hLr' : RowsL wr (.slice A' L'.length c') L' := by rw [hwr]; exact KL'.out.drewN m
   have KLr := Lib.hid hLr
   have KLr' := Lib.hid hLr'
   have Kwr := Lib.hid hwr
   clear hLr hLr' hwr
   have KS := Lib.hid hsame
   have Kq := Lib.hid hq
   clear hsame hq
   by_cases hlt : k < L.length
   ·have hlt' : k < L'.length := by have := Kn.out; omega
    obtain ⟨l, hl⟩ : ∃ l, L[k]? = some l := ⟨_, List.getElem?_eq_getElem hlt⟩
    obtain ⟨l', hl'⟩ : ∃ l', L'[k]? = some l' := ⟨_, List.getElem?_eq_getElem hlt'⟩
    obtain ⟨b, o, c1, A1, c2, he, hc, hrow⟩ := KLr.out.cell hl
    obtain ⟨b', o', c1', A1', c2', he', hc', hrow'⟩ := KLr'.out.cell hl'
    simp only [Value.slice.injEq, true_and] at he he'
    obtain ⟨rfl, rfl⟩ := he
    obtain ⟨rfl, rfl⟩ := he'
    have q1 : (0 : Int) ≤ (k : Int) := by omega
    have q2 : (k : Int) < (L.length : Int) := by omega
    have q2' : (k : Int) < (L'.length : Int) := by omega
    have q3 : ((k : Int)).toNat = k := by omega
    have hcall := fun j => ints_says _ _ l l' (wr.drewN j) ((hrow.drewN j).row (Nat.le_refl _)) ((hrow'.drewN j).row (Nat.le_refl _))
    have Kl := Lib.hid hl
    have Kl' := Lib.hid hl'
    by_cases heq : l = l'
    ·rw [decide_eq_true heq] at hcall
     have Kcall := Lib.hid hcall
     have Keq := Lib.hid heq
     clear hcall hl hl' hrow hrow' heq
     go_wp2_with fail
     go_quiet (exact Calls.quiet_of (Kcall.out _))
     go_wp2_with fail
     go_roundg (L.length - (k + 1))
     case measure => have := Kq.out; omega
     case rel =>
      refine ⟨k + 1, by go_num, by omega, rfl, fun i hi => ?_, _, by rw [Kwr.out]; exact World.drewN_drewN ..⟩
      by_cases he : i = k
      ·subst he; rw [Kl.out, Kl'.out, Keq.out]
      ·exact KS.out i (by omega)
    ·rw [decide_eq_false heq] at hcall
     have Kcall := Lib.hid hcall
     have Keq := Lib.hid heq
     clear hcall hl hl' hrow hrow' heq
     go_wp2_with fail
     go_quiet (exact Calls.quiet_of (Kcall.out _))
     go_wp2_with fail
     go_ret
     refine ⟨?_, _, by rw [Kwr.out]; exact World.drewN_drewN ..⟩
     have hne : ¬ L = L' := by
      intro e
      have h1 := Kl.out
      rw [e, Kl'.out] at h1
      injection h1 with h1
      exact Keq.out h1.symm
     rw [decide_eq_false hne]
     try rfl
   ·obtain rfl : k = L.length := by omega
    go_wp2_with fail
    go_ret
    refine ⟨?_, m, Kwr.out⟩
    have heq : L = L' := by
     apply List.ext_getElem?
     intro i
     by_cases hi : i < L.length
     ·exact KS.out i hi
     ·rw [List.getElem?_eq_none (by omega), List.getElem?_eq_none (by have := Kn.out; omega)]
    rw [decide_eq_true heq]
    try rfl
 ·have hnI : ((L.length : Int) != (L'.length : Int)) = true := by simp; omega
  have Kn := Lib.hid hn
  clear hn
  go_wp2_with fail
  go_ret
  refine ⟨?_, 0, rfl⟩
  rw [decide_eq_false (fun e => Kn.out (by rw [e]))]
  try rfl
theorem RowIn.small {w : World} {B : Nat} {v : Value} {l : List Int} (h : RowIn w B v l) : Small l := by
 obtain ⟨_, _, _, _, hn⟩ := h
 intro x hx
 obtain ⟨i, hi⟩ := List.getElem?_of_mem hx
 have hlt := (List.getElem?_eq_some_iff.1 hi).1
 have := hn.rx i hlt
 rwa [show l.getD i 0 = x by rw [List.getD, hi]; rfl] at this
theorem vals_snoc (l : List Int) (x : Int) : vals (l ++ [x]) = vals l ++ [.int .i64 x] := by simp [vals]
theorem vals_append (l m : List Int) : vals (l ++ m) = vals l ++ vals m := by simp [vals]
theorem vals_one (l : List Int) : ∀ u ∈ vals l, u.oneCell' = true := by
 intro u hu
 simp only [vals, List.mem_map] at hu
 obtain ⟨x, _, rfl⟩ := hu
 rfl
theorem vals_get {l : List Int} {i : Nat} {x : Int} (h : l[i]? = some x) : (vals l)[i]? = some (.int .i64 x) := by simp [vals, h]
theorem vals_set (l : List Int) (i : Nat) (x : Int) : (vals l).set i (.int .i64 x) = vals (l.set i x) := by unfold vals; rw [List.map_set]
theorem Small.nil : Small [] := fun x h => by cases h
theorem Small.append {l m : List Int} (h : Small l) (k : Small m) : Small (l ++ m) := fun x hx => by
 rcases List.mem_append.1 hx with h1 | h1
 ·exact h x h1
 ·exact k x h1
theorem Small.one {x : Int} (h : -9223372036854775808 ≤ x ∧ x ≤ 9223372036854775807) : Small [x] := fun y hy => by simp at hy; subst hy; exact h
end Go.Proofs.YtjcijffhcmbhnaaDoor
