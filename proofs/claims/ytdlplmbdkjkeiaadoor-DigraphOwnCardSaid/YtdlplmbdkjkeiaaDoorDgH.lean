import Derived.Test.YtdlplmbdkjkeiaaDoorDgG
import Derived.Test.YtdlplmbdkjkeiaaDoorSetU
namespace Go.Proofs.YtdlplmbdkjkeiaaDoor
set_option maxRecDepth 100000
open Go.RowKit
open BitKit
set_option linter.unusedVariables false
set_option linter.unusedSimpArgs false
namespace Dg
def Up (G : Nat → List Int) (n : Nat) (Bs : Nat → Nat → Bool) (v y : Nat) : Prop := ∃ j, R G n v j ∧ Bs j y = true
section
variable {G : Nat → List Int} {n : Nat} {Bs : Nat → Nat → Bool} {ps A C : List (List Nat)} {P : List Nat} {S S' T : Nat → Bool}
def Snd (G : Nat → List Int) (n : Nat) (Bs : Nat → Nat → Bool) (P : List Nat) (S : Nat → Bool) : Prop := ∀ x ∈ P, ∀ y, S y = true → Up G n Bs x y
def Cmp (G : Nat → List Int) (n : Nat) (Bs : Nat → Nat → Bool) (A : List (List Nat)) (Q : List Nat) (S : Nat → Bool) : Prop :=
 (∀ x ∈ Q, ∀ y, Bs x y = true → S y = true) ∧ ∀ x ∈ Q, ∀ t, E G n x t → t ∈ A.flatten → ∀ y, Up G n Bs t y → S y = true
def CmpTo (G : Nat → List Int) (n : Nat) (Bs : Nat → Nat → Bool) (A : List (List Nat)) (l : List Int) (S : Nat → Bool) : Prop :=
 ∀ t : Nat, (t : Int) ∈ l → t < n → t ∈ A.flatten → ∀ y, Up G n Bs t y → S y = true
def Sub (S S' : Nat → Bool) : Prop := ∀ y, S y = true → S' y = true
theorem Cmp.sub {Q : List Nat} (h : Cmp G n Bs A Q S) (hs : Sub S S') : Cmp G n Bs A Q S' := ⟨fun x hx y hy => hs y (h.1 x hx y hy), fun x hx t ht hA y hy => hs y (h.2 x hx t ht hA y hy)⟩
theorem CmpTo.sub {l : List Int} (h : CmpTo G n Bs A l S) (hs : Sub S S') : CmpTo G n Bs A l S' := fun t ht hn hA y hy => hs y (h t ht hn hA y hy)
theorem Cmp.nil : Cmp G n Bs A [] S := ⟨(fun x hx => by cases hx), (fun x hx => by cases hx)⟩
theorem CmpTo.nil : CmpTo G n Bs A [] S := fun t ht => by cases ht
theorem Cmp.snoc {Q : List Nat} {p : Nat} (h : Cmp G n Bs A Q S) (h1 : ∀ y, Bs p y = true → S y = true) (h2 : CmpTo G n Bs A (G p) S) : Cmp G n Bs A (Q ++ [p]) S := by
 refine ⟨fun x hx y hy => ?_, fun x hx t ht hA y hy => ?_⟩
 ·simp only [List.mem_append, List.mem_cons, List.not_mem_nil, or_false] at hx
  rcases hx with hx | rfl
  ·exact h.1 x hx y hy
  ·exact h1 y hy
 ·simp only [List.mem_append, List.mem_cons, List.not_mem_nil, or_false] at hx
  rcases hx with hx | rfl
  ·exact h.2 x hx t ht hA y hy
  ·exact h2 t ht.2 ht.1 hA y hy
theorem snd_base (hp : Parted G n ps) (hP : P ∈ ps) {p : Nat} (hpP : p ∈ P) (h : Snd G n Bs P S) (hu : ∀ y, S' y = true → S y = true ∨ Bs p y = true) : Snd G n Bs P S' := by
 intro x hx y hy
 rcases hu y hy with h1 | h1
 ·exact h x hx y h1
 ·exact ⟨p, (hp.one P hP).2 x hx p hpP, h1⟩
theorem snd_up (hp : Parted G n ps) (hP : P ∈ ps) {p t : Nat} (hpP : p ∈ P) (ht : E G n p t) (h : Snd G n Bs P S) (hu : ∀ y, S' y = true → S y = true ∨ Up G n Bs t y) : Snd G n Bs P S' := by
 intro x hx y hy
 rcases hu y hy with h1 | ⟨j, h1, h2⟩
 ·exact h x hx y h1
 ·exact ⟨j, ((hp.one P hP).2 x hx p hpP).trans (.step ht h1), h2⟩
theorem up_part (hp : Parted G n ps) (hps : ps = A ++ P :: C) (h1 : Snd G n Bs P S) (h2 : Cmp G n Bs A P S) : ∀ x ∈ P, ∀ y, S y = true ↔ Up G n Bs x y := by
 intro x hx y
 refine ⟨h1 x hx y, fun ⟨j, hr, hb⟩ => ?_⟩
 induction hr with
 | refl v => exact h2.1 v hx y hb
 | @step v u t e hr ih =>
  have hu := hp.behind A P C hps v hx u e
  rw [List.flatten_append] at hu
  rcases List.mem_append.1 hu with h3 | h3
  ·exact h2.2 v hx u e h3 y ⟨t, hr, hb⟩
  ·exact ih (by simpa using h3) ⟨t, hr, hb⟩ hb
end
end Dg
theorem Nums.upto {w : World} {B B' : Nat} {A : Option Addr} {n : Nat} {X : Nat → Int} (h : Nums w B A n X) (hB : B ≤ B') : Nums w B' A n X :=
 ⟨fun i hi => by obtain ⟨b, o, h1, h2, h3⟩ := h.each i hi; exact ⟨b, o, h1, by omega, h3⟩, h.rx, h.len⟩
theorem Rows.wide {w : World} {B B' : Nat} {A : Option Addr} {RV : List Value} {G : Nat → List Int} (h : Rows w B A RV G) (hB : B ≤ B') : Rows w B' A RV G :=
 ⟨fun i rv hi => by obtain ⟨b, o, h1, h2, h3⟩ := h.lies i rv hi; exact ⟨b, o, h1, by omega, h3⟩, fun i rv hi => by
  obtain ⟨A', c, h1, h2, h3⟩ := h.row i rv hi
  exact ⟨A', c, h1, h2, h3.upto hB⟩⟩
theorem below_le {B B' : Nat} {w w' : World} (h : Below B' w w') (hB : B ≤ B') : Below B w w' := ⟨h.os, h.tape, h.output, h.size, fun k hk => h.block k (by omega)⟩
theorem uni_is {n : Nat} {S T : Nat → Bool} (hT : ∀ i, T i = true → i < n) (i : Nat) : uni n S T i = (S i || T i) := by
 unfold uni
 cases h : T i
 ·simp
 ·simp [hT i h]
structure Base (w : World) (B : Nat) (A : Option Addr) (n : Nat) (Bl Wd : Nat → Nat) (Bs : Nat → Nat → Bool) : Prop where
 cell : ∀ i, i < n → ∃ b o, A = some ⟨b, o, none⟩ ∧ b < B ∧ w.cell? ⟨b, o + i, none⟩ = some (.pointer (some ⟨Bl i, 0, none⟩))
 set : ∀ i, i < n → Bl i < B ∧ IsSet w (Bl i) (Wd i) (Bs i)
theorem IsSet.below {w w' : World} {b n B : Nat} {S : Nat → Bool} (h : IsSet w b n S) (hb : Below B w w') (hlt : b < B) : IsSet w' b n S := ⟨h.at_.below hb hlt, h.le, h.fit⟩
theorem Base.below {w w' : World} {B : Nat} {A : Option Addr} {n : Nat} {Bl Wd : Nat → Nat} {Bs : Nat → Nat → Bool} (h : Base w B A n Bl Wd Bs) (hb : Below B w w') : Base w' B A n Bl Wd Bs :=
 ⟨fun i hi => by
  obtain ⟨b, o, h1, h2, h3⟩ := h.cell i hi
  exact ⟨b, o, h1, h2, (hb.cell (p := ⟨b, _, none⟩) h2).trans h3⟩, fun i hi => ⟨(h.set i hi).1, (h.set i hi).2.below hb (h.set i hi).1⟩⟩
structure Sm (w : World) (B hi n : Nat) (lv : Value) (LV : List Value) (D : Nat → Prop) (Q : Nat → Nat → Prop) : Prop where
 row : w.ownsRow B 37 1 lv n LV
 each : ∀ x, D x → ∃ b S, LV[x]? = some (.pointer (some ⟨b, 0, none⟩)) ∧ B ≤ b ∧ b < hi ∧ IsSet w b 1000 S ∧ ∀ y, S y = true ↔ Q x y
section
variable {w w' : World} {B hi n : Nat} {lv : Value} {LV : List Value} {D : Nat → Prop} {Q : Nat → Nat → Prop}
theorem Sm.mono {hi' : Nat} {D' : Nat → Prop} (h : Sm w B hi n lv LV D Q) (hh : hi ≤ hi') (hD : ∀ x, D' x → D x) : Sm w B hi' n lv LV D' Q :=
 ⟨h.row, fun x hx => by
  obtain ⟨b, S, h1, h2, h3, h4, h5⟩ := h.each x (hD x hx)
  exact ⟨b, S, h1, h2, by omega, h4, h5⟩⟩
theorem Sm.lt (h : Sm w B hi n lv LV D Q) : Sm w B w.heap.size n lv LV D Q :=
 ⟨h.row, fun x hx => by
  obtain ⟨b, S, h1, h2, h3, h4, h5⟩ := h.each x hx
  exact ⟨b, S, h1, h2, h4.at_.lt, h4, h5⟩⟩
theorem Sm.alloc (h : Sm w B hi n lv LV D Q) (o : Obj) : Sm (w.alloc o) B hi n lv LV D Q :=
 ⟨h.row.alloc o, fun x hx => by
  obtain ⟨b, S, h1, h2, h3, h4, h5⟩ := h.each x hx
  exact ⟨b, S, h1, h2, h3, h4.alloc o, h5⟩⟩
theorem Sm.turn {sb : Nat} {cs : Array Value} (h : Sm w B hi n lv LV D Q) (hs : At w sb 64 cs) (hle : hi ≤ sb) (hg : w.grownBy w' (some sb)) : Sm w' B hi n lv LV D Q :=
 ⟨h.row.kept hg (by
  cases hv : lv.ownBlock with
  | none => exact .inl rfl
  | some k => exact .inr (fun e => own_apart h.row hs (by decide) (hv.trans e))), fun x hx => by
  obtain ⟨b, S, h1, h2, h3, h4, h5⟩ := h.each x hx
  exact ⟨b, S, h1, h2, h3, h4.grown hg (fun e => by injection e with e; omega), h5⟩⟩
theorem IsSet.far {b m g i : Nat} {S : Nat → Bool} {cs : Array Value} {t : TypeId} (h : IsSet w b m S) (ha : At w g t cs) (hne : t ≠ 64) (u : Value) : IsSet (w.setCell ⟨g, i, none⟩ u) b m S :=
 ⟨h.at_.far (p := ⟨g, i, none⟩) (fun e => by
  have : b = g := e
  subst this
  exact hne (At.type h.at_ ha)) u, h.le, h.fit⟩
theorem Sm.put {L c : Nat} (h : Sm w B hi n (.slice (some ⟨L, 0, none⟩) n c) LV D Q) (x : Nat) (u : Value) (hx : ¬ D x) : Sm (w.setCell ⟨L, x, none⟩ u) B hi n (.slice (some ⟨L, 0, none⟩) n c) (LV.set x u) D Q := by
 obtain ⟨cs, hcs⟩ := own_at h.row
 refine ⟨(h.row.stored x u).1, fun z hz => ?_⟩
 obtain ⟨b, S, h1, h2, h3, h4, h5⟩ := h.each z hz
 refine ⟨b, S, ?_, h2, h3, h4.far hcs (by decide) u, h5⟩
 rw [List.getElem?_set, if_neg (fun (e : x = z) => hx (e ▸ hz))]; exact h1
end
def tsS : List TypeId := [37, 64]
theorem PartsAt.spares {w w' : World} {B : Nat} {v : Value} {PV : List Value} {ps : List (List Nat)} (h : PartsAt w B v PV ps) (hs : Spares tsS w w') : PartsAt w' B v PV ps :=
 ⟨own_spares h.own hs (by decide), h.plen, fun i P v h1 h2 => own_spares (h.each i P v h1 h2) hs (by decide), h.apart⟩
theorem Spares.turn {ts : List TypeId} {a w w' : World} {g : Nat} {t : TypeId} {cs : Array Value} (h : Spares ts a w) (ha : At w g t cs) (ht : t ∈ ts) (hg : w.grownBy w' (some g)) : Spares ts a w' :=
 h.trans ⟨hg.size, fun k cs' t' ht' hk => by
  rw [hg.block k (Array.getElem?_eq_some_iff.1 hk).1 (fun e => by
   injection e with e
   subst e
   exact ht' ((At.type ha hk) ▸ ht))]
  exact hk⟩
theorem gown_any (b : Nat) (w : World) : Calls Tryd.prog 38 #[.pointer (some ⟨b, 0, none⟩)] w fun e w' => e = .returned (.pointer (some ⟨b, 0, none⟩)) ∧ w' = w := by
 go_enter Tryd.func38, Tryd.ntmps38
 go_wp2_with fail
 go_ret
 exact ⟨rfl, rfl⟩
end Go.Proofs.YtdlplmbdkjkeiaaDoor
