/-
  A reading in memory; the walks of its here, next, take, word.
-/
import Derived.Test.YtgmihbfikggkjaaDoorLwA
import Derived.Test.YtgmihbfikggkjaaDoorRdM
import Derived.Maps.OwnSet
namespace Go.Proofs.YtgmihbfikggkjaaDoor
open Go.RowKit
open Lx
set_option linter.unusedVariables false
set_option linter.unusedSimpArgs false
set_option maxRecDepth 100000

/-! ## Frames -/

/-- Blocks of the types ts, and those of S, may turn; all others stay. -/
structure Fix (ts : List TypeId) (S : List Nat) (w w' : World) : Prop where
  size : w.heap.size ≤ w'.heap.size
  block : ∀ (k : Nat) (o : Obj), w.heap[k]? = some o → k ∉ S → (∀ cs t, o = .cells cs t (0, 0) → t ∉ ts) → w'.heap[k]? = some o
section
variable {ts ts' : List TypeId} {S S' : List Nat} {a w w' : World}
theorem Fix.refl (ts : List TypeId) (S : List Nat) (w : World) : Fix ts S w w := ⟨Nat.le_refl _, fun _ _ h _ _ => h⟩
theorem Fix.trans (h : Fix ts S a w) (k : Fix ts S w w') : Fix ts S a w' := ⟨Nat.le_trans h.size k.size, fun i o hi hS ht => k.block i o (h.block i o hi hS ht) hS ht⟩
theorem Fix.mono (h : Fix ts S a w) (ht : ∀ t ∈ ts, t ∈ ts') (hS : ∀ k ∈ S, k ∈ S') : Fix ts' S' a w := ⟨h.size, fun i o hi hn hc => h.block i o hi (fun hm => hn (hS i hm)) (fun cs t e hm => hc cs t e (ht t hm))⟩
theorem Fix.of_grown {row : Option Nat} (hg : w.grownBy w' row) (hr : ∀ k, row = some k → k ∈ S ∨ ∃ cs t, At w k t cs ∧ t ∈ ts) : Fix ts S w w' :=
  ⟨hg.size, fun i o hi hS ht => by
    rw [hg.block i (Array.getElem?_eq_some_iff.1 hi).1 (fun e => ?_)]
    · exact hi
    · rcases hr i e.symm with h1 | ⟨cs, t, h1, h2⟩
      · exact hS h1
      · unfold At at h1
        rw [h1] at hi
        injection hi with hi
        exact ht cs t hi.symm h2⟩
theorem Fix.of_below (h : Below w.heap.size w w') : Fix ts S w w' := ⟨h.size, fun i o hi _ _ => by rw [h.block i (Array.getElem?_eq_some_iff.1 hi).1]; exact hi⟩
theorem Fix.drewN (h : Fix ts S a w) (n : Nat) : Fix ts S a (w.drewN n) := ⟨h.size, h.block⟩
theorem Fix.drew (h : Fix ts S a w) : Fix ts S a w.drew := ⟨h.size, h.block⟩
theorem Fix.alloc (h : Fix ts S a w) (o : Obj) : Fix ts S a (w.alloc o) := h.trans (Fix.of_below ((Below.refl _ _).alloc (Nat.le_refl _) o))
theorem At.fix {g : Nat} {t : TypeId} {cs : Array Value} (h : At w g t cs) (hf : Fix ts S w w') (ht : t ∉ ts) (hg : g ∉ S) : At w' g t cs :=
  hf.block g _ h hg (fun cs' t' e => by injection e with e1 e2; rw [← e2]; exact ht)
end

/-- The cells xs lie at A, in a block of type t. -/
structure Lie (w : World) (t : TypeId) (A : Option Addr) (xs : List Value) : Prop where
  ex : xs ≠ [] → ∃ b o cs, A = some ⟨b, o, none⟩ ∧ At w b t cs ∧ ∀ (j : Nat) (u : Value), xs[j]? = some u → cs[o + j]? = some u
section
variable {ts : List TypeId} {S : List Nat} {w w' : World} {t : TypeId} {A : Option Addr} {xs : List Value}
theorem Lie.nil (w : World) (t : TypeId) (A : Option Addr) : Lie w t A [] := ⟨fun h => absurd rfl h⟩
/-- Blocks of type t stay. -/
def Stay (t : TypeId) (w w' : World) : Prop := ∀ b cs, At w b t cs → At w' b t cs
theorem Stay.refl (t : TypeId) (w : World) : Stay t w w := fun _ _ h => h
theorem Stay.trans {a : World} (h : Stay t a w) (k : Stay t w w') : Stay t a w' := fun b cs hb => k b cs (h b cs hb)
theorem Stay.below (h : Below w.heap.size w w') : Stay t w w' := fun b cs hb => hb.below h hb.lt
theorem Stay.fix (h : Fix ts S w w') (ht : t ∉ ts) (hS : ∀ k ∈ S, ∀ cs, ¬ At w k t cs) : Stay t w w' := fun b cs hb => hb.fix h ht (fun hm => hS b hm cs hb)
theorem Stay.far {g : Nat} {t' : TypeId} {cs : Array Value} (hg : At w g t' cs) (ht : t ≠ t') (hk : w.grownBy w' (some g)) : Stay t w w' := fun b cs' hb =>
  hb.grown hk (fun e => by
    injection e with e
    subst e
    unfold At at hg hb
    rw [hg] at hb
    injection hb with hb
    injection hb with _ hb
    exact ht hb.symm)
theorem Stay.own {B e size n : Nat} {v : Value} {ys : List Value} (ho : w.ownsRow B e size v n ys) (ht : t ≠ e) (hk : w.grownBy w' v.ownBlock) : Stay t w w' := fun b cs hb =>
  hb.grown hk (fun e => own_apart ho hb ht e.symm)
theorem Stay.grown {a : World} {row : Option Nat} (h : Stay t a w) (hg : w.grownBy w' row) (hr : ∀ k, row = some k → a.heap.size ≤ k ∨ ∀ cs, ¬ At w k t cs) : Stay t a w' := fun b cs hb =>
  (h b cs hb).grown hg (fun e => by
    rcases hr b e.symm with h1 | h1
    · have := hb.lt; omega
    · exact h1 cs (h b cs hb))
theorem Lie.stay (h : Lie w t A xs) (hs : Stay t w w') : Lie w' t A xs :=
  ⟨fun hn => by
    obtain ⟨b, o, cs, h1, h2, h3⟩ := h.ex hn
    exact ⟨b, o, cs, h1, hs b cs h2, h3⟩⟩
theorem Lie.below (h : Lie w t A xs) (hb : Below w.heap.size w w') : Lie w' t A xs := h.stay (Stay.below hb)
theorem Lie.drewN (h : Lie w t A xs) (n : Nat) : Lie (w.drewN n) t A xs := ⟨h.ex⟩
theorem Lie.drew (h : Lie w t A xs) : Lie w.drew t A xs := ⟨h.ex⟩
theorem Lie.alloc (h : Lie w t A xs) (o : Obj) : Lie (w.alloc o) t A xs := h.below ((Below.refl _ _).alloc (Nat.le_refl _) o)
theorem Lie.cell (h : Lie w t A xs) (hn : xs ≠ []) : ∃ b o, A = some ⟨b, o, none⟩ ∧ b < w.heap.size ∧ ∀ (j : Nat) (u : Value), xs[j]? = some u → w.cell? ⟨b, o + j, none⟩ = some u := by
  obtain ⟨b, o, cs, h1, h2, h3⟩ := h.ex hn
  exact ⟨b, o, h1, h2.lt, fun j u hj => (h2.cell _).trans (h3 j u hj)⟩
theorem Lie.own {B size n cap m : Nat} (h : w.ownsRow B t size (.slice A n cap) m xs) : Lie w t A xs :=
  ⟨fun hn => by
    rcases h.2 with ⟨_, hx⟩ | ⟨g, cap', cur, e, hb, hg, hnc, hcm, hcs, htake⟩
    · have hl := h.1
      subst hx
      exact absurd (List.eq_nil_of_length_eq_zero (by simpa using hl)) hn
    · injection e with e1 _ _
      subst e1
      refine ⟨g, 0, cur, rfl, hg, fun j u hj => ?_⟩
      rw [← htake, List.getElem?_take] at hj
      split at hj
      · rw [Nat.zero_add, ← Array.getElem?_toList]; exact hj
      · cases hj⟩
theorem own_stay {B e size n : Nat} {v : Value} {ys : List Value} (h : w.ownsRow B e size v n ys) (hs : Stay e w w') : w'.ownsRow B e size v n ys := by
  refine ⟨h.1, ?_⟩
  rcases h.2 with hn | ⟨g, cap, cur, rfl, hb, hgg, rest⟩
  · exact .inl hn
  · exact .inr ⟨g, cap, cur, rfl, hb, hs g cur hgg, rest⟩
end

/-! ## The marks that are left -/

def Lx.Mk.val (m : Mk) : Value := .agg #[.int .i64 (m.kind : Int), .string (str m.text), .int .i64 (m.line : Int), .int .i64 (m.col : Int)]
theorem marksV_cons (m : Mk) (r : List Mk) : marksV (m :: r) = m.cells ++ marksV r := rfl
theorem MAt.lie {w : World} {A : Option Addr} {ms : List Mk} (h : MAt w A ms) : Lie w 55 A (marksV ms) :=
  ⟨fun hn => by
    obtain ⟨b, cs, h1, h2, h3⟩ := h.ex (fun e => hn (by rw [e]; rfl))
    exact ⟨b, 0, cs, h1, h2, fun j u hj => by rw [Nat.zero_add]; exact h3 j u hj⟩⟩
/-- All of a reading but its marks. -/
structure Tl where
  t : Value
  s : Value
  l : Value
  st : ByteArray
  r : Value
  m : Nat
  b : Bool
def Tl.cells (x : Tl) (v : Value) : Array Value := #[v, x.t, x.s, x.l, .string x.st, x.r, .map (some x.m), .bool x.b]
/-- Marks that are not too many, nor too long. -/
def Sane (ms : List Mk) : Prop := ms.length ≤ 9223372036854775807 ∧ ∀ m ∈ ms, m.text.length ≤ 4000
theorem Sane.tail {ms : List Mk} (h : Sane ms) : Sane ms.tail := ⟨by have := h.1; simp; omega, fun m hm => h.2 m (List.mem_of_mem_tail hm)⟩
/-- The reading in block g stands at the marks ms. -/
structure Rest (w : World) (g : Nat) (x : Tl) (ms : List Mk) : Prop where
  len : Sane ms
  ex : ∃ A cap, ms.length ≤ cap ∧ At w g 86 (x.cells (.slice A ms.length cap)) ∧ Lie w 55 A (marksV ms)
section
variable {w w' : World} {g : Nat} {x : Tl} {ms : List Mk}
theorem Rest.lt (h : Rest w g x ms) : g < w.heap.size := by obtain ⟨A, cap, _, h1, _⟩ := h.ex; exact h1.lt
theorem Rest.below (h : Rest w g x ms) (hb : Below w.heap.size w w') : Rest w' g x ms := by
  obtain ⟨A, cap, h0, h1, h2⟩ := h.ex
  exact ⟨h.len, A, cap, h0, h1.below hb h1.lt, h2.below hb⟩
theorem Rest.alloc (h : Rest w g x ms) (o : Obj) : Rest (w.alloc o) g x ms := h.below ((Below.refl _ _).alloc (Nat.le_refl _) o)
theorem Rest.drewN (h : Rest w g x ms) (n : Nat) : Rest (w.drewN n) g x ms := by
  obtain ⟨A, cap, h0, h1, h2⟩ := h.ex
  exact ⟨h.len, A, cap, h0, h1.drewN n, h2.drewN n⟩
theorem Rest.drew (h : Rest w g x ms) : Rest w.drew g x ms := by
  obtain ⟨A, cap, h0, h1, h2⟩ := h.ex
  exact ⟨h.len, A, cap, h0, h1.drew, h2.drew⟩
theorem Rest.stay (h : Rest w g x ms) (h1 : Stay 86 w w') (h2 : Stay 55 w w') : Rest w' g x ms := by
  obtain ⟨A, cap, h0, h3, h4⟩ := h.ex
  exact ⟨h.len, A, cap, h0, h1 _ _ h3, h4.stay h2⟩
theorem Rest.at_ (h : Rest w g x ms) : ∃ cs, At w g 86 cs := by
  obtain ⟨A, cap, _, h1, _⟩ := h.ex; exact ⟨_, h1⟩
end

theorem Tryd.sizeReading : (Tryd.prog.info? 86).map (·.size) = some 8 := by kernel_rfl

theorem cut_marks (A : Option Addr) (n cap : Nat) (hk : 1 ≤ n) (w : World) :
    (Instr.slice 48 (.slice A n cap) (some (.int .i64 1)) none none).run Tryd.prog w = .ok (.slice (if cap = 1 then A else A.map (·.add 4)) (n - 1) (cap - 1)) w := by
  have hs : (Go.sizeOf (Tryd.prog.elem 48)).run Tryd.prog w = .ok 4 w := by kernel_rfl
  rw [run_slice_l (P := Tryd.prog) w 48 A n cap Tryd.underlying48 .i64 1 (by omega) (by omega), hs]
  simp [Result.andThen, sliced]

theorem here_any (g : Nat) (x : Tl) (ms : List Mk) (w : World) (hr : Rest w g x ms) :
    Calls Tryd.prog 31 #[.pointer (some ⟨g, 0, none⟩)] w fun e w' => e = .returned (Rd.hd ms).val ∧ Below w.heap.size w w' := by
  obtain ⟨A, cap, hcap, hat, hl⟩ := hr.ex
  have hlen := hr.len.1
  have hlt := hat.lt
  have c0 := hat.cell 0
  simp only [Tl.cells, List.getElem?_toArray, List.getElem?_cons_zero] at c0
  cases ms with
  | nil =>
    simp only [List.length_nil] at c0
    go_enter Tryd.func31, Tryd.ntmps31
    go_wp2_with fail
    exact bodyPost_ret (v := (Rd.hd []).val) (by simp [results, Tryd.results31, go_sem]; rfl) rfl ⟨rfl, (Below.refl _ _).alloc (Nat.le_refl _) _⟩
  | cons m r =>
    obtain ⟨b, o, rfl, hb, hc⟩ := hl.cell (by simp [marksV, Mk.cells])
    have c1 : w.cell? ⟨b, o, none⟩ = some (.int .i64 (m.kind : Int)) := hc 0 _ rfl
    have c2 : w.cell? ⟨b, o + 1, none⟩ = some (.string (str m.text)) := hc 1 _ rfl
    have c3 : w.cell? ⟨b, o + 2, none⟩ = some (.int .i64 (m.line : Int)) := hc 2 _ rfl
    have c4 : w.cell? ⟨b, o + 3, none⟩ = some (.int .i64 (m.col : Int)) := hc 3 _ rfl
    obtain ⟨n, hn⟩ : ∃ n, (m :: r).length = n := ⟨_, rfl⟩
    rw [hn] at c0 hcap hlen
    have hn1 : 1 ≤ n := by rw [← hn]; simp
    have hn0 : ((n : Int) == 0) = false := by rw [beq_eq_false_iff_ne]; omega
    have hn2 : (0 : Int) < (n : Int) := by omega
    have hn3 : (n == 0) = false := by rw [beq_eq_false_iff_ne]; omega
    clear hn hc hl hat
    go_enter Tryd.func31, Tryd.ntmps31
    go_wp2_with fail
    exact bodyPost_ret (v := m.val) (by simp [results, Tryd.results31, go_sem]; rfl) rfl ⟨rfl, (Below.refl _ _).alloc (Nat.le_refl _) _⟩

/-- Goes on to the next mark. -/
theorem next_any (g : Nat) (x : Tl) (ms : List Mk) (w : World) (hr : Rest w g x ms) (hne : ms ≠ []) :
    Calls Tryd.prog 60 #[.pointer (some ⟨g, 0, none⟩)] w fun e w' => e = .returned (.tuple #[]) ∧ Rest w' g x ms.tail ∧ w.grownBy w' (some g) := by
  obtain ⟨A, cap, hcap, hat, hl⟩ := hr.ex
  have hlen := hr.len.1
  have hsane := hr.len.tail
  have hlt := hat.lt
  have hf := hat.frozen 0
  have c0 := hat.cell 0
  simp only [Tl.cells, List.getElem?_toArray, List.getElem?_cons_zero] at c0
  obtain ⟨m, r, rfl⟩ := List.exists_cons_of_ne_nil hne
  have hcut := cut_marks A (r.length + 1) cap (by omega)
  obtain ⟨A', hA'⟩ : ∃ A', (if cap = 1 then A else A.map (·.add 4)) = A' := ⟨_, rfl⟩
  rw [hA'] at hcut
  simp only [List.length_cons] at c0 hcap hlen
  have hrest : Rest (w.setCell ⟨g, 0, none⟩ (.slice A' r.length (cap - 1))) g x r := by
    refine ⟨hsane, A', cap - 1, by omega, ?_, ?_⟩
    · have := hat.set 0 (.slice A' r.length (cap - 1))
      simpa [Tl.cells] using this
    · have hs : Stay 55 w (w.setCell ⟨g, 0, none⟩ (.slice A' r.length (cap - 1))) := Stay.far hat (by decide) (grown_set (grown_refl _ _) 0 _)
      refine Lie.stay ⟨fun hn => ?_⟩ hs
      obtain ⟨b, o, cs, rfl, hb, hc⟩ := hl.ex (by simp [marksV, Mk.cells])
      have hcap1 : cap ≠ 1 := by
        intro e
        cases r with
        | nil => exact hn rfl
        | cons m' r' => simp at hcap; omega
      rw [if_neg hcap1] at hA'
      refine ⟨b, o + 4, cs, by rw [← hA']; simp [Addr.add], hb, fun j u hj => ?_⟩
      have h4 : (marksV (m :: r))[4 + j]? = some u := by
        rw [marksV_cons, List.getElem?_append_right (by simp [Mk.cells])]
        simpa [Mk.cells] using hj
      rw [Nat.add_assoc]
      exact hc _ u h4
  have hgr : w.grownBy (w.setCell ⟨g, 0, none⟩ (.slice A' r.length (cap - 1))) (some g) := grown_set (grown_refl _ _) 0 _
  simp only [Nat.add_sub_cancel] at hcut
  have HR := Lib.hid hrest
  have HG := Lib.hid hgr
  clear hA' hrest hgr hl hat
  go_enter Tryd.func60, Tryd.ntmps60
  go_wp2_with fail
  go_end0
  exact ⟨rfl, HR.out, HG.out⟩

theorem new_cell (w : World) (m : Mk) : At (w.alloc (.cells #[.int .i64 (m.kind : Int), .string (str m.text), .int .i64 (m.line : Int), .int .i64 (m.col : Int)] 55)) w.heap.size 55 #[.int .i64 (m.kind : Int), .string (str m.text), .int .i64 (m.line : Int), .int .i64 (m.col : Int)] := At.new w _ _

def takeV (k : Nat) (ms : List Mk) : Value := if (Rd.hd ms).kind = k then .tuple #[.string (str (Rd.hd ms).text), .bool true] else .tuple #[.string (str []), .bool false]
def takeR (k : Nat) (ms : List Mk) : List Mk := if (Rd.hd ms).kind = k then ms.tail else ms

theorem take_any (k : Nat) (hk : 1 ≤ k) (g : Nat) (x : Tl) (ms : List Mk) (w : World) (hr : Rest w g x ms) :
    Calls Tryd.prog 93 #[.pointer (some ⟨g, 0, none⟩), .int .i64 (k : Int)] w fun e w' => e = .returned (takeV k ms) ∧ Rest w' g x (takeR k ms) ∧ w.grownBy w' (some g) := by
  have HR := Lib.hid hr
  clear hr
  obtain ⟨m, hm⟩ : ∃ m, Rd.hd ms = m := ⟨_, rfl⟩
  have HM := Lib.hid hm
  by_cases h : m.kind = k
  · have e1 : takeV k ms = .tuple #[.string (str m.text), .bool true] := by unfold takeV; rw [hm, if_pos h]
    have e2 : takeR k ms = ms.tail := by unfold takeR; rw [hm, if_pos h]
    rw [e1, e2]
    have hne : ms ≠ [] := by rintro rfl; subst hm; simp [Rd.hd_nil] at h; omega
    clear e1 e2 hm
    have hki : ((m.kind : Int) != (k : Int)) = false := by rw [bne_eq_false_iff_eq]; omega
    have hki2 : (m.kind != k) = false := by rw [bne_eq_false_iff_eq]; omega
    clear h
    go_enter Tryd.func93, Tryd.ntmps93
    go_wp2_with fail
    refine (here_any g x ms w HR.out).mono ?_
    rw [HM.out]
    rintro e w1 ⟨rfl, hb⟩
    have hs1 := hb.size
    have hlt := HR.out.lt
    have HR1 := Lib.hid (HR.out.below hb)
    have HG1 := Lib.hid (show w.grownBy w1 (some g) from ⟨hb.os, hb.tape, hb.output, hb.size, fun i hi _ => hb.block i hi⟩)
    clear hb
    unfold Mk.val
    go_wp2_with fail
    refine (next_any g x ms _ (HR1.out.alloc _) hne).mono ?_
    rintro e w2 ⟨rfl, hr2, hg2⟩
    have ha := (new_cell w1 m).grown hg2 (by simp; omega)
    have c1 := ha.cell 1
    simp only [List.getElem?_toArray, List.getElem?_cons_zero, List.getElem?_cons_succ] at c1
    have HR2 := Lib.hid hr2
    have HG2 := Lib.hid (grown_trans (grown_alloc HG1.out _) hg2)
    clear ha hr2 hg2
    go_wp2_with fail
    go_ret2
    exact ⟨rfl, HR2.out, HG2.out⟩
  · have e1 : takeV k ms = .tuple #[.string (str []), .bool false] := by unfold takeV; rw [hm, if_neg h]
    have e2 : takeR k ms = ms := by unfold takeR; rw [hm, if_neg h]
    rw [e1, e2]
    clear e1 e2 hm
    have hki : ((m.kind : Int) != (k : Int)) = true := by rw [bne_iff_ne]; omega
    have hki2 : (m.kind != k) = true := by rw [bne_iff_ne]; omega
    clear h
    go_enter Tryd.func93, Tryd.ntmps93
    go_wp2_with fail
    refine (here_any g x ms w HR.out).mono ?_
    rw [HM.out]
    rintro e w1 ⟨rfl, hb⟩
    have HR1 := Lib.hid (HR.out.below hb)
    have HG1 := Lib.hid (show w.grownBy w1 (some g) from ⟨hb.os, hb.tape, hb.output, hb.size, fun i hi _ => hb.block i hi⟩)
    clear hb
    unfold Mk.val
    go_wp2_with fail
    go_ret2
    exact ⟨rfl, HR1.out.alloc _, grown_alloc HG1.out _⟩

theorem str_same (a b : List UInt8) : ((str a).toList == (str b).toList) = (a == b) := by
  rw [toList_eq, toList_eq, bl_str, bl_str]

theorem word_is (t : List UInt8) (g : Nat) (x : Tl) (ms : List Mk) (w : World) (hr : Rest w g x ms) :
    Calls Tryd.prog 59 #[.pointer (some ⟨g, 0, none⟩), .string (str t)] w fun e w' => e = .returned (.bool (Rd.isWord t (Rd.hd ms))) ∧ Below w.heap.size w w' := by
  have HR := Lib.hid hr
  clear hr
  obtain ⟨m, hm⟩ : ∃ m, Rd.hd ms = m := ⟨_, rfl⟩
  rw [hm]
  have HM := Lib.hid hm
  clear hm
  by_cases h : m.kind = 2
  · have hki : ((m.kind : Int) == 2) = true := by rw [beq_iff_eq]; omega
    have hki2 : (m.kind == 2) = true := by rw [beq_iff_eq]; omega
    have he : Rd.isWord t m = ((str m.text).toList == (str t).toList) := by unfold Rd.isWord; rw [hki2, str_same]; simp
    rw [he]
    clear he h
    go_enter Tryd.func59, Tryd.ntmps59
    go_wp2_with fail
    refine (here_any g x ms w HR.out).mono ?_
    rw [HM.out]
    rintro e w1 ⟨rfl, hb⟩
    have HB := Lib.hid hb
    clear hb
    unfold Mk.val
    go_wp2_with fail
    go_ret
    exact ⟨rfl, HB.out.alloc HB.out.size _⟩
  · have hki : ((m.kind : Int) == 2) = false := by rw [beq_eq_false_iff_ne]; omega
    have hki2 : (m.kind == 2) = false := by rw [beq_eq_false_iff_ne]; omega
    have he : Rd.isWord t m = false := by unfold Rd.isWord; rw [hki2]; simp
    rw [he]
    clear he h
    go_enter Tryd.func59, Tryd.ntmps59
    go_wp2_with fail
    refine (here_any g x ms w HR.out).mono ?_
    rw [HM.out]
    rintro e w1 ⟨rfl, hb⟩
    have HB := Lib.hid hb
    clear hb
    unfold Mk.val
    go_wp2_with fail
    go_ret
    exact ⟨rfl, HB.out.alloc HB.out.size _⟩

end Go.Proofs.YtgmihbfikggkjaaDoor
