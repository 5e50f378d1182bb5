import Derived.Test.YtdhhkancbgealaaGreatT35
import Derived.Test.YtdhhkancbgealaaGreatT14
import Derived.Test.YtdhhkancbgealaaGreatT24
import Derived.Test.YtdhhkancbgealaaGreatT30
section
/-
  The walk over tronagelaw18.done: a tree and the document's one, in step.
-/
namespace Go.Proofs.YtdhhkancbgealaaGreat
open Go.RowKit Go.Shelf
open Lx
set_option linter.unusedVariables false
set_option linter.unusedSimpArgs false
set_option maxRecDepth 100000

/-- A tree of the nodes L, the document's one of the nodes M. -/
structure Duo (w : World) (B tg g mb rt rm : Nat) (l : Int) (L M : List Tr.Nd) : Prop where
  tree : ∃ m S, TreeIs w B tg g mb l m S ∧ nds S = L
  ref : ∃ m v S, RefIs w B rt rm l m v S ∧ nds S = M
  size : B ≤ w.heap.size
abbrev both18 : List TypeId := [128, 139, 87, 47, 56, 44]
theorem Spares.wide {ts us : List TypeId} {w w' : World} (h : Spares ts w w') (hs : ∀ t ∈ ts, t ∈ us) : Spares us w w' := ⟨h.size, fun k cs t ht hk => h.block k cs t (fun hm => ht (hs t hm)) hk⟩
section
variable {w w' : World} {B tg g mb rt rm : Nat} {l : Int} {L M L' : List Tr.Nd}
theorem Duo.below (h : Duo w B tg g mb rt rm l L M) (hb : Below w.heap.size w w') : Duo w' B tg g mb rt rm l L M := by
  obtain ⟨m, S, h1, h2⟩ := h.tree
  obtain ⟨m', v, S', h3, h4⟩ := h.ref
  exact ⟨⟨m, S, h1.below hb, h2⟩, ⟨m', v, S', h3.below hb, h4⟩, Nat.le_trans h.size hb.size⟩
theorem Duo.t (h : Duo w B tg g mb rt rm l L M) (hd : Done w w' B tg g mb l L') : Duo w' B tg g mb rt rm l L' M := by
  obtain ⟨m', v, S', h3, h4⟩ := h.ref
  exact ⟨hd.tree, ⟨m', v, S', h3.spares hd.spares (by decide) (by decide), h4⟩, Nat.le_trans h.size hd.below.size⟩
theorem Duo.r (h : Duo w B tg g mb rt rm l L M) (hd : RDone w w' B rt rm l L') : Duo w' B tg g mb rt rm l L L' := by
  obtain ⟨m, S, h1, h2⟩ := h.tree
  exact ⟨⟨m, S, h1.spares hd.spares (by decide), h2⟩, hd.tree, Nat.le_trans h.size hd.below.size⟩
theorem Duo.leaf (h : Duo w B tg g mb rt rm l L M) (x : Tr.Tok) : Calls Tryz.prog 36 #[.pointer (some ⟨tg, 0, none⟩), .agg #[.int .i64 x.t, .int .i64 x.a, .int .i64 x.b]] w fun e w' => e = .returned (.tuple #[.int .i64 (Tr.leaf l L x).n, .int .i64 (Tr.leaf l L x).e]) ∧ Done w w' B tg g mb l (Tr.leaf l L x).L := by
  obtain ⟨m, S, h1, rfl⟩ := h.tree
  exact tleafP_any x w B tg g mb l m S h1 h.size
theorem Duo.rleaf (h : Duo w B tg g mb rt rm l L M) (x : Tr.Tok) : Calls Tryz.prog 42 #[.pointer (some ⟨rt, 0, none⟩), .agg #[.int .i64 x.t, .int .i64 x.a, .int .i64 x.b]] w fun e w' => e = .returned (.tuple #[.int .i64 (Tr.leaf l M x).n, .int .i64 (Tr.leaf l M x).e]) ∧ RDone w w' B rt rm l (Tr.leaf l M x).L := by
  obtain ⟨m, v, S, h1, rfl⟩ := h.ref
  exact rleaf_any x w B rt rm l m v S h1 h.size
theorem Duo.node (h : Duo w B tg g mb rt rm l L M) (rule sym : Int) (A : Option Addr) (n c B0 : Nat) (ks : List Int) (hl : ks.length = n) (hK : KOk w B0 A ks) (hB0 : B0 ≤ B) (hn : n ≤ 1000000) : Calls Tryz.prog 37 #[.pointer (some ⟨tg, 0, none⟩), .int .i64 rule, .int .i64 sym, .slice A n c] w fun e w' => e = .returned (.tuple #[.int .i64 (Tr.node l L rule sym ks).n, .int .i64 (Tr.node l L rule sym ks).e]) ∧ Done w w' B tg g mb l (Tr.node l L rule sym ks).L := by
  obtain ⟨m, S, h1, rfl⟩ := h.tree
  exact (tnode_own (fun _ => True) rule sym A n c ks w B tg g mb l m S h1 h.size hl (fun w' hs hb => (hK.step hs (by decide) (hb.mono hB0)).cl) hn (fun _ _ _ => trivial) (fun _ _ => trivial)).mono fun _ _ ⟨h1, h2⟩ => ⟨h1, h2.done⟩
theorem Duo.rnode (h : Duo w B tg g mb rt rm l L M) (rule sym : Int) (A : Option Addr) (n c B0 : Nat) (ks : List Int) (hl : ks.length = n) (hK : KOk w B0 A ks) (hB0 : B0 ≤ B) (hn : n ≤ 1000000) (hc : n ≤ c) : Calls Tryz.prog 43 #[.pointer (some ⟨rt, 0, none⟩), .int .i64 rule, .int .i64 sym, .slice A n c] w fun e w' => e = .returned (.tuple #[.int .i64 (Tr.node l M rule sym ks).n, .int .i64 (Tr.node l M rule sym ks).e]) ∧ RDone w w' B rt rm l (Tr.node l M rule sym ks).L := by
  obtain ⟨m, v, S, h1, rfl⟩ := h.ref
  exact rnode_any rule sym A n c ks w B rt rm l m v S h1 h.size hl (fun w' hs hb => (hK.step hs (by decide) (hb.mono hB0)).cl) hn hc
/-- The document's tree, emptied. -/
theorem RefIs.emptied {m : Int} {v : Value} {S : List Sl} (h : RefIs w B rt rm l m v S) (hB : B ≤ w.heap.size) (hT : Turns (w.setCell ⟨rt, 1, none⟩ (.slice none 0 0)) w' rm 44 #[.int .i64 l, .int .i64 0, .int .i64 m]) : RDone w w' B rt rm l [] := by
  have hne : rt ≠ rm := by
    intro e
    have h1 := h.at_
    have h2 := h.meter
    unfold At at h1 h2
    rw [← e, h1] at h2
    simp at h2
  have hk : Keeps [rt, rm] w w' := ((Keeps.refl [rt, rm] w).set (.inl (by simp)) _).turns hT (.inl (by simp))
  have hA : At w' rt 47 #[.pointer (some ⟨rm, 0, none⟩), .slice none 0 0] := hT.other (by simpa using h.at_.set 1 (.slice none 0 0)) hne
  have hc := costS_nonneg S
  have hr := h.room
  exact ⟨⟨m, _, [], ⟨hA, World.ownsRow_nil _ _ _ _, h.low, hT.at_, fun q hq => absurd hq (by simp), ⟨by rw [costS_nil]; omega, hr.2⟩, fun q hq => absurd hq (by simp)⟩, rfl⟩, hk.spares (fun q hq cs t hh => by
    simp at hq
    rcases hq with rfl | rfl
    · rw [h.at_.type hh]; simp [refT]
    · rw [h.meter.type hh]; simp [refT]), hk.below (fun q hq => by
    simp at hq
    rcases hq with rfl | rfl
    · exact h.low.1
    · exact h.low.2) hB⟩
end

set_option maxHeartbeats 8000000 in
theorem done_any (o : Tr.Op) (A : Option Addr) (c : Nat) (w : World) (B0 B tg g mb rt rm : Nat) (l : Int) (L : List Tr.Nd) (h : Duo w B tg g mb rt rm l L L) (hK : KOk w B0 A o.ks) (hB0 : B0 ≤ B) (hc : o.ks.length ≤ c) (hn : o.ks.length ≤ 1000000) :
    Calls Tryz.prog 13 #[.pointer (some ⟨tg, 0, none⟩), .pointer (some ⟨rt, 0, none⟩), .agg (opC (o, .slice A o.ks.length c)).toArray] w fun e w' => e = .returned (.bool true) ∧ Duo w' B tg g mb rt rm l (Tr.step l L o) (Tr.step l L o) ∧ Spares both18 w w' ∧ Below B w w' := by
  obtain ⟨d, r, s, ⟨x1, x2, x3⟩, ks⟩ := o
  dsimp only at hK hc hn
  show Calls _ _ #[.pointer (some ⟨tg, 0, none⟩), .pointer (some ⟨rt, 0, none⟩), .agg #[.int .i64 d, .int .i64 r, .int .i64 s, .int .i64 x1, .int .i64 x2, .int .i64 x3, .slice A ks.length c]] w _
  obtain ⟨kn, hkn⟩ : ∃ kn, ks.length = kn := ⟨_, rfl⟩
  rw [hkn] at hc hn ⊢
  obtain ⟨W, hW⟩ : ∃ W, w.alloc (.cells #[.int .i64 d, .int .i64 r, .int .i64 s, .int .i64 x1, .int .i64 x2, .int .i64 x3, .slice A kn c] 52) = W := ⟨_, rfl⟩
  have a1 : At W w.heap.size 52 #[.int .i64 d, .int .i64 r, .int .i64 s, .int .i64 x1, .int .i64 x2, .int .i64 x3, .slice A kn c] := by rw [← hW]; exact At.new _ _ _
  have hb : Below w.heap.size w W := by rw [← hW]; exact (Below.refl w.heap.size w).alloc (Nat.le_refl _) _
  have hD := h.below hb
  have HK := Lib.hid (hK.below hb)
  have HF := Lib.hid (show ∀ w', Spares both18 W w' → Below B W w' → Spares both18 w w' ∧ Below B w w' from fun w' hs hbb => ⟨(spares_belowT hb both18).trans hs, (hb.mono h.size).trans hbb⟩)
  have HW := Lib.hid hW
  have HA := Lib.hid a1
  have HD := Lib.hid hD
  have HKN := Lib.hid hkn
  obtain ⟨ST, hST⟩ : ∃ x, Tr.step l L ⟨d, r, s, ⟨x1, x2, x3⟩, ks⟩ = x := ⟨_, rfl⟩
  rw [hST]
  have HST := Lib.hid hST
  clear h hK hb hD hW a1 hkn hST
  by_cases h1 : d = 1
  · subst h1
    have hst : ST = (Tr.leaf l L ⟨x1, x2, x3⟩).L := by rw [← HST.out]; unfold Tr.step; rw [if_pos rfl]
    subst hst
    have HL := Lib.hid (HD.out.leaf ⟨x1, x2, x3⟩)
    have HR := Lib.hid (fun w' (hd : Done W w' B tg g mb l (Tr.leaf l L ⟨x1, x2, x3⟩).L) => (HD.out.t hd).rleaf ⟨x1, x2, x3⟩)
    generalize Tr.leaf l L ⟨x1, x2, x3⟩ = AN at HL HR ⊢
    obtain ⟨an, ae, aL⟩ := AN
    dsimp only at HL HR ⊢
    clear HST
    go_enter Tryz.func13, Tryz.ntmps13
    go_wp2_with fail
    rw [HW.out]
    refine HL.out.mono ?_
    rintro e w1 ⟨rfl, hd1⟩
    have HD1 := Lib.hid hd1
    have hA1 := HA.out.spares hd1.spares (by decide)
    have o3 := hA1.cell 3
    have o4 := hA1.cell 4
    have o5 := hA1.cell 5
    simp only [List.getElem?_toArray, List.getElem?_cons_zero, List.getElem?_cons_succ] at o3 o4 o5
    have hl1 := hA1.lt
    clear hd1 hA1 HL
    go_wp2_with fail
    refine (HR.out w1 HD1.out).mono ?_
    rintro e w2 ⟨rfl, hd2⟩
    have HD2 := Lib.hid hd2
    clear hd2 HR
    go_wp2_with fail
    go_ret
    have hs := (HD1.out.spares.wide (us := both18) (by decide)).trans (HD2.out.spares.wide (by decide))
    have hbb := HD1.out.below.trans HD2.out.below
    have hf := HF.out _ hs hbb
    exact ⟨by simp, (HD.out.t HD1.out).r HD2.out, hf.1, hf.2⟩
  by_cases h2 : d = 2
  · subst h2
    have hst : ST = (Tr.node l L r s ks).L := by rw [← HST.out]; unfold Tr.step; rw [if_neg (show ¬ (2 : Int) = 1 by decide), if_pos rfl]
    subst hst
    have HL := Lib.hid (HD.out.node r s A kn c B0 ks HKN.out HK.out hB0 hn)
    have HR := Lib.hid (fun w' (hd : Done W w' B tg g mb l (Tr.node l L r s ks).L) => (HD.out.t hd).rnode r s A kn c B0 ks HKN.out (HK.out.step hd.spares (by decide) (hd.below.mono hB0)) hB0 hn hc)
    generalize Tr.node l L r s ks = AN at HL HR ⊢
    obtain ⟨an, ae, aL⟩ := AN
    dsimp only at HL HR ⊢
    clear HST
    go_enter Tryz.func13, Tryz.ntmps13
    go_wp2_with fail
    rw [HW.out]
    refine HL.out.mono ?_
    rintro e w1 ⟨rfl, hd1⟩
    have HD1 := Lib.hid hd1
    have hA1 := HA.out.spares hd1.spares (by decide)
    have o1 := hA1.cell 1
    have o2 := hA1.cell 2
    have o6 := hA1.cell 6
    simp only [List.getElem?_toArray, List.getElem?_cons_zero, List.getElem?_cons_succ] at o1 o2 o6
    have hl1 := hA1.lt
    clear hd1 hA1 HL
    go_wp2_with fail
    refine (HR.out w1 HD1.out).mono ?_
    rintro e w2 ⟨rfl, hd2⟩
    have HD2 := Lib.hid hd2
    clear hd2 HR
    go_wp2_with fail
    go_ret
    have hs := (HD1.out.spares.wide (us := both18) (by decide)).trans (HD2.out.spares.wide (by decide))
    have hbb := HD1.out.below.trans HD2.out.below
    have hf := HF.out _ hs hbb
    exact ⟨by simp, (HD.out.t HD1.out).r HD2.out, hf.1, hf.2⟩
  by_cases h3 : d = 3
  · subst h3
    have hst : ST = [] := by rw [← HST.out]; unfold Tr.step; rw [if_neg (show ¬ (3 : Int) = 1 by decide), if_neg (show ¬ (3 : Int) = 2 by decide), if_pos rfl]
    subst hst
    obtain ⟨m, v, S, hR, hS⟩ := HD.out.ref
    have HC := Lib.hid (rcells_any W B rt rm l m v S hR)
    have hco : Tr.cost (nds S) = costS S := rfl
    rw [hco] at HC
    have hcL : Tr.cost L = costS S := by rw [← hS]; rfl
    have hc0 := costS_nonneg S
    have hroom := hR.room
    have HRI := Lib.hid hR
    obtain ⟨C, hC⟩ : ∃ C, costS S = C := ⟨_, rfl⟩
    rw [hC] at HC hcL hc0 hroom
    have HCL := Lib.hid hcL
    have HCS := Lib.hid hC
    have c0 := hR.at_.cell 0
    simp only [List.getElem?_toArray, List.getElem?_cons_zero] at c0
    clear hR hS hco hcL hC HST
    go_enter Tryz.func13, Tryz.ntmps13
    go_wp2_with fail
    rw [HW.out]
    refine HC.out.mono ?_
    rintro e w1 ⟨rfl, hb1⟩
    have HR1 := Lib.hid (HRI.out.below hb1)
    have HD1 := Lib.hid (HD.out.below hb1)
    have HB1 := Lib.hid hb1
    have d0 := (HR1.out.at_).cell 0
    have d1 := (HR1.out.at_).cell 1
    simp only [List.getElem?_toArray, List.getElem?_cons_zero, List.getElem?_cons_succ] at d0 d1
    have dz := HR1.out.at_.frozen 1
    have dl := HR1.out.at_.lt
    have hA3 := HR1.out.at_.set 1 (.slice none 0 0)
    have e0 := hA3.cell 0
    simp at e0
    have hne : rm ≠ rt := by
      intro e
      have h1 := HR1.out.at_
      have h2 := HR1.out.meter
      unfold At at h1 h2
      rw [e, h1] at h2
      simp at h2
    have hG := rgive_any rm l C m C (w1.setCell ⟨rt, 1, none⟩ (.slice none 0 0)) (by rw [← HCS.out]; exact HR1.out.meter.far (by simpa using hne) _) ⟨hc0, hroom⟩ ⟨by omega, by omega⟩
    have hg0 : giveUsed C C = 0 := by unfold giveUsed; rw [if_neg (by omega), if_neg (by omega)]; omega
    rw [hg0] at hG
    have HG := Lib.hid hG
    clear hb1 hA3 hG hg0 HC
    go_wp2_with fail
    refine HG.out.mono ?_
    rintro e w2 ⟨rfl, hT2⟩
    have hr2 := HR1.out.emptied HD1.out.size hT2
    have HR2 := Lib.hid hr2
    have hd2 := HD1.out.r hr2
    have HRS := Lib.hid (show Calls Tryz.prog 45 #[.pointer (some ⟨tg, 0, none⟩)] w2 fun e w' => e = .returned (.int .i64 C) ∧ Done w2 w' B tg g mb l [] from by
      obtain ⟨m', S', k1, k2⟩ := hd2.tree
      have := treset_any w2 B tg g mb l m' S' k1 hd2.size
      rw [k2, HCL.out] at this
      exact this)
    clear hT2 hr2 hd2 HG
    go_wp2_with fail
    refine HRS.out.mono ?_
    rintro e w3 ⟨rfl, hd3⟩
    have HD3 := Lib.hid hd3
    clear hd3 HRS
    go_wp2_with fail
    go_ret
    have hs := ((spares_belowT HB1.out both18).trans (HR2.out.spares.wide (by decide))).trans (HD3.out.spares.wide (by decide))
    have hbb := ((HB1.out.mono HD.out.size).trans HR2.out.below).trans HD3.out.below
    have hf := HF.out _ hs hbb
    exact ⟨by simp, (HD1.out.r HR2.out).t HD3.out, hf.1, hf.2⟩
  · have hst : ST = L := by rw [← HST.out]; unfold Tr.step; rw [if_neg h1, if_neg h2, if_neg h3]
    subst hst
    have e1 : (d == 1) = false := by simpa using h1
    have e2 : (d == 2) = false := by simpa using h2
    have e3 : (d == 3) = false := by simpa using h3
    clear HST
    go_enter Tryz.func13, Tryz.ntmps13
    go_wp2_with fail
    go_ret
    rw [HW.out]
    have hf := HF.out W (Spares.refl _ _) (Below.refl _ _)
    exact ⟨rfl, HD.out, hf.1, hf.2⟩
end Go.Proofs.YtdhhkancbgealaaGreat
end
section
/-
  The walk over tronagelaw18.made.
-/
namespace Go.Proofs.YtdhhkancbgealaaGreat
open Go.RowKit Go.Shelf
open Lx
set_option linter.unusedVariables false
set_option linter.unusedSimpArgs false
set_option maxRecDepth 100000

theorem Tr.told_small {P : Nm.Plan} (h : PlanS P) (L : List Tr.Nd) (o : Tr.Op) (ho : o.ks.length ≤ 10) : (Tr.told P L o).ks.length ≤ 1000000 := by
  unfold Tr.told
  split
  · have h1 := Tr.pick_len L (Tr.toldP P o).right.length L.length [] (Nat.zero_le _)
    have h2 : (Tr.toldP P o).right.length ≤ 1000 := by
      have h3 := Tr.toldR_in h.two.1 o
      unfold Tr.toldP
      rw [List.getD_eq_getElem?_getD, List.getElem?_eq_getElem (by omega)]
      exact h.right _ (List.getElem_mem _)
    show (Tr.lastKids L (Tr.toldP P o).right.length).length ≤ _
    unfold Tr.lastKids
    omega
  · omega
theorem Tr.few_of {l : List Tr.Op} (h : Tr.few l = true) : l.length ≤ 40 ∧ ∀ o ∈ l, o.ks.length ≤ 10 := by
  unfold Tr.few at h
  rw [Bool.and_eq_true] at h
  exact ⟨of_decide_eq_true h.2, fun o ho => of_decide_eq_true (List.all_eq_true.1 h.1 o ho)⟩

end Go.Proofs.YtdhhkancbgealaaGreat
end
section
namespace Go.Proofs.YtdhhkancbgealaaGreat
open Go.RowKit Go.Shelf
open Lx
set_option linter.unusedVariables false
set_option linter.unusedSimpArgs false
set_option maxRecDepth 100000
theorem few_partsT {s : Sm.S} {r k : Nat} (h : Sm.few s r k = true) : s.lefts.length ≤ r ∧ Sm.nl s ≤ 5 ∧ ∀ l ∈ s.rights, l.length ≤ k := by
 unfold Sm.few at h
 rw [Bool.and_eq_true] at h
 obtain ⟨h1, h2⟩ := h
 have h1 := of_decide_eq_true h1
 refine ⟨h1.1, h1.2, fun l hl => ?_⟩
 have := List.all_eq_true.1 h2 l hl
 simpa using this
structure Tell (w : World) (tg : Nat) (L : List Tr.Nd) : Prop where
 len : ∀ w', Below w.heap.size w w' → Calls Tryz.prog 15 #[.pointer (some ⟨tg, 0, none⟩)] w' fun e w'' => e = .returned (.int .i64 (L.length : Int)) ∧ w' = w''
 kids : ∀ (i : Int) w', Below w.heap.size w w' → Calls Tryz.prog 25 #[.pointer (some ⟨tg, 0, none⟩), .int .i64 i] w' fun e w'' => ∃ A c, e = .returned (.slice A (Tr.at_ L i).kids.length c) ∧ w''.ownsRow w'.heap.size 3 1 (.slice A (Tr.at_ L i).kids.length c) (Tr.at_ L i).kids.length (vals (Tr.at_ L i).kids) ∧ Below w'.heap.size w' w''
 below : ∀ (i : Int) w', Below w.heap.size w w' → Calls Tryz.prog 26 #[.pointer (some ⟨tg, 0, none⟩), .int .i64 i] w' fun e w'' => ∃ A c, e = .returned (.slice A (Tr.below L i).length c) ∧ w''.ownsRow w'.heap.size 3 1 (.slice A (Tr.below L i).length c) (Tr.below L i).length (vals (Tr.below L i)) ∧ Below w'.heap.size w' w''
theorem Duo.tell {w : World} {B tg g mb rt rm : Nat} {l : Int} {L M : List Tr.Nd} (h : Duo w B tg g mb rt rm l L M) (hg : Tr.Good L) (hl : L.length ≤ 40) : Tell w tg L := by
 obtain ⟨m, S, h1, rfl⟩ := h.tree
 have hbl := fun i => hg.bel_len i
 exact ⟨fun w' hb => tlen_any w' B tg g mb l m S (h1.below hb), fun i w' hb => tkids_any i w' B tg g mb l m S (h1.below hb), fun i w' hb => tbelow_any i w' B tg g mb l m S (h1.below hb) hg.down (by have := hbl i; omega)⟩
end Go.Proofs.YtdhhkancbgealaaGreat
end
section
namespace Go.Proofs.YtdhhkancbgealaaGreat
set_option linter.unusedVariables false
set_option linter.unusedSimpArgs false
namespace Tr
def tokOf (L : List Nd) (k : Int) : List Tok := if (at_ L k).leaf = true then [(at_ L k).tok] else []
def yield (L : List Nd) (i : Int) : List Tok := (below L i).flatMap (tokOf L)
theorem flat_flat {α β : Type} (f : Int → List α) (g : α → List β) (l : List Int) : (l.flatMap f).flatMap g = l.flatMap fun k => (f k).flatMap g := by
 induction l with
 | nil => rfl
 | cons k l ih => simp only [List.flatMap_cons, List.flatMap_append, ih]
theorem Good.kid_has {L : List Nd} (h : Good L) {i k : Int} (hk : k ∈ kidsOf L i) : has L k = true := by
 have h1 := h.down i k hk
 have h2 := has_true (kidsOf_has hk)
 unfold has; exact decide_eq_true (by omega)
theorem below_has {L : List Nd} {i : Int} (h : has L i = true) : below L i = Bel L i := by unfold below; rw [if_pos h]
end Tr
end Go.Proofs.YtdhhkancbgealaaGreat
end
