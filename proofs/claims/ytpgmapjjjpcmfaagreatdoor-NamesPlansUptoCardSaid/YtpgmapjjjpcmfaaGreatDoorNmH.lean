/-
  The walk of names.rules.
-/
import Derived.Test.YtpgmapjjjpcmfaaGreatDoorNmG
import Derived.Deep.RegionHeld3
import Derived.Deep.DeepCutAuto
import Derived.Deep.Cut
import Derived.Deep.CutRange
namespace Go.Proofs.YtpgmapjjjpcmfaaGreatDoor
open Go.RowKit
open Lx
set_option linter.unusedVariables false
set_option linter.unusedSimpArgs false
set_option maxRecDepth 100000

theorem infoProd : (Tryz.prog.info? 86).map (fun i => (i.zero, i.size, i.bytes)) = some (some (.agg #[.int .i64 0, .slice none 0 0, .int .i64 0]), 3, 40) := by kernel_rfl
/-- A value that is the list of numbers l, in blocks of ints. -/
def IntL (w : World) (v : Value) (l : List Int) : Prop := ∃ A cap, v = .slice A l.length cap ∧ Lie w 3 A (vals l)
theorem IntL.stay {w w' : World} {v : Value} {l : List Int} (h : IntL w v l) (hs : Stay 3 w w') : IntL w' v l := by
  obtain ⟨A, cap, h1, h2⟩ := h; exact ⟨A, cap, h1, h2.stay hs⟩
theorem IntL.intC {w : World} {v : Value} {l : List Int} (h : IntL w v l) : IntC w w.heap.size v l := by
  obtain ⟨A, cap, h1, h2⟩ := h; exact ⟨A, cap, h1, h2.cl⟩
/-- Rules that lie in memory, each with its numbers. -/
structure Prods (w : World) (pl : List (Nm.Prod × Value)) (L : List Nm.Prod) : Prop where
  eq : pl.map (·.1) = L
  each : ∀ p ∈ pl, IntL w p.2 p.1.right
theorem Prods.stay {w w' : World} {pl : List (Nm.Prod × Value)} {L : List Nm.Prod} (h : Prods w pl L) (hs : Stay 3 w w') : Prods w' pl L := ⟨h.eq, fun p hp => (h.each p hp).stay hs⟩
theorem Prods.snoc {w : World} {pl : List (Nm.Prod × Value)} {L : List Nm.Prod} (h : Prods w pl L) {x : Nm.Prod} {v : Value} (hv : IntL w v x.right) : Prods w (pl ++ [(x, v)]) (L ++ [x]) :=
  ⟨by rw [List.map_append, h.eq]; rfl, fun p hp => by
    rcases List.mem_append.1 hp with h1 | h1
    · exact h.each p h1
    · simp at h1; subst h1; exact hv⟩
theorem Prods.len {w : World} {pl : List (Nm.Prod × Value)} {L : List Nm.Prod} (h : Prods w pl L) : pl.length = L.length := by rw [← h.eq, List.length_map]
theorem own_built3 (w : World) (cs : List Value) (e : TypeId) (n : Nat) (hl : cs.length = n * 3) (h : n ≤ maxLen) : (w.alloc (.cells cs.toArray e)).ownsRow w.heap.size e 3 (.slice (some ⟨w.heap.size, 0, none⟩) n n) n cs :=
  ⟨by rw [hl], .inr ⟨w.heap.size, n, cs.toArray, rfl, Nat.le_refl _, At.new w e cs.toArray, Nat.le_refl _, h, by simp [hl], by rw [← hl]; simp⟩⟩
theorem cells_at {w : World} {b : Nat} {t : TypeId} {cs : List Value} (h : At w b t cs.toArray) : ∀ j u, cs[j]? = some u → w.cell? ((⟨b, 0, none⟩ : Addr).add j) = some u := by
  intro j u hj
  rw [Go.WideShapes.add_plain, h.cell, Nat.zero_add, ← hj]; simp
/-- A block of another type stays while a row grows. -/
theorem At.aside {w w' : World} {B e size n g : Nat} {t : TypeId} {cs : Array Value} {v : Value} {xs : List Value} (ha : At w g t cs) (hg : w.grownBy w' v.ownBlock) (h : w.ownsRow B e size v n xs) (hne : t ≠ e) : At w' g t cs := ha.grown hg (Ne.symm (own_apart h ha hne))
theorem At.new2 (w : World) (ob : Obj) (t : TypeId) (cs : Array Value) : At ((w.alloc ob).alloc (.cells cs t)) (w.heap.size + 1) t cs := by
  have := At.new (w.alloc ob) t cs
  rwa [World.size_alloc] at this
theorem At.new3 (w : World) (ob : Obj) (t : TypeId) (cs : Array Value) : At (((w.alloc ob).drew).alloc (.cells cs t)) (w.heap.size + 1) t cs := by
  have := At.new ((w.alloc ob).drew) t cs
  have e : ((w.alloc ob).drew).heap.size = w.heap.size + 1 := by show (w.alloc ob).heap.size = _; simp
  rwa [e] at this
/-- What lies in memory while a rule and its action are put behind the others: the rows of rules and of actions, the rule at hand, the grammar's own. -/
structure Bun (wz Wx : World) (gx gr : Nat) (cx cr : Array Value) (vP : Value) (nP : Nat) (xP : List Value) (vA : Value) (nA : Nat) (xA : List Value) (cur : World) : Prop where
  px : cur.ownsRow wz.heap.size 86 3 vP nP xP
  ax : cur.ownsRow wz.heap.size 9 1 vA nA xA
  hx : At cur gx 86 cx
  hr : At cur gr 36 cr
  ne : vP.ownBlock ≠ some gx
  int : Stay 3 Wx cur
  bel : Below wz.heap.size wz cur
section
variable {wz Wx cur w' : World} {gx gr nP nA n' : Nat} {cx cr : Array Value} {vP vA v' : Value} {xP xA x' : List Value}
theorem Bun.alloc (h : Bun wz Wx gx gr cx cr vP nP xP vA nA xA cur) (o : Obj) : Bun wz Wx gx gr cx cr vP nP xP vA nA xA (cur.alloc o) :=
  ⟨h.px.alloc o, h.ax.alloc o, h.hx.alloc o, h.hr.alloc o, h.ne, h.int.trans (Stay.below ((Below.refl _ _).alloc (Nat.le_refl _) o)), h.bel.alloc h.bel.size o⟩
theorem Bun.drew (h : Bun wz Wx gx gr cx cr vP nP xP vA nA xA cur) : Bun wz Wx gx gr cx cr vP nP xP vA nA xA cur.drew := ⟨h.px, h.ax, h.hx, h.hr, h.ne, h.int, below_drew h.bel⟩
theorem Bun.putP (h : Bun wz Wx gx gr cx cr vP nP xP vA nA xA cur) (ho : w'.ownsRow wz.heap.size 86 3 v' n' x') (hg : cur.grownBy w' vP.ownBlock) (hn : SameOrNew cur vP v') : Bun wz Wx gx gr cx cr v' n' x' vA nA xA w' :=
  ⟨ho, own_stay h.ax (Stay.own h.px (by decide) hg), h.hx.grown hg (fun e => h.ne e.symm), h.hr.grown hg (fun e => own_apart h.px h.hr (by decide) e.symm), fun e => by
    rcases hn gx e with h1 | h1
    · exact h.ne h1
    · have := h.hx.lt; omega, h.int.trans (Stay.own h.px (by decide) hg), h.bel.grown hg h.bel.size (fun j hj => (own_lt h.px j hj).1)⟩
theorem Bun.putA (h : Bun wz Wx gx gr cx cr vP nP xP vA nA xA cur) (ho : w'.ownsRow wz.heap.size 9 1 v' n' x') (hg : cur.grownBy w' vA.ownBlock) : Bun wz Wx gx gr cx cr vP nP xP v' n' x' w' :=
  ⟨own_stay h.px (Stay.own h.ax (by decide) hg), ho, h.hx.grown hg (fun e => own_apart h.ax h.hx (by decide) e.symm), h.hr.grown hg (fun e => own_apart h.ax h.hr (by decide) e.symm), h.ne, h.int.trans (Stay.own h.ax (by decide) hg), h.bel.grown hg h.bel.size (fun j hj => (own_lt h.ax j hj).1)⟩
end
theorem intC_one {w : World} {B : Nat} {v : Value} {l : List Int} (h : IntC w B v l) : ∃ A c, v = .slice A l.length c := by obtain ⟨A, c, h1, _⟩ := h; exact ⟨A, c, h1⟩

set_option maxHeartbeats 16000000 in
theorem nrules_any (v : Value) (G : Rd.G) (A1 A2 A3 A4 A5 A6 : Option Addr) (c1 c2 n3 c3 c4 n5 c5 n6 c6 B : Nat) (w : World) (h : GramC w B v G) (j1 : Cl w B A1 (namesV (Nm.terms G))) (j2 : Cl w B A2 (namesV (Nm.vars G))) (j4 : Cl w B A4 (vals (Nm.levelsG G))) (hB : B ≤ w.heap.size)
    (hn1 : G.toks.length ≤ 1000) (hn4 : G.rules.length ≤ 1000) (hn3 : G.levels.length ≤ 1000) (hlv : ∀ v ∈ G.levels, v.names.length ≤ 140737488355328) (hrr : ∀ r ∈ G.rules, r.right.length ≤ 1000) :
    Calls Tryz.prog 52 #[v, .agg #[.slice A1 (Nm.terms G).length c1, .slice A2 (Nm.vars G).length c2, .slice A3 n3 c3, .slice A4 (Nm.levelsG G).length c4, .slice A5 n5 c5, .slice A6 n6 c6]] w fun e w' =>
      (∃ A c A' c', e = .returned (.tuple #[.slice A (G.rules.length + 1) c, .slice A' (G.rules.length + 1) c']) ∧ (∃ pl, Lie w' 86 A (prodsV pl) ∧ Prods w' pl (Nm.plan G).rules) ∧ Lie w' 9 A' (namesV (Nm.plan G).acts)) ∧ Below w.heap.size w w' := by
  have hvl : (Nm.vars G).length ≤ 1000 := Nat.le_trans (by have := Nm.varsOf_len (G.rules.map Rd.Rule.left); unfold Nm.vars; simpa using this) hn4
  have htl : (Nm.terms G).length ≤ 1001 := by unfold Nm.terms; simp; omega
  have hsym : SymC w B (.agg #[.slice A1 (Nm.terms G).length c1, .slice A2 (Nm.vars G).length c2, .slice A3 n3 c3, .slice A4 (Nm.levelsG G).length c4, .slice A5 n5 c5, .slice A6 n6 c6]) (Nm.terms G) (Nm.vars G) := ⟨A1, c1, A2, c2, A3, n3, c3, A4, _, c4, A5, n5, c5, A6, n6, c6, rfl, j1, j2⟩
  have hll : (Nm.levelsG G).length = (Nm.terms G).length := by unfold Nm.levelsG; simp
  have HAC := Lib.hid (fun (w' : World) (hw' : Below w.heap.size w w') => accept_any _ _ _ B w' (hsym.below (hw'.mono hB)) (by omega) (by omega))
  have HSY := Lib.hid (fun (n : Rd.Name) (w' : World) (hw' : Below w.heap.size w w') => sym_any _ _ _ n B w' (hsym.below (hw'.mono hB)) (Nat.le_trans hB hw'.size) (by omega) (by omega))
  have HNU := Lib.hid (fun (l : List Rd.Name) (A : Option Addr) (cap : Nat) (hl1 : l.length ≤ 1000) (w' : World) (hl : Cl w' B A (namesV l)) (hw' : Below w.heap.size w w') => numbers_any _ _ _ l A cap B w' (hsym.below (hw'.mono hB)) hl (Nat.le_trans hB hw'.size) (by omega) (by omega) hl1)
  have HLA := Lib.hid (fun (R : List Int) (A : Option Addr) (cap : Nat) (hR1 : R.length ≤ 1000) (w' : World) (hR : Cl w' w'.heap.size A (vals R)) (hw' : Below w.heap.size w w') => last_any (Nm.terms G) (Nm.vars G) (Nm.levelsG G) R A1 A2 A3 A4 A5 A6 A c1 c2 n3 c3 c4 n5 c5 n6 c6 cap w'.heap.size w' ((j1.below (hw'.mono hB)).mono (Nat.le_trans hB hw'.size)) ((j2.below (hw'.mono hB)).mono (Nat.le_trans hB hw'.size)) ((j4.below (hw'.mono hB)).mono (Nat.le_trans hB hw'.size)) hR (Nat.le_refl _) hll (by omega) (by omega) (by omega))
  have HLV := Lib.hid (show ∀ (n : Rd.Name) (w' : World), Below w.heap.size w w' → Calls Tryz.prog 80 #[v, .string (str n)] w' fun e w'' => e = .returned (.int .i64 (Nm.level G n)) ∧ Below w'.heap.size w' w'' from
    fun n w' hw' => nlevel_any v G n B w' (h.below (hw'.mono hB)) (Nat.le_trans hB hw'.size) (by omega) hlv)
  obtain ⟨E1, d1, E2, d2, E3, d3, E4, d4, ql, rfl, k1, k3, k4, k5, k6⟩ := h.parts
  have hru : RulsC w B E4 G.rules := ⟨ql, k4, k5, k6⟩
  obtain ⟨i0, hi, hz0, hz1, hz2⟩ := info_parts strinfo
  obtain ⟨i1, hi1, hy0, hy1, hy2⟩ := info_parts infoProd
  obtain ⟨ST, hST⟩ : ∃ S, str G.start = S := ⟨_, rfl⟩
  obtain ⟨N, hN⟩ : ∃ n, G.rules.length = n := ⟨_, rfl⟩
  rw [hN] at hn4 HLV ⊢
  rw [hST] at HLV ⊢
  generalize G.toks.length = m1 at HLV hn1 ⊢
  generalize G.skips.length = m2 at HLV ⊢
  generalize G.levels.length = m3 at HLV hn3 ⊢
  have HN := Lib.hid hN
  have HST := Lib.hid hST
  have HRR := Lib.hid hrr
  have HR := Lib.hid hru
  obtain ⟨AC, hAC⟩ : ∃ a : Int, ((Nm.terms G).length : Int) + ((Nm.vars G).length : Int) = a := ⟨_, rfl⟩
  rw [hAC] at HAC
  have HACC := Lib.hid (show Nm.acceptG G = AC from hAC)
  have HSS := Lib.hid (HSY.out G.start)
  rw [hST] at HSS
  obtain ⟨SS, hSS⟩ : ∃ a : Int, Nm.sym (Nm.terms G) (Nm.vars G) G.start = a := ⟨_, rfl⟩
  rw [hSS] at HSS
  have HSSE := Lib.hid (show Nm.symG G G.start = SS from hSS)
  generalize (Nm.terms G).length = t1 at HAC HSY HNU HLA HSS ⊢
  generalize (Nm.vars G).length = t2 at HAC HSY HNU HLA HSS ⊢
  generalize (Nm.levelsG G).length = t4 at HAC HSY HNU HLA HSS ⊢
  have hgg := At.new w 27 #[.slice E1 m1 d1, .slice E2 m2 d2, .slice E3 m3 d3, .string ST, .slice E4 N d4]
  have b1 := (Below.refl w.heap.size w).alloc (Nat.le_refl _) (.cells #[.slice E1 m1 d1, .slice E2 m2 d2, .slice E3 m3 d3, .string ST, .slice E4 N d4] 27)
  obtain ⟨w1, hw1⟩ : ∃ w1, w.alloc (.cells #[.slice E1 m1 d1, .slice E2 m2 d2, .slice E3 m3 d3, .string ST, .slice E4 N d4] 27) = w1 := ⟨_, rfl⟩
  have hs1 : w1.heap.size = w.heap.size + 1 := by rw [← hw1]; simp
  rw [hw1] at hgg b1
  have hgp := At.new w1 45 #[.slice A1 t1 c1, .slice A2 t2 c2, .slice A3 n3 c3, .slice A4 t4 c4, .slice A5 n5 c5, .slice A6 n6 c6]
  have hgg2 := hgg.alloc (.cells #[.slice A1 t1 c1, .slice A2 t2 c2, .slice A3 n3 c3, .slice A4 t4 c4, .slice A5 n5 c5, .slice A6 n6 c6] 45)
  have b2 := b1.alloc b1.size (.cells #[.slice A1 t1 c1, .slice A2 t2 c2, .slice A3 n3 c3, .slice A4 t4 c4, .slice A5 n5 c5, .slice A6 n6 c6] 45)
  obtain ⟨W0, hW0⟩ : ∃ W0, w1.alloc (.cells #[.slice A1 t1 c1, .slice A2 t2 c2, .slice A3 n3 c3, .slice A4 t4 c4, .slice A5 n5 c5, .slice A6 n6 c6] 45) = W0 := ⟨_, rfl⟩
  rw [hW0] at hgp hgg2 b2
  have HWW := Lib.hid (show (w.alloc (.cells #[.slice E1 m1 d1, .slice E2 m2 d2, .slice E3 m3 d3, .string ST, .slice E4 N d4] 27)).alloc (.cells #[.slice A1 t1 c1, .slice A2 t2 c2, .slice A3 n3 c3, .slice A4 t4 c4, .slice A5 n5 c5, .slice A6 n6 c6] 45) = W0 by rw [hw1, hW0])
  obtain ⟨g0, hg0⟩ : ∃ g, w.heap.size = g := ⟨_, rfl⟩
  obtain ⟨g1, hg1⟩ : ∃ g, g0 + 1 = g := ⟨_, rfl⟩
  rw [hs1] at hgp
  rw [hg0] at hgp hgg2
  rw [hg1] at hgp
  have HGG := Lib.hid hgg2
  have HGP := Lib.hid hgp
  have HB0 := Lib.hid b2
  have HG := Lib.hid (show w.heap.size = g0 ∧ g0 + 1 = g1 from ⟨hg0, hg1⟩)
  have KEEP := Lib.hid (show ∀ w', Below W0.heap.size W0 w' → (w'.cell? ⟨g1, 0, none⟩ = some (.slice A1 t1 c1) ∧ w'.cell? ⟨g1, 1, none⟩ = some (.slice A2 t2 c2) ∧ w'.cell? ⟨g1, 2, none⟩ = some (.slice A3 n3 c3) ∧ w'.cell? ⟨g1, 3, none⟩ = some (.slice A4 t4 c4) ∧ w'.cell? ⟨g1, 4, none⟩ = some (.slice A5 n5 c5) ∧ w'.cell? ⟨g1, 5, none⟩ = some (.slice A6 n6 c6) ∧ w'.cell? ⟨g0, 3, none⟩ = some (.string ST)) from fun w' hb =>
    ⟨(hgp.below hb hgp.lt).cell 0, (hgp.below hb hgp.lt).cell 1, (hgp.below hb hgp.lt).cell 2, (hgp.below hb hgp.lt).cell 3, (hgp.below hb hgp.lt).cell 4, (hgp.below hb hgp.lt).cell 5, (hgg2.below hb hgg2.lt).cell 3⟩)
  clear h j1 j2 j4 hsym k1 k3 k4 k5 k6 hru hN hST hgg hgg2 hgp b1 b2 hw1 hW0 hs1 hg0 hg1 hlv hrr hAC hSS hll htl hvl
  go_enter Tryz.func52, Tryz.ntmps52
  go_wp2_with fail
  rw [HWW.out]
  obtain ⟨hg0, hg1⟩ := HG.out
  rw [hg0, hg1]
  clear hg0 hg1
  have HCUR := Lib.hid (Below.refl W0.heap.size W0)
  have hkk := KEEP.out W0 HCUR.out
  obtain ⟨y1, y2, y3, y4, y5, y6, y7⟩ := id hkk
  go_region_held3 (fun w' => w'.cell? ⟨g1, 0, none⟩ = some (.slice A1 t1 c1) ∧ w'.cell? ⟨g1, 1, none⟩ = some (.slice A2 t2 c2) ∧ w'.cell? ⟨g1, 2, none⟩ = some (.slice A3 n3 c3) ∧ w'.cell? ⟨g1, 3, none⟩ = some (.slice A4 t4 c4) ∧ w'.cell? ⟨g1, 4, none⟩ = some (.slice A5 n5 c5) ∧ w'.cell? ⟨g1, 5, none⟩ = some (.slice A6 n6 c6) ∧ w'.cell? ⟨g0, 3, none⟩ = some (.string ST)) (first | exact hkk | exact KEEP.out _ HCUR.out | exact KEEP.out _ (below_drew HCUR.out) | exact KEEP.out _ (HCUR.out.alloc HCUR.out.size _) | exact KEEP.out _ ((HCUR.out.alloc HCUR.out.size _).alloc (Nat.le_trans HCUR.out.size (by simp)) _) | exact KEEP.out _ (below_drew (HCUR.out.alloc HCUR.out.size _)) | exact KEEP.out _ ((below_drew HCUR.out).alloc HCUR.out.size _)) (first
    | (go_at_call 47
       (first
         | (refine Calls.mono (HAC.out _ (HB0.out.trans (HCUR.out.mono HB0.out.size))) ?_
            rintro e wz ⟨rfl, hbz⟩
            have HCUR2 := Lib.hid (HCUR.out.trans (hbz.mono HCUR.out.size)))
         | (refine Calls.mono (HAC.out _ (HB0.out.trans ((below_drew HCUR.out).mono HB0.out.size))) ?_
            rintro e wz ⟨rfl, hbz⟩
            have HCUR2 := Lib.hid ((below_drew HCUR.out).trans (hbz.mono (below_drew HCUR.out).size))))
       have hkk := KEEP.out _ HCUR2.out
       clear HCUR hbz
       have HCUR := HCUR2
       clear HCUR2)
    | (go_at_call 46
       (first
         | (refine Calls.mono (HSS.out _ (HB0.out.trans (HCUR.out.mono HB0.out.size))) ?_
            rintro e wz ⟨rfl, hbz⟩
            have HCUR2 := Lib.hid (HCUR.out.trans (hbz.mono HCUR.out.size)))
         | (refine Calls.mono (HSS.out _ (HB0.out.trans ((below_drew HCUR.out).mono HB0.out.size))) ?_
            rintro e wz ⟨rfl, hbz⟩
            have HCUR2 := Lib.hid ((below_drew HCUR.out).trans (hbz.mono (below_drew HCUR.out).size))))
       have hkk := KEEP.out _ HCUR2.out
       clear HCUR hbz
       have HCUR := HCUR2
       clear HCUR2))
  have hrow0 := (own_built wz [.int .i64 SS] 3 (by unfold maxLen; simp))
  obtain ⟨wa, hwa⟩ : ∃ wa, wz.alloc (.cells #[.int .i64 SS] 3) = wa := ⟨_, rfl⟩
  rw [show (.cells [Value.int .i64 SS].toArray 3 : Obj) = .cells #[.int .i64 SS] 3 from rfl, hwa] at hrow0
  have hsa : wa.heap.size = wz.heap.size + 1 := by rw [← hwa]; simp
  have hba := (Below.refl wz.heap.size wz).alloc (Nat.le_refl _) (.cells #[.int .i64 SS] 3)
  rw [hwa] at hba
  have hrow1 := own_built3 wa [.int .i64 AC, .slice (some ⟨wz.heap.size, 0, none⟩) 1 1, .int .i64 0] 86 1 rfl (by decide)
  have hli := (Lie.own hrow0).alloc (.cells #[.int .i64 AC, .slice (some ⟨wz.heap.size, 0, none⟩) 1 1, .int .i64 0] 86)
  have hbb := hba.alloc hba.size (.cells #[.int .i64 AC, .slice (some ⟨wz.heap.size, 0, none⟩) 1 1, .int .i64 0] 86)
  obtain ⟨wb, hwb⟩ : ∃ wb, wa.alloc (.cells #[.int .i64 AC, .slice (some ⟨wz.heap.size, 0, none⟩) 1 1, .int .i64 0] 86) = wb := ⟨_, rfl⟩
  have hsb : wb.heap.size = wz.heap.size + 1 + 1 := by rw [← hwb]; simp [hsa]
  rw [show (.cells [Value.int .i64 AC, .slice (some ⟨wz.heap.size, 0, none⟩) 1 1, .int .i64 0].toArray 86 : Obj) = .cells #[.int .i64 AC, .slice (some ⟨wz.heap.size, 0, none⟩) 1 1, .int .i64 0] 86 from rfl, hwb] at hrow1
  rw [hwb] at hli hbb
  rw [hsa] at hrow1
  have hrow2 := own_built wb [.string ⟨#[]⟩] 9 (by decide)
  have hrow3 := hrow1.alloc (.cells #[.string ⟨#[]⟩] 9)
  have hli2 := hli.alloc (.cells #[.string ⟨#[]⟩] 9)
  have hbc := hbb.alloc hbb.size (.cells #[.string ⟨#[]⟩] 9)
  obtain ⟨wc, hwc⟩ : ∃ wc, wb.alloc (.cells #[.string ⟨#[]⟩] 9) = wc := ⟨_, rfl⟩
  rw [show (.cells [Value.string ⟨#[]⟩].toArray 9 : Obj) = .cells #[.string ⟨#[]⟩] 9 from rfl, hwc] at hrow2
  rw [hwc] at hrow3 hli2 hbc
  rw [hsb] at hrow2
  have HWC := Lib.hid (show ((wz.alloc (.cells #[.int .i64 SS] 3)).alloc (.cells #[.int .i64 AC, .slice (some ⟨wz.heap.size, 0, none⟩) 1 1, .int .i64 0] 86)).alloc (.cells #[.string ⟨#[]⟩] 9) = wc by rw [hwa, hwb, hwc])
  have HROWP := Lib.hid (own_base hrow3 (B' := wz.heap.size) (by omega))
  have HROWA := Lib.hid (own_base hrow2 (B' := wz.heap.size) (by omega))
  have HBC := Lib.hid hbc
  have HPR := Lib.hid (show Prods wc [(⟨AC, [SS], 0⟩, .slice (some ⟨wz.heap.size, 0, none⟩) 1 1)] ((Nm.plan G).rules.take 1) from ⟨by
    show [_] = [_]
    rw [← HACC.out, ← HSSE.out], fun p hp => by
    simp at hp; subst hp
    exact ⟨_, 1, rfl, hli2⟩⟩)
  have HGGZ := Lib.hid (HGG.out.below HCUR.out HGG.out.lt)
  have HGPZ := Lib.hid (HGP.out.below HCUR.out HGP.out.lt)
  have HBZ := Lib.hid (HB0.out.trans (HCUR.out.mono HB0.out.size))
  have z4 : ∀ o1 o2 o3, (((wz.alloc o1).alloc o2).alloc o3).cell? ⟨g0, 4, none⟩ = some (.slice E4 N d4) := fun o1 o2 o3 => (((HGGZ.out.alloc o1).alloc o2).alloc o3).cell 4
  clear hrow0 hwa hsa hba hrow1 hli hbb hwb hsb hrow2 hrow3 hli2 hbc hwc y1 y2 y3 y4 y5 y6 y7 hkk
  go_wp2_with fail
  rw [HWC.out]
  clear z4
  have HPT := Lib.hid (show ∀ k x, G.rules[k]? = some x → (Nm.plan G).rules.take (k + 1 + 1) = (Nm.plan G).rules.take (k + 1) ++ [Nm.prod G x] from fun k x hx => by
    rw [List.take_add_one (i := k + 1)]
    have : (Nm.plan G).rules[k + 1]? = some (Nm.prod G x) := by unfold Nm.plan; simp [hx]
    rw [this]; rfl)
  have HAT := Lib.hid (show ∀ k x, G.rules[k]? = some x → namesV ((Nm.plan G).acts.take (k + 1 + 1)) = namesV ((Nm.plan G).acts.take (k + 1)) ++ [.string (str x.action)] from fun k x hx => by
    rw [List.take_add_one (i := k + 1)]
    have : (Nm.plan G).acts[k + 1]? = some x.action := by unfold Nm.plan; simp [hx]
    rw [this]; simp [namesV])
  have HPL := Lib.hid (show (Nm.plan G).rules.take (N + 1) = (Nm.plan G).rules by unfold Nm.plan; simp only [List.take_succ_cons]; rw [← HN.out, ← List.length_map (f := Nm.prod G), List.take_length])
  have HAL := Lib.hid (show (Nm.plan G).acts.take (N + 1) = (Nm.plan G).acts by unfold Nm.plan; simp only [List.take_succ_cons]; rw [← HN.out, ← List.length_map (f := Rd.Rule.action), List.take_length])
  have HA0 := Lib.hid (show (Nm.plan G).acts.take 1 = [[]] from rfl)
  obtain ⟨PR, hPRE⟩ : ∃ x, (Nm.plan G).rules = x := ⟨_, rfl⟩
  obtain ⟨PA, hPAE⟩ : ∃ x, (Nm.plan G).acts = x := ⟨_, rfl⟩
  rw [hPRE] at HPR HPT HPL
  rw [hPAE] at HAT HAL HA0
  have HPRE := Lib.hid hPRE
  have HPAE := Lib.hid hPAE
  clear hPRE hPAE
  clear HACC HSSE HAC HSS KEEP HCUR HWC HWW
  go_loopw [6, 7, 25] (fun v6 v7 i wr => ∃ (k : Nat) (a : Option Addr) (s : Nat) (a' : Option Addr) (s' : Nat) (pl : List (Nm.Prod × Value)), k ≤ N ∧ i = .int .i64 (k : Int) ∧ v6 = .slice a (k + 1) s ∧ v7 = .slice a' (k + 1) s' ∧ Prods wr pl (PR.take (k + 1)) ∧ wr.ownsRow wz.heap.size 86 3 (.slice a (k + 1) s) (k + 1) (prodsV pl) ∧ wr.ownsRow wz.heap.size 9 1 (.slice a' (k + 1) s') (k + 1) (namesV (PA.take (k + 1))) ∧ Below wz.heap.size wz wr) (fun _ _ i _ => N - (intOf i).toNat)
  case atStart => exact ⟨0, _, _, _, _, _, by omega, rfl, rfl, rfl, HPR.out, HROWP.out, by rw [HA0.out]; exact HROWA.out, HBC.out⟩
  case round =>
    clear HPR HROWP HROWA HBC HA0
    obtain ⟨k, a, s, a', s', pl, hk, rfl, rfl, rfl, hpr, hop, hoa, hb⟩ := hrel
    have HPR := Lib.hid hpr
    have HOP := Lib.hid hop
    have HOA := Lib.hid hoa
    have HBR := Lib.hid hb
    have HBW := Lib.hid (HBZ.out.trans (hb.mono HBZ.out.size))
    have HGPR := Lib.hid (HGPZ.out.below hb HGPZ.out.lt)
    have HGGR := Lib.hid (HGGZ.out.below hb HGGZ.out.lt)
    clear hpr hop hoa hb
    by_cases hlt : k < N
    · obtain ⟨x, ht⟩ := some_get (l := G.rules) (i := k) (by rw [HN.out]; exact hlt)
      obtain ⟨b, o, R', rc, hA, hbl, y0, y1, y2, y3, hcl⟩ := (HR.out.below (HBW.out.mono hB)).get ht
      subst hA
      have hxr := HRR.out x (List.mem_of_getElem? ht)
      have HPT1 := Lib.hid (HPT.out k x ht)
      have HAT1 := Lib.hid (HAT.out k x ht)
      have hatr := At.new wr 36 #[.string (str x.left), .slice R' x.right.length rc, .string (str x.prec), .string (str x.action)]
      have hba := (Below.refl wr.heap.size wr).alloc (Nat.le_refl _) (.cells #[.string (str x.left), .slice R' x.right.length rc, .string (str x.prec), .string (str x.action)] 36)
      have hpe := isEmpty_dec x.prec
      have HSL := Lib.hid (HSY.out x.left)
      have HLP := Lib.hid (HLV.out x.prec)
      obtain ⟨m, hm⟩ : ∃ m, x.right.length = m := ⟨_, rfl⟩
      rw [hm] at y1 hatr hba
      have HM := Lib.hid hm
      generalize hX0 : str x.left = X0 at y0 hatr hba HSL
      generalize hX2 : str x.prec = X2 at y2 hatr hba HLP hpe
      generalize hX3 : str x.action = X3 at y3 hatr hba HAT1
      obtain ⟨W2, hW2⟩ : ∃ W2, wr.alloc (.cells #[.string X0, .slice R' m rc, .string X2, .string X3] 36) = W2 := ⟨_, rfl⟩
      have hcl2 := hcl.below (hba.mono (Nat.le_trans hB HBW.out.size))
      rw [hW2] at hatr hba hcl2
      have HW2 := Lib.hid hW2
      have HCL := Lib.hid hcl2
      obtain ⟨gr, hgr⟩ : ∃ gr, wr.heap.size = gr := ⟨_, rfl⟩
      rw [hgr] at hatr
      have HGR := Lib.hid hgr
      have HATR := Lib.hid hatr
      have HBA := Lib.hid hba
      have HBW2 := Lib.hid (HBW.out.trans (hba.mono HBW.out.size))
      have HNR := Lib.hid (HNU.out x.right R' rc hxr W2 hcl2 HBW2.out)
      rw [hm] at HNR
      have hki : (k : Int) < (N : Int) := by omega
      have hk0 : (0 : Int) ≤ (k : Int) := by omega
      have hgp2 := HGPR.out.below hba HGPR.out.lt
      have p0 := hgp2.cell 0
      have p1 := hgp2.cell 1
      have p2 := hgp2.cell 2
      have p3 := hgp2.cell 3
      have p4 := hgp2.cell 4
      have p5 := hgp2.cell 5
      simp only [List.getElem?_toArray, List.getElem?_cons_zero, List.getElem?_cons_succ] at p0 p1 p2 p3 p4 p5
      rw [← hW2] at p0 p1 p2 p3 p4 p5
      clear ht hm hX0 hX2 hX3 hatr hba hcl hcl2 hgp2 hgr hW2
      go_wp2_with fail
      rw [HW2.out]
      clear p0 p1 p2 p3 p4 p5
      refine HNR.out.mono ?_
      rintro e w5 ⟨⟨R5, rc5, rfl, hli5⟩, hb5⟩
      rw [HGR.out]
      clear y0 y1 y2 y3
      have HB5 := Lib.hid hb5
      have HLI5 := Lib.hid hli5
      have HW5 := Lib.hid (HBA.out.trans (hb5.mono HBA.out.size))
      have HBW5 := Lib.hid (HBW2.out.trans (hb5.mono HBW2.out.size))
      have HATR5 := Lib.hid (HATR.out.below hb5 HATR.out.lt)
      have HGP5 := Lib.hid (HGPR.out.below HW5.out HGPR.out.lt)
      have HGG5 := Lib.hid (HGGR.out.below HW5.out HGGR.out.lt)
      have HLS := Lib.hid (show ∀ w', Below w5.heap.size w5 w' → _ from fun w' hw' => HLA.out (x.right.map (Nm.sym (Nm.terms G) (Nm.vars G))) R5 rc5 (by rw [List.length_map]; exact hxr) w' (hli5.below hw').cl (HBW5.out.trans (hw'.mono HBW5.out.size)))
      rw [List.length_map, HM.out] at HLS
      have HLNR := Lib.hid (show (x.right.map (Nm.sym (Nm.terms G) (Nm.vars G))).length = m by rw [List.length_map, HM.out])
      have KEEP := Lib.hid (show ∀ w', Below w5.heap.size w5 w' → (w'.cell? ⟨g1, 0, none⟩ = some (.slice A1 t1 c1) ∧ w'.cell? ⟨g1, 1, none⟩ = some (.slice A2 t2 c2) ∧ w'.cell? ⟨g1, 2, none⟩ = some (.slice A3 n3 c3) ∧ w'.cell? ⟨g1, 3, none⟩ = some (.slice A4 t4 c4) ∧ w'.cell? ⟨g1, 4, none⟩ = some (.slice A5 n5 c5) ∧ w'.cell? ⟨g1, 5, none⟩ = some (.slice A6 n6 c6) ∧ w'.cell? ⟨gr, 0, none⟩ = some (.string X0)) from fun w' hb =>
        ⟨(HGP5.out.below hb HGP5.out.lt).cell 0, (HGP5.out.below hb HGP5.out.lt).cell 1, (HGP5.out.below hb HGP5.out.lt).cell 2, (HGP5.out.below hb HGP5.out.lt).cell 3, (HGP5.out.below hb HGP5.out.lt).cell 4, (HGP5.out.below hb HGP5.out.lt).cell 5, (HATR5.out.below hb HATR5.out.lt).cell 0⟩)
      have HSV := Lib.hid (show Nm.prod G x = ⟨Nm.sym (Nm.terms G) (Nm.vars G) x.left, x.right.map (Nm.sym (Nm.terms G) (Nm.vars G)), if x.prec = [] then Nm.lastL (Nm.levelsG G) (x.right.map (Nm.sym (Nm.terms G) (Nm.vars G))) else Nm.level G x.prec⟩ from rfl)
      generalize x.right.map (Nm.sym (Nm.terms G) (Nm.vars G)) = RR at HLS HLI5 HSV HLNR hli5
      generalize Nm.lastL (Nm.levelsG G) RR = LL at HLS HSV
      generalize Nm.sym (Nm.terms G) (Nm.vars G) x.left = SL at HSL HSV
      have HCUR := Lib.hid (Below.refl w5.heap.size w5)
      have hkk := KEEP.out w5 HCUR.out
      obtain ⟨y1, y2, y3, y4, y5, y6, y7⟩ := id hkk
      clear hli5 hb5
      go_wp2_with fail
      go_cut [11] (fun s11 wx => ∃ gx, s11 = .pointer (some ⟨gx, 0, none⟩) ∧ At wx gx 86 #[.int .i64 SL, .slice R5 m rc5, .int .i64 LL] ∧ Below w5.heap.size w5 wx ∧ w5.heap.size ≤ gx)
      case first =>
        go_region_held3 (fun w' => w'.cell? ⟨g1, 0, none⟩ = some (.slice A1 t1 c1) ∧ w'.cell? ⟨g1, 1, none⟩ = some (.slice A2 t2 c2) ∧ w'.cell? ⟨g1, 2, none⟩ = some (.slice A3 n3 c3) ∧ w'.cell? ⟨g1, 3, none⟩ = some (.slice A4 t4 c4) ∧ w'.cell? ⟨g1, 4, none⟩ = some (.slice A5 n5 c5) ∧ w'.cell? ⟨g1, 5, none⟩ = some (.slice A6 n6 c6) ∧ w'.cell? ⟨gr, 0, none⟩ = some (.string X0)) (first | exact hkk | exact KEEP.out _ HCUR.out | exact KEEP.out _ (below_drew HCUR.out) | exact KEEP.out _ (HCUR.out.alloc HCUR.out.size _) | exact KEEP.out _ (below_drew (HCUR.out.alloc HCUR.out.size _)) | exact KEEP.out _ (((HCUR.out.setCell (p := ⟨_, 0, none⟩) hgle _).setCell (p := ⟨_, 1, none⟩) hgle _).setCell (p := ⟨_, 2, none⟩) hgle _) | exact KEEP.out _ ((below_drew HCUR.out).alloc HCUR.out.size _)) (first
        | (go_at_call 46
           (first
             | (refine Calls.mono (HSL.out _ (HBW5.out.trans ((HCUR.out).mono HBW5.out.size))) ?_
                rintro e wq ⟨rfl, hbz⟩
                have HCUR2 := Lib.hid ((HCUR.out).trans (hbz.mono (HCUR.out).size)))
             | (refine Calls.mono (HSL.out _ (HBW5.out.trans ((below_drew HCUR.out).mono HBW5.out.size))) ?_
                rintro e wq ⟨rfl, hbz⟩
                have HCUR2 := Lib.hid ((below_drew HCUR.out).trans (hbz.mono (below_drew HCUR.out).size)))
             | (refine Calls.mono (HSL.out _ (HBW5.out.trans ((HCUR.out.alloc HCUR.out.size _).mono HBW5.out.size))) ?_
                rintro e wq ⟨rfl, hbz⟩
                have HCUR2 := Lib.hid ((HCUR.out.alloc HCUR.out.size _).trans (hbz.mono (HCUR.out.alloc HCUR.out.size _).size)))
             | (refine Calls.mono (HSL.out _ (HBW5.out.trans ((below_drew (HCUR.out.alloc HCUR.out.size _)).mono HBW5.out.size))) ?_
                rintro e wq ⟨rfl, hbz⟩
                have HCUR2 := Lib.hid ((below_drew (HCUR.out.alloc HCUR.out.size _)).trans (hbz.mono (below_drew (HCUR.out.alloc HCUR.out.size _)).size)))
             | (refine Calls.mono (HSL.out _ (HBW5.out.trans (((below_drew HCUR.out).alloc HCUR.out.size _).mono HBW5.out.size))) ?_
                rintro e wq ⟨rfl, hbz⟩
                have HCUR2 := Lib.hid (((below_drew HCUR.out).alloc HCUR.out.size _).trans (hbz.mono ((below_drew HCUR.out).alloc HCUR.out.size _).size))))
           (first
             | (have hxz3 := hxz.below hbz hxz.lt
                clear hxz
                have hxz := hxz3
                clear hxz3)
             | (have hxz := (At.new _ 86 #[.int .i64 0, .slice none 0 0, .int .i64 0]).below hbz (by simp)
                have hgle := HCUR.out.size)
             | (have hxz := (At.drew (At.new _ 86 #[.int .i64 0, .slice none 0 0, .int .i64 0])).below hbz (by simp)
                have hgle := HCUR.out.size)
             | skip)
           (try clear xq0 xq1 xq2 xqf xql)
           (try (have xq0 := hxz.cell 0
                 have xq1 := hxz.cell 1
                 have xq2 := hxz.cell 2
                 have xqf := hxz.frozen
                 have xql := hxz.lt
                 simp only [List.getElem?_toArray, List.getElem?_cons_zero, List.getElem?_cons_succ] at xq0 xq1 xq2))
           have hkk := KEEP.out _ HCUR2.out
           clear HCUR hbz
           have HCUR := HCUR2
           clear HCUR2)
        | (go_at_call 82
           (first
             | (refine Calls.mono (HLS.out _ ((HCUR.out))) ?_
                rintro e wq ⟨rfl, hbz⟩
                have HCUR2 := Lib.hid ((HCUR.out).trans (hbz.mono (HCUR.out).size)))
             | (refine Calls.mono (HLS.out _ ((below_drew HCUR.out))) ?_
                rintro e wq ⟨rfl, hbz⟩
                have HCUR2 := Lib.hid ((below_drew HCUR.out).trans (hbz.mono (below_drew HCUR.out).size)))
             | (refine Calls.mono (HLS.out _ ((HCUR.out.alloc HCUR.out.size _))) ?_
                rintro e wq ⟨rfl, hbz⟩
                have HCUR2 := Lib.hid ((HCUR.out.alloc HCUR.out.size _).trans (hbz.mono (HCUR.out.alloc HCUR.out.size _).size)))
             | (refine Calls.mono (HLS.out _ ((below_drew (HCUR.out.alloc HCUR.out.size _)))) ?_
                rintro e wq ⟨rfl, hbz⟩
                have HCUR2 := Lib.hid ((below_drew (HCUR.out.alloc HCUR.out.size _)).trans (hbz.mono (below_drew (HCUR.out.alloc HCUR.out.size _)).size)))
             | (refine Calls.mono (HLS.out _ (((below_drew HCUR.out).alloc HCUR.out.size _))) ?_
                rintro e wq ⟨rfl, hbz⟩
                have HCUR2 := Lib.hid (((below_drew HCUR.out).alloc HCUR.out.size _).trans (hbz.mono ((below_drew HCUR.out).alloc HCUR.out.size _).size))))
           (first
             | (have hxz3 := hxz.below hbz hxz.lt
                clear hxz
                have hxz := hxz3
                clear hxz3)
             | (have hxz := (At.new _ 86 #[.int .i64 0, .slice none 0 0, .int .i64 0]).below hbz (by simp)
                have hgle := HCUR.out.size)
             | (have hxz := (At.drew (At.new _ 86 #[.int .i64 0, .slice none 0 0, .int .i64 0])).below hbz (by simp)
                have hgle := HCUR.out.size)
             | skip)
           (try clear xq0 xq1 xq2 xqf xql)
           (try (have xq0 := hxz.cell 0
                 have xq1 := hxz.cell 1
                 have xq2 := hxz.cell 2
                 have xqf := hxz.frozen
                 have xql := hxz.lt
                 simp only [List.getElem?_toArray, List.getElem?_cons_zero, List.getElem?_cons_succ] at xq0 xq1 xq2))
           have hkk := KEEP.out _ HCUR2.out
           clear HCUR hbz
           have HCUR := HCUR2
           clear HCUR2))
        all_goals (try go_wp2_with fail)
        all_goals go_meet
        all_goals (first
          | exact ⟨_, rfl, At.new _ _ _, HCUR.out.alloc HCUR.out.size _, HCUR.out.size⟩
          | exact ⟨_, rfl, hxz.three _ _ _, ((HCUR.out.setCell (p := ⟨_, 0, none⟩) hgle _).setCell (p := ⟨_, 1, none⟩) hgle _).setCell (p := ⟨_, 2, none⟩) hgle _, hgle⟩)
      case rest =>
        obtain ⟨gx, rfl, hatx, hbx, hgx⟩ := hcut
        have HATX := Lib.hid hatx
        have HBX := Lib.hid hbx
        have HATRX := Lib.hid (HATR5.out.below hbx HATR5.out.lt)
        have HGGX := Lib.hid (HGG5.out.below hbx HGG5.out.lt)
        clear y1 y2 y3 y4 y5 y6 y7 hkk HCUR KEEP hatx hbx
        obtain ⟨LV, hLV⟩ : ∃ LV, (if x.prec = [] then LL else Nm.level G x.prec) = LV := ⟨_, rfl⟩
        rw [hLV] at HSV
        have r2 := HATRX.out.cell 2
        simp only [List.getElem?_toArray, List.getElem?_cons_zero, List.getElem?_cons_succ] at r2
        by_cases hpn : x.prec = []
        · rw [if_pos hpn] at hLV
          rw [decide_eq_true hpn] at hpe
          rw [hLV] at HATX
          clear hpn hLV
          go_wp2_with fail
          obtain ⟨Wx, hWx⟩ : ∃ Wx, wc = Wx := ⟨_, rfl⟩
          rw [hWx] at HATX HBX HATRX HGGX ⊢
          have HWX := Lib.hid (HW5.out.trans (HBX.out.mono HW5.out.size))
          clear hWx r2
          have HBUN := Lib.hid (show Bun wz Wx gx gr #[.int .i64 SL, .slice R5 m rc5, .int .i64 LV] #[.string X0, .slice R' m rc, .string X2, .string X3] (.slice a (k + 1) s) (k + 1) (prodsV pl) (.slice a' (k + 1) s') (k + 1) (namesV (PA.take (k + 1))) Wx from
            ⟨own_stay HOP.out (Stay.below HWX.out), own_stay HOA.out (Stay.below HWX.out), HATX.out, HATRX.out, fun e => by
              have h1 := (own_lt HOP.out gx e).2
              have h2 := HW5.out.size
              omega, Stay.refl _ _, HBR.out.trans (HWX.out.mono HBR.out.size)⟩)
          have HPRX := Lib.hid (HPR.out.stay (Stay.below HWX.out))
          have HLIX := Lib.hid (HLI5.out.below HBX.out)
          have HCUR := HBUN
          have hc3 : k + 1 + 1 ≤ maxLen := by unfold maxLen; omega
          have hc4 : (k + 1 + 1) * 40 ≤ 140737488355328 := by omega
          have hc5 : (k + 1 + 1) * 16 ≤ 140737488355328 := by omega
          have NEA : (9 : TypeId) ≠ 86 := by decide
          have NEP : (86 : TypeId) ≠ 9 := by decide
          have hkk : Wx.cell? ⟨gx, 0, none⟩ = some (.int .i64 SL) ∧ Wx.cell? ⟨gx, 1, none⟩ = some (.slice R5 m rc5) ∧ Wx.cell? ⟨gx, 2, none⟩ = some (.int .i64 LV) ∧ Wx.cell? ⟨gr, 3, none⟩ = some (.string X3) := ⟨HATX.out.cell 0, HATX.out.cell 1, HATX.out.cell 2, HATRX.out.cell 3⟩
          have KEEP := Lib.hid (show ∀ vP nP xP vA nA xA w', Bun wz Wx gx gr #[.int .i64 SL, .slice R5 m rc5, .int .i64 LV] #[.string X0, .slice R' m rc, .string X2, .string X3] vP nP xP vA nA xA w' → (w'.cell? ⟨gx, 0, none⟩ = some (.int .i64 SL) ∧ w'.cell? ⟨gx, 1, none⟩ = some (.slice R5 m rc5) ∧ w'.cell? ⟨gx, 2, none⟩ = some (.int .i64 LV) ∧ w'.cell? ⟨gr, 3, none⟩ = some (.string X3)) from
            fun _ _ _ _ _ _ w' h => ⟨h.hx.cell 0, h.hx.cell 1, h.hx.cell 2, h.hr.cell 3⟩)
          obtain ⟨y1, y2, y3, y4⟩ := id hkk
          go_region_held3 (fun w' => w'.cell? ⟨gx, 0, none⟩ = some (.int .i64 SL) ∧ w'.cell? ⟨gx, 1, none⟩ = some (.slice R5 m rc5) ∧ w'.cell? ⟨gx, 2, none⟩ = some (.int .i64 LV) ∧ w'.cell? ⟨gr, 3, none⟩ = some (.string X3)) (first | exact hkk | with_reducible exact KEEP.out _ _ _ _ _ _ _ HCUR.out | with_reducible exact KEEP.out _ _ _ _ _ _ _ HCUR.out.drew | with_reducible exact KEEP.out _ _ _ _ _ _ _ (HCUR.out.alloc _) | with_reducible exact KEEP.out _ _ _ _ _ _ _ (HCUR.out.alloc _).drew | with_reducible exact KEEP.out _ _ _ _ _ _ _ (HCUR.out.drew.alloc _) | with_reducible exact KEEP.out _ _ _ _ _ _ _ ((HCUR.out.alloc _).alloc _) | with_reducible exact KEEP.out _ _ _ _ _ _ _ ((HCUR.out.alloc _).alloc _).drew | with_reducible exact KEEP.out _ _ _ _ _ _ _ ((HCUR.out.alloc _).drew.alloc _) | with_reducible exact KEEP.out _ _ _ _ _ _ _ ((HCUR.out.drew.alloc _).alloc _)) (first
            | (refine step_append_own3 (by rfl) _ _ 42 rfl wz.heap.size 86 i1 _ 3 40 Tryz.underlying42 hi1 hy0 hy1 hy2 rfl (by decide) (.slice a (k + 1) s) (k + 1) (prodsV pl) rfl (by first | with_reducible exact HCUR.out.px | with_reducible exact HCUR.out.drew.px | with_reducible exact (HCUR.out.alloc _).px | with_reducible exact (HCUR.out.alloc _).drew.px | with_reducible exact (HCUR.out.drew.alloc _).px | with_reducible exact ((HCUR.out.alloc _).alloc _).px | with_reducible exact ((HCUR.out.alloc _).alloc _).drew.px | with_reducible exact ((HCUR.out.alloc _).drew.alloc _).px | with_reducible exact ((HCUR.out.drew.alloc _).alloc _).px) _ 1 1 [.int .i64 SL, .slice R5 m rc5, .int .i64 LV] rfl rfl (by first | with_reducible exact cells_at hP | with_reducible exact cells_at (At.new _ 86 #[.int .i64 SL, .slice R5 m rc5, .int .i64 LV]) | with_reducible exact cells_at (At.new _ 86 #[.int .i64 SL, .slice R5 m rc5, .int .i64 LV]).drew | with_reducible exact cells_at ((At.new _ 86 #[.int .i64 SL, .slice R5 m rc5, .int .i64 LV]).alloc _) | with_reducible exact cells_at ((At.new _ 86 #[.int .i64 SL, .slice R5 m rc5, .int .i64 LV]).alloc _).drew | with_reducible exact cells_at ((At.new _ 86 #[.int .i64 SL, .slice R5 m rc5, .int .i64 LV]).drew.alloc _) | with_reducible exact cells_at (At.new2 _ _ 86 #[.int .i64 SL, .slice R5 m rc5, .int .i64 LV]) | with_reducible exact cells_at (At.new2 _ _ 86 #[.int .i64 SL, .slice R5 m rc5, .int .i64 LV]).drew | with_reducible exact cells_at (At.new3 _ _ 86 #[.int .i64 SL, .slice R5 m rc5, .int .i64 LV])) (by simp [Value.oneCell']) hc3 hc4 (by first | with_reducible exact HCUR.out.bel.size | with_reducible exact HCUR.out.drew.bel.size | with_reducible exact (HCUR.out.alloc _).bel.size | with_reducible exact (HCUR.out.alloc _).drew.bel.size | with_reducible exact (HCUR.out.drew.alloc _).bel.size | with_reducible exact ((HCUR.out.alloc _).alloc _).bel.size | with_reducible exact ((HCUR.out.alloc _).alloc _).drew.bel.size | with_reducible exact ((HCUR.out.alloc _).drew.alloc _).bel.size | with_reducible exact ((HCUR.out.drew.alloc _).alloc _).bel.size) ?_
               intro v7 w7 hown7 hg7 hn7
               obtain ⟨a7, s7, rfl⟩ := own_form hown7
               (first
                 | (with_reducible have HC2 := Lib.hid (HCUR.out.putP hown7 hg7 hn7))
                 | (with_reducible have HC2 := Lib.hid (HCUR.out.drew.putP hown7 hg7 hn7))
                 | (with_reducible have HC2 := Lib.hid ((HCUR.out.alloc _).putP hown7 hg7 hn7))
                 | (with_reducible have HC2 := Lib.hid ((HCUR.out.alloc _).drew.putP hown7 hg7 hn7))
                 | (with_reducible have HC2 := Lib.hid ((HCUR.out.drew.alloc _).putP hown7 hg7 hn7))
                 | (with_reducible have HC2 := Lib.hid (((HCUR.out.alloc _).alloc _).putP hown7 hg7 hn7))
                 | (with_reducible have HC2 := Lib.hid (((HCUR.out.alloc _).alloc _).drew.putP hown7 hg7 hn7))
                 | (with_reducible have HC2 := Lib.hid (((HCUR.out.alloc _).drew.alloc _).putP hown7 hg7 hn7))
                 | (with_reducible have HC2 := Lib.hid (((HCUR.out.drew.alloc _).alloc _).putP hown7 hg7 hn7)))
               (try (first
                 | (with_reducible have hA := At.aside ((At.new _ 9 #[.string X3])) hg7 ((HCUR.out.alloc _).alloc _).px NEA)
                 | (with_reducible have hA := At.aside ((At.new _ 9 #[.string X3]).drew) hg7 ((HCUR.out.alloc _).alloc _).px NEA)
                 | (with_reducible have hA := At.aside (((At.new _ 9 #[.string X3]).alloc _)) hg7 ((HCUR.out.alloc _).alloc _).px NEA)
                 | (with_reducible have hA := At.aside (((At.new _ 9 #[.string X3]).alloc _).drew) hg7 ((HCUR.out.alloc _).alloc _).px NEA)
                 | (with_reducible have hA := At.aside (((At.new _ 9 #[.string X3]).drew.alloc _)) hg7 ((HCUR.out.alloc _).alloc _).px NEA)
                 | (with_reducible have hA := At.aside ((At.new2 _ _ 9 #[.string X3])) hg7 ((HCUR.out.alloc _).alloc _).px NEA)
                 | (with_reducible have hA := At.aside ((At.new2 _ _ 9 #[.string X3]).drew) hg7 ((HCUR.out.alloc _).alloc _).px NEA)
                 | (with_reducible have hA := At.aside ((At.new3 _ _ 9 #[.string X3])) hg7 ((HCUR.out.alloc _).alloc _).px NEA)
                 | (with_reducible have hA := At.aside ((At.new _ 9 #[.string X3])) hg7 ((HCUR.out.alloc _).alloc _).drew.px NEA)
                 | (with_reducible have hA := At.aside ((At.new _ 9 #[.string X3]).drew) hg7 ((HCUR.out.alloc _).alloc _).drew.px NEA)
                 | (with_reducible have hA := At.aside (((At.new _ 9 #[.string X3]).alloc _)) hg7 ((HCUR.out.alloc _).alloc _).drew.px NEA)
                 | (with_reducible have hA := At.aside (((At.new _ 9 #[.string X3]).alloc _).drew) hg7 ((HCUR.out.alloc _).alloc _).drew.px NEA)
                 | (with_reducible have hA := At.aside (((At.new _ 9 #[.string X3]).drew.alloc _)) hg7 ((HCUR.out.alloc _).alloc _).drew.px NEA)
                 | (with_reducible have hA := At.aside ((At.new2 _ _ 9 #[.string X3])) hg7 ((HCUR.out.alloc _).alloc _).drew.px NEA)
                 | (with_reducible have hA := At.aside ((At.new2 _ _ 9 #[.string X3]).drew) hg7 ((HCUR.out.alloc _).alloc _).drew.px NEA)
                 | (with_reducible have hA := At.aside ((At.new3 _ _ 9 #[.string X3])) hg7 ((HCUR.out.alloc _).alloc _).drew.px NEA)
                 | (with_reducible have hA := At.aside ((At.new _ 9 #[.string X3])) hg7 ((HCUR.out.alloc _).drew.alloc _).px NEA)
                 | (with_reducible have hA := At.aside ((At.new _ 9 #[.string X3]).drew) hg7 ((HCUR.out.alloc _).drew.alloc _).px NEA)
                 | (with_reducible have hA := At.aside (((At.new _ 9 #[.string X3]).alloc _)) hg7 ((HCUR.out.alloc _).drew.alloc _).px NEA)
                 | (with_reducible have hA := At.aside (((At.new _ 9 #[.string X3]).alloc _).drew) hg7 ((HCUR.out.alloc _).drew.alloc _).px NEA)
                 | (with_reducible have hA := At.aside (((At.new _ 9 #[.string X3]).drew.alloc _)) hg7 ((HCUR.out.alloc _).drew.alloc _).px NEA)
                 | (with_reducible have hA := At.aside ((At.new2 _ _ 9 #[.string X3])) hg7 ((HCUR.out.alloc _).drew.alloc _).px NEA)
                 | (with_reducible have hA := At.aside ((At.new2 _ _ 9 #[.string X3]).drew) hg7 ((HCUR.out.alloc _).drew.alloc _).px NEA)
                 | (with_reducible have hA := At.aside ((At.new3 _ _ 9 #[.string X3])) hg7 ((HCUR.out.alloc _).drew.alloc _).px NEA)
                 | (with_reducible have hA := At.aside ((At.new _ 9 #[.string X3])) hg7 ((HCUR.out.drew.alloc _).alloc _).px NEA)
                 | (with_reducible have hA := At.aside ((At.new _ 9 #[.string X3]).drew) hg7 ((HCUR.out.drew.alloc _).alloc _).px NEA)
                 | (with_reducible have hA := At.aside (((At.new _ 9 #[.string X3]).alloc _)) hg7 ((HCUR.out.drew.alloc _).alloc _).px NEA)
                 | (with_reducible have hA := At.aside (((At.new _ 9 #[.string X3]).alloc _).drew) hg7 ((HCUR.out.drew.alloc _).alloc _).px NEA)
                 | (with_reducible have hA := At.aside (((At.new _ 9 #[.string X3]).drew.alloc _)) hg7 ((HCUR.out.drew.alloc _).alloc _).px NEA)
                 | (with_reducible have hA := At.aside ((At.new2 _ _ 9 #[.string X3])) hg7 ((HCUR.out.drew.alloc _).alloc _).px NEA)
                 | (with_reducible have hA := At.aside ((At.new2 _ _ 9 #[.string X3]).drew) hg7 ((HCUR.out.drew.alloc _).alloc _).px NEA)
                 | (with_reducible have hA := At.aside ((At.new3 _ _ 9 #[.string X3])) hg7 ((HCUR.out.drew.alloc _).alloc _).px NEA)))
               (try (rw [World.size_alloc] at hA))
               clear HCUR hown7 hg7 hn7
               have HCUR := HC2
               clear HC2)
            | (refine step_append_own3 (by rfl) _ _ 34 rfl wz.heap.size 9 i0 _ 1 16 Tryz.underlying34 hi hz0 hz1 hz2 rfl (by decide) (.slice a' (k + 1) s') (k + 1) (namesV (PA.take (k + 1))) rfl (by first | with_reducible exact HCUR.out.ax | with_reducible exact HCUR.out.drew.ax | with_reducible exact (HCUR.out.alloc _).ax | with_reducible exact (HCUR.out.alloc _).drew.ax | with_reducible exact (HCUR.out.drew.alloc _).ax | with_reducible exact ((HCUR.out.alloc _).alloc _).ax | with_reducible exact ((HCUR.out.alloc _).alloc _).drew.ax | with_reducible exact ((HCUR.out.alloc _).drew.alloc _).ax | with_reducible exact ((HCUR.out.drew.alloc _).alloc _).ax) _ 1 1 [.string X3] rfl rfl (by first | with_reducible exact cells_at hA | with_reducible exact cells_at (At.new _ 9 #[.string X3]) | with_reducible exact cells_at (At.new _ 9 #[.string X3]).drew | with_reducible exact cells_at ((At.new _ 9 #[.string X3]).alloc _) | with_reducible exact cells_at ((At.new _ 9 #[.string X3]).alloc _).drew | with_reducible exact cells_at ((At.new _ 9 #[.string X3]).drew.alloc _) | with_reducible exact cells_at (At.new2 _ _ 9 #[.string X3]) | with_reducible exact cells_at (At.new2 _ _ 9 #[.string X3]).drew | with_reducible exact cells_at (At.new3 _ _ 9 #[.string X3])) (by simp [Value.oneCell']) hc3 hc5 (by first | with_reducible exact HCUR.out.bel.size | with_reducible exact HCUR.out.drew.bel.size | with_reducible exact (HCUR.out.alloc _).bel.size | with_reducible exact (HCUR.out.alloc _).drew.bel.size | with_reducible exact (HCUR.out.drew.alloc _).bel.size | with_reducible exact ((HCUR.out.alloc _).alloc _).bel.size | with_reducible exact ((HCUR.out.alloc _).alloc _).drew.bel.size | with_reducible exact ((HCUR.out.alloc _).drew.alloc _).bel.size | with_reducible exact ((HCUR.out.drew.alloc _).alloc _).bel.size) ?_
               intro v8 w8 hown8 hg8 hn8
               obtain ⟨a8, s8, rfl⟩ := own_form hown8
               (first
                 | (with_reducible have HC2 := Lib.hid (HCUR.out.putA hown8 hg8))
                 | (with_reducible have HC2 := Lib.hid (HCUR.out.drew.putA hown8 hg8))
                 | (with_reducible have HC2 := Lib.hid ((HCUR.out.alloc _).putA hown8 hg8))
                 | (with_reducible have HC2 := Lib.hid ((HCUR.out.alloc _).drew.putA hown8 hg8))
                 | (with_reducible have HC2 := Lib.hid ((HCUR.out.drew.alloc _).putA hown8 hg8))
                 | (with_reducible have HC2 := Lib.hid (((HCUR.out.alloc _).alloc _).putA hown8 hg8))
                 | (with_reducible have HC2 := Lib.hid (((HCUR.out.alloc _).alloc _).drew.putA hown8 hg8))
                 | (with_reducible have HC2 := Lib.hid (((HCUR.out.alloc _).drew.alloc _).putA hown8 hg8))
                 | (with_reducible have HC2 := Lib.hid (((HCUR.out.drew.alloc _).alloc _).putA hown8 hg8)))
               (try (first
                 | (with_reducible have hP := At.aside ((At.new _ 86 #[.int .i64 SL, .slice R5 m rc5, .int .i64 LV])) hg8 ((HCUR.out.alloc _).alloc _).ax NEP)
                 | (with_reducible have hP := At.aside ((At.new _ 86 #[.int .i64 SL, .slice R5 m rc5, .int .i64 LV]).drew) hg8 ((HCUR.out.alloc _).alloc _).ax NEP)
                 | (with_reducible have hP := At.aside (((At.new _ 86 #[.int .i64 SL, .slice R5 m rc5, .int .i64 LV]).alloc _)) hg8 ((HCUR.out.alloc _).alloc _).ax NEP)
                 | (with_reducible have hP := At.aside (((At.new _ 86 #[.int .i64 SL, .slice R5 m rc5, .int .i64 LV]).alloc _).drew) hg8 ((HCUR.out.alloc _).alloc _).ax NEP)
                 | (with_reducible have hP := At.aside (((At.new _ 86 #[.int .i64 SL, .slice R5 m rc5, .int .i64 LV]).drew.alloc _)) hg8 ((HCUR.out.alloc _).alloc _).ax NEP)
                 | (with_reducible have hP := At.aside ((At.new2 _ _ 86 #[.int .i64 SL, .slice R5 m rc5, .int .i64 LV])) hg8 ((HCUR.out.alloc _).alloc _).ax NEP)
                 | (with_reducible have hP := At.aside ((At.new2 _ _ 86 #[.int .i64 SL, .slice R5 m rc5, .int .i64 LV]).drew) hg8 ((HCUR.out.alloc _).alloc _).ax NEP)
                 | (with_reducible have hP := At.aside ((At.new3 _ _ 86 #[.int .i64 SL, .slice R5 m rc5, .int .i64 LV])) hg8 ((HCUR.out.alloc _).alloc _).ax NEP)
                 | (with_reducible have hP := At.aside ((At.new _ 86 #[.int .i64 SL, .slice R5 m rc5, .int .i64 LV])) hg8 ((HCUR.out.alloc _).alloc _).drew.ax NEP)
                 | (with_reducible have hP := At.aside ((At.new _ 86 #[.int .i64 SL, .slice R5 m rc5, .int .i64 LV]).drew) hg8 ((HCUR.out.alloc _).alloc _).drew.ax NEP)
                 | (with_reducible have hP := At.aside (((At.new _ 86 #[.int .i64 SL, .slice R5 m rc5, .int .i64 LV]).alloc _)) hg8 ((HCUR.out.alloc _).alloc _).drew.ax NEP)
                 | (with_reducible have hP := At.aside (((At.new _ 86 #[.int .i64 SL, .slice R5 m rc5, .int .i64 LV]).alloc _).drew) hg8 ((HCUR.out.alloc _).alloc _).drew.ax NEP)
                 | (with_reducible have hP := At.aside (((At.new _ 86 #[.int .i64 SL, .slice R5 m rc5, .int .i64 LV]).drew.alloc _)) hg8 ((HCUR.out.alloc _).alloc _).drew.ax NEP)
                 | (with_reducible have hP := At.aside ((At.new2 _ _ 86 #[.int .i64 SL, .slice R5 m rc5, .int .i64 LV])) hg8 ((HCUR.out.alloc _).alloc _).drew.ax NEP)
                 | (with_reducible have hP := At.aside ((At.new2 _ _ 86 #[.int .i64 SL, .slice R5 m rc5, .int .i64 LV]).drew) hg8 ((HCUR.out.alloc _).alloc _).drew.ax NEP)
                 | (with_reducible have hP := At.aside ((At.new3 _ _ 86 #[.int .i64 SL, .slice R5 m rc5, .int .i64 LV])) hg8 ((HCUR.out.alloc _).alloc _).drew.ax NEP)
                 | (with_reducible have hP := At.aside ((At.new _ 86 #[.int .i64 SL, .slice R5 m rc5, .int .i64 LV])) hg8 ((HCUR.out.alloc _).drew.alloc _).ax NEP)
                 | (with_reducible have hP := At.aside ((At.new _ 86 #[.int .i64 SL, .slice R5 m rc5, .int .i64 LV]).drew) hg8 ((HCUR.out.alloc _).drew.alloc _).ax NEP)
                 | (with_reducible have hP := At.aside (((At.new _ 86 #[.int .i64 SL, .slice R5 m rc5, .int .i64 LV]).alloc _)) hg8 ((HCUR.out.alloc _).drew.alloc _).ax NEP)
                 | (with_reducible have hP := At.aside (((At.new _ 86 #[.int .i64 SL, .slice R5 m rc5, .int .i64 LV]).alloc _).drew) hg8 ((HCUR.out.alloc _).drew.alloc _).ax NEP)
                 | (with_reducible have hP := At.aside (((At.new _ 86 #[.int .i64 SL, .slice R5 m rc5, .int .i64 LV]).drew.alloc _)) hg8 ((HCUR.out.alloc _).drew.alloc _).ax NEP)
                 | (with_reducible have hP := At.aside ((At.new2 _ _ 86 #[.int .i64 SL, .slice R5 m rc5, .int .i64 LV])) hg8 ((HCUR.out.alloc _).drew.alloc _).ax NEP)
                 | (with_reducible have hP := At.aside ((At.new2 _ _ 86 #[.int .i64 SL, .slice R5 m rc5, .int .i64 LV]).drew) hg8 ((HCUR.out.alloc _).drew.alloc _).ax NEP)
                 | (with_reducible have hP := At.aside ((At.new3 _ _ 86 #[.int .i64 SL, .slice R5 m rc5, .int .i64 LV])) hg8 ((HCUR.out.alloc _).drew.alloc _).ax NEP)
                 | (with_reducible have hP := At.aside ((At.new _ 86 #[.int .i64 SL, .slice R5 m rc5, .int .i64 LV])) hg8 ((HCUR.out.drew.alloc _).alloc _).ax NEP)
                 | (with_reducible have hP := At.aside ((At.new _ 86 #[.int .i64 SL, .slice R5 m rc5, .int .i64 LV]).drew) hg8 ((HCUR.out.drew.alloc _).alloc _).ax NEP)
                 | (with_reducible have hP := At.aside (((At.new _ 86 #[.int .i64 SL, .slice R5 m rc5, .int .i64 LV]).alloc _)) hg8 ((HCUR.out.drew.alloc _).alloc _).ax NEP)
                 | (with_reducible have hP := At.aside (((At.new _ 86 #[.int .i64 SL, .slice R5 m rc5, .int .i64 LV]).alloc _).drew) hg8 ((HCUR.out.drew.alloc _).alloc _).ax NEP)
                 | (with_reducible have hP := At.aside (((At.new _ 86 #[.int .i64 SL, .slice R5 m rc5, .int .i64 LV]).drew.alloc _)) hg8 ((HCUR.out.drew.alloc _).alloc _).ax NEP)
                 | (with_reducible have hP := At.aside ((At.new2 _ _ 86 #[.int .i64 SL, .slice R5 m rc5, .int .i64 LV])) hg8 ((HCUR.out.drew.alloc _).alloc _).ax NEP)
                 | (with_reducible have hP := At.aside ((At.new2 _ _ 86 #[.int .i64 SL, .slice R5 m rc5, .int .i64 LV]).drew) hg8 ((HCUR.out.drew.alloc _).alloc _).ax NEP)
                 | (with_reducible have hP := At.aside ((At.new3 _ _ 86 #[.int .i64 SL, .slice R5 m rc5, .int .i64 LV])) hg8 ((HCUR.out.drew.alloc _).alloc _).ax NEP)))
               clear HCUR hown8 hg8 hn8
               have HCUR := HC2
               clear HC2))
          all_goals (go_wp2_with fail)
          all_goals go_roundw
          all_goals first
            | (refine ⟨k + 1, _, _, _, _, pl ++ [(Nm.prod G x, .slice R5 m rc5)], by omega, by go_num, rfl, rfl, ?_, ?_, ?_, HCUR.out.bel⟩
               · rw [HPT1.out]
                 refine (HPRX.out.stay HCUR.out.int).snoc ⟨R5, rc5, ?_, ?_⟩
                 · rw [HSV.out, HLNR.out]
                 · rw [HSV.out]; exact HLIX.out.stay HCUR.out.int
               · rw [prodsV_append, show prodsV [(Nm.prod G x, Value.slice R5 m rc5)] = [.int .i64 SL, .slice R5 m rc5, .int .i64 LV] by rw [HSV.out]; rfl]; exact HCUR.out.px
               · rw [HAT1.out]; exact HCUR.out.ax)
            | (simp [intOf]; omega)
        · rw [if_neg hpn] at hLV
          rw [decide_eq_false hpn] at hpe
          rw [hLV] at HLP
          have e0 := HGGX.out.cell 0
          have e1 := HGGX.out.cell 1
          have e2 := HGGX.out.cell 2
          have e3 := HGGX.out.cell 3
          have e4 := HGGX.out.cell 4
          simp only [List.getElem?_toArray, List.getElem?_cons_zero, List.getElem?_cons_succ] at e0 e1 e2 e3 e4
          clear hpn hLV
          go_wp2_with fail
          refine (HLP.out _ (HBW5.out.trans (HBX.out.mono HBW5.out.size))).mono ?_
          rintro e w6 ⟨rfl, hb6⟩
          have hx6 := HATX.out.below hb6 HATX.out.lt
          have HX6 := Lib.hid hx6
          have HR6 := Lib.hid (HATRX.out.below hb6 HATRX.out.lt)
          have HB6 := Lib.hid (HBX.out.trans (hb6.mono HBX.out.size))
          have q2 := hx6.cell 2
          have qf := hx6.frozen 2
          have ql := hx6.lt
          simp only [List.getElem?_toArray, List.getElem?_cons_zero, List.getElem?_cons_succ] at q2
          clear hb6 hx6 e0 e1 e2 e3 e4 r2 HATX HBX HATRX HGGX
          go_wp2_with fail
          have hatx := HX6.out.set 2 (.int .i64 LV)
          have hatr := rest_far' HR6.out (grown_set (grown_refl w6 (some gx)) 2 (.int .i64 LV)) HX6.out (by decide)
          have hbx := HB6.out.setCell (p := ⟨gx, 2, none⟩) hgx (.int .i64 LV)
          obtain ⟨Wx, hWx⟩ : ∃ Wx, w6.setCell ⟨gx, 2, none⟩ (.int .i64 LV) = Wx := ⟨_, rfl⟩
          rw [hWx] at hatx hatr hbx ⊢
          simp only [List.setIfInBounds_toArray, List.set_cons_succ, List.set_cons_zero] at hatx
          have HATX := Lib.hid hatx
          have HATRX := Lib.hid hatr
          have HBX := Lib.hid hbx
          have HWX := Lib.hid (HW5.out.trans (hbx.mono HW5.out.size))
          clear hatx hatr hbx hWx q2 qf ql
          have HBUN := Lib.hid (show Bun wz Wx gx gr #[.int .i64 SL, .slice R5 m rc5, .int .i64 LV] #[.string X0, .slice R' m rc, .string X2, .string X3] (.slice a (k + 1) s) (k + 1) (prodsV pl) (.slice a' (k + 1) s') (k + 1) (namesV (PA.take (k + 1))) Wx from
            ⟨own_stay HOP.out (Stay.below HWX.out), own_stay HOA.out (Stay.below HWX.out), HATX.out, HATRX.out, fun e => by
              have h1 := (own_lt HOP.out gx e).2
              have h2 := HW5.out.size
              omega, Stay.refl _ _, HBR.out.trans (HWX.out.mono HBR.out.size)⟩)
          have HPRX := Lib.hid (HPR.out.stay (Stay.below HWX.out))
          have HLIX := Lib.hid (HLI5.out.below HBX.out)
          have HCUR := HBUN
          have hc3 : k + 1 + 1 ≤ maxLen := by unfold maxLen; omega
          have hc4 : (k + 1 + 1) * 40 ≤ 140737488355328 := by omega
          have hc5 : (k + 1 + 1) * 16 ≤ 140737488355328 := by omega
          have NEA : (9 : TypeId) ≠ 86 := by decide
          have NEP : (86 : TypeId) ≠ 9 := by decide
          have hkk : Wx.cell? ⟨gx, 0, none⟩ = some (.int .i64 SL) ∧ Wx.cell? ⟨gx, 1, none⟩ = some (.slice R5 m rc5) ∧ Wx.cell? ⟨gx, 2, none⟩ = some (.int .i64 LV) ∧ Wx.cell? ⟨gr, 3, none⟩ = some (.string X3) := ⟨HATX.out.cell 0, HATX.out.cell 1, HATX.out.cell 2, HATRX.out.cell 3⟩
          have KEEP := Lib.hid (show ∀ vP nP xP vA nA xA w', Bun wz Wx gx gr #[.int .i64 SL, .slice R5 m rc5, .int .i64 LV] #[.string X0, .slice R' m rc, .string X2, .string X3] vP nP xP vA nA xA w' → (w'.cell? ⟨gx, 0, none⟩ = some (.int .i64 SL) ∧ w'.cell? ⟨gx, 1, none⟩ = some (.slice R5 m rc5) ∧ w'.cell? ⟨gx, 2, none⟩ = some (.int .i64 LV) ∧ w'.cell? ⟨gr, 3, none⟩ = some (.string X3)) from
            fun _ _ _ _ _ _ w' h => ⟨h.hx.cell 0, h.hx.cell 1, h.hx.cell 2, h.hr.cell 3⟩)
          obtain ⟨y1, y2, y3, y4⟩ := id hkk
          go_region_held3 (fun w' => w'.cell? ⟨gx, 0, none⟩ = some (.int .i64 SL) ∧ w'.cell? ⟨gx, 1, none⟩ = some (.slice R5 m rc5) ∧ w'.cell? ⟨gx, 2, none⟩ = some (.int .i64 LV) ∧ w'.cell? ⟨gr, 3, none⟩ = some (.string X3)) (first | exact hkk | with_reducible exact KEEP.out _ _ _ _ _ _ _ HCUR.out | with_reducible exact KEEP.out _ _ _ _ _ _ _ HCUR.out.drew | with_reducible exact KEEP.out _ _ _ _ _ _ _ (HCUR.out.alloc _) | with_reducible exact KEEP.out _ _ _ _ _ _ _ (HCUR.out.alloc _).drew | with_reducible exact KEEP.out _ _ _ _ _ _ _ (HCUR.out.drew.alloc _) | with_reducible exact KEEP.out _ _ _ _ _ _ _ ((HCUR.out.alloc _).alloc _) | with_reducible exact KEEP.out _ _ _ _ _ _ _ ((HCUR.out.alloc _).alloc _).drew | with_reducible exact KEEP.out _ _ _ _ _ _ _ ((HCUR.out.alloc _).drew.alloc _) | with_reducible exact KEEP.out _ _ _ _ _ _ _ ((HCUR.out.drew.alloc _).alloc _)) (first
            | (refine step_append_own3 (by rfl) _ _ 42 rfl wz.heap.size 86 i1 _ 3 40 Tryz.underlying42 hi1 hy0 hy1 hy2 rfl (by decide) (.slice a (k + 1) s) (k + 1) (prodsV pl) rfl (by first | with_reducible exact HCUR.out.px | with_reducible exact HCUR.out.drew.px | with_reducible exact (HCUR.out.alloc _).px | with_reducible exact (HCUR.out.alloc _).drew.px | with_reducible exact (HCUR.out.drew.alloc _).px | with_reducible exact ((HCUR.out.alloc _).alloc _).px | with_reducible exact ((HCUR.out.alloc _).alloc _).drew.px | with_reducible exact ((HCUR.out.alloc _).drew.alloc _).px | with_reducible exact ((HCUR.out.drew.alloc _).alloc _).px) _ 1 1 [.int .i64 SL, .slice R5 m rc5, .int .i64 LV] rfl rfl (by first | with_reducible exact cells_at hP | with_reducible exact cells_at (At.new _ 86 #[.int .i64 SL, .slice R5 m rc5, .int .i64 LV]) | with_reducible exact cells_at (At.new _ 86 #[.int .i64 SL, .slice R5 m rc5, .int .i64 LV]).drew | with_reducible exact cells_at ((At.new _ 86 #[.int .i64 SL, .slice R5 m rc5, .int .i64 LV]).alloc _) | with_reducible exact cells_at ((At.new _ 86 #[.int .i64 SL, .slice R5 m rc5, .int .i64 LV]).alloc _).drew | with_reducible exact cells_at ((At.new _ 86 #[.int .i64 SL, .slice R5 m rc5, .int .i64 LV]).drew.alloc _) | with_reducible exact cells_at (At.new2 _ _ 86 #[.int .i64 SL, .slice R5 m rc5, .int .i64 LV]) | with_reducible exact cells_at (At.new2 _ _ 86 #[.int .i64 SL, .slice R5 m rc5, .int .i64 LV]).drew | with_reducible exact cells_at (At.new3 _ _ 86 #[.int .i64 SL, .slice R5 m rc5, .int .i64 LV])) (by simp [Value.oneCell']) hc3 hc4 (by first | with_reducible exact HCUR.out.bel.size | with_reducible exact HCUR.out.drew.bel.size | with_reducible exact (HCUR.out.alloc _).bel.size | with_reducible exact (HCUR.out.alloc _).drew.bel.size | with_reducible exact (HCUR.out.drew.alloc _).bel.size | with_reducible exact ((HCUR.out.alloc _).alloc _).bel.size | with_reducible exact ((HCUR.out.alloc _).alloc _).drew.bel.size | with_reducible exact ((HCUR.out.alloc _).drew.alloc _).bel.size | with_reducible exact ((HCUR.out.drew.alloc _).alloc _).bel.size) ?_
               intro v7 w7 hown7 hg7 hn7
               obtain ⟨a7, s7, rfl⟩ := own_form hown7
               (first
                 | (with_reducible have HC2 := Lib.hid (HCUR.out.putP hown7 hg7 hn7))
                 | (with_reducible have HC2 := Lib.hid (HCUR.out.drew.putP hown7 hg7 hn7))
                 | (with_reducible have HC2 := Lib.hid ((HCUR.out.alloc _).putP hown7 hg7 hn7))
                 | (with_reducible have HC2 := Lib.hid ((HCUR.out.alloc _).drew.putP hown7 hg7 hn7))
                 | (with_reducible have HC2 := Lib.hid ((HCUR.out.drew.alloc _).putP hown7 hg7 hn7))
                 | (with_reducible have HC2 := Lib.hid (((HCUR.out.alloc _).alloc _).putP hown7 hg7 hn7))
                 | (with_reducible have HC2 := Lib.hid (((HCUR.out.alloc _).alloc _).drew.putP hown7 hg7 hn7))
                 | (with_reducible have HC2 := Lib.hid (((HCUR.out.alloc _).drew.alloc _).putP hown7 hg7 hn7))
                 | (with_reducible have HC2 := Lib.hid (((HCUR.out.drew.alloc _).alloc _).putP hown7 hg7 hn7)))
               (try (first
                 | (with_reducible have hA := At.aside ((At.new _ 9 #[.string X3])) hg7 ((HCUR.out.alloc _).alloc _).px NEA)
                 | (with_reducible have hA := At.aside ((At.new _ 9 #[.string X3]).drew) hg7 ((HCUR.out.alloc _).alloc _).px NEA)
                 | (with_reducible have hA := At.aside (((At.new _ 9 #[.string X3]).alloc _)) hg7 ((HCUR.out.alloc _).alloc _).px NEA)
                 | (with_reducible have hA := At.aside (((At.new _ 9 #[.string X3]).alloc _).drew) hg7 ((HCUR.out.alloc _).alloc _).px NEA)
                 | (with_reducible have hA := At.aside (((At.new _ 9 #[.string X3]).drew.alloc _)) hg7 ((HCUR.out.alloc _).alloc _).px NEA)
                 | (with_reducible have hA := At.aside ((At.new2 _ _ 9 #[.string X3])) hg7 ((HCUR.out.alloc _).alloc _).px NEA)
                 | (with_reducible have hA := At.aside ((At.new2 _ _ 9 #[.string X3]).drew) hg7 ((HCUR.out.alloc _).alloc _).px NEA)
                 | (with_reducible have hA := At.aside ((At.new3 _ _ 9 #[.string X3])) hg7 ((HCUR.out.alloc _).alloc _).px NEA)
                 | (with_reducible have hA := At.aside ((At.new _ 9 #[.string X3])) hg7 ((HCUR.out.alloc _).alloc _).drew.px NEA)
                 | (with_reducible have hA := At.aside ((At.new _ 9 #[.string X3]).drew) hg7 ((HCUR.out.alloc _).alloc _).drew.px NEA)
                 | (with_reducible have hA := At.aside (((At.new _ 9 #[.string X3]).alloc _)) hg7 ((HCUR.out.alloc _).alloc _).drew.px NEA)
                 | (with_reducible have hA := At.aside (((At.new _ 9 #[.string X3]).alloc _).drew) hg7 ((HCUR.out.alloc _).alloc _).drew.px NEA)
                 | (with_reducible have hA := At.aside (((At.new _ 9 #[.string X3]).drew.alloc _)) hg7 ((HCUR.out.alloc _).alloc _).drew.px NEA)
                 | (with_reducible have hA := At.aside ((At.new2 _ _ 9 #[.string X3])) hg7 ((HCUR.out.alloc _).alloc _).drew.px NEA)
                 | (with_reducible have hA := At.aside ((At.new2 _ _ 9 #[.string X3]).drew) hg7 ((HCUR.out.alloc _).alloc _).drew.px NEA)
                 | (with_reducible have hA := At.aside ((At.new3 _ _ 9 #[.string X3])) hg7 ((HCUR.out.alloc _).alloc _).drew.px NEA)
                 | (with_reducible have hA := At.aside ((At.new _ 9 #[.string X3])) hg7 ((HCUR.out.alloc _).drew.alloc _).px NEA)
                 | (with_reducible have hA := At.aside ((At.new _ 9 #[.string X3]).drew) hg7 ((HCUR.out.alloc _).drew.alloc _).px NEA)
                 | (with_reducible have hA := At.aside (((At.new _ 9 #[.string X3]).alloc _)) hg7 ((HCUR.out.alloc _).drew.alloc _).px NEA)
                 | (with_reducible have hA := At.aside (((At.new _ 9 #[.string X3]).alloc _).drew) hg7 ((HCUR.out.alloc _).drew.alloc _).px NEA)
                 | (with_reducible have hA := At.aside (((At.new _ 9 #[.string X3]).drew.alloc _)) hg7 ((HCUR.out.alloc _).drew.alloc _).px NEA)
                 | (with_reducible have hA := At.aside ((At.new2 _ _ 9 #[.string X3])) hg7 ((HCUR.out.alloc _).drew.alloc _).px NEA)
                 | (with_reducible have hA := At.aside ((At.new2 _ _ 9 #[.string X3]).drew) hg7 ((HCUR.out.alloc _).drew.alloc _).px NEA)
                 | (with_reducible have hA := At.aside ((At.new3 _ _ 9 #[.string X3])) hg7 ((HCUR.out.alloc _).drew.alloc _).px NEA)
                 | (with_reducible have hA := At.aside ((At.new _ 9 #[.string X3])) hg7 ((HCUR.out.drew.alloc _).alloc _).px NEA)
                 | (with_reducible have hA := At.aside ((At.new _ 9 #[.string X3]).drew) hg7 ((HCUR.out.drew.alloc _).alloc _).px NEA)
                 | (with_reducible have hA := At.aside (((At.new _ 9 #[.string X3]).alloc _)) hg7 ((HCUR.out.drew.alloc _).alloc _).px NEA)
                 | (with_reducible have hA := At.aside (((At.new _ 9 #[.string X3]).alloc _).drew) hg7 ((HCUR.out.drew.alloc _).alloc _).px NEA)
                 | (with_reducible have hA := At.aside (((At.new _ 9 #[.string X3]).drew.alloc _)) hg7 ((HCUR.out.drew.alloc _).alloc _).px NEA)
                 | (with_reducible have hA := At.aside ((At.new2 _ _ 9 #[.string X3])) hg7 ((HCUR.out.drew.alloc _).alloc _).px NEA)
                 | (with_reducible have hA := At.aside ((At.new2 _ _ 9 #[.string X3]).drew) hg7 ((HCUR.out.drew.alloc _).alloc _).px NEA)
                 | (with_reducible have hA := At.aside ((At.new3 _ _ 9 #[.string X3])) hg7 ((HCUR.out.drew.alloc _).alloc _).px NEA)))
               (try (rw [World.size_alloc] at hA))
               clear HCUR hown7 hg7 hn7
               have HCUR := HC2
               clear HC2)
            | (refine step_append_own3 (by rfl) _ _ 34 rfl wz.heap.size 9 i0 _ 1 16 Tryz.underlying34 hi hz0 hz1 hz2 rfl (by decide) (.slice a' (k + 1) s') (k + 1) (namesV (PA.take (k + 1))) rfl (by first | with_reducible exact HCUR.out.ax | with_reducible exact HCUR.out.drew.ax | with_reducible exact (HCUR.out.alloc _).ax | with_reducible exact (HCUR.out.alloc _).drew.ax | with_reducible exact (HCUR.out.drew.alloc _).ax | with_reducible exact ((HCUR.out.alloc _).alloc _).ax | with_reducible exact ((HCUR.out.alloc _).alloc _).drew.ax | with_reducible exact ((HCUR.out.alloc _).drew.alloc _).ax | with_reducible exact ((HCUR.out.drew.alloc _).alloc _).ax) _ 1 1 [.string X3] rfl rfl (by first | with_reducible exact cells_at hA | with_reducible exact cells_at (At.new _ 9 #[.string X3]) | with_reducible exact cells_at (At.new _ 9 #[.string X3]).drew | with_reducible exact cells_at ((At.new _ 9 #[.string X3]).alloc _) | with_reducible exact cells_at ((At.new _ 9 #[.string X3]).alloc _).drew | with_reducible exact cells_at ((At.new _ 9 #[.string X3]).drew.alloc _) | with_reducible exact cells_at (At.new2 _ _ 9 #[.string X3]) | with_reducible exact cells_at (At.new2 _ _ 9 #[.string X3]).drew | with_reducible exact cells_at (At.new3 _ _ 9 #[.string X3])) (by simp [Value.oneCell']) hc3 hc5 (by first | with_reducible exact HCUR.out.bel.size | with_reducible exact HCUR.out.drew.bel.size | with_reducible exact (HCUR.out.alloc _).bel.size | with_reducible exact (HCUR.out.alloc _).drew.bel.size | with_reducible exact (HCUR.out.drew.alloc _).bel.size | with_reducible exact ((HCUR.out.alloc _).alloc _).bel.size | with_reducible exact ((HCUR.out.alloc _).alloc _).drew.bel.size | with_reducible exact ((HCUR.out.alloc _).drew.alloc _).bel.size | with_reducible exact ((HCUR.out.drew.alloc _).alloc _).bel.size) ?_
               intro v8 w8 hown8 hg8 hn8
               obtain ⟨a8, s8, rfl⟩ := own_form hown8
               (first
                 | (with_reducible have HC2 := Lib.hid (HCUR.out.putA hown8 hg8))
                 | (with_reducible have HC2 := Lib.hid (HCUR.out.drew.putA hown8 hg8))
                 | (with_reducible have HC2 := Lib.hid ((HCUR.out.alloc _).putA hown8 hg8))
                 | (with_reducible have HC2 := Lib.hid ((HCUR.out.alloc _).drew.putA hown8 hg8))
                 | (with_reducible have HC2 := Lib.hid ((HCUR.out.drew.alloc _).putA hown8 hg8))
                 | (with_reducible have HC2 := Lib.hid (((HCUR.out.alloc _).alloc _).putA hown8 hg8))
                 | (with_reducible have HC2 := Lib.hid (((HCUR.out.alloc _).alloc _).drew.putA hown8 hg8))
                 | (with_reducible have HC2 := Lib.hid (((HCUR.out.alloc _).drew.alloc _).putA hown8 hg8))
                 | (with_reducible have HC2 := Lib.hid (((HCUR.out.drew.alloc _).alloc _).putA hown8 hg8)))
               (try (first
                 | (with_reducible have hP := At.aside ((At.new _ 86 #[.int .i64 SL, .slice R5 m rc5, .int .i64 LV])) hg8 ((HCUR.out.alloc _).alloc _).ax NEP)
                 | (with_reducible have hP := At.aside ((At.new _ 86 #[.int .i64 SL, .slice R5 m rc5, .int .i64 LV]).drew) hg8 ((HCUR.out.alloc _).alloc _).ax NEP)
                 | (with_reducible have hP := At.aside (((At.new _ 86 #[.int .i64 SL, .slice R5 m rc5, .int .i64 LV]).alloc _)) hg8 ((HCUR.out.alloc _).alloc _).ax NEP)
                 | (with_reducible have hP := At.aside (((At.new _ 86 #[.int .i64 SL, .slice R5 m rc5, .int .i64 LV]).alloc _).drew) hg8 ((HCUR.out.alloc _).alloc _).ax NEP)
                 | (with_reducible have hP := At.aside (((At.new _ 86 #[.int .i64 SL, .slice R5 m rc5, .int .i64 LV]).drew.alloc _)) hg8 ((HCUR.out.alloc _).alloc _).ax NEP)
                 | (with_reducible have hP := At.aside ((At.new2 _ _ 86 #[.int .i64 SL, .slice R5 m rc5, .int .i64 LV])) hg8 ((HCUR.out.alloc _).alloc _).ax NEP)
                 | (with_reducible have hP := At.aside ((At.new2 _ _ 86 #[.int .i64 SL, .slice R5 m rc5, .int .i64 LV]).drew) hg8 ((HCUR.out.alloc _).alloc _).ax NEP)
                 | (with_reducible have hP := At.aside ((At.new3 _ _ 86 #[.int .i64 SL, .slice R5 m rc5, .int .i64 LV])) hg8 ((HCUR.out.alloc _).alloc _).ax NEP)
                 | (with_reducible have hP := At.aside ((At.new _ 86 #[.int .i64 SL, .slice R5 m rc5, .int .i64 LV])) hg8 ((HCUR.out.alloc _).alloc _).drew.ax NEP)
                 | (with_reducible have hP := At.aside ((At.new _ 86 #[.int .i64 SL, .slice R5 m rc5, .int .i64 LV]).drew) hg8 ((HCUR.out.alloc _).alloc _).drew.ax NEP)
                 | (with_reducible have hP := At.aside (((At.new _ 86 #[.int .i64 SL, .slice R5 m rc5, .int .i64 LV]).alloc _)) hg8 ((HCUR.out.alloc _).alloc _).drew.ax NEP)
                 | (with_reducible have hP := At.aside (((At.new _ 86 #[.int .i64 SL, .slice R5 m rc5, .int .i64 LV]).alloc _).drew) hg8 ((HCUR.out.alloc _).alloc _).drew.ax NEP)
                 | (with_reducible have hP := At.aside (((At.new _ 86 #[.int .i64 SL, .slice R5 m rc5, .int .i64 LV]).drew.alloc _)) hg8 ((HCUR.out.alloc _).alloc _).drew.ax NEP)
                 | (with_reducible have hP := At.aside ((At.new2 _ _ 86 #[.int .i64 SL, .slice R5 m rc5, .int .i64 LV])) hg8 ((HCUR.out.alloc _).alloc _).drew.ax NEP)
                 | (with_reducible have hP := At.aside ((At.new2 _ _ 86 #[.int .i64 SL, .slice R5 m rc5, .int .i64 LV]).drew) hg8 ((HCUR.out.alloc _).alloc _).drew.ax NEP)
                 | (with_reducible have hP := At.aside ((At.new3 _ _ 86 #[.int .i64 SL, .slice R5 m rc5, .int .i64 LV])) hg8 ((HCUR.out.alloc _).alloc _).drew.ax NEP)
                 | (with_reducible have hP := At.aside ((At.new _ 86 #[.int .i64 SL, .slice R5 m rc5, .int .i64 LV])) hg8 ((HCUR.out.alloc _).drew.alloc _).ax NEP)
                 | (with_reducible have hP := At.aside ((At.new _ 86 #[.int .i64 SL, .slice R5 m rc5, .int .i64 LV]).drew) hg8 ((HCUR.out.alloc _).drew.alloc _).ax NEP)
                 | (with_reducible have hP := At.aside (((At.new _ 86 #[.int .i64 SL, .slice R5 m rc5, .int .i64 LV]).alloc _)) hg8 ((HCUR.out.alloc _).drew.alloc _).ax NEP)
                 | (with_reducible have hP := At.aside (((At.new _ 86 #[.int .i64 SL, .slice R5 m rc5, .int .i64 LV]).alloc _).drew) hg8 ((HCUR.out.alloc _).drew.alloc _).ax NEP)
                 | (with_reducible have hP := At.aside (((At.new _ 86 #[.int .i64 SL, .slice R5 m rc5, .int .i64 LV]).drew.alloc _)) hg8 ((HCUR.out.alloc _).drew.alloc _).ax NEP)
                 | (with_reducible have hP := At.aside ((At.new2 _ _ 86 #[.int .i64 SL, .slice R5 m rc5, .int .i64 LV])) hg8 ((HCUR.out.alloc _).drew.alloc _).ax NEP)
                 | (with_reducible have hP := At.aside ((At.new2 _ _ 86 #[.int .i64 SL, .slice R5 m rc5, .int .i64 LV]).drew) hg8 ((HCUR.out.alloc _).drew.alloc _).ax NEP)
                 | (with_reducible have hP := At.aside ((At.new3 _ _ 86 #[.int .i64 SL, .slice R5 m rc5, .int .i64 LV])) hg8 ((HCUR.out.alloc _).drew.alloc _).ax NEP)
                 | (with_reducible have hP := At.aside ((At.new _ 86 #[.int .i64 SL, .slice R5 m rc5, .int .i64 LV])) hg8 ((HCUR.out.drew.alloc _).alloc _).ax NEP)
                 | (with_reducible have hP := At.aside ((At.new _ 86 #[.int .i64 SL, .slice R5 m rc5, .int .i64 LV]).drew) hg8 ((HCUR.out.drew.alloc _).alloc _).ax NEP)
                 | (with_reducible have hP := At.aside (((At.new _ 86 #[.int .i64 SL, .slice R5 m rc5, .int .i64 LV]).alloc _)) hg8 ((HCUR.out.drew.alloc _).alloc _).ax NEP)
                 | (with_reducible have hP := At.aside (((At.new _ 86 #[.int .i64 SL, .slice R5 m rc5, .int .i64 LV]).alloc _).drew) hg8 ((HCUR.out.drew.alloc _).alloc _).ax NEP)
                 | (with_reducible have hP := At.aside (((At.new _ 86 #[.int .i64 SL, .slice R5 m rc5, .int .i64 LV]).drew.alloc _)) hg8 ((HCUR.out.drew.alloc _).alloc _).ax NEP)
                 | (with_reducible have hP := At.aside ((At.new2 _ _ 86 #[.int .i64 SL, .slice R5 m rc5, .int .i64 LV])) hg8 ((HCUR.out.drew.alloc _).alloc _).ax NEP)
                 | (with_reducible have hP := At.aside ((At.new2 _ _ 86 #[.int .i64 SL, .slice R5 m rc5, .int .i64 LV]).drew) hg8 ((HCUR.out.drew.alloc _).alloc _).ax NEP)
                 | (with_reducible have hP := At.aside ((At.new3 _ _ 86 #[.int .i64 SL, .slice R5 m rc5, .int .i64 LV])) hg8 ((HCUR.out.drew.alloc _).alloc _).ax NEP)))
               clear HCUR hown8 hg8 hn8
               have HCUR := HC2
               clear HC2))
          all_goals (go_wp2_with fail)
          all_goals go_roundw
          all_goals first
            | (refine ⟨k + 1, _, _, _, _, pl ++ [(Nm.prod G x, .slice R5 m rc5)], by omega, by go_num, rfl, rfl, ?_, ?_, ?_, HCUR.out.bel⟩
               · rw [HPT1.out]
                 refine (HPRX.out.stay HCUR.out.int).snoc ⟨R5, rc5, ?_, ?_⟩
                 · rw [HSV.out, HLNR.out]
                 · rw [HSV.out]; exact HLIX.out.stay HCUR.out.int
               · rw [prodsV_append, show prodsV [(Nm.prod G x, Value.slice R5 m rc5)] = [.int .i64 SL, .slice R5 m rc5, .int .i64 LV] by rw [HSV.out]; rfl]; exact HCUR.out.px
               · rw [HAT1.out]; exact HCUR.out.ax)
            | (simp [intOf]; omega)
    · obtain rfl : N = k := by omega
      rw [HPL.out] at HPR
      rw [HAL.out] at HOA
      have HR1 := Lib.hid (show ∃ pl, Lie wr 86 a (prodsV pl) ∧ Prods wr pl PR from ⟨pl, Lie.own HOP.out, HPR.out⟩)
      have HR2 := Lib.hid (Lie.own HOA.out)
      go_wp2_with fail
      go_ret2
      exact ⟨⟨a, s, a', s', rfl, by rw [HPRE.out]; exact HR1.out, by rw [HPAE.out]; exact HR2.out⟩, HBW.out⟩

end Go.Proofs.YtpgmapjjjpcmfaaGreatDoor
