import Derived.Test.YtjcijffhcmbhnaaDoorTbI
import Derived.Test.YtjcijffhcmbhnaaDoorZed
import Derived.Deep.RegionLaw
namespace Go.Proofs.YtjcijffhcmbhnaaDoor
set_option maxRecDepth 100000
open Go.RowKit
open BitKit
set_option linter.unusedVariables false
set_option linter.unusedSimpArgs false
namespace Tb
def setAll (l : List Int) (p : Nat) (C : List Nat) (f : Nat → Int) : List Int := C.foldl (fun l c => l.set (p + c) (f c)) l
theorem setAll_snoc (l : List Int) (p : Nat) (C : List Nat) (f : Nat → Int) (c : Nat) : setAll l p (C ++ [c]) f = (setAll l p C f).set (p + c) (f c) := by simp [setAll]
theorem setAll_length (l : List Int) (p : Nat) (C : List Nat) (f : Nat → Int) : (setAll l p C f).length = l.length := by
 induction C using snoc_ind with
 | h0 => rfl
 | h1 C c ih => rw [setAll_snoc, List.length_set, ih]
theorem getD_set (l : List Int) (i j : Nat) (x : Int) : (l.set i x).getD j 0 = if i = j ∧ i < l.length then x else l.getD j 0 := by
 by_cases h : i = j
 ·subst h
  by_cases h2 : i < l.length
  ·rw [if_pos ⟨rfl, h2⟩, List.getD, List.getElem?_set_self h2]; rfl
  ·rw [if_neg (fun h => h2 h.2), getD_out (by rw [List.length_set]; omega), getD_out (by omega)]
 ·rw [if_neg (fun h2 => h h2.1), List.getD, List.getElem?_set_ne h]; rfl
theorem setAll_old {l : List Int} {p : Nat} {C : List Nat} {f : Nat → Int} {i : Nat} (h : ∀ c ∈ C, i ≠ p + c) : (setAll l p C f).getD i 0 = l.getD i 0 := by
 induction C using snoc_ind with
 | h0 => rfl
 | h1 C c ih =>
  rw [setAll_snoc, getD_set, if_neg (fun h2 => h c (by simp) h2.1.symm)]
  exact ih (fun d hd => h d (by simp [hd]))
theorem setAll_at {l : List Int} {p : Nat} {C : List Nat} {f : Nat → Int} {c : Nat} (hc : c ∈ C) (hl : p + c < l.length) : (setAll l p C f).getD (p + c) 0 = f c := by
 induction C using snoc_ind with
 | h0 => cases hc
 | h1 C d ih =>
  rw [setAll_snoc, getD_set]
  by_cases h : d = c
  ·subst h
   rw [if_pos ⟨rfl, by rw [setAll_length]; exact hl⟩]
  ·rw [if_neg (fun h2 => h (by omega))]
   rcases List.mem_append.1 hc with h1 | h1
   ·exact ih h1
   ·simp at h1; exact absurd h1.symm h
theorem ext_getD {a b : List Int} (hl : a.length = b.length) (h : ∀ i, a.getD i 0 = b.getD i 0) : a = b := by
 apply List.ext_getElem hl
 intro i h1 h2
 have := h i
 simpa [List.getD, h1, h2] using this
theorem setAll_lay (l r : List Int) (p : Nat) (f : Int → Int) : setAll (longer 0 l (p + r.length)) p (cols r) (fun c => f (r.getD c 0)) = lay l r p f := by
 apply ext_getD
 ·rw [setAll_length, longer_length, lay_length]
 ·intro i
  rw [lay_getD]
  by_cases h : p ≤ i ∧ r.getD (i - p) 0 ≠ 0
  ·rw [if_pos h]
   have hc : i - p ∈ cols r := mem_cols.2 h.2
   have hl := getD_in h.2
   have := setAll_at (l := longer 0 l (p + r.length)) (p := p) (f := fun c => f (r.getD c 0)) hc (by rw [longer_length]; omega)
   rwa [show p + (i - p) = i by omega] at this
  ·rw [if_neg h, setAll_old, longer_getD]
   intro c hc e
   subst e
   exact h ⟨by omega, by rw [Nat.add_sub_cancel_left]; exact mem_cols.1 hc⟩
theorem colsTo_lt {l : List Int} {k c : Nat} (h : c ∈ colsTo l k) : c < k := List.mem_range.1 (List.mem_filter.1 h).1
theorem cols_lt {l : List Int} {c : Nat} (h : c ∈ cols l) : c < l.length := getD_in (mem_cols.1 h)
theorem cols_le (l : List Int) : (cols l).length ≤ l.length := by rw [cols_length]; exact nz_le l
def Cov (L : List Nat) (ow : List Int) : Prop := ∀ i, bit L i = (ow.getD i 0 != 0)
theorem Cov.nil : Cov [] [] := fun i => by rw [bit_out (by simp)]; rfl
theorem Spot.is_ {L : List Nat} {ow r : List Int} {p : Nat} (h : Spot L (cols r) p) (hc : Cov L ow) : p = place ow r := by
 have hm : ∀ q, Met L (cols r) q ↔ ¬ Free ow r q := fun q => by
  unfold Met Free
  constructor
  ·rintro ⟨c, hcm, hb⟩ hf
   rw [hc, hf c (mem_cols.1 hcm)] at hb
   cases hb
  ·intro hn
   refine Classical.byContradiction fun hno => hn fun c hr => Classical.byContradiction fun h0 => hno ⟨c, mem_cols.2 hr, ?_⟩
   rw [hc]; exact bne_iff_ne.2 h0
 refine Least.uniq ⟨?_, fun q hq => (hm q).1 (h.least q hq)⟩ (place_least ow r)
 have := h.free
 rw [hm] at this
 exact Classical.not_not.1 this
def Bits (L0 L : List Nat) (p : Nat) (C : List Nat) : Prop := L.length = L0.length ∧ ∀ i, bit L i = true ↔ (bit L0 i = true ∨ ∃ c ∈ C, i = p + c)
theorem Bits.zero (L : List Nat) (p : Nat) : Bits L L p [] := ⟨rfl, fun i => by simp⟩
theorem Bits.next {L0 L : List Nat} {p c x : Nat} {C : List Nat} (h : Bits L0 L p C) (hx : L[(p + c) / 64]? = some x) : Bits L0 (L.set ((p + c) / 64) (x ||| 2 ^ ((p + c) % 64))) p (C ++ [c]) := by
 refine ⟨by rw [List.length_set]; exact h.1, fun i => ?_⟩
 rw [bit_set hx, Bool.or_eq_true, h.2 i, decide_eq_true_eq]
 constructor
 ·rintro (h1 | h1 | ⟨d, hd, h1⟩)
  ·exact .inr ⟨c, by simp, h1⟩
  ·exact .inl h1
  ·exact .inr ⟨d, by simp [hd], h1⟩
 ·rintro (h1 | ⟨d, hd, h1⟩)
  ·exact .inr (.inl h1)
  ·rcases List.mem_append.1 hd with h2 | h2
   ·exact .inr (.inr ⟨d, h2, h1⟩)
   ·simp at h2; subst h2; exact .inl h1
theorem Bits.cov {L0 L : List Nat} {p : Nat} {ow r : List Int} {n m : Nat} (h : Bits (longer 0 L0 m) L p (cols r)) (hc : Cov L0 ow) : Cov L (lay ow r p (fun _ => (n : Int) + 1)) := by
 intro i
 rw [Bool.eq_iff_iff, h.2 i, show bit (longer 0 L0 m) i = bit L0 i from bit_noughts L0 _ i, hc i, bne_iff_ne, bne_iff_ne, lay_getD]
 by_cases h1 : p ≤ i ∧ r.getD (i - p) 0 ≠ 0
 ·rw [if_pos h1]
  exact ⟨fun _ => by omega, fun _ => .inr ⟨i - p, mem_cols.2 h1.2, by omega⟩⟩
 ·rw [if_neg h1]
  refine ⟨fun h2 => h2.resolve_right ?_, .inl⟩
  rintro ⟨c, hcm, rfl⟩
  exact h1 ⟨by omega, by rw [Nat.add_sub_cancel_left]; exact mem_cols.1 hcm⟩
end Tb
structure PkS (B g : Nat) (t : TypeId) (w : World) (cs : Array Value) (nv ov pv : Value) (N W P : List Int) : Prop where
 at_ : At w g t cs
 nx : OwnI w B nv N
 ow : OwnI w B ov W
 pl : OwnI w B pv P
 no : Ap nv ov
 np : Ap nv pv
 op : Ap ov pv
 bg : B ≤ g
 ti : t ≠ 3
section
variable {B g : Nat} {t : TypeId} {w w' : World} {cs : Array Value} {nv ov pv v' : Value} {N W P l : List Int}
theorem PkS.size (h : PkS B g t w cs nv ov pv N W P) : B ≤ w.heap.size := by have := h.at_.lt; have := h.bg; omega
theorem PkS.below (h : PkS B g t w cs nv ov pv N W P) (hb : Below w.heap.size w w') : PkS B g t w' cs nv ov pv N W P :=
 ⟨h.at_.below hb h.at_.lt, h.nx.below hb, h.ow.below hb, h.pl.below hb, h.no, h.np, h.op, h.bg, h.ti⟩
theorem PkS.drewN (h : PkS B g t w cs nv ov pv N W P) (k : Nat) : PkS B g t (w.drewN k) cs nv ov pv N W P := h.below (below_drewN (Below.refl _ _) k)
theorem PkS.drew (h : PkS B g t w cs nv ov pv N W P) : PkS B g t w.drew cs nv ov pv N W P := h.below (below_drew (Below.refl _ _))
theorem PkS.alloc (h : PkS B g t w cs nv ov pv N W P) (o : Obj) : PkS B g t (w.alloc o) cs nv ov pv N W P := h.below ((Below.refl _ _).alloc (Nat.le_refl _) o)
theorem PkS.next (h : PkS B g t w cs nv ov pv N W P) (ho : OwnI w' B v' l) (hg : w.grownBy w' nv.ownBlock) (hs : SameOrNew w nv v') : PkS B g t w' cs v' ov pv l W P :=
 ⟨h.at_.grown hg (fun e => own_apart h.nx h.at_ h.ti e.symm), ho, own_ap h.ow hg h.no.symm, own_ap h.pl hg h.np.symm, h.no.new hs (own_block h.ow), h.np.new hs (own_block h.pl), h.op, h.bg, h.ti⟩
theorem PkS.owner (h : PkS B g t w cs nv ov pv N W P) (ho : OwnI w' B v' l) (hg : w.grownBy w' ov.ownBlock) (hs : SameOrNew w ov v') : PkS B g t w' cs nv v' pv N l P :=
 ⟨h.at_.grown hg (fun e => own_apart h.ow h.at_ h.ti e.symm), own_ap h.nx hg h.no, ho, own_ap h.pl hg h.op.symm, (h.no.symm.new hs (own_block h.nx)).symm, h.np, h.op.new hs (own_block h.pl), h.bg, h.ti⟩
theorem PkS.place (h : PkS B g t w cs nv ov pv N W P) (ho : OwnI w' B v' l) (hg : w.grownBy w' pv.ownBlock) (hs : SameOrNew w pv v') : PkS B g t w' cs nv ov v' N W l :=
 ⟨h.at_.grown hg (fun e => own_apart h.pl h.at_ h.ti e.symm), own_ap h.nx hg h.np, own_ap h.ow hg h.op, ho, h.no, (h.np.symm.new hs (own_block h.nx)).symm, (h.op.symm.new hs (own_block h.ow)).symm, h.bg, h.ti⟩
theorem PkS.set (h : PkS B g t w cs nv ov pv N W P) (i : Nat) (u : Value) : PkS B g t (w.setCell ⟨g, i, none⟩ u) (cs.setIfInBounds i u) nv ov pv N W P :=
 ⟨h.at_.set i u, own_far h.nx h.at_ h.ti i u, own_far h.ow h.at_ h.ti i u, own_far h.pl h.at_ h.ti i u, h.no, h.np, h.op, h.bg, h.ti⟩
theorem PkS.far (h : PkS B g t w cs nv ov pv N W P) {e size n : Nat} {v : Value} {xs : List Value} (ho : w.ownsRow B e size v n xs) (hg : w.grownBy w' v.ownBlock) (h1 : t ≠ e) (h2 : e ≠ 3) : PkS B g t w' cs nv ov pv N W P :=
 ⟨h.at_.grown hg (fun e => own_apart ho h.at_ h1 e.symm), own_kept_ne h.nx hg (fun k hk e => own_apart2 ho h.nx h2 k e hk), own_kept_ne h.ow hg (fun k hk e => own_apart2 ho h.ow h2 k e hk), own_kept_ne h.pl hg (fun k hk e => own_apart2 ho h.pl h2 k e hk), h.no, h.np, h.op, h.bg, h.ti⟩
end
theorem OwnW.below {w w' : World} {B : Nat} {v : Value} {L : List Nat} (h : OwnW w B v L) (hb : Below w.heap.size w w') : OwnW w' B v L := ⟨own_below h.own hb (fun k hk => own_block h.own k hk), h.lt, h.len⟩
theorem OwnW.kept {w w' : World} {B : Nat} {v u : Value} {L : List Nat} (h : OwnW w B v L) {e size n : Nat} {xs : List Value} (ho : w.ownsRow B e size u n xs) (hg : w.grownBy w' u.ownBlock) (h2 : e ≠ 50) : OwnW w' B v L :=
 ⟨own_kept_ne h.own hg (fun k hk e => own_apart2 ho h.own h2 k e hk), h.lt, h.len⟩
theorem OwnW.far {w : World} {B g : Nat} {v : Value} {L : List Nat} {t : TypeId} {cs : Array Value} (h : OwnW w B v L) (ha : At w g t cs) (hne : t ≠ 50) (i : Nat) (u : Value) : OwnW (w.setCell ⟨g, i, none⟩ u) B v L := ⟨own_far h.own ha hne i u, h.lt, h.len⟩
theorem OwnI.store {w : World} {B g c : Nat} {l : List Int} (h : OwnI w B (.slice (some ⟨g, 0, none⟩) l.length c) l) (i : Nat) (x : Int) : OwnI (w.setCell ⟨g, i, none⟩ (.int .i64 x)) B (.slice (some ⟨g, 0, none⟩) l.length c) (l.set i x) ∧ w.grownBy (w.setCell ⟨g, i, none⟩ (.int .i64 x)) (some g) := by
 have := h.stored i (.int .i64 x)
 rw [vals_set] at this
 refine ⟨?_, this.2⟩
 unfold OwnI
 rw [List.length_set]; exact this.1
theorem grown_cell {w w' : World} {row : Option Nat} (hg : w.grownBy w' row) {p : Addr} (h : p.block < w.heap.size) (hne : some p.block ≠ row) : w'.cell? p = w.cell? p := by
 unfold World.cell?; rw [hg.block p.block h hne]
theorem step_append_own2 {P : Program} {ops : Array Oper} {o : Oper} {a : Act} {w : World} {K : Act → World → Prop} {Q : Exit → Act → World → Prop} {E : Prop}
  (hg : o.guard = none) (s x : Operand) (t : TypeId) (hop : o.op = Op.call { callee := Callee.builtin Builtin.append, args := #[s, x], argTypes := #[t, t] })
  (base : Nat) (e : TypeId) (i : TypeInfo) (z : Value) (size bytes : Nat) (h1 : P.underlying t = some (.slice e)) (h2 : P.info? e = some i) (h3 : i.zero = some z) (h4 : i.size = size) (h5 : i.bytes = bytes) (h6 : z.cells.size = size) (h7 : 0 < size)
  (v : Value) (n : Nat) (xs : List Value) (hs : a.eval s = v) (hown : w.ownsRow base e size v n xs)
  (ad : Addr) (m c : Nat) (news : List Value) (hx : a.eval x = .slice (some ad) m c) (hn : news.length = m * size) (hc : ∀ j u, news[j]? = some u → w.cell? (ad.add j) = some u) (h1c : ∀ u ∈ news, u.oneCell' = true)
  (b1 : n + m ≤ maxLen) (b2 : (n + m) * bytes ≤ 140737488355328) (b3 : base ≤ w.heap.size)
  (hK : ∀ v' w', w'.ownsRow base e size v' (n + m) (xs ++ news) → w.grownBy w' v.ownBlock → SameOrNew w v v' → K (a.put o.dst v') w') :
  if Region.wanted o (yielded ops a.tmps) = true then Oper.wp P o a w K Q else E := by
 have hw : Region.wanted o (yielded ops a.tmps) = true := by simp [Region.wanted, hg]
 rw [if_pos hw]
 obtain ⟨v', w', hr, r1, r2, r3⟩ := run_append_own2 (P := P) w base t o.type e i z size bytes h1 h2 h3 h4 h5 h6 h7 v n xs hown ad m c news hn hc h1c b1 b2 b3
 unfold Oper.wp
 simp [execOp, hop, resolve, invoke, builtin, hs, hx, hr, Result.andThen]
 exact hK _ _ r1 r2 r3
end Go.Proofs.YtjcijffhcmbhnaaDoor
