/-
  All of a reading in memory ('RdAt'); the walks of skip, start.
-/
import Derived.Test.YtgmihbfikggkjaaDoorRdB
import Derived.Deep.RegionLaw
namespace Go.Proofs.YtgmihbfikggkjaaDoor
open Go.RowKit
open Lx
set_option linter.unusedVariables false
set_option linter.unusedSimpArgs false
set_option maxRecDepth 100000

/-- append onto a row of one's own, as one step of a region that draws. -/
theorem step_append_own2 {P : Program} {ops : Array Oper} {o : Oper} {a : Act} {w : World} {K : Act → World → Prop} {Q : Exit → Act → World → Prop} {E : Prop}
    (hg : o.guard = none) (s x : Operand) (t : TypeId) (hop : o.op = Op.call { callee := Callee.builtin Builtin.append, args := #[s, x], argTypes := #[t, t] })
    (base : Nat) (e : TypeId) (i : TypeInfo) (z : Value) (size bytes : Nat) (h1 : P.underlying t = some (.slice e)) (h2 : P.info? e = some i) (h3 : i.zero = some z) (h4 : i.size = size) (h5 : i.bytes = bytes) (h6 : z.cells.size = size) (h7 : 0 < size)
    (v : Value) (n : Nat) (xs : List Value) (hs : a.eval s = v) (hown : w.ownsRow base e size v n xs)
    (ad : Addr) (m c : Nat) (news : List Value) (hx : a.eval x = .slice (some ad) m c) (hn : news.length = m * size) (hc : ∀ j u, news[j]? = some u → w.cell? (ad.add j) = some u) (h1c : ∀ u ∈ news, u.oneCell' = true)
    (b1 : n + m ≤ maxLen) (b2 : (n + m) * bytes ≤ 140737488355328) (b3 : base ≤ w.heap.size)
    (hK : ∀ v' w', w'.ownsRow base e size v' (n + m) (xs ++ news) → w.grownBy w' v.ownBlock → SameOrNew w v v' → K (a.put o.dst v') w') :
    if Region.wanted o (yielded ops a.tmps) = true then Oper.wp P o a w K Q else E := by
  have hw : Region.wanted o (yielded ops a.tmps) = true := by simp [Region.wanted, hg]
  rw [if_pos hw]
  obtain ⟨v', w', hr, r1, r2, r3⟩ := run_append_own2 (P := P) w base t o.type e i z size bytes h1 h2 h3 h4 h5 h6 h7 v n xs hown ad m c news hn hc h1c b1 b2 b3
  unfold Oper.wp
  simp [execOp, hop, resolve, invoke, builtin, hs, hx, hr, Result.andThen]
  exact hK _ _ r1 r2 r3
/-- The cells of a block that was just laid. -/
theorem cells_new (w : World) (cs : List Value) (t : TypeId) : ∀ j u, cs[j]? = some u → (w.alloc (.cells cs.toArray t)).cell? ((⟨w.heap.size, 0, none⟩ : Addr).add j) = some u := by
  intro j u h
  rw [Addr.add_mid, Nat.zero_add, (At.new w t cs.toArray).cell]
  simpa using h

theorem patinfo : (Tryd.prog.info? 53).map (fun i => (i.zero, i.size, i.bytes)) = some (some (.agg #[.string ⟨#[]⟩, .string ⟨#[]⟩, .bool false]), 3, 40) := by kernel_rfl
theorem tokinfo : (Tryd.prog.info? 58).map (fun i => (i.zero, i.size, i.bytes)) = some (some (.agg #[.string ⟨#[]⟩, .string ⟨#[]⟩, .string ⟨#[]⟩, .bool false]), 4, 56) := by kernel_rfl
theorem levinfo : (Tryd.prog.info? 61).map (fun i => (i.zero, i.size, i.bytes)) = some (some (.agg #[.int .i64 0, .slice none 0 0]), 2, 32) := by kernel_rfl
theorem ruleinfo : (Tryd.prog.info? 30).map (fun i => (i.zero, i.size, i.bytes)) = some (some (.agg #[.string ⟨#[]⟩, .slice none 0 0, .string ⟨#[]⟩, .string ⟨#[]⟩]), 4, 72) := by kernel_rfl
theorem strinfo : (Tryd.prog.info? 9).map (fun i => (i.zero, i.size, i.bytes)) = some (some (.string ⟨#[]⟩), 1, 16) := by kernel_rfl

def namesV (l : List Rd.Name) : List Value := l.map fun n => .string (str n)
def patsV (l : List Rd.Pat) : List Value := l.flatMap Rd.Pat.cells
def Rd.Tok.cells (t : Rd.Tok) : List Value := [.string (str t.name), .string (str t.pat.text), .string (str t.pat.set), .bool t.pat.many]
def toksV (l : List Rd.Tok) : List Value := l.flatMap Rd.Tok.cells
def levCells (p : Rd.Lev × Value) : List Value := [.int .i64 (p.1.assoc : Int), p.2]
def levsV (l : List (Rd.Lev × Value)) : List Value := l.flatMap levCells
def ruleCells (p : Rd.Rule × Value) : List Value := [.string (str p.1.left), p.2, .string (str p.1.prec), .string (str p.1.action)]
def rulesV (l : List (Rd.Rule × Value)) : List Value := l.flatMap ruleCells
theorem namesV_snoc (l : List Rd.Name) (x : Rd.Name) : namesV (l ++ [x]) = namesV l ++ [.string (str x)] := by simp [namesV]
theorem patsV_snoc (l : List Rd.Pat) (x : Rd.Pat) : patsV (l ++ [x]) = patsV l ++ x.cells := by simp [patsV]
theorem toksV_snoc (l : List Rd.Tok) (x : Rd.Tok) : toksV (l ++ [x]) = toksV l ++ x.cells := by simp [toksV]
theorem levsV_snoc (l : List (Rd.Lev × Value)) (x : Rd.Lev × Value) : levsV (l ++ [x]) = levsV l ++ levCells x := by simp [levsV]
theorem rulesV_snoc (l : List (Rd.Rule × Value)) (x : Rd.Rule × Value) : rulesV (l ++ [x]) = rulesV l ++ ruleCells x := by simp [rulesV]

/-- The names l lie in the slice v. -/
def Nms (w : World) (v : Value) (l : List Rd.Name) : Prop := ∃ A cap, v = .slice A l.length cap ∧ Lie w 9 A (namesV l)
theorem Nms.stay {w w' : World} {v : Value} {l : List Rd.Name} (h : Nms w v l) (hs : Stay 9 w w') : Nms w' v l := by
  obtain ⟨A, cap, h1, h2⟩ := h; exact ⟨A, cap, h1, h2.stay hs⟩
theorem Nms.nil (w : World) : Nms w (.slice none 0 0) [] := ⟨none, 0, rfl, Lie.nil _ _ _⟩
/-- Block m is a set of the names lev. -/
def HasSet (w : World) (m : Nat) (lev : List Rd.Name) : Prop := ∃ D : DataW Unit, w.ownsMap Tryd.prog 9 unitElem m lev.length D ∧ ∀ s : Rd.Name, Maps.has D (.string s) = decide (s ∈ lev)
theorem HasSet.kept {w w' : World} {m : Nat} {lev : List Rd.Name} {row : Option Nat} (h : HasSet w m lev) (hg : w.grownBy w' row) (hne : some m ≠ row) : HasSet w' m lev := by
  obtain ⟨D, h1, h2⟩ := h; exact ⟨D, h1.kept hg hne, h2⟩
theorem HasSet.lt {w : World} {m : Nat} {lev : List Rd.Name} (h : HasSet w m lev) : m < w.heap.size := by obtain ⟨D, h1, _⟩ := h; exact h1.lt
theorem HasSet.ne {w : World} {m g : Nat} {lev : List Rd.Name} {t : TypeId} {cs : Array Value} (h : HasSet w m lev) (hg : At w g t cs) : m ≠ g := by
  rintro rfl
  obtain ⟨D, ⟨es, c, h1, _⟩, _⟩ := h
  unfold At at hg
  rw [hg] at h1; simp at h1

theorem HasSet.look {w : World} {m : Nat} {lev : List Rd.Name} (h : HasSet w m lev) (T : Rd.Name) (hT : T.length ≤ 4000) :
    (Instr.lookup 84 (.map (some m)) (.string (str T)) true).run Tryd.prog w = .ok (.tuple #[.agg #[], .bool (decide (T ∈ lev))]) w := by
  obtain ⟨D, h1, h2⟩ := h
  have hkey : keyOf Tryd.prog 9 (.string (str T)) = some (.string T) := Go.WideMaps.keyOf_string_mk Tryd.underlying9 (s := str T) (by
    have : (str T).size = T.length := by rw [← bl_length, bl_str]
    rw [this]; unfold maxLen; omega)
  obtain ⟨v, ps, hrun, hv⟩ := h1.look_ok (Go.Maps.string_keyed Tryd.underlying9) Tryd.underlying84 (z := .agg #[]) (by kernel_rfl) (zd := .agg []) (zp := []) unitElem_mk hkey
  obtain ⟨rfl, _⟩ := unitElem_inv hv
  rw [hrun, h2]
theorem HasSet.put {w : World} {m : Nat} {lev : List Rd.Name} (h : HasSet w m lev) (T : Rd.Name) (hT : T.length ≤ 4000) (hl : lev.length ≤ 1000000) :
    ∃ w', (Instr.mapUpdate 84 (.map (some m)) (.string (str T)) (.agg #[])).run Tryd.prog w = .ok () w' ∧ HasSet w' m (lev ++ [T]) ∧ w.grownBy w' (some m) := by
  obtain ⟨D, h1, h2⟩ := h
  have hkey : keyOf Tryd.prog 9 (.string (str T)) = some (.string T) := Go.WideMaps.keyOf_string_mk Tryd.underlying9 (s := str T) (by
    have : (str T).size = T.length := by rw [← bl_length, bl_str]
    rw [this]; unfold maxLen; omega)
  obtain ⟨w', hrun, ho, hg⟩ := h1.update (Go.Maps.string_keyed Tryd.underlying9) Tryd.underlying84 (by unfold maxLen; omega) hkey (val := .agg #[]) (d := .agg []) (ps := []) unitElem_mk
  refine ⟨w', hrun, ⟨D.put (.string T) (.agg []), by rw [List.length_append]; exact ho, fun s => ?_⟩, hg⟩
  by_cases e : s = T
  · subst e
    rw [Go.Maps.has_put_same h1.isMap (by simp [WideAt.IsKeyLit])]
    simp
  · rw [Go.Maps.has_put_other (by simpa using e), h2]
    simp [e]

/-- All but the marks of a reading: what is declared, the rules, the names that have levels. -/
structure Body (w : World) (B : Nat) (x : Tl) (d : Rd.Decls) (rs : List Rd.Rule) (lev : List Rd.Name) : Prop where
  tok : w.ownsRow B 58 4 x.t d.toks.length (toksV d.toks)
  skp : w.ownsRow B 53 3 x.s d.skips.length (patsV d.skips)
  lvs : ∃ pl : List (Rd.Lev × Value), pl.map (·.1) = d.levels ∧ w.ownsRow B 61 2 x.l d.levels.length (levsV pl) ∧ ∀ p ∈ pl, Nms w p.2 p.1.names
  st : x.st = str d.start
  rls : ∃ ql : List (Rd.Rule × Value), ql.map (·.1) = rs ∧ w.ownsRow B 30 4 x.r rs.length (rulesV ql) ∧ ∀ p ∈ ql, Nms w p.2 p.1.right
  set_ : HasSet w x.m lev
  b : x.b = d.started
  base : B ≤ x.m
section
variable {w w' : World} {B g : Nat} {x : Tl} {d : Rd.Decls} {rs : List Rd.Rule} {lev : List Rd.Name}
/-- What stays of a body: rows whose blocks stay. -/
theorem Body.stays (h : Body w B x d rs lev) (h1 : Stay 58 w w') (h2 : Stay 53 w w') (h3 : Stay 61 w w') (h4 : Stay 30 w w') (h5 : Stay 9 w w') {lev' : List Rd.Name} (hm : HasSet w' x.m lev') : Body w' B x d rs lev' := by
  refine ⟨own_stay h.tok h1, own_stay h.skp h2, ?_, h.st, ?_, hm, h.b, h.base⟩
  · obtain ⟨pl, e, h6, h7⟩ := h.lvs
    exact ⟨pl, e, own_stay h6 h3, fun p hp => (h7 p hp).stay h5⟩
  · obtain ⟨ql, e, h6, h7⟩ := h.rls
    exact ⟨ql, e, own_stay h6 h4, fun p hp => (h7 p hp).stay h5⟩
theorem Body.below (h : Body w B x d rs lev) (hb : Below w.heap.size w w') : Body w' B x d rs lev :=
  h.stays (Stay.below hb) (Stay.below hb) (Stay.below hb) (Stay.below hb) (Stay.below hb) (h.set_.kept (row := none) ⟨hb.os, hb.tape, hb.output, hb.size, fun i hi _ => hb.block i hi⟩ (by simp))
theorem Body.alloc (h : Body w B x d rs lev) (o : Obj) : Body (w.alloc o) B x d rs lev := h.below ((Below.refl _ _).alloc (Nat.le_refl _) o)
theorem Body.drewN (h : Body w B x d rs lev) (n : Nat) : Body (w.drewN n) B x d rs lev := h.below (below_drewN (Below.refl _ _) n)
theorem Body.drew (h : Body w B x d rs lev) : Body w.drew B x d rs lev := h.below (below_drew (Below.refl _ _))
theorem Body.far (h : Body w B x d rs lev) {cs : Array Value} (hg : At w g 86 cs) (hk : w.grownBy w' (some g)) : Body w' B x d rs lev :=
  h.stays (Stay.far hg (by decide) hk) (Stay.far hg (by decide) hk) (Stay.far hg (by decide) hk) (Stay.far hg (by decide) hk) (Stay.far hg (by decide) hk) (h.set_.kept hk (by simpa using h.set_.ne hg))
end

/-- There is not too much of anything. -/
def Small (d : Rd.Decls) (rs : List Rd.Rule) (lev : List Rd.Name) (ms : List Mk) : Prop :=
  d.toks.length ≤ 20 ∧ d.skips.length ≤ 4 ∧ d.levels.length ≤ 10 ∧ rs.length ≤ 40 ∧ lev.length + ms.length ≤ 1000000
/-- The reading in block g: what is declared, the rules, the names that have levels (in block m), the marks that are left. -/
structure RdAt (w : World) (B g m : Nat) (d : Rd.Decls) (rs : List Rd.Rule) (lev : List Rd.Name) (ms : List Mk) : Prop where
  ex : ∃ x : Tl, Rest w g x ms ∧ Body w B x d rs lev ∧ x.m = m
  base : B ≤ g
  small : Small d rs lev ms
section
variable {w w' : World} {B g m : Nat} {d : Rd.Decls} {rs : List Rd.Rule} {lev : List Rd.Name} {ms : List Mk}
theorem RdAt.below (h : RdAt w B g m d rs lev ms) (hb : Below w.heap.size w w') : RdAt w' B g m d rs lev ms := by
  obtain ⟨x, h1, h2, h3⟩ := h.ex
  exact ⟨⟨x, h1.below hb, h2.below hb, h3⟩, h.base, h.small⟩
theorem RdAt.alloc (h : RdAt w B g m d rs lev ms) (o : Obj) : RdAt (w.alloc o) B g m d rs lev ms := h.below ((Below.refl _ _).alloc (Nat.le_refl _) o)
end

/-- Nothing below B turns, and of maps none but m. -/
structure Fr (B m : Nat) (w w' : World) : Prop where
  below : Below B w w'
  maps : ∀ (k : Nat) (es : Array MapEntry) (c : Nat), k ≠ m → w.heap[k]? = some (.map es c) → w'.heap[k]? = some (.map es c)
section
variable {a w w' : World} {B m : Nat}
theorem Fr.refl (B m : Nat) (w : World) : Fr B m w w := ⟨Below.refl _ _, fun _ _ _ _ h => h⟩
theorem Fr.trans (h : Fr B m a w) (k : Fr B m w w') : Fr B m a w' := ⟨h.below.trans k.below, fun i es c hi he => k.maps i es c hi (h.maps i es c hi he)⟩
theorem Fr.of_below (h : Below w.heap.size w w') (hB : B ≤ w.heap.size) : Fr B m w w' := ⟨h.mono hB, fun i es c _ he => by rw [h.block i (Array.getElem?_eq_some_iff.1 he).1]; exact he⟩
theorem Fr.alloc (h : Fr B m a w) (hB : B ≤ w.heap.size) (o : Obj) : Fr B m a (w.alloc o) := h.trans (Fr.of_below ((Below.refl _ _).alloc (Nat.le_refl _) o) hB)
theorem Fr.drewN (h : Fr B m a w) (n : Nat) : Fr B m a (w.drewN n) := ⟨below_drewN h.below n, h.maps⟩
theorem Fr.drew (h : Fr B m a w) : Fr B m a w.drew := ⟨⟨h.below.os, h.below.tape, h.below.output, h.below.size, h.below.block⟩, h.maps⟩
/-- A block of cells turns. -/
theorem Fr.at_ {g : Nat} {t : TypeId} {cs : Array Value} (hg : At w g t cs) (hk : w.grownBy w' (some g)) (hB : B ≤ g) : Fr B m w w' :=
  ⟨(Below.refl _ _).grown hk (by have := hg.lt; omega) (fun k e => by injection e with e; omega), fun i es c hi he => by
    rw [hk.block i (Array.getElem?_eq_some_iff.1 he).1 (fun e => ?_)]
    · exact he
    · injection e with e
      subst e
      unfold At at hg
      rw [hg] at he; simp at he⟩
theorem Fr.own {B' e size n : Nat} {v : Value} {ys : List Value} (ho : w.ownsRow B' e size v n ys) (hk : w.grownBy w' v.ownBlock) (hB : B ≤ B') (hs : B ≤ w.heap.size) : Fr B m w w' :=
  ⟨(Below.refl _ _).grown hk hs (fun k e => by have := (own_lt ho k e).1; omega), fun i es c hi he => by
    rw [hk.block i (Array.getElem?_eq_some_iff.1 he).1 (fun e => ?_)]
    · exact he
    · rcases ho.2 with ⟨rfl, _⟩ | ⟨g, cap, cur, rfl, _, hgg, _⟩
      · simp [Value.ownBlock] at e
      · simp [Value.ownBlock] at e
        subst e
        rw [hgg] at he; simp at he⟩
theorem Fr.map_ (hk : w.grownBy w' (some m)) (hB : B ≤ m) (hs : B ≤ w.heap.size) : Fr B m w w' :=
  ⟨(Below.refl _ _).grown hk hs (fun k e => by injection e with e; omega), fun i es c hi he => by
    rw [hk.block i (Array.getElem?_eq_some_iff.1 he).1 (fun e => hi (by injection e))]; exact he⟩
end

/-- What a declaration's reading tells. -/
def Told (B g m : Nat) (res : Rd.Res Rd.Decls) (e : Ending) (w' : World) : Prop :=
  match res with
  | .ok d r => e = .returned (.int .i64 0) ∧ RdAt w' B g m d [] (Rd.levelled d) r
  | .bad c r => e = .returned (.int .i64 (c : Int)) ∧ ∃ x, Rest w' g x r

theorem ne_of_kind {ms : List Mk} {k : Nat} (h : (Rd.hd ms).kind = k) (hk : k ≠ 0) : ms ≠ [] := by rintro rfl; simp [Rd.hd_nil] at h; omega

theorem Body.skips {w w' : World} {B : Nat} {x : Tl} {d : Rd.Decls} {rs : List Rd.Rule} {lev : List Rd.Name} (h : Body w B x d rs lev) {v' : Value} {p : Rd.Pat} (ho : w'.ownsRow B 53 3 v' (d.skips.length + 1) (patsV d.skips ++ p.cells)) (hg : w.grownBy w' x.s.ownBlock) :
    Body w' B { x with s := v' } { d with skips := d.skips ++ [p] } rs lev := by
  have hm : HasSet w' x.m lev := h.set_.kept hg (fun e => by
    rcases h.skp.2 with ⟨e1, _⟩ | ⟨g, cap, cur, e1, _, hgg, _⟩
    · rw [e1] at e; simp [Value.ownBlock] at e
    · rw [e1] at e
      simp [Value.ownBlock] at e
      exact h.set_.ne (g := g) (t := _) (cs := cur) hgg e)
  refine ⟨own_stay h.tok (Stay.own h.skp (by decide) hg), by rw [patsV_snoc, List.length_append]; exact ho, ?_, h.st, ?_, hm, h.b, h.base⟩
  · obtain ⟨pl, e, h6, h7⟩ := h.lvs
    exact ⟨pl, e, own_stay h6 (Stay.own h.skp (by decide) hg), fun p hp => (h7 p hp).stay (Stay.own h.skp (by decide) hg)⟩
  · obtain ⟨ql, e, h6, h7⟩ := h.rls
    exact ⟨ql, e, own_stay h6 (Stay.own h.skp (by decide) hg), fun p hp => (h7 p hp).stay (Stay.own h.skp (by decide) hg)⟩

/-- A field of the reading is set, behind what it now holds. -/
theorem store_end {w : World} {B g i : Nat} {x x' : Tl} {d : Rd.Decls} {rs : List Rd.Rule} {lev : List Rd.Name} {r : List Mk} {A : Option Addr} {cap : Nat} {v' : Value} (hat : At w g 86 (x.cells (.slice A r.length cap))) (hlen : Sane r) (hcap : r.length ≤ cap)
    (hli : Lie w 55 A (marksV r)) (hb : Body w B x' d rs lev) (hx : (x.cells (.slice A r.length cap)).setIfInBounds i v' = x'.cells (.slice A r.length cap)) (hB : B ≤ g) (hs : Small d rs lev r) :
    RdAt (w.setCell ⟨g, i, none⟩ v') B g x'.m d rs lev r ∧ ∀ m, Fr B m w (w.setCell ⟨g, i, none⟩ v') := by
  have hg : w.grownBy (w.setCell ⟨g, i, none⟩ v') (some g) := grown_set (grown_refl _ _) i v'
  refine ⟨⟨⟨x', ⟨hlen, A, cap, hcap, ?_, hli.stay (Stay.far hat (by decide) hg)⟩, hb.far hat hg, rfl⟩, hB, hs⟩, fun m => Fr.at_ hat hg hB⟩
  rw [← hx]; exact hat.set i v'

set_option maxHeartbeats 2000000 in
theorem skip_any (B g m : Nat) (d : Rd.Decls) (ms : List Mk) (w : World) (hr : RdAt w B g m d [] (Rd.levelled d) ms) (hne : ms ≠ []) :
    Calls Tryd.prog 88 #[.pointer (some ⟨g, 0, none⟩)] w fun e w' => Told B g m (Rd.skip d ms) e w' ∧ Fr B m w w' := by
  obtain ⟨x, hre, hbo, rfl⟩ := hr.ex
  have hB := hr.base
  have hd4 := hr.small.2.1
  have HS := Lib.hid hr.small
  obtain ⟨A, cap, hcap, hat, hli⟩ := hre.ex
  have hlt := hat.lt
  obtain ⟨ao, so, hx⟩ := own_form hbo.skp
  have HRE := Lib.hid hre
  have HBO := Lib.hid hbo
  have HAT := Lib.hid hat
  have HX := Lib.hid hx
  have c0 := hat.cell 0
  have c1 := hat.cell 1
  have c2 := hat.cell 2
  have c3 := hat.cell 3
  have c4 := hat.cell 4
  have c5 := hat.cell 5
  have c6 := hat.cell 6
  have c7 := hat.cell 7
  have cf := hat.frozen
  simp only [Tl.cells, List.getElem?_toArray, List.getElem?_cons_zero, List.getElem?_cons_succ] at c0 c1 c2 c3 c4 c5 c6 c7
  rw [hx] at c2
  clear hr hre hbo hat hli hx
  by_cases h4 : d.skips.length = 4
  · have e : Rd.skip d ms = .bad 3 ms := by unfold Rd.skip; rw [if_pos h4]
    rw [e]
    clear e
    rw [h4] at c2
    go_enter Tryd.func88, Tryd.ntmps88
    go_wp2_with fail
    go_ret
    exact ⟨⟨rfl, x, HRE.out⟩, Fr.refl _ _ _⟩
  · have hn4 : ((d.skips.length : Int) == 4) = false := by rw [beq_eq_false_iff_ne]; omega
    have hn5 : (d.skips.length == 4) = false := by rw [beq_eq_false_iff_ne]; omega
    cases hp : Rd.pattern ms.tail with
    | bad c r =>
      have hc : Rd.skip d ms = .bad 14 r := by
        have hcc : c = 14 := by
          unfold Rd.pattern at hp
          repeat' split at hp
          all_goals first
            | (cases hp; done)
            | (cases hp; rfl)
        unfold Rd.skip; rw [if_neg h4, hp]; simp only [hcc]
      rw [hc]
      have HP := Lib.hid hp
      clear hc hp
      go_enter Tryd.func88, Tryd.ntmps88
      go_wp2_with fail
      refine (next_any g x ms _ HRE.out hne).mono ?_
      rintro e w1 ⟨rfl, hr1, hg1⟩
      have HR1 := Lib.hid hr1
      have HG1 := Lib.hid hg1
      clear hr1 hg1 c0 c1 c2 c3 c4 c5 c6 c7
      go_wp2_with fail
      refine (pattern_any g x ms.tail _ HR1.out).mono ?_
      rw [HP.out]
      rintro e w2 ⟨rfl, hr2, hg2⟩
      have HR2 := Lib.hid hr2
      have HG2 := Lib.hid (grown_trans HG1.out hg2)
      clear hr2 hg2
      simp only [Rd.Res.two, patV, noPat]
      go_wp2_with fail
      go_ret
      exact ⟨⟨rfl, x, HR2.out.alloc _⟩, (Fr.at_ HAT.out HG2.out hB).alloc (by have := HG2.out.size; omega) _⟩
    | ok p r =>
      have he : Rd.skip d ms = .ok { d with skips := d.skips ++ [p] } r := by unfold Rd.skip; rw [if_neg h4, hp]
      rw [he]
      clear he
      have hs9 : Small { d with skips := d.skips ++ [p] } [] (Rd.levelled d) r := by
        have h1 := Rd.pattern_less ms.tail
        rw [hp] at h1
        obtain ⟨q1, q2, q3, q4, q5⟩ := HS.out
        simp only [Rd.Res.Less, List.length_tail] at h1
        refine ⟨q1, by simp; omega, q3, q4, by omega⟩
      have HS9 := Lib.hid hs9
      have HP := Lib.hid hp
      clear hp hs9
      obtain ⟨i0, hi, hz0, hz1, hz2⟩ := info_parts patinfo
      obtain ⟨N, hN⟩ : ∃ N, d.skips.length = N := ⟨_, rfl⟩
      rw [hN] at c2 hn4 hn5 hd4
      have HN := Lib.hid hN
      clear hN h4
      go_enter Tryd.func88, Tryd.ntmps88
      go_wp2_with fail
      refine (next_any g x ms _ HRE.out hne).mono ?_
      rintro e w1 ⟨rfl, hr1, hg1⟩
      have HR1 := Lib.hid hr1
      have HG1 := Lib.hid hg1
      clear hr1 hg1 c0 c1 c2 c3 c4 c5 c6 c7
      go_wp2_with fail
      refine (pattern_any g x ms.tail _ HR1.out).mono ?_
      rw [HP.out]
      rintro e w2 ⟨rfl, hr2, hg2⟩
      have hgg := grown_trans HG1.out hg2
      have hB2 := (HBO.out.far HAT.out hgg)
      have hF2 := Fr.at_ (m := x.m) HAT.out hgg hB
      have hs2 : w.heap.size ≤ w2.heap.size := hgg.size
      have HR2 := Lib.hid (hr2.alloc (.cells #[.string (str p.text), .string (str p.set), .bool p.many] 53))
      have HB2 := Lib.hid (hB2.alloc (.cells #[.string (str p.text), .string (str p.set), .bool p.many] 53))
      have HF2 := Lib.hid (hF2.alloc (by omega) (.cells #[.string (str p.text), .string (str p.set), .bool p.many] 53))
      have HP2 := Lib.hid (At.new w2 53 #[.string (str p.text), .string (str p.set), .bool p.many])
      clear hr2 hg2 hgg hB2 hF2
      simp only [Rd.Res.two, Rd.Res.rest, patV] at HR2 ⊢
      go_wp2_with fail
      obtain ⟨w3, hw3⟩ : ∃ w3, w2.alloc (.cells #[.string (str p.text), .string (str p.set), .bool p.many] 53) = w3 := ⟨_, rfl⟩
      obtain ⟨gp, hgp⟩ : ∃ gp, w2.heap.size = gp := ⟨_, rfl⟩
      rw [hw3] at HR2 HB2 HF2 HP2 ⊢
      rw [hgp] at HP2 ⊢
      obtain ⟨A3, cap3, hcap3, hat3, hli3⟩ := HR2.out.ex
      have HAT3 := Lib.hid hat3
      have HLI3 := Lib.hid hli3
      have c0 := hat3.cell 0
      have c1 := hat3.cell 1
      have c2 := hat3.cell 2
      have c3 := hat3.cell 3
      have c4 := hat3.cell 4
      have c5 := hat3.cell 5
      have c6 := hat3.cell 6
      have c7 := hat3.cell 7
      have cf := hat3.frozen
      simp only [Tl.cells, List.getElem?_toArray, List.getElem?_cons_zero, List.getElem?_cons_succ] at c0 c1 c2 c3 c4 c5 c6 c7
      rw [HX.out, HN.out] at c2
      have p0 := HP2.out.cell 0
      have p1 := HP2.out.cell 1
      have p2 := HP2.out.cell 2
      simp only [List.getElem?_toArray, List.getElem?_cons_zero, List.getElem?_cons_succ] at p0 p1 p2
      have hs3 : B ≤ w3.heap.size := by have := HAT3.out.lt; omega
      have hown3 := HB2.out.skp
      rw [HX.out, HN.out] at hown3
      have HO3 := Lib.hid hown3
      have c2a : ∀ o, (w3.alloc o).cell? ⟨g, 2, none⟩ = some (.slice ao N so) := fun o => by
        have := (hat3.alloc o).cell 2
        simp only [Tl.cells, List.getElem?_toArray, List.getElem?_cons_zero, List.getElem?_cons_succ] at this
        rw [this, HX.out, HN.out]
      clear hw3 hgp hat3 hli3 hown3
      go_region_law (refine step_append_own2 rfl _ _ 32 rfl B 53 i0 _ 3 40 Tryd.underlying32 hi hz0 hz1 hz2 rfl (by decide) _ _ _ rfl (HO3.out.drew.alloc _) ⟨w3.heap.size, 0, none⟩ 1 1 p.cells rfl rfl (cells_new _ _ _) (by simp [Rd.Pat.cells, Value.oneCell']) (by unfold maxLen; omega) (by omega) (by simp; omega) ?_; intro v' w5 hown5 hg5 hn5; obtain ⟨a5, s5, rfl⟩ := own_form hown5; have hA5 := At.grown (HAT3.out.drew.alloc _) hg5 (fun e => own_apart HO3.out HAT3.out (by decide) e.symm); have q2 := hA5.cell 2; have qf := hA5.frozen; simp only [Tl.cells, List.getElem?_toArray, List.getElem?_cons_zero, List.getElem?_cons_succ] at q2)
      all_goals
        have hg6 : (w3.alloc (.cells #[.string (str p.text), .string (str p.set), .bool p.many] 53)).drew.grownBy w5 (Value.slice ao N so).ownBlock := hg5
        have ho3 := HO3.out.alloc (.cells #[.string (str p.text), .string (str p.set), .bool p.many] 53)
        have hF5 := ((HF2.out.alloc hs3 (.cells #[.string (str p.text), .string (str p.set), .bool p.many] 53)).drew).trans (Fr.own (own_drewN ho3 1) hg6 (Nat.le_refl _) (by simp; omega))
        have hB5 := ((HB2.out.alloc (.cells #[.string (str p.text), .string (str p.set), .bool p.many] 53)).drew).skips (p := p) (by rw [HN.out]; exact hown5) (by rw [HX.out, HN.out]; exact hg6)
        have hL5 := ((HLI3.out.alloc (.cells #[.string (str p.text), .string (str p.set), .bool p.many] 53)).drew).stay (Stay.own (own_drewN ho3 1) (by decide) hg6)
        obtain ⟨hE, hF⟩ := store_end (i := 2) (v' := .slice a5 (N + 1) s5) hA5 HR2.out.len hcap3 hL5 hB5 (by simp [Tl.cells]) hB HS9.out
        have HE := Lib.hid hE
        have HF := Lib.hid (hF5.trans (hF _))
        clear hg6 ho3 hF5 hB5 hL5 hE hF hg5 hn5 hown5 hA5
        go_wp2_with fail
        go_ret
        exact ⟨⟨rfl, HE.out⟩, HF.out⟩

end Go.Proofs.YtgmihbfikggkjaaDoor
