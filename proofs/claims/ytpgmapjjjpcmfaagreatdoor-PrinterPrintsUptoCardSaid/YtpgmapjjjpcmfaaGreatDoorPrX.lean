/-
  A grammar as an argument ('GramC': the cells that a value leads to); the walks of printer's once, tokenNames, levelNames, fits.
  append onto a row of one's own, from whatever source, be it nil: at a plain operation, at a step of a region that draws.
  A grammar as an argument ('GramC': the cells that a value leads to); the walks of printer's tokenNames, levelNames, fits, tokenCan, word, levelCan.
  The walks of printer's braced, actionCan, ruleCan.
-/
import Derived.Test.YtpgmapjjjpcmfaaGreatDoorPrW
import Derived.Test.YtpgmapjjjpcmfaaGreatDoorOwn
import Derived.Test.YtpgmapjjjpcmfaaGreatDoorOps
namespace Go.Proofs.YtpgmapjjjpcmfaaGreatDoor
open Go.RowKit
open Lx
set_option linter.unusedVariables false
set_option linter.unusedSimpArgs false
set_option maxRecDepth 100000

/-! ## Is no name there twice? -/
/-- Block m is a set of the names l, and of as many as l has, if none comes twice. -/
def SetN (w : World) (m : Nat) (l : List Rd.Name) : Prop := ∃ D : DataW Unit, w.ownsMap Tryz.prog 9 unitElem m l.length D ∧ (∀ s : Rd.Name, Maps.has D (.string s) = decide (s ∈ l)) ∧ Maps.size D ≤ l.length ∧ (Maps.size D = l.length ↔ l.Nodup)
theorem SetN.put {w : World} {m : Nat} {l : List Rd.Name} (h : SetN w m l) (T : Rd.Name) (hT : T.length ≤ 4000) (hl : l.length ≤ 1000000) :
    ∃ w', (Instr.mapUpdate 106 (.map (some m)) (.string (str T)) (.agg #[])).run Tryz.prog w = .ok () w' ∧ SetN w' m (l ++ [T]) ∧ w.grownBy w' (some m) := by
  obtain ⟨D, h1, h2, h3, h4⟩ := h
  have hkey : keyOf Tryz.prog 9 (.string (str T)) = some (.string T) := Go.WideMaps.keyOf_string_mk Tryz.underlying9 (s := str T) (by
    have : (str T).size = T.length := by rw [← bl_length, bl_str]
    rw [this]; unfold maxLen; omega)
  obtain ⟨w', hrun, ho, hg⟩ := h1.update (Go.Maps.string_keyed Tryz.underlying9) Tryz.underlying106 (by unfold maxLen; omega) hkey (val := .agg #[]) (d := .agg []) (ps := []) unitElem_mk
  have hsz := Go.Maps.size_put (k := .string T) (h1.tidy (Go.Maps.string_keyed Tryz.underlying9)) (.agg [])
  rw [h2] at hsz
  refine ⟨w', hrun, ⟨D.put (.string T) (.agg []), by rw [List.length_append]; exact ho, fun s => ?_, ?_, ?_⟩, hg⟩
  · by_cases e : s = T
    · subst e
      rw [Go.Maps.has_put_same h1.isMap (by simp [WideAt.IsKeyLit])]
      simp
    · rw [Go.Maps.has_put_other (by simpa using e), h2]
      simp [e]
  · rw [hsz, List.length_append, List.length_singleton]
    split <;> omega
  · rw [hsz, List.length_append, List.length_singleton]
    by_cases hin : T ∈ l
    · rw [decide_eq_true hin, if_pos rfl]
      refine ⟨fun e => by omega, fun hn => ?_⟩
      rw [List.nodup_append] at hn
      exact absurd rfl (hn.2.2 T hin T (by simp))
    · rw [decide_eq_false hin, if_neg (by decide)]
      refine ⟨fun e => ?_, fun hn => ?_⟩
      · rw [List.nodup_append]
        refine ⟨h4.1 (by omega), by simp, fun a ha b hb e => ?_⟩
        simp at hb
        subst hb
        rw [e] at ha
        exact hin ha
      · rw [List.nodup_append] at hn
        rw [h4.2 hn.1]
theorem SetN.kept {w w' : World} {m : Nat} {l : List Rd.Name} {row : Option Nat} (h : SetN w m l) (hg : w.grownBy w' row) (hne : some m ≠ row) : SetN w' m l := by
  obtain ⟨D, h1, h2⟩ := h; exact ⟨D, h1.kept hg hne, h2⟩

set_option maxHeartbeats 1000000 in
theorem once_any (l : List Rd.Name) (A : Option Addr) (cap B : Nat) (w : World) (hl : Cl w B A (namesV l)) (hB : B ≤ w.heap.size) (hs : ∀ x ∈ l, x.length ≤ 4000) (hn : l.length ≤ 1000000) :
    Calls Tryz.prog 33 #[.slice A l.length cap] w fun e w' => e = .returned (.bool (decide l.Nodup)) ∧ Below w.heap.size w w' := by
  have HL := Lib.hid hl
  have HS := Lib.hid hs
  obtain ⟨n, hnn⟩ : ∃ n, l.length = n := ⟨_, rfl⟩
  rw [hnn] at hn ⊢
  have HN := Lib.hid hnn
  clear hl hs hnn
  have hmm := @run_makeMap Tryz.prog
  have hm0 : SetN (w.alloc (.map #[] 0)) w.heap.size [] := ⟨.map [], World.ownsMap_made _ _ _ _, fun s => by simp [Maps.has], by simp [Maps.size], by simp [Maps.size]⟩
  have HM0 := Lib.hid hm0
  have HB0 := Lib.hid ((Below.refl w.heap.size w).alloc (Nat.le_refl _) (.map #[] 0))
  clear hm0
  go_enter Tryz.func33, Tryz.ntmps33
  go_wp2_with fail
  clear hmm
  go_loopw [9] (fun i wr => ∃ k : Nat, k ≤ n ∧ i = .int .i64 (k : Int) ∧ SetN wr w.heap.size (l.take k) ∧ Below w.heap.size w wr) (fun i _ => n - (intOf i).toNat)
  case atStart => exact ⟨0, by omega, rfl, HM0.out, HB0.out⟩
  case round =>
    obtain ⟨k, hk, rfl, hset, hb⟩ := hrel
    have HSET := Lib.hid hset
    have HB := Lib.hid hb
    clear hset hb
    by_cases hlt : k < n
    · obtain ⟨x, ht⟩ := some_get (l := l) (i := k) (by rw [HN.out]; exact hlt)
      obtain ⟨b, o, hA, hbl, hcell⟩ := (HL.out.below (HB.out.mono hB)).ex (fun e => by
        have h1 := namesV_get ht
        rw [e] at h1; simp at h1)
      subst hA
      have c0 : wr.cell? ⟨b, o + k, none⟩ = some (.string (str x)) := hcell _ _ (namesV_get ht)
      have hki : (k : Int) < (n : Int) := by omega
      have hk0 : (0 : Int) ≤ (k : Int) := by omega
      obtain ⟨w5, hrun, he5, hg5⟩ := HSET.out.put x (HS.out x (List.mem_of_getElem? ht)) (by rw [List.length_take]; omega)
      have htk : l.take (k + 1) = l.take k ++ [x] := by rw [List.take_add_one, ht]; rfl
      rw [← htk] at he5
      have HE5 := Lib.hid he5
      have HB5 := Lib.hid (HB.out.grown hg5 HB.out.size (fun j hj => by injection hj with hj; omega))
      clear hcell ht htk he5 hg5
      go_wp2_with fail
      go_roundw
      case rel => exact ⟨k + 1, by omega, by go_num, HE5.out, HB5.out⟩
      case measure => simp [intOf]; omega
    · obtain rfl : n = k := by omega
      obtain ⟨D, h1, h2, h3, h4⟩ := HSET.out
      have hl : l.take n = l := by rw [← HN.out, List.take_length]
      rw [hl] at h1 h3 h4
      rw [HN.out] at h3 h4
      have H4 := Lib.hid h4
      clear h2 h4
      have hlen := h1.len Tryz.underlying106 3
      by_cases hnd : l.Nodup
      · have e1 := H4.out.2 hnd
        have e2 : ((Maps.size D : Int) == (n : Int)) = true := by rw [beq_iff_eq]; omega
        have HND := Lib.hid hnd
        clear hnd
        go_wp2_with fail
        go_ret
        exact ⟨by rw [decide_eq_true HND.out]; simp [e1], HB.out⟩
      · have e1 : Maps.size D ≠ n := fun e => hnd (H4.out.1 e)
        have e2 : ((Maps.size D : Int) == (n : Int)) = false := by rw [beq_eq_false_iff_ne]; omega
        have e3 : (Maps.size D == n) = false := by rw [beq_eq_false_iff_ne]; omega
        have HND := Lib.hid hnd
        clear hnd
        go_wp2_with fail
        go_ret
        exact ⟨by rw [decide_eq_false HND.out]; simp [e1], HB.out⟩

end Go.Proofs.YtpgmapjjjpcmfaaGreatDoor

namespace Go.Proofs.YtpgmapjjjpcmfaaGreatDoor
open Go.RowKit
set_option linter.unusedVariables false

section
variable {P : Program} (w : World)
/-- Nothing is appended. -/
theorem run_append_none (base : Nat) (t ty e : TypeId) (i : TypeInfo) (size : Nat) (ht : P.underlying t = some (.slice e)) (hi : P.info? e = some i)
    (v : Value) (n : Nat) (xs : List Value) (hown : w.ownsRow base e size v n xs) (c : Nat) : (Builtin.append_ #[t, t] ty #[v, .slice none 0 c]).run P w = .ok v w := by
  rcases own_shape hown with ⟨rfl, _, _⟩ | ⟨g, cap, rfl, hnc, _⟩
  · simp [Builtin.append_, run_underlying ht, sizeOf, typeInfo, hi, Builtin.lenOf, Builtin.firstCells]
  · simp [Builtin.append_, run_underlying ht, sizeOf, typeInfo, hi, Builtin.lenOf, Builtin.firstCells, hnc, storeCells]

/-- What is appended lies at A, if there is any. -/
def Lies (w : World) (A : Option Addr) (news : List Value) : Prop := ∀ j u, news[j]? = some u → ∃ ad, A = some ad ∧ w.cell? (ad.add j) = some u

theorem run_append_own3 (base : Nat) (t ty e : TypeId) (i : TypeInfo) (z : Value) (size bytes : Nat) (ht : P.underlying t = some (.slice e)) (hi : P.info? e = some i) (hz : i.zero = some z)
    (hsize : i.size = size) (hby : i.bytes = bytes) (hzs : z.cells.size = size) (hsz : 0 < size)
    (v : Value) (n : Nat) (xs : List Value) (hown : w.ownsRow base e size v n xs)
    (A : Option Addr) (m c : Nat) (news : List Value) (hl : news.length = m * size) (hnews : Lies w A news) (h1 : ∀ u ∈ news, u.oneCell' = true)
    (h63 : n + m ≤ maxLen) (hbytes : (n + m) * bytes ≤ 140737488355328) (hbase : base ≤ w.heap.size) :
    ∃ v' w', (Builtin.append_ #[t, t] ty #[v, .slice A m c]).run P w = .ok v' w' ∧ w'.ownsRow base e size v' (n + m) (xs ++ news) ∧ w.grownBy w' v.ownBlock ∧ SameOrNew w v v' := by
  cases A with
  | some ad =>
    refine run_append_own2 (P := P) w base t ty e i z size bytes ht hi hz hsize hby hzs hsz v n xs hown ad m c news hl (fun j u hj => ?_) h1 h63 hbytes hbase
    obtain ⟨ad', he, hc⟩ := hnews j u hj
    injection he with he
    rw [he]; exact hc
  | none =>
    have hn : news = [] := by
      cases news with
      | nil => rfl
      | cons u l => obtain ⟨_, he, _⟩ := hnews 0 u rfl; cases he
    subst hn
    have hm : m = 0 := by
      rcases Nat.eq_zero_or_pos m with h | h
      · exact h
      · have := Nat.mul_pos h hsz; simp at hl; omega
    subst hm
    exact ⟨v, w, run_append_none w base t ty e i size ht hi v n xs hown c, by simpa using hown, grown_refl w _, SameOrNew.refl w v⟩

theorem wpList_append_own3 {ops : Array Oper} {rest : List Oper} {o : Oper} {a : Act} {Q : Exit → Act → World → Prop} (hgd : o.guard = none) (s x : Operand) (t : TypeId)
    (ho : o.op = .call { callee := .builtin .append, args := #[s, x], argTypes := #[t, t] })
    (base : Nat) (e : TypeId) (i : TypeInfo) (z : Value) (size bytes : Nat) (ht : P.underlying t = some (.slice e)) (hi : P.info? e = some i) (hz : i.zero = some z)
    (hsize : i.size = size) (hby : i.bytes = bytes) (hzs : z.cells.size = size) (hsz : 0 < size)
    (v : Value) (n : Nat) (xs : List Value) (hs : a.eval s = v) (hown : w.ownsRow base e size v n xs)
    (A : Option Addr) (m c : Nat) (news : List Value) (hx : a.eval x = .slice A m c) (hl : news.length = m * size) (hnews : Lies w A news) (h1 : ∀ u ∈ news, u.oneCell' = true)
    (h63 : n + m ≤ maxLen) (hbytes : (n + m) * bytes ≤ 140737488355328) (hbase : base ≤ w.heap.size)
    (h : ∀ v' w', w'.ownsRow base e size v' (n + m) (xs ++ news) → w.grownBy w' v.ownBlock → SameOrNew w v v' → wpList P ops Q rest (a.put o.dst v') w') : wpList P ops Q (o :: rest) a w := by
  refine wpList_plain hgd fun K hK => ?_
  obtain ⟨v', w', hr, h2, h3, h4⟩ := run_append_own3 (P := P) w base t o.type e i z size bytes ht hi hz hsize hby hzs hsz v n xs hown A m c news hl hnews h1 h63 hbytes hbase
  unfold Oper.wp execOp
  simp only [ho, resolve, invoke, builtin, Sem.run_bind, Sem.run_pure, Result.andThen_ok, List.map_toArray, List.map_cons, List.map_nil, hs, hx, hr]
  exact hK _ _ (h v' w' h2 h3 h4)


theorem step_append_own4 {ops : Array Oper} {o : Oper} {a : Act} {K : Act → World → Prop} {Q : Exit → Act → World → Prop} {E : Prop}
    (hw : Region.wanted o (yielded ops a.tmps) = true) (s x : Operand) (t : TypeId) (hop : o.op = Op.call { callee := Callee.builtin Builtin.append, args := #[s, x], argTypes := #[t, t] })
    (base : Nat) (e : TypeId) (i : TypeInfo) (z : Value) (size bytes : Nat) (h1 : P.underlying t = some (.slice e)) (h2 : P.info? e = some i) (h3 : i.zero = some z) (h4 : i.size = size) (h5 : i.bytes = bytes) (h6 : z.cells.size = size) (h7 : 0 < size)
    (v : Value) (n : Nat) (xs : List Value) (hs : a.eval s = v) (hown : w.ownsRow base e size v n xs)
    (A : Option Addr) (m c : Nat) (news : List Value) (hx : a.eval x = .slice A m c) (hn : news.length = m * size) (hc : Lies w A news) (h1c : ∀ u ∈ news, u.oneCell' = true)
    (b1 : n + m ≤ maxLen) (b2 : (n + m) * bytes ≤ 140737488355328) (b3 : base ≤ w.heap.size)
    (hK : ∀ v' w', w'.ownsRow base e size v' (n + m) (xs ++ news) → w.grownBy w' v.ownBlock → SameOrNew w v v' → K (a.put o.dst v') w') :
    if Region.wanted o (yielded ops a.tmps) = true then Oper.wp P o a w K Q else E := by
  rw [if_pos hw]
  obtain ⟨v', w', hr, r1, r2, r3⟩ := run_append_own3 (P := P) w base t o.type e i z size bytes h1 h2 h3 h4 h5 h6 h7 v n xs hown A m c news hn hc h1c b1 b2 b3
  unfold Oper.wp
  simp [execOp, hop, resolve, invoke, builtin, hs, hx, hr, Result.andThen]
  exact hK _ _ r1 r2 r3
end

end Go.Proofs.YtpgmapjjjpcmfaaGreatDoor

namespace Go.Proofs.YtpgmapjjjpcmfaaGreatDoor
open Go.RowKit
open Lx
set_option linter.unusedVariables false
set_option linter.unusedSimpArgs false
set_option maxRecDepth 100000

/-- The way of a level, as a number that may be any. -/
def encA (a : Int) : Nat := if 1 ≤ a ∧ a ≤ 3 then a.toNat else 0
theorem encA_of {a : Int} (h : 1 ≤ encA a) : a = (encA a : Int) := by
  unfold encA at h ⊢
  split at h
  · rename_i h1; rw [if_pos h1]; omega
  · omega
theorem encA_nat {n : Nat} (h : 1 ≤ n ∧ n ≤ 3) : encA (n : Int) = n := by unfold encA; rw [if_pos (by omega)]; omega
structure GramC (w : World) (B : Nat) (v : Value) (G : Rd.G) : Prop where
  ex : ∃ A1 c1 A2 c2 A3 c3 A4 c4 pl ql, v = .agg #[.slice A1 G.toks.length c1, .slice A2 G.skips.length c2, .slice A3 G.levels.length c3, .string (str G.start), .slice A4 G.rules.length c4] ∧
    Cl w B A1 (toksV G.toks) ∧ Cl w B A2 (patsV G.skips) ∧ Cl w B A3 (levsC pl) ∧ pl.map (·.1) = G.levels ∧ (∀ p ∈ pl, p.1.assoc = encA p.2.2 ∧ NmC w B p.2.1 p.1.names) ∧
    Cl w B A4 (rulesV ql) ∧ ql.map (·.1) = G.rules ∧ ∀ p ∈ ql, NmC w B p.2 p.1.right
theorem GramC.below {w w' : World} {B : Nat} {v : Value} {G : Rd.G} (h : GramC w B v G) (hb : Below B w w') : GramC w' B v G := by
  obtain ⟨A1, c1, A2, c2, A3, c3, A4, c4, pl, ql, h0, h1, h2, h3, h4, h5, h6, h7, h8⟩ := h.ex
  exact ⟨A1, c1, A2, c2, A3, c3, A4, c4, pl, ql, h0, h1.below hb, h2.below hb, h3.below hb, h4, fun p hp => ⟨(h5 p hp).1, (h5 p hp).2.below hb⟩, h6.below hb, h7, fun p hp => (h8 p hp).below hb⟩
theorem GramC.mono {w : World} {B B' : Nat} {v : Value} {G : Rd.G} (h : GramC w B v G) (hB : B ≤ B') : GramC w B' v G := by
  obtain ⟨A1, c1, A2, c2, A3, c3, A4, c4, pl, ql, h0, h1, h2, h3, h4, h5, h6, h7, h8⟩ := h.ex
  exact ⟨A1, c1, A2, c2, A3, c3, A4, c4, pl, ql, h0, h1.mono hB, h2.mono hB, h3.mono hB, h4, fun p hp => ⟨(h5 p hp).1, (h5 p hp).2.mono hB⟩, h6.mono hB, h7, fun p hp => (h8 p hp).mono hB⟩
theorem Nms.nmC {w : World} {v : Value} {l : List Rd.Name} (h : Nms w v l) : NmC w w.heap.size v l := by
  obtain ⟨A, cap, h1, h2⟩ := h; exact ⟨A, cap, h1, h2.cl⟩
theorem GramIs.gramC {w : World} {v : Value} {G : Rd.G} (h : GramIs w v G) (ha : ∀ x ∈ G.levels, 1 ≤ x.assoc ∧ x.assoc ≤ 3) : GramC w w.heap.size v G := by
  obtain ⟨tv, sv, lv, rv, h0, ⟨A1, c1, rfl, k1⟩, ⟨A2, c2, rfl, k2⟩, ⟨A3, c3, pl, rfl, q3, k3, j3⟩, ⟨A4, c4, ql, rfl, q4, k4, j4⟩⟩ := h.ex
  refine ⟨A1, c1, A2, c2, A3, c3, A4, c4, pl.map (fun p => (p.1, p.2, (p.1.assoc : Int))), ql, h0, k1.cl, k2.cl, ?_, ?_, ?_, k4.cl, q4, fun p hp => (j4 p hp).nmC⟩
  · have e : levsC (pl.map (fun p => (p.1, p.2, (p.1.assoc : Int)))) = levsV pl := by unfold levsC levsV; rw [List.flatMap_map]; rfl
    rw [e]; exact k3.cl
  · rw [List.map_map, ← q3]; rfl
  · intro p hp
    obtain ⟨x, hx, rfl⟩ := List.mem_map.1 hp
    refine ⟨(encA_nat (ha x.1 ?_)).symm, (j3 x hx).nmC⟩
    rw [← q3]; exact List.mem_map.2 ⟨x, hx, rfl⟩
/-- No text, no list of it is longer than a machine's memory. -/
structure Sz (G : Rd.G) : Prop where
  n1 : G.toks.length ≤ 140737488355328
  n2 : G.skips.length ≤ 140737488355328
  n3 : G.levels.length ≤ 140737488355328
  n4 : G.rules.length ≤ 140737488355328
  tok : ∀ t ∈ G.toks, t.name.length ≤ 140737488355328 ∧ t.pat.text.length ≤ 140737488355328 ∧ t.pat.set.length ≤ 140737488355328
  skip : ∀ t ∈ G.skips, t.text.length ≤ 140737488355328 ∧ t.set.length ≤ 140737488355328
  lev : ∀ t ∈ G.levels, t.names.length ≤ 140737488355328 ∧ ∀ n ∈ t.names, n.length ≤ 140737488355328
  start : G.start.length ≤ 140737488355328
  rul : ∀ r ∈ G.rules, r.left.length ≤ 140737488355328 ∧ r.prec.length ≤ 140737488355328 ∧ r.action.length ≤ 140737488355328 ∧ r.right.length ≤ 140737488355328 ∧ ∀ n ∈ r.right, n.length ≤ 140737488355328

theorem tokenCan_any (t : Rd.Tok) (w : World) (h0 : t.name.length ≤ 140737488355328) (h1 : t.pat.text.length ≤ 140737488355328) (h2 : t.pat.set.length ≤ 140737488355328) :
    Calls Tryz.prog 26 #[.agg #[.string (str t.name), .string (str t.pat.text), .string (str t.pat.set), .bool t.pat.many]] w fun e w' => e = .returned (.bool (Pr.tokOk t)) ∧ Below w.heap.size w w' := by
  have HB := Lib.hid ((Below.refl w.heap.size w).alloc (Nat.le_refl _) (.cells #[.string (str t.name), .string (str t.pat.text), .string (str t.pat.set), .bool t.pat.many] 41))
  obtain ⟨T, hT⟩ : ∃ T, str t.name = T := ⟨_, rfl⟩
  have HN := Lib.hid (fun w => hT ▸ isName_any t.name w (by omega))
  have HP := Lib.hid (fun w => patCan_any t.pat w h1 h2)
  unfold patV at HP
  rw [hT] at HB ⊢
  unfold Pr.tokOk
  generalize str t.pat.text = T1 at HP HB ⊢
  generalize str t.pat.set = T2 at HP HB ⊢
  generalize t.pat.many = T3 at HP HB ⊢
  generalize Pr.patOk t.pat = q at HP ⊢
  generalize Pr.nameOk t.name = r at HN ⊢
  clear hT h0 h1 h2
  cases r with
  | true =>
    go_enter Tryz.func26, Tryz.ntmps26
    go_wp2_with fail
    refine (HN.out _).mono ?_
    rintro e w1 ⟨rfl, rfl⟩
    go_wp2_with fail
    refine (HP.out _).mono ?_
    rintro e w2 ⟨rfl, hb2⟩
    go_wp2_with fail
    go_ret
    exact ⟨rfl, HB.out.trans (hb2.mono HB.out.size)⟩
  | false =>
    go_enter Tryz.func26, Tryz.ntmps26
    go_wp2_with fail
    refine (HN.out _).mono ?_
    rintro e w1 ⟨rfl, rfl⟩
    go_wp2_with fail
    go_ret
    exact ⟨rfl, HB.out⟩

def wordP (a : Int) : List UInt8 := if a = 1 then 37 :: Pr.levW 1 else if a = 2 then 37 :: Pr.levW 2 else if a = 3 then 37 :: Pr.levW 3 else []
theorem wordP_of {n : Nat} (h : 1 ≤ n ∧ n ≤ 3) : wordP (n : Int) = 37 :: Pr.levW n := by
  obtain rfl | rfl | rfl : n = 1 ∨ n = 2 ∨ n = 3 := by omega
  all_goals rfl
theorem word7_any (a : Int) (w : World) :
    Calls Tryz.prog 20 #[.int .i64 a] w fun e w' => e = .returned (.string (str (wordP a))) ∧ w = w' := by
  unfold wordP
  by_cases h1 : a = 1
  · subst h1
    go_enter Tryz.func20, Tryz.ntmps20
    go_wp2_with fail
    go_ret
    exact ⟨rfl, rfl⟩
  · by_cases h2 : a = 2
    · subst h2
      go_enter Tryz.func20, Tryz.ntmps20
      go_wp2_with fail
      go_ret
      exact ⟨rfl, rfl⟩
    · by_cases h3 : a = 3
      · subst h3
        go_enter Tryz.func20, Tryz.ntmps20
        go_wp2_with fail
        go_ret
        exact ⟨rfl, rfl⟩
      · have e1 : (a == 1) = false := beq_eq_false_iff_ne.2 h1
        have e2 : (a == 2) = false := beq_eq_false_iff_ne.2 h2
        have e3 : (a == 3) = false := beq_eq_false_iff_ne.2 h3
        rw [if_neg h1, if_neg h2, if_neg h3]
        clear h1 h2 h3
        go_enter Tryz.func20, Tryz.ntmps20
        go_wp2_with fail
        go_ret
        exact ⟨rfl, rfl⟩
theorem wordP_empty (a : Int) : (str (wordP a)).toList.isEmpty = !decide (1 ≤ encA a ∧ encA a ≤ 3) := by
  rw [toList_eq, bl_str]
  unfold wordP encA
  by_cases h1 : a = 1
  · subst h1; rfl
  · by_cases h2 : a = 2
    · subst h2; rfl
    · by_cases h3 : a = 3
      · subst h3; rfl
      · rw [if_neg h1, if_neg h2, if_neg h3, if_neg (by omega)]; rfl

set_option maxHeartbeats 1000000 in
theorem levelCan_any (a : Int) (l : List Rd.Name) (A : Option Addr) (cap B : Nat) (w : World) (hl : Cl w B A (namesV l)) (hB : B ≤ w.heap.size) (hn : l.length ≤ 140737488355328) (hx : ∀ n ∈ l, n.length ≤ 140737488355328) :
    Calls Tryz.prog 30 #[.agg #[.int .i64 a, .slice A l.length cap]] w fun e w' => e = .returned (.bool (Pr.levOk ⟨encA a, l⟩)) ∧ Below w.heap.size w w' := by
  have hb := (Below.refl w.heap.size w).alloc (Nat.le_refl _) (.cells #[.int .i64 a, .slice A l.length cap] 50)
  have HALL := Lib.hid (show ∀ w', Below w.heap.size w w' → Calls Tryz.prog 67 #[.slice A l.length cap, .func (.func 24) #[] #[]] w' fun e w'' => e = .returned (.bool (l.all Pr.nameOk)) ∧ Below w'.heap.size w' w'' from fun w' hw' =>
    allStr l Pr.nameOk B A cap w' (hl.below (hw'.mono hB)) (Nat.le_trans hB hw'.size) hn (fun x hxl w2 _ _ => (isName_any x w2 (by have := hx x hxl; omega)).mono fun e w3 ⟨h1, h2⟩ => ⟨h1, h2 ▸ Below.refl _ _⟩))
  have HW := Lib.hid (fun w => word7_any a w)
  have HB := Lib.hid hb
  have hemp := wordP_empty a
  obtain ⟨T, hT⟩ : ∃ T, str (wordP a) = T := ⟨_, rfl⟩
  rw [hT] at HW hemp
  obtain ⟨n, hnn⟩ : ∃ n, l.length = n := ⟨_, rfl⟩
  have hne : (l != []) = decide (0 < n) := by
    rw [← hnn]; cases l <;> simp
  unfold Pr.levOk
  simp only []
  rw [hne]
  rw [hnn] at HALL HB hn ⊢
  generalize l.all Pr.nameOk = q at HALL ⊢
  clear hl hB hx hb hT hne hnn
  by_cases ha : 1 ≤ encA a ∧ encA a ≤ 3
  · rw [decide_eq_true ha] at hemp ⊢
    have hemp' : T.toList.isEmpty = false := hemp
    clear ha hemp
    by_cases h0 : 0 < n
    · have hi : (0 : Int) < (n : Int) := by omega
      have H0 := Lib.hid h0
      go_enter Tryz.func30, Tryz.ntmps30
      go_wp2_with fail
      refine (HW.out _).mono ?_
      rintro e w1 ⟨rfl, rfl⟩
      go_wp2_with fail
      refine (HALL.out _ HB.out).mono ?_
      rintro e w2 ⟨rfl, hb2⟩
      go_wp2_with fail
      go_ret
      exact ⟨by rw [decide_eq_true H0.out]; rfl, HB.out.trans (hb2.mono HB.out.size)⟩
    · have hi : ¬ (0 : Int) < (n : Int) := by omega
      have H0 := Lib.hid h0
      go_enter Tryz.func30, Tryz.ntmps30
      go_wp2_with fail
      refine (HW.out _).mono ?_
      rintro e w1 ⟨rfl, rfl⟩
      go_wp2_with fail
      go_ret
      exact ⟨by rw [decide_eq_false H0.out]; rfl, HB.out⟩
  · rw [decide_eq_false ha] at hemp ⊢
    have hemp' : T.toList.isEmpty = true := hemp
    clear ha hemp
    go_enter Tryz.func30, Tryz.ntmps30
    go_wp2_with fail
    refine (HW.out _).mono ?_
    rintro e w1 ⟨rfl, rfl⟩
    go_wp2_with fail
    go_ret
    exact ⟨rfl, HB.out⟩

end Go.Proofs.YtpgmapjjjpcmfaaGreatDoor

namespace Go.Proofs.YtpgmapjjjpcmfaaGreatDoor
open Go.RowKit
open Lx
set_option linter.unusedVariables false
set_option linter.unusedSimpArgs false
set_option maxRecDepth 100000

namespace Pr
theorem act_mark (l acc : List UInt8) (o : Nat) {k n : Nat} {t : List UInt8} (h : Lx.act l acc o = .mark k t n) : k = 9 ∧ n = t.length + 2 ∧ t.length ≤ 200 := by
  induction l generalizing acc o with
  | nil => simp [Lx.act] at h
  | cons c l ih =>
    rw [Lx.act.eq_def] at h
    simp only [] at h
    split at h
    · split at h
      · cases h
      · exact ih _ _ h
    · split at h
      · split at h
        · split at h
          · cases h
          · cases h; exact ⟨rfl, rfl, by omega⟩
        · exact ih _ _ h
      · exact ih _ _ h
theorem run_prefix : ∀ (f : Nat) (l : List UInt8) (i : Nat) (acc ms : List M0), Lx.run f l i acc = .ok ms → ∃ r, ms = acc ++ r := by
  intro f
  induction f with
  | zero => intro l i acc ms h; simp [Lx.run] at h; exact ⟨[], by simp [h]⟩
  | succ f ih =>
    intro l i acc ms h
    rw [Lx.run] at h
    split at h
    · cases h; exact ⟨_, rfl⟩
    · split at h
      · exact ih _ _ _ _ h
      · obtain ⟨r, hr⟩ := ih _ _ _ _ h
        exact ⟨_, by rw [hr, List.append_assoc]⟩
      · cases h
/-- Whether an action can be, as the lexer tells it. -/
theorem act_lex (a : List UInt8) : (∃ c i, c ≠ 0 ∧ Lx.lex (123 :: (a ++ [125])) = .bad c i ∧ actOk a = false) ∨ (∃ t ms, Lx.lex (123 :: (a ++ [125])) = .ok ((9, t, 0) :: ms) ∧ actOk a = (t == a)) := by
  have hl : (123 :: (a ++ [125])).length = a.length + 2 := by simp
  by_cases hlong : 4000 < (123 :: (a ++ [125])).length
  · refine .inl ⟨12, 0, by decide, by unfold Lx.lex; rw [if_pos hlong], ?_⟩
    unfold actOk
    rw [beq_eq_false_iff_ne]
    intro h
    have := (act_mark _ _ _ h).2.2
    omega
  · have hlex : Lx.lex (123 :: (a ++ [125])) = Lx.run ((123 :: (a ++ [125])).length + 1) (123 :: (a ++ [125])) 0 [] := by unfold Lx.lex; rw [if_neg hlong]
    have hstep := Lx.step_act (a ++ [125])
    unfold actOk
    cases hst : Lx.act (a ++ [125]) [] 1 with
    | skip n => exact absurd hst (Lx.act_noskip _ _ _ _)
    | bad c n =>
      rw [hst] at hstep
      have hr := Lx.run_bad (f := (123 :: (a ++ [125])).length + 1) (i := 0) (acc := []) (by omega) (by simp) hstep
      rw [← hlex] at hr
      have := Lx.lex_at hr
      exact .inl ⟨c, 0 + n, by omega, hr, rfl⟩
    | mark k t n =>
      obtain ⟨rfl, rfl, _⟩ := act_mark _ _ _ hst
      rw [hst] at hstep
      have hr := Lx.run_mark (f := (123 :: (a ++ [125])).length + 1) (i := 0) (acc := []) (by omega) (by simp) hstep
      have heq : (Step.mark 9 t (t.length + 2) == Step.mark 9 a (a.length + 2)) = (t == a) := by
        by_cases e : t = a
        · subst e; simp
        · rw [beq_eq_false_iff_ne.2 e, beq_eq_false_iff_ne]
          intro h
          injection h with _ h _
          exact e h
      rw [heq]
      cases hf : Lx.run ((123 :: (a ++ [125])).length + 1 - 1) ((123 :: (a ++ [125])).drop (t.length + 2)) (0 + (t.length + 2)) ([] ++ [(9, t, 0)]) with
      | ok ms =>
        obtain ⟨r, rfl⟩ := run_prefix _ _ _ _ _ hf
        exact .inr ⟨t, r, by rw [hlex, hr, hf]; rfl, rfl⟩
      | bad c i =>
        refine .inl ⟨c, i, ?_, by rw [hlex, hr, hf], ?_⟩
        · rw [hf, ← hlex] at hr
          have := Lx.lex_at hr
          omega
        · rw [beq_eq_false_iff_ne]
          rintro rfl
          rw [List.drop_eq_nil_of_le (by omega), Lx.run_end (by omega)] at hf
          cases hf
end Pr

theorem braced_any (a : List UInt8) (w : World) (h : a.length ≤ 140737488355328) :
    Calls Tryz.prog 36 #[.string (str a)] w fun e w' => e = .returned (.string (str (123 :: (a ++ [125])))) ∧ w = w' := by
  obtain ⟨T, hT⟩ : ∃ T, str a = T := ⟨_, rfl⟩
  have hb : bl T = a := by rw [← hT, bl_str]
  have hs : T.size ≤ 140737488355328 := by rw [← bl_length, hb]; exact h
  rw [hT]
  have HB := Lib.hid hb
  clear hT hb h
  have l1 : (⟨#[123]⟩ : ByteArray).size = 1 := rfl
  have l2 : (⟨#[125]⟩ : ByteArray).size = 1 := rfl
  go_enter Tryz.func36, Tryz.ntmps36
  go_wp2_with fail
  go_ret
  refine ⟨?_, rfl⟩
  show Ending.returned (Value.string (_ ++ _)) = _
  congr 2
  rw [← str_bl (_ ++ _), bl_append, bl_append, HB.out]
  rfl

set_option maxHeartbeats 1000000 in
theorem actionCan_any (a : List UInt8) (w : World) (h : a.length ≤ 140737488355328) (hT : Tab w) (h0 : 1 < w.heap.size) :
    Calls Tryz.prog 70 #[.string (str a)] w fun e w' => e = .returned (.bool (Pr.actOk a)) ∧ Below w.heap.size w w' := by
  have hbr := fun w => braced_any a w h
  obtain ⟨S, hS⟩ : ∃ S, str (123 :: (a ++ [125])) = S := ⟨_, rfl⟩
  have hbS : bl S = 123 :: (a ++ [125]) := by rw [← hS, bl_str]
  have hSs : S.size ≤ 9223372036854775807 := by rw [← bl_length, hbS]; simp; omega
  rw [hS] at hbr
  have HBR := Lib.hid hbr
  have HT := Lib.hid hT
  clear hbr hS hT h
  rcases Pr.act_lex a with ⟨c, i, hc, hlex, hok⟩ | ⟨t, ms, hlex, hok⟩
  · have HM := Lib.hid (show (lex (bl S)).marks (bl S) = [] by rw [hbS, hlex]; rfl)
    obtain ⟨D1, D2, hD⟩ : ∃ D1 D2, (lex (bl S)).diag (bl S) = (c, D1, D2) := ⟨_, _, by rw [hbS, hlex]; rfl⟩
    have HD := Lib.hid hD
    have c1 : ((c : Int) == 0) = false := by rw [beq_eq_false_iff_ne]; omega
    have c2 : (c == 0) = false := by rw [beq_eq_false_iff_ne]; omega
    rw [hok]
    clear hlex hok hbS hD hc
    generalize str a = T at HBR ⊢
    go_enter Tryz.func70, Tryz.ntmps70
    go_wp2_with fail
    refine (HBR.out _).mono ?_
    rintro e w1 ⟨rfl, rfl⟩
    go_wp2_with fail
    refine (lex_is S _ _ _ hSs HT.out h0 HM.out HD.out).mono ?_
    rintro e w2 ⟨⟨A, cap, rfl, hmm⟩, hb2⟩
    simp only [List.length_nil, diagV]
    have HB2 := Lib.hid (hb2.alloc hb2.size (.cells #[.int .i64 (c : Int), .int .i64 (D1 : Int), .int .i64 (D2 : Int)] 82))
    clear hmm hb2
    go_wp2_with fail
    go_ret
    exact ⟨rfl, HB2.out⟩
  · obtain ⟨MS, hMS⟩ : ∃ MS, (lex (bl S)).marks (bl S) = MS := ⟨_, rfl⟩
    have hM0 : ∃ M rest, MS = M :: rest ∧ M.text = t := ⟨_, _, by rw [← hMS, hbS, hlex]; rfl, rfl⟩
    obtain ⟨M, rest, rfl, hMt⟩ := hM0
    have HM := Lib.hid hMS
    have HD := Lib.hid (show (lex (bl S)).diag (bl S) = (0, 0, 0) by rw [hbS, hlex]; rfl)
    have heq : ((str t).toList == (str a).toList) = (t == a) := str_same t a
    rw [hok]
    generalize (t == a) = q at heq ⊢
    have HMT := Lib.hid hMt
    obtain ⟨n, hn⟩ : ∃ n, rest.length = n := ⟨_, rfl⟩
    have HN := Lib.hid hn
    clear hlex hok hbS hMS hMt hn
    obtain ⟨T, hT⟩ : ∃ T, str a = T := ⟨_, rfl⟩
    obtain ⟨T2, hT2⟩ : ∃ T2, str t = T2 := ⟨_, rfl⟩
    rw [hT, hT2] at heq
    rw [hT] at HBR ⊢
    have HT2 := Lib.hid hT2
    clear hT hT2
    go_enter Tryz.func70, Tryz.ntmps70
    go_wp2_with fail
    refine (HBR.out _).mono ?_
    rintro e w1 ⟨rfl, rfl⟩
    go_wp2_with fail
    refine (lex_is S _ _ _ hSs HT.out h0 HM.out HD.out).mono ?_
    rintro e w2 ⟨⟨A, cap, rfl, hmm⟩, hb2⟩
    simp only [List.length_cons, diagV, HN.out]
    obtain ⟨b1, rfl, q4, c11, c12, c13, c14⟩ := hmm.cell (i := 0) (by simp)
    have HB2 := Lib.hid (hb2.alloc hb2.size (.cells #[.int .i64 0, .int .i64 0, .int .i64 0] 82))
    have hx : (w2.alloc (.cells #[.int .i64 0, .int .i64 0, .int .i64 0] 82)).cell? ⟨b1, 1, none⟩ = some (.string T2) := by
      have h1 := (((Below.refl w2.heap.size w2).alloc (Nat.le_refl _) (.cells #[.int .i64 0, .int .i64 0, .int .i64 0] 82)).cell (p := ⟨b1, 1, none⟩) q4).trans (show w2.cell? ⟨b1, 1, none⟩ = some (.string (str M.text)) from c12)
      rw [HMT.out, HT2.out] at h1
      exact h1
    have hn1 : (0 : Int) < (n : Int) + 1 := by omega
    clear hmm hb2 c11 c12 c13 c14
    go_wp2_with fail
    go_ret
    exact ⟨rfl, HB2.out⟩

end Go.Proofs.YtpgmapjjjpcmfaaGreatDoor
