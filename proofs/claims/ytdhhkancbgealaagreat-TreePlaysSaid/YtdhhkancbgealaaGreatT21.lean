import Derived.Test.YtdhhkancbgealaaGreatT05
import Derived.Test.YtdhhkancbgealaaGreatT20
import Derived.Deep.Strs
import Derived.SizedLaws
import Derived.Test.YtdhhkancbgealaaGreatT07
section
namespace Go.Proofs.YtdhhkancbgealaaGreat
open Go.RowKit Go.ChangeShapes Go.WideShapes Go.ChangeAt
open Lx
set_option linter.unusedVariables false
set_option linter.unusedSimpArgs false
set_option maxRecDepth 100000
theorem flat_inv {α : Type} (f : α → List Value) (n : Nat) (hf : ∀ x, (f x).length = n) : ∀ (l : List α) (j : Nat) (u : Value), (l.flatMap f)[j]? = some u → ∃ (i r : Nat) (q : α), l[i]? = some q ∧ r < n ∧ j = i * n + r ∧ (f q)[r]? = some u
  | [], j, u, h => by simp at h
  | s :: t, j, u, h => by
    rw [List.flatMap_cons] at h
    by_cases hj : j < n
    · rw [List.getElem?_append_left (by rw [hf]; exact hj)] at h
      exact ⟨0, j, s, rfl, hj, by omega, h⟩
    · rw [List.getElem?_append_right (by rw [hf]; omega), hf] at h
      obtain ⟨i, r, q, h1, h2, h3, h4⟩ := flat_inv f n hf t (j - n) u h
      exact ⟨i + 1, r, q, by simpa using h1, h2, by rw [Nat.add_mul]; omega, h4⟩
theorem flat_ones {α : Type} (f : α → Value) (l : List α) : l.flatMap (fun x => [f x]) = l.map f := by
  induction l with
  | nil => rfl
  | cons a r ih => simp [List.flatMap_cons, ih]
section
variable {H : Type} {enc : TypeId × Value → H} {W : World}
def Fits (d : DataW H) (t : TypeId) : Prop := ∀ n ∈ d.weights Tryz.prog t, n ≤ reachBytes
theorem all_mem {e : TypeId} : ∀ {l : List (DataW H)} {d : DataW H}, d ∈ l → ∀ n ∈ d.weights Tryz.prog e, n ∈ DataW.weightsAll Tryz.prog e l
  | [], d, h, _, _ => by simp at h
  | a :: r, d, h, n, hn => by
    rw [DataW.weightsAll, List.mem_append]
    rcases List.mem_cons.1 h with h1 | h1
    · subst h1; exact .inl hn
    · exact .inr (all_mem h1 n hn)
theorem fits_agg {t : TypeId} {fs : Array Field} {ds : List (DataW H)} (ht : Tryz.prog.underlying t = some (.struct fs)) (hf : Fits (.agg ds) t) {j : Nat} {t' : TypeId} {d : DataW H} (h1 : (fs.toList.map (·.type))[j]? = some t') (h2 : ds[j]? = some d) : Fits d t' := fun n hn => by
  refine hf n ?_
  rw [DataW.weights, ht]
  exact DataW.weights_mem_each h1 h2 n hn
theorem slice_read {α : Type} (a0 : α) {t e : TypeId} {K : Nat} (f : α → List Value) (Q : α → Prop) (ht : Tryz.prog.underlying t = some (.slice e)) (ke : Tryz.prog.cellsOf e = K) (hK : 0 < K) (hby : 1 ≤ Tryz.prog.bytesOf e) (hlen : ∀ a, (f a).length = K)
    (hel : ∀ (k : Nat) (cs : List Value) (x : DataW H × List MemPlace), DataW.trod enc Tryz.prog W 0 (fun _ => true) true k e cs = some x → Fits x.1 e → ∃ a, cs = f a ∧ Q a)
    {k : Nat} {cs : List Value} {x : DataW H × List MemPlace} (h : DataW.trod enc Tryz.prog W 0 (fun _ => true) true k t cs = some x) (hf : Fits x.1 t) :
    ∃ A c, ∃ l : List α, cs = [.slice A l.length c] ∧ Cl W W.heap.size A (l.flatMap f) ∧ (∀ a ∈ l, Q a) ∧ l.length ≤ reachBytes := by
  rcases Go.Deep.open_slice ht h with ⟨rfl, _⟩ | ⟨a, len, cap, m, n, D, Pl, rfl, hb, hl, hm, hmm, rfl, hx⟩
  · exact ⟨none, 0, [], rfl, Cl.nil _ _ _, by simp, Nat.zero_le _⟩
  · have hlm : m = cap := by simpa using hmm
    have hfi : ∀ i, i < len → Fits (D i) e := fun i hi n hn => hf n (by
      rw [DataW.weights, ht]
      refine List.mem_cons_of_mem _ (List.mem_append_left _ (all_mem ?_ n hn))
      exact List.mem_map.2 ⟨i, List.mem_range.2 hi, rfl⟩)
    have hlr : len ≤ reachBytes := by
      have h1 := hf ((((List.range len).map D).length + ((List.range (m - len)).map fun j => D (len + j)).length) * Tryz.prog.bytesOf e) (by rw [DataW.weights, ht]; exact List.mem_cons_self)
      rw [List.length_map, List.length_range] at h1
      have h2 := Nat.le_mul_of_pos_right (len + ((List.range (m - len)).map fun j => D (len + j)).length) hby
      omega
    have hread : ∀ i, i < len → ∃ q : α, Q q ∧ ∀ j, j < K → W.cell? (a.add (i * K + j)) = (f q)[j]? := by
      intro i hi
      obtain ⟨cs', h1, h2⟩ := hx i (by omega)
      rw [ke] at h1
      obtain ⟨_, hlen', hcell⟩ := World.cells?_some h1
      obtain ⟨q, rfl, hq⟩ := hel _ _ _ h2 (hfi i hi)
      refine ⟨q, hq, fun j hj => ?_⟩
      have := hcell j hj
      rwa [Go.Deep.add_add] at this
    haveI : Inhabited α := ⟨a0⟩
    obtain ⟨Z, hZ⟩ := Go.Deep.choose_lt (α := α) hread
    refine ⟨some a, cap, (List.range len).map Z, by simp, ⟨fun hne => ?_⟩, fun q hq => ?_, by simpa using hlr⟩
    · have h0 : 0 < len := by
        rcases Nat.eq_zero_or_pos len with h | h
        · subst h; simp at hne
        · exact h
      have g0 := (hZ 0 h0).2 0 hK
      have hl0 : 0 < (f (Z 0)).length := by rw [hlen]; exact hK
      rw [List.getElem?_eq_getElem hl0] at g0
      obtain ⟨ab, ao, rfl, hlt⟩ := at_zero (a := a) (by simpa [Addr.add] using g0)
      refine ⟨ab, ao, rfl, hlt, fun j u hu => ?_⟩
      obtain ⟨i, r, q, h1, h2, rfl, h4⟩ := flat_inv f K hlen _ j u hu
      rw [List.getElem?_map] at h1
      cases hi : (List.range len)[i]? with
      | none => rw [hi] at h1; simp at h1
      | some i' =>
        rw [hi] at h1
        obtain ⟨hlt2, h5⟩ := List.getElem?_eq_some_iff.1 hi
        simp only [List.getElem_range] at h5
        subst h5
        simp only [Option.map_some, Option.some.injEq] at h1
        subst h1
        have g := (hZ i (by simpa using hlt2)).2 r h2
        rw [Go.WideShapes.add_plain, h4] at g
        exact g
    · obtain ⟨i, hi, rfl⟩ := List.mem_map.1 hq
      exact (hZ i (List.mem_range.1 hi)).1
end
end Go.Proofs.YtdhhkancbgealaaGreat
end
section
namespace Go.Proofs.YtdhhkancbgealaaGreat
namespace Sm
open Rd (Name Pat Tok Lev Rule G)
set_option linter.unusedVariables false
set_option linter.unusedSimpArgs false
structure S where
  tokens : Nat
  vars : Nat
  lefts : List Nat
  rights : List (List Nat)
  precs : List Nat
  assocs : List Nat
  levels : List Nat
def few (s : S) (r k : Nat) : Bool := decide (s.lefts.length ≤ r ∧ s.assocs.length ≤ 5) && s.rights.all fun l => decide (l.length ≤ k)
def nt (s : S) : Nat := s.tokens % 5 + 1
def nv (s : S) : Nat := s.vars % 4 + 1
def nl (s : S) : Nat := s.assocs.length
def abc (i : Nat) : Name := [UInt8.ofNat (97 + i)]
def stuv (i : Nat) : Name := [UInt8.ofNat (83 + i)]
def pqr (i : Nat) : Name := [UInt8.ofNat (112 + i)]
def tok (i : Nat) : Tok := ⟨abc i, ⟨abc i, [], false⟩⟩
def lvl (s : S) (i : Nat) : Nat := if i < s.levels.length then s.levels.getD i 0 % (nl s + 1) else 0
def lev (s : S) (m j : Nat) : Lev := ⟨s.assocs.getD j 0 % 3 + 1, pqr j :: ((List.range m).filter fun i => lvl s i == j + 1).map abc⟩
def levs (s : S) (m : Nat) : List Lev := (List.range (nl s)).map (lev s m)
def name (s : S) (x : Nat) : Name := if x % (nt s + nv s) < nt s then abc (x % (nt s + nv s)) else stuv (x % (nt s + nv s) - nt s)
def right (s : S) (i : Nat) : List Name := if i < s.rights.length then (s.rights.getD i []).map (name s) else []
def prc (s : S) (i : Nat) : Nat := if i < s.precs.length then s.precs.getD i 0 % (nl s + 1) else 0
def prec (s : S) (i : Nat) : Name := if 0 < prc s i then pqr (prc s i - 1) else []
def rule (s : S) (i : Nat) : Rule := ⟨stuv (s.lefts.getD i 0 % nv s), right s i, prec s i, []⟩
def hasL (n : Name) (l : List Rule) : Bool := l.any fun r => r.left == n
def addR (a : List Rule) (v : Nat) : List Rule := if hasL (stuv v) a = true then a else a ++ [⟨stuv v, [], [], []⟩]
def rules0 (s : S) : List Rule := (List.range s.lefts.length).map (rule s)
def rules (s : S) (k : Nat) : List Rule := (List.range k).foldl addR (rules0 s)
def gram (s : S) : G := ⟨(List.range (nt s)).map tok, [], levs s (nt s), stuv 0, rules s (nv s)⟩
section
variable {s : S}
theorem nt_le : 1 ≤ nt s ∧ nt s ≤ 5 := by unfold nt; omega
theorem nv_le : 1 ≤ nv s ∧ nv s ≤ 4 := by unfold nv; omega
theorem prc_le (i : Nat) : prc s i ≤ nl s := by
  unfold prc
  split
  · have := Nat.mod_lt (s.precs.getD i 0) (show 0 < nl s + 1 by omega); omega
  · omega
theorem five {P : Nat → Prop} (h0 : P 0) (h1 : P 1) (h2 : P 2) (h3 : P 3) (h4 : P 4) : ∀ i, i < 5 → P i := by
  intro i hi
  match i, hi with
  | 0, _ => exact h0
  | 1, _ => exact h1
  | 2, _ => exact h2
  | 3, _ => exact h3
  | 4, _ => exact h4
theorem abc_ok : ∀ i, i < 5 → Pr.nameOk (abc i) = true := five (by decide +kernel) (by decide +kernel) (by decide +kernel) (by decide +kernel) (by decide +kernel)
theorem pqr_ok : ∀ i, i < 5 → Pr.nameOk (pqr i) = true := five (by decide +kernel) (by decide +kernel) (by decide +kernel) (by decide +kernel) (by decide +kernel)
theorem stuv_ok : ∀ i, i < 5 → Pr.nameOk (stuv i) = true := five (by decide +kernel) (by decide +kernel) (by decide +kernel) (by decide +kernel) (by decide +kernel)
theorem tok_ok : ∀ i, i < 5 → Pr.tokOk (tok i) = true := five (by decide +kernel) (by decide +kernel) (by decide +kernel) (by decide +kernel) (by decide +kernel)
theorem code_inj {a i k : Nat} (ha : a ≤ 200) (hi : i < 5) (hk : k < 5) (h : [UInt8.ofNat (a + i)] = [UInt8.ofNat (a + k)]) : i = k := by
  simp only [List.cons.injEq, and_true] at h
  have h1 := congrArg UInt8.toNat h
  simp only [UInt8.toNat_ofNat'] at h1
  omega
theorem code_ne {a b i k : Nat} (ha : a + 5 ≤ b) (hb : b ≤ 200) (hi : i < 5) (hk : k < 5) : [UInt8.ofNat (a + i)] ≠ [UInt8.ofNat (b + k)] := by
  intro h
  simp only [List.cons.injEq, and_true] at h
  have h1 := congrArg UInt8.toNat h
  simp only [UInt8.toNat_ofNat'] at h1
  omega
theorem abc_inj {i k : Nat} (hi : i < 5) (hk : k < 5) (h : abc i = abc k) : i = k := code_inj (by omega) hi hk h
theorem pqr_inj {i k : Nat} (hi : i < 5) (hk : k < 5) (h : pqr i = pqr k) : i = k := code_inj (by omega) hi hk h
theorem abc_pqr {i k : Nat} (hi : i < 5) (hk : k < 5) : abc i ≠ pqr k := code_ne (by omega) (by omega) hi hk
theorem stuv_abc {i k : Nat} (hi : i < 5) (hk : k < 5) : stuv i ≠ abc k := code_ne (by omega) (by omega) hi hk
theorem name_or (x : Nat) : (∃ i, i < nt s ∧ name s x = abc i) ∨ ∃ i, i < nv s ∧ name s x = stuv i := by
  have h := Nat.mod_lt x (show 0 < nt s + nv s by have := nt_le (s := s); omega)
  unfold name
  split
  · rename_i h1; exact .inl ⟨_, h1, rfl⟩
  · exact .inr ⟨_, by omega, rfl⟩
theorem hasL_iff {n : Name} {l : List Rule} : hasL n l = true ↔ ∃ r ∈ l, r.left = n := by unfold hasL; simp
theorem addR_mem {a : List Rule} {v : Nat} {r : Rule} (h : r ∈ addR a v) : r ∈ a ∨ r = ⟨stuv v, [], [], []⟩ := by
  unfold addR at h
  split at h
  · exact .inl h
  · rcases List.mem_append.1 h with h1 | h1
    · exact .inl h1
    · exact .inr (by simpa using h1)
theorem addR_sub {a : List Rule} {v : Nat} {r : Rule} (h : r ∈ a) : r ∈ addR a v := by
  unfold addR
  split
  · exact h
  · exact List.mem_append_left _ h
theorem addR_has (a : List Rule) (v : Nat) : ∃ r ∈ addR a v, r.left = stuv v := by
  unfold addR
  split
  · rename_i h; exact hasL_iff.1 h
  · exact ⟨_, List.mem_append_right _ (List.mem_singleton.2 rfl), rfl⟩
theorem rules_succ (k : Nat) : rules s (k + 1) = addR (rules s k) k := by unfold rules; rw [List.range_succ, List.foldl_append]; rfl
theorem rules_zero : rules s 0 = rules0 s := rfl
theorem rules_mem : ∀ {k : Nat} {r : Rule}, r ∈ rules s k → (∃ i, i < s.lefts.length ∧ r = rule s i) ∨ ∃ v, v < k ∧ r = ⟨stuv v, [], [], []⟩
  | 0, r, h => by
    rw [rules_zero] at h
    unfold rules0 at h
    obtain ⟨i, hi, rfl⟩ := List.mem_map.1 h
    exact .inl ⟨i, by simpa using hi, rfl⟩
  | k + 1, r, h => by
    rw [rules_succ] at h
    rcases addR_mem h with h1 | h1
    · rcases rules_mem h1 with h2 | ⟨v, h2, h3⟩
      · exact .inl h2
      · exact .inr ⟨v, by omega, h3⟩
    · exact .inr ⟨k, by omega, h1⟩
theorem rules_has : ∀ {k v : Nat}, v < k → ∃ r ∈ rules s k, r.left = stuv v
  | 0, v, h => by omega
  | k + 1, v, h => by
    rw [rules_succ]
    by_cases e : v = k
    · subst e; exact addR_has _ _
    · obtain ⟨r, h1, h2⟩ := rules_has (k := k) (v := v) (by omega)
      exact ⟨r, addR_sub h1, h2⟩
theorem rules_len : ∀ (k : Nat), s.lefts.length ≤ (rules s k).length ∧ (rules s k).length ≤ s.lefts.length + k
  | 0 => by rw [rules_zero]; unfold rules0; simp
  | k + 1 => by
    rw [rules_succ]
    have := rules_len k
    unfold addR
    split
    · omega
    · simp; omega
theorem left_is {k : Nat} (hk : k ≤ nv s) {r : Rule} (h : r ∈ rules s k) : ∃ v, v < nv s ∧ r.left = stuv v := by
  rcases rules_mem h with ⟨i, _, rfl⟩ | ⟨v, hv, rfl⟩
  · exact ⟨_, Nat.mod_lt _ (by have := nv_le (s := s); omega), rfl⟩
  · exact ⟨v, by omega, rfl⟩
theorem right_is {k : Nat} {r : Rule} (h : r ∈ rules s k) : ∀ n ∈ r.right, ∃ x, n = name s x := by
  rcases rules_mem h with ⟨i, _, rfl⟩ | ⟨v, hv, rfl⟩
  · intro n hn
    unfold rule right at hn
    simp only [] at hn
    split at hn
    · obtain ⟨x, _, rfl⟩ := List.mem_map.1 hn; exact ⟨x, rfl⟩
    · simp at hn
  · intro n hn; simp at hn
theorem right_len {k m : Nat} (hm : ∀ l ∈ s.rights, l.length ≤ m) {r : Rule} (h : r ∈ rules s k) : r.right.length ≤ m := by
  rcases rules_mem h with ⟨i, _, rfl⟩ | ⟨v, hv, rfl⟩
  · unfold rule right
    simp only []
    split
    · rename_i hi
      rw [List.length_map]
      refine hm _ ?_
      rw [List.getD_eq_getElem?_getD, List.getElem?_eq_getElem hi]
      exact List.getElem_mem hi
    · simp
  · simp
theorem prec_is {k : Nat} {r : Rule} (h : r ∈ rules s k) : r.prec = [] ∨ ∃ j, j < nl s ∧ r.prec = pqr j := by
  rcases rules_mem h with ⟨i, _, rfl⟩ | ⟨v, hv, rfl⟩
  · show prec s i = [] ∨ ∃ j, j < nl s ∧ prec s i = pqr j
    have := prc_le (s := s) i
    unfold prec
    split
    · exact .inr ⟨_, by omega, rfl⟩
    · exact .inl rfl
  · exact .inl rfl
theorem act_is {k : Nat} {r : Rule} (h : r ∈ rules s k) : r.action = [] := by
  rcases rules_mem h with ⟨i, _, rfl⟩ | ⟨v, hv, rfl⟩ <;> rfl
theorem lev_names {m j : Nat} {n : Name} (h : n ∈ (lev s m j).names) : n = pqr j ∨ ∃ i, i < m ∧ lvl s i = j + 1 ∧ n = abc i := by
  unfold lev at h
  rcases List.mem_cons.1 h with h | h
  · exact .inl h
  · obtain ⟨i, hi, rfl⟩ := List.mem_map.1 h
    rw [List.mem_filter, List.mem_range, beq_iff_eq] at hi
    exact .inr ⟨i, hi.1, hi.2, rfl⟩
theorem lev_nodup {m j : Nat} (hm : m ≤ 5) (hj : j < 5) : (lev s m j).names.Nodup := by
  unfold lev
  simp only [List.nodup_cons]
  constructor
  · intro h
    obtain ⟨i, hi, e⟩ := List.mem_map.1 h
    rw [List.mem_filter, List.mem_range] at hi
    exact abc_pqr (by omega) hj e
  · refine List.pairwise_map.2 ?_
    refine List.Pairwise.imp_of_mem ?_ (List.Pairwise.filter _ List.nodup_range)
    intro a b ha hb hab e
    rw [List.mem_filter, List.mem_range] at ha hb
    exact hab (abc_inj (by omega) (by omega) e)
theorem levs_nodup {m : Nat} (hm : m ≤ 5) (hl : nl s ≤ 5) : ((levs s m).flatMap Lev.names).Nodup := by
  unfold levs
  rw [List.flatMap_map]
  refine List.pairwise_flatMap.2 ⟨fun j hj => ?_, ?_⟩
  · rw [List.mem_range] at hj
    exact lev_nodup hm (by omega)
  · refine List.Pairwise.imp_of_mem ?_ List.nodup_range
    intro a b ha hb hab x hx y hy e
    rw [List.mem_range] at ha hb
    subst e
    rcases lev_names hx with rfl | ⟨i, hi, h1, rfl⟩
    · rcases lev_names hy with h | ⟨k, hk, _, h⟩
      · exact hab (pqr_inj (by omega) (by omega) h)
      · exact abc_pqr (by omega) (by omega) h.symm
    · rcases lev_names hy with h | ⟨k, hk, h2, h⟩
      · exact abc_pqr (by omega) (by omega) h
      · have := abc_inj (by omega) (by omega) h
        subst this
        omega
theorem right_gram (hl : nl s ≤ 5) (h20 : s.lefts.length ≤ 20) (h8 : ∀ l ∈ s.rights, l.length ≤ 8) : Pr.Right (gram s) := by
  have h5 := nt_le (s := s)
  have h4 := nv_le (s := s)
  refine ⟨by unfold gram; simp; omega, by unfold gram; simp, by unfold gram levs; simp; omega, ?_, ?_, stuv_ok 0 (by omega), ?_, by unfold gram; simp, ?_, ?_, ?_, levs_nodup (by omega) hl⟩
  · have := (rules_len (s := s) (nv s)).2
    show (rules s (nv s)).length ≤ 40
    omega
  · intro e
    obtain ⟨r, hr, _⟩ := rules_has (s := s) (k := nv s) (v := 0) (by omega)
    rw [show rules s (nv s) = [] from e] at hr
    simp at hr
  · intro t ht
    obtain ⟨i, hi, rfl⟩ := List.mem_map.1 ht
    rw [List.mem_range] at hi
    exact tok_ok i (by omega)
  · intro v hv
    obtain ⟨j, hj, rfl⟩ := List.mem_map.1 (show v ∈ (List.range (nl s)).map (lev s (nt s)) from hv)
    rw [List.mem_range] at hj
    unfold Pr.levOk
    simp only [Bool.and_eq_true, decide_eq_true_eq, List.all_eq_true, bne_iff_ne]
    refine ⟨by show 1 ≤ s.assocs.getD j 0 % 3 + 1 ∧ s.assocs.getD j 0 % 3 + 1 ≤ 3; omega, by unfold lev; simp, fun n hn => ?_⟩
    rcases lev_names hn with rfl | ⟨i, hi, _, rfl⟩
    · exact pqr_ok j (by omega)
    · exact abc_ok i (by omega)
  · intro r hr
    have hr' : r ∈ rules s (nv s) := hr
    unfold Pr.ruleOk
    simp only [Bool.and_eq_true, Bool.or_eq_true, decide_eq_true_eq, beq_iff_eq, List.all_eq_true]
    refine ⟨?_, right_len h8 hr', fun n hn => ?_, ?_, ?_⟩
    · obtain ⟨v, hv, e⟩ := left_is (Nat.le_refl _) hr'
      rw [e]; exact stuv_ok v (by omega)
    · obtain ⟨x, rfl⟩ := right_is hr' n hn
      rcases name_or (s := s) x with ⟨i, hi, e⟩ | ⟨i, hi, e⟩
      · rw [e]; exact abc_ok i (by omega)
      · rw [e]; exact stuv_ok i (by omega)
    · rcases prec_is hr' with h | ⟨j, hj, h⟩
      · exact .inl h
      · right; rw [h]; exact pqr_ok j (by omega)
    · rw [act_is hr']; decide +kernel
  · show ((List.range (nt s)).map tok |>.map Tok.name).Nodup
    rw [List.map_map]
    refine List.pairwise_map.2 ?_
    refine List.Pairwise.imp_of_mem ?_ List.nodup_range
    intro a b ha hb hab e
    rw [List.mem_range] at ha hb
    exact hab (abc_inj (by omega) (by omega) e)
theorem var_mem {v : Nat} (hv : v < nv s) : stuv v ∈ Nm.vars (gram s) := by
  obtain ⟨r, hr, e⟩ := rules_has (s := s) (k := nv s) hv
  rw [← e]
  exact Nm.left_mem (g := gram s) hr
theorem vars_is {n : Name} (h : n ∈ Nm.vars (gram s)) : ∃ v, v < nv s ∧ n = stuv v := by
  unfold Nm.vars at h
  rw [Nm.varsOf_mem] at h
  obtain ⟨r, hr, rfl⟩ := List.mem_map.1 h
  exact left_is (Nat.le_refl _) (show r ∈ rules s (nv s) from hr)
theorem term_mem {i : Nat} (hi : i < nt s) : abc i ∈ Nm.terms (gram s) := by
  unfold Nm.terms
  refine List.mem_cons_of_mem _ (List.mem_map.2 ⟨tok i, List.mem_map.2 ⟨i, List.mem_range.2 hi, rfl⟩, rfl⟩)
theorem sym_ge {T V : List Name} {n : Name} (h : n ∈ T ∨ n ∈ V) : 0 ≤ Nm.sym T V n := by
  unfold Nm.sym
  split
  · assumption
  · split
    · rename_i h2; omega
    · rename_i h1 h2
      rcases h with h | h
      · exact absurd (Nm.place_ge.2 h) h1
      · exact absurd (Nm.place_ge.2 h) h2
theorem fine_gram (hl : nl s ≤ 5) (h20 : s.lefts.length ≤ 20) (h8 : ∀ l ∈ s.rights, l.length ≤ 8) : Nm.Fine (gram s) := by
  have h5 := nt_le (s := s)
  have h4 := nv_le (s := s)
  refine ⟨right_gram hl h20 h8, fun t ht hm => ?_, fun r hr => ⟨fun n hn => ?_, ?_⟩, var_mem (by omega)⟩
  · obtain ⟨i, hi, rfl⟩ := List.mem_map.1 ht
    rw [List.mem_range] at hi
    obtain ⟨v, hv, e⟩ := vars_is hm
    exact stuv_abc (by omega) (by omega) e.symm
  · obtain ⟨x, rfl⟩ := right_is (show r ∈ rules s (nv s) from hr) n hn
    rcases name_or (s := s) x with ⟨i, hi, e⟩ | ⟨i, hi, e⟩
    · rw [e]; exact sym_ge (.inl (term_mem hi))
    · rw [e]; exact sym_ge (.inr (var_mem hi))
  · rcases prec_is (show r ∈ rules s (nv s) from hr) with h | ⟨j, hj, h⟩
    · exact .inl h
    · right
      rw [h]
      unfold Nm.level
      intro e
      have h1 : Nm.find (Nm.hasN (pqr j)) (gram s).levels < 0 := by omega
      rw [Nm.find_neg] at h1
      have h2 := h1 (lev s (nt s) j) (List.mem_map.2 ⟨j, List.mem_range.2 hj, rfl⟩)
      unfold Nm.hasN at h2
      rw [decide_eq_false_iff_not] at h2
      exact h2 (by unfold lev; simp)
theorem fine_wrong {g : G} (h : Nm.Fine g) : (Nm.wrong g).1 = 0 := by
  unfold Nm.wrong
  split
  · rename_i t ht
    have h1 := List.find?_some ht
    unfold Nm.wrongTok at h1
    rw [decide_eq_true_eq] at h1
    exact absurd (Nm.place_ge.1 h1) (h.apart t (List.mem_of_find?_eq_some ht))
  · split
    · rename_i x hx
      obtain ⟨r, hr, hw⟩ := List.exists_of_findSome?_eq_some hx
      unfold Nm.wrongRule at hw
      split at hw
      · rename_i n hn
        have h1 := List.find?_some hn
        unfold Nm.wrongName at h1
        rw [decide_eq_true_eq] at h1
        have := (h.rules r hr).1 n (List.mem_of_find?_eq_some hn)
        omega
      · split at hw
        · rename_i hp
          rcases (h.rules r hr).2 with h1 | h1
          · exact absurd h1 hp.1
          · exact absurd hp.2 h1
        · cases hw
    · rw [if_pos (Nm.place_ge.2 h.start)]
theorem fine_of {g : G} (h : Nm.Fine g) : Nm.ofG g = (Nm.plan g, 0, []) := by
  unfold Nm.ofG
  rw [if_pos ((Pr.rightB_iff g).2 h.right), if_pos (fine_wrong h)]
end
end Sm
end Go.Proofs.YtdhhkancbgealaaGreat
end
