import Derived.Test.YtdlplmbdkjkeiaaDoorMem
namespace Go.Proofs.YtdlplmbdkjkeiaaDoor
namespace Dg
set_option linter.unusedVariables false
def E (G : Nat → List Int) (n v u : Nat) : Prop := u < n ∧ (u : Int) ∈ G v
inductive R (G : Nat → List Int) (n : Nat) : Nat → Nat → Prop
 | refl (v : Nat) : R G n v v
 | step {v u t : Nat} : E G n v u → R G n u t → R G n v t
section
variable {G : Nat → List Int} {n : Nat}
theorem R.trans {v u t : Nat} (h : R G n v u) (k : R G n u t) : R G n v t := by
 induction h with
 | refl _ => exact k
 | step e _ ih => exact .step e (ih k)
theorem R.one {v u : Nat} (h : E G n v u) : R G n v u := .step h (.refl u)
theorem R.snoc {v u t : Nat} (h : R G n v u) (k : E G n u t) : R G n v t := h.trans (.one k)
end
def flat (S : List (Nat × List Nat)) : List Nat := S.flatMap fun s => s.1 :: s.2
theorem flat_append (A B : List (Nat × List Nat)) : flat (A ++ B) = flat A ++ flat B := by simp [flat]
theorem flat_cons (p : Nat) (o : List Nat) (C : List (Nat × List Nat)) : flat ((p, o) :: C) = p :: (o ++ flat C) := by simp [flat]
theorem flat_nil : flat [] = [] := rfl
theorem mem_flat {A : List (Nat × List Nat)} {p : Nat} {o : List Nat} (h : (p, o) ∈ A) : p ∈ flat A ∧ ∀ v ∈ o, v ∈ flat A := by
 refine ⟨List.mem_flatMap.2 ⟨_, h, by simp⟩, fun v hv => List.mem_flatMap.2 ⟨_, h, by simp [hv]⟩⟩
def upd {α : Type} (f : Nat → α) (p : Nat) (x : α) : Nat → α := fun v => if v = p then x else f v
theorem upd_self {α : Type} (f : Nat → α) (p : Nat) (x : α) : upd f p x p = x := by simp [upd]
theorem upd_other {α : Type} (f : Nat → α) {p v : Nat} (x : α) (h : v ≠ p) : upd f p x v = f v := by simp [upd, h]
abbrev T : Nat := 9223372036854775807
structure St where
 segs : List (Nat × List Nat)
 low : Nat → Nat
 done : Nat → List Int
 rest : Nat → List Int
 parts : List (List Nat)
def St.wait (s : St) : List Nat := flat s.segs
def St.path (s : St) : List Nat := s.segs.map (·.1)
def St.told (s : St) : List Nat := s.parts.flatten
def eff (n : Nat) (low : Nat → Nat) (rest : Nat → List Int) (p : Nat) : Nat :=
 match rest p with
 | [] => low p
 | h :: _ => if 0 ≤ h ∧ h < (n : Int) ∧ low h.toNat ≠ 0 then min (low p) (low h.toNat) else low p
theorem eff_le (n : Nat) (low : Nat → Nat) (rest : Nat → List Int) (p : Nat) : eff n low rest p ≤ low p := by
 unfold eff
 split
 ·omega
 ·split <;> omega
structure Inv (G : Nat → List Int) (n : Nat) (s : St) : Prop where
 nodup : (s.wait ++ s.told).Nodup
 lt : ∀ v ∈ s.wait ++ s.told, v < n
 seen : ∀ v, v ∉ s.wait ++ s.told → s.low v = 0
 told : ∀ v ∈ s.told, s.low v = T
 rank : ∀ k v, s.wait[k]? = some v → 1 ≤ s.low v ∧ s.low v ≤ k + 1
 split : ∀ v, G v = s.done v ++ s.rest v
 new : ∀ v, s.low v = 0 → s.done v = []
 nofresh : ∀ v u : Nat, (u : Int) ∈ s.done v → u < n → s.low u ≠ 0
 back : ∀ v ∈ s.wait, ∀ u k : Nat, (u : Int) ∈ s.done v → s.wait[k]? = some u → s.low v ≤ k + 1
 over : ∀ v, (v ∈ s.told ∨ ∃ p o, (p, o) ∈ s.segs ∧ v ∈ o) → s.rest v = []
 sound : ∀ v ∈ s.wait, ∃ u, s.wait[s.low v - 1]? = some u ∧ R G n v u
 lower : ∀ p o, (p, o) ∈ s.segs → ∀ v ∈ o, ∀ k, s.wait[k]? = some v → s.low v ≤ k
 comes : ∀ A p o C, s.segs = A ++ (p, o) :: C → ∀ v ∈ o ++ flat C, R G n p v
 least : ∀ p o, (p, o) ∈ s.segs → ∀ v ∈ o, eff n s.low s.rest p ≤ s.low v
 chain : ∀ A p o q o' C, s.segs = A ++ (p, o) :: (q, o') :: C → ∃ t, s.rest p = (q : Int) :: t
 one : ∀ P ∈ s.parts, P ≠ [] ∧ ∀ x ∈ P, ∀ y ∈ P, R G n x y
 behind : ∀ A P C, s.parts = A ++ P :: C → ∀ x ∈ P, ∀ y, E G n x y → y ∈ (A ++ [P]).flatten
section
variable {G : Nat → List Int} {n : Nat} {s : St}
theorem Inv.start (G : Nat → List Int) (n : Nat) : Inv G n ⟨[], fun _ => 0, fun _ => [], G, []⟩ where
 nodup := by simp [St.wait, St.told, flat]
 lt := by simp [St.wait, St.told, flat]
 seen := fun _ _ => rfl
 told := by simp [St.told]
 rank := by simp [St.wait, flat]
 split := fun v => rfl
 new := fun _ _ => rfl
 nofresh := by simp
 back := by simp
 over := by simp [St.told]
 sound := by simp [St.wait, flat]
 lower := by simp
 comes := by simp
 least := by simp
 chain := by simp
 one := by simp
 behind := by simp
theorem Inv.seen_of (h : Inv G n s) {v : Nat} (hv : s.low v ≠ 0) : v ∈ s.wait ∨ v ∈ s.told := by
 rcases Classical.em (v ∈ s.wait ++ s.told) with h1 | h1
 ·simpa using h1
 ·exact absurd (h.seen v h1) hv
theorem Inv.wait_low (h : Inv G n s) {v : Nat} (hv : v ∈ s.wait) : s.low v ≠ 0 := by
 obtain ⟨k, hk⟩ := List.getElem?_of_mem hv
 have := (h.rank k v hk).1; omega
theorem Inv.fresh_out (h : Inv G n s) {v : Nat} (hv : s.low v = 0) : v ∉ s.wait ∧ v ∉ s.told := by
 refine ⟨fun hm => h.wait_low hm hv, fun hm => ?_⟩
 have := h.told v hm
 rw [hv] at this; exact absurd this (by decide)
theorem Inv.wait_nodup (h : Inv G n s) : s.wait.Nodup := (List.nodup_append.1 h.nodup).1
theorem nodup_le : ∀ (n : Nat) (l : List Nat), l.Nodup → (∀ v ∈ l, v < n) → l.length ≤ n
 | 0, l, _, h => by
  cases l with
  | nil => simp
  | cons a l => exact absurd (h a (by simp)) (by omega)
 | n + 1, l, hn, h => by
  by_cases hm : n ∈ l
  ·have h1 := nodup_le n (l.erase n) (hn.erase n) (fun v hv => by
    have h2 := (hn.mem_erase_iff).1 hv
    have := h v h2.2; omega)
   rw [List.length_erase_of_mem hm] at h1
   omega
  ·have := nodup_le n l hn (fun v hv => by
    have h1 := h v hv
    have : v ≠ n := fun e => hm (e ▸ hv)
    omega)
   omega
theorem Inv.wait_len (h : Inv G n s) : s.wait.length ≤ n :=
 nodup_le n _ h.wait_nodup fun v hv => h.lt v (by simp [hv])
theorem nodup_idx {l : List Nat} (h : l.Nodup) {i k v : Nat} (h1 : l[i]? = some v) (h2 : l[k]? = some v) : i = k := by
 obtain ⟨hi, h1'⟩ := List.getElem?_eq_some_iff.1 h1
 obtain ⟨hk, h2'⟩ := List.getElem?_eq_some_iff.1 h2
 have hp := List.pairwise_iff_getElem.1 h
 rcases Nat.lt_trichotomy i k with h3 | h3 | h3
 ·exact absurd (h1'.trans h2'.symm) (hp i k hi hk h3)
 ·exact h3
 ·exact absurd (h2'.trans h1'.symm) (hp k i hk hi h3)
theorem Inv.idx (h : Inv G n s) {i k v : Nat} (h1 : s.wait[i]? = some v) (h2 : s.wait[k]? = some v) : i = k :=
 nodup_idx h.wait_nodup h1 h2
theorem snoc_inj {α : Type} {A B : List α} {a b : α} (h : A ++ [a] = B ++ [b]) : A = B ∧ a = b := by
 have := List.append_inj' h rfl
 exact ⟨this.1, by simpa using this.2⟩
theorem snoc_split {α : Type} {L A C : List α} {x b : α} (h : L ++ [x] = A ++ b :: C) : (∃ C', C = C' ++ [x] ∧ L = A ++ b :: C') ∨ (C = [] ∧ b = x ∧ L = A) := by
 rcases List.eq_nil_or_concat C with rfl | ⟨C', y, rfl⟩
 ·obtain ⟨h1, h2⟩ := snoc_inj h
  exact .inr ⟨rfl, h2.symm, h1⟩
 ·left
  rw [List.concat_eq_append] at h ⊢
  rw [← List.cons_append, ← List.append_assoc] at h
  obtain ⟨h1, h2⟩ := snoc_inj h
  exact ⟨C', by rw [h2], h1⟩
def enter (s : St) (x : Nat) : St := { s with segs := s.segs ++ [(x, [])], low := upd s.low x (s.wait.length + 1) }
theorem enter_wait (s : St) (x : Nat) : (enter s x).wait = s.wait ++ [x] := by simp [enter, St.wait, flat]
theorem enter_path (s : St) (x : Nat) : (enter s x).path = s.path ++ [x] := by simp [enter, St.path]
theorem Inv.enter (h : Inv G n s) {x : Nat} (hx : x < n) (h0 : s.low x = 0) (hp : s.segs = [] ∨ ∃ A q o t, s.segs = A ++ [(q, o)] ∧ s.rest q = (x : Int) :: t) : Inv G n (Dg.enter s x) := by
 obtain ⟨hxw, hxt⟩ := h.fresh_out h0
 have hw := enter_wait s x
 have ht : (Dg.enter s x).told = s.told := rfl
 have hlo : ∀ v, v ≠ x → (Dg.enter s x).low v = s.low v := fun v hv => upd_other _ _ hv
 have hlx : (Dg.enter s x).low x = s.wait.length + 1 := upd_self _ _ _
 have hsegs : (Dg.enter s x).segs = s.segs ++ [(x, [])] := rfl
 have hget : ∀ k v : Nat, (Dg.enter s x).wait[k]? = some v → s.wait[k]? = some v ∨ (k = s.wait.length ∧ v = x) := by
  intro k v hk
  rw [hw, List.getElem?_append] at hk
  split at hk
  ·exact .inl hk
  ·rename_i hge
   have : k - s.wait.length = 0 := by
    rcases Nat.eq_zero_or_pos (k - s.wait.length) with h1 | h1
    ·exact h1
    ·rw [List.getElem?_eq_none (by simp; omega)] at hk; cases hk
   rw [this] at hk
   simp at hk
   exact .inr ⟨by omega, hk.symm⟩
 have hget' : ∀ k v : Nat, s.wait[k]? = some v → (Dg.enter s x).wait[k]? = some v := by
  intro k v hk
  rw [hw, List.getElem?_append_left (List.getElem?_eq_some_iff.1 hk).1]; exact hk
 have hne : ∀ v ∈ s.wait, v ≠ x := fun v hv e => hxw (e ▸ hv)
 refine ⟨?_, ?_, ?_, ?_, ?_, h.split, ?_, ?_, ?_, ?_, ?_, ?_, ?_, ?_, ?_, h.one, h.behind⟩
 ·rw [hw, ht]
  have h1 := h.nodup
  rw [List.append_assoc, List.nodup_append]
  rw [List.nodup_append] at h1
  refine ⟨h1.1, ?_, ?_⟩
  ·simp only [List.cons_append, List.nil_append, List.nodup_cons]; exact ⟨hxt, h1.2.1⟩
  ·intro a ha b hb
   simp only [List.cons_append, List.nil_append, List.mem_cons] at hb
   rcases hb with rfl | hb
   ·exact hne a ha
   ·exact h1.2.2 a ha b hb
 ·intro v hv
  rw [hw, ht] at hv
  simp only [List.mem_append, List.mem_cons, List.not_mem_nil, or_false] at hv
  rcases hv with (hv | rfl) | hv
  ·exact h.lt v (by simp [hv])
  ·exact hx
  ·exact h.lt v (by simp [hv])
 ·intro v hv
  rw [hw, ht] at hv
  simp only [List.mem_append, List.mem_cons, List.not_mem_nil, or_false, not_or] at hv
  rw [hlo v hv.1.2]
  exact h.seen v (by simp [hv.1.1, hv.2])
 ·intro v hv
  rw [ht] at hv
  rw [hlo v (fun e => hxt (e ▸ hv))]
  exact h.told v hv
 ·intro k v hk
  rcases hget k v hk with h1 | ⟨rfl, rfl⟩
  ·rw [hlo v (hne v (List.mem_of_getElem? h1))]; exact h.rank k v h1
  ·rw [hlx]; omega
 ·intro v hv
  have : v ≠ x := fun e => by rw [e, hlx] at hv; omega
  rw [hlo v this] at hv
  exact h.new v hv
 ·intro v u hu hun
  by_cases he : u = x
  ·rw [he, hlx]; omega
  ·rw [hlo u he]; exact h.nofresh v u hu hun
 ·intro v hv u k hu hk
  rw [hw] at hv
  simp only [List.mem_append, List.mem_cons, List.not_mem_nil, or_false] at hv
  rcases hv with hv | rfl
  ·rw [hlo v (hne v hv)]
   rcases hget k u hk with h1 | ⟨_, rfl⟩
   ·exact h.back v hv u k hu h1
   ·exact absurd h0 (h.nofresh v u hu hx)
  ·have : (u : Int) ∈ s.done v := hu
   rw [h.new v h0] at this
   cases this
 ·intro v hv
  rcases hv with hv | ⟨p, o, hpo, hv⟩
  ·exact h.over v (.inl hv)
  ·rw [hsegs] at hpo
   simp only [List.mem_append, List.mem_cons, List.not_mem_nil, or_false, Prod.mk.injEq] at hpo
   rcases hpo with hpo | ⟨rfl, rfl⟩
   ·exact h.over v (.inr ⟨p, o, hpo, hv⟩)
   ·cases hv
 ·intro v hv
  rw [hw] at hv
  simp only [List.mem_append, List.mem_cons, List.not_mem_nil, or_false] at hv
  rcases hv with hv | rfl
  ·rw [hlo v (hne v hv)]
   obtain ⟨u, h1, h2⟩ := h.sound v hv
   exact ⟨u, hget' _ _ h1, h2⟩
  ·refine ⟨v, ?_, .refl v⟩
   rw [hlx, hw]; simp
 ·intro p o hpo v hv k hk
  rw [hsegs] at hpo
  simp only [List.mem_append, List.mem_cons, List.not_mem_nil, or_false, Prod.mk.injEq] at hpo
  rcases hpo with hpo | ⟨rfl, rfl⟩
  ·have hvw : v ∈ s.wait := (mem_flat hpo).2 v hv
   rw [hlo v (hne v hvw)]
   rcases hget k v hk with h1 | ⟨_, rfl⟩
   ·exact h.lower p o hpo v hv k h1
   ·exact absurd hvw hxw
  ·cases hv
 ·intro A p o C he v hv
  rw [hsegs] at he
  rcases snoc_split he with ⟨C', rfl, hs⟩ | ⟨rfl, hb, _⟩
  ·rw [flat_append] at hv
   simp only [flat_cons, flat_nil, List.append_nil, List.mem_append, List.mem_cons, List.not_mem_nil, or_false] at hv
   have hold := h.comes A p o C' hs
   rcases hv with hv | hv | rfl
   ·exact hold v (by simp [hv])
   ·exact hold v (by simp [hv])
   ·rcases hp with hp | ⟨A', q, oq, t, hq, hr⟩
    ·rw [hp] at hs; simp at hs
    ·have hE : E G n q v := ⟨hx, by rw [h.split q, hr]; simp⟩
     rcases List.eq_nil_or_concat C' with rfl | ⟨C2, y, rfl⟩
     ·rw [hq] at hs
      obtain ⟨_, h2⟩ := snoc_inj hs
      simp only [Prod.mk.injEq] at h2
      rw [← h2.1]; exact .one hE
     ·rw [List.concat_eq_append] at hs hold
      rw [hq, ← List.cons_append, ← List.append_assoc] at hs
      obtain ⟨_, h2⟩ := snoc_inj hs
      subst h2
      refine (hold q ?_).snoc hE
      rw [flat_append]; simp [flat]
  ·simp only [Prod.mk.injEq] at hb
   obtain ⟨rfl, rfl⟩ := hb
   simp [flat] at hv
 ·intro p o hpo v hv
  rw [hsegs] at hpo
  simp only [List.mem_append, List.mem_cons, List.not_mem_nil, or_false, Prod.mk.injEq] at hpo
  rcases hpo with hpo | ⟨rfl, rfl⟩
  ·have hm := mem_flat hpo
   rw [hlo v (hne v (hm.2 v hv))]
   refine Nat.le_trans ?_ (h.least p o hpo v hv)
   have hpx : p ≠ x := hne p hm.1
   unfold eff
   show (match s.rest p with | [] => _ | h :: _ => _) ≤ _
   rw [hlo p hpx]
   split
   ·omega
   ·rename_i hd tl _
    by_cases hc : 0 ≤ hd ∧ hd < (n : Int)
    ·by_cases hdx : hd.toNat = x
     ·rw [hdx, h0, hlx]
      simp [hc.1, hc.2]
      omega
     ·rw [hlo _ hdx]; omega
    ·have h1 : ∀ q : Prop, ¬ (0 ≤ hd ∧ hd < (n : Int) ∧ q) := fun q hq => hc ⟨hq.1, hq.2.1⟩
     rw [if_neg (h1 _), if_neg (h1 _)]; omega
  ·cases hv
 ·intro A p o q o' C he
  rw [hsegs] at he
  have he' : s.segs ++ [(x, [])] = (A ++ [(p, o)]) ++ (q, o') :: C := by rw [he]; simp
  rcases snoc_split he' with ⟨C', rfl, hs⟩ | ⟨rfl, hb, hs⟩
  ·exact h.chain A p o q o' C' (by rw [hs]; simp)
  ·simp only [Prod.mk.injEq] at hb
   obtain ⟨rfl, rfl⟩ := hb
   rcases hp with hp | ⟨A', q', oq, t, hq, hr⟩
   ·rw [hp] at hs; simp at hs
   ·rw [hq] at hs
    obtain ⟨_, h2⟩ := snoc_inj hs
    simp only [Prod.mk.injEq] at h2
    rw [← h2.1]; exact ⟨t, hr⟩
end
end Dg
end Go.Proofs.YtdlplmbdkjkeiaaDoor
