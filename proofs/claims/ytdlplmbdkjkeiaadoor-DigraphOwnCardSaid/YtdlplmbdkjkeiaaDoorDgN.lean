import Derived.Test.YtdlplmbdkjkeiaaDoorDgM
namespace Go.Proofs.YtdlplmbdkjkeiaaDoor
namespace Dg
set_option linter.unusedVariables false
section
variable {G : Nat → List Int} {n : Nat} {s : St}
theorem last_out (h : Inv G n s) {A : List (Nat × List Nat)} {p : Nat} {o : List Nat} (hs : s.segs = A ++ [(p, o)]) :
  p ∈ s.wait ∧ p ∉ s.told ∧ p ∉ flat A ∧ p ∉ o ∧ ∀ p' o', (p', o') ∈ s.segs → ∀ v ∈ o', v ≠ p := by
 have hw : s.wait = flat A ++ p :: o := by simp [St.wait, hs, flat]
 have hn := h.nodup
 rw [hw] at hn
 have h1 := List.nodup_append.1 hn
 have h2 := List.nodup_append.1 h1.1
 have h3 := List.nodup_cons.1 h2.2.1
 have hA : p ∉ flat A := fun hm => h2.2.2 p hm p (by simp) rfl
 have hpw : p ∈ s.wait := by rw [hw]; simp
 refine ⟨hpw, fun hm => h1.2.2 p (by simp) p hm rfl, hA, h3.1, fun p' o' hpo v hv e => ?_⟩
 subst e
 rw [hs] at hpo
 simp only [List.mem_append, List.mem_cons, List.not_mem_nil, or_false, Prod.mk.injEq] at hpo
 rcases hpo with hpo | ⟨rfl, rfl⟩
 ·exact hA ((mem_flat hpo).2 _ hv)
 ·exact h3.1 hv
theorem chain_apart (h : Inv G n s) {A : List (Nat × List Nat)} {p : Nat} {o : List Nat} (hs : s.segs = A ++ [(p, o)]) {A' : List (Nat × List Nat)} {p' q' : Nat} {o1 o2 : List Nat} {C : List (Nat × List Nat)}
  (he : s.segs = A' ++ (p', o1) :: (q', o2) :: C) : p' ≠ p := by
 intro e
 subst e
 have hA := (last_out h hs).2.2.1
 rw [hs] at he
 rcases List.eq_nil_or_concat ((q', o2) :: C) with h1 | ⟨D, y, h1⟩
 ·cases h1
 ·rw [List.concat_eq_append] at h1
  rw [h1, ← List.cons_append, ← List.append_assoc] at he
  obtain ⟨h2, _⟩ := snoc_inj he
  exact hA (by rw [h2, flat_append, flat_cons]; simp)
def skip (s : St) (p : Nat) (x : Int) (t : List Int) : St := { s with done := upd s.done p (s.done p ++ [x]), rest := upd s.rest p t }
theorem Inv.skip (h : Inv G n s) {A : List (Nat × List Nat)} {p : Nat} {o : List Nat} (hs : s.segs = A ++ [(p, o)]) {x : Int} {t : List Int} (hr : s.rest p = x :: t) (hx : ¬ (0 ≤ x ∧ x < (n : Int))) : Inv G n (Dg.skip s p x t) := by
 obtain ⟨hpw, hpt, hpA, hpo, hoth⟩ := last_out h hs
 have hd : ∀ v u : Nat, (u : Int) ∈ (Dg.skip s p x t).done v → (u : Int) ∈ s.done v ∨ (v = p ∧ (u : Int) = x) := by
  intro v u hu
  by_cases he : v = p
  ·subst he
   have : (Dg.skip s v x t).done v = s.done v ++ [x] := upd_self _ _ _
   rw [this] at hu
   simp only [List.mem_append, List.mem_cons, List.not_mem_nil, or_false] at hu
   rcases hu with hu | hu
   ·exact .inl hu
   ·exact .inr ⟨rfl, hu⟩
  ·have : (Dg.skip s p x t).done v = s.done v := upd_other _ _ he
   rw [this] at hu; exact .inl hu
 have hre : ∀ v, v ≠ p → (Dg.skip s p x t).rest v = s.rest v := fun v hv => upd_other _ _ hv
 refine ⟨h.nodup, h.lt, h.seen, h.told, h.rank, ?_, ?_, ?_, ?_, ?_, h.sound, h.lower, h.comes, ?_, ?_, h.one, h.behind⟩
 ·intro v
  by_cases he : v = p
  ·subst he
   have h1 : (Dg.skip s v x t).done v = s.done v ++ [x] := upd_self _ _ _
   have h2 : (Dg.skip s v x t).rest v = t := upd_self _ _ _
   rw [h1, h2, h.split v, hr]; simp
  ·have h1 : (Dg.skip s p x t).done v = s.done v := upd_other _ _ he
   rw [h1, hre v he]; exact h.split v
 ·intro v hv
  have he : v ≠ p := fun e => h.wait_low hpw (e ▸ hv)
  have h1 : (Dg.skip s p x t).done v = s.done v := upd_other _ _ he
  rw [h1]; exact h.new v hv
 ·intro v u hu hun
  rcases hd v u hu with h1 | ⟨_, h1⟩
  ·exact h.nofresh v u h1 hun
  ·exact absurd ⟨by omega, by omega⟩ hx
 ·intro v hv u k hu hk
  rcases hd v u hu with h1 | ⟨_, h1⟩
  ·exact h.back v hv u k h1 hk
  ·have := h.lt u (List.mem_append.2 (.inl (List.mem_of_getElem? hk)))
   exact absurd ⟨by omega, by omega⟩ hx
 ·intro v hv
  have he : v ≠ p := by
   rcases hv with hv | ⟨p', o', h1, h2⟩
   ·exact fun e => hpt (e ▸ hv)
   ·exact hoth p' o' h1 v h2
  rw [hre v he]; exact h.over v hv
 ·intro p' o' hpo' v hv
  refine Nat.le_trans ?_ (h.least p' o' hpo' v hv)
  by_cases he : p' = p
  ·subst he
   refine Nat.le_trans (eff_le _ _ _ _) ?_
   show s.low p' ≤ _
   unfold eff
   rw [hr]
   show s.low p' ≤ if 0 ≤ x ∧ x < (n : Int) ∧ s.low x.toNat ≠ 0 then _ else _
   rw [if_neg (fun hc => hx ⟨hc.1, hc.2.1⟩)]; omega
  ·have : eff n (Dg.skip s p x t).low (Dg.skip s p x t).rest p' = eff n s.low s.rest p' := by
    unfold eff
    rw [hre p' he]; rfl
   omega
 ·intro A' p' o1 q' o2 C he
  have hne := chain_apart h hs he
  rw [hre p' hne]
  exact h.chain A' p' o1 q' o2 C he
def merge (s : St) (p : Nat) (x : Int) (t : List Int) : St := { s with done := upd s.done p (s.done p ++ [x]), rest := upd s.rest p t, low := upd s.low p (min (s.low p) (s.low x.toNat)) }
theorem Inv.merge (h : Inv G n s) (hn : n ≤ T) {A : List (Nat × List Nat)} {p : Nat} {o : List Nat} (hs : s.segs = A ++ [(p, o)]) {x : Nat} {t : List Int} (hr : s.rest p = (x : Int) :: t) (hx : x < n) (h0 : s.low x ≠ 0) : Inv G n (Dg.merge s p x t) := by
 obtain ⟨hpw, hpt, hpA, hpo, hoth⟩ := last_out h hs
 have hp0 := h.wait_low hpw
 have hd : ∀ v u : Nat, (u : Int) ∈ (Dg.merge s p x t).done v → (u : Int) ∈ s.done v ∨ (v = p ∧ u = x) := by
  intro v u hu
  by_cases he : v = p
  ·subst he
   have : (Dg.merge s v x t).done v = s.done v ++ [(x : Int)] := upd_self _ _ _
   rw [this] at hu
   simp only [List.mem_append, List.mem_cons, List.not_mem_nil, or_false] at hu
   rcases hu with hu | hu
   ·exact .inl hu
   ·exact .inr ⟨rfl, by omega⟩
  ·have : (Dg.merge s p x t).done v = s.done v := upd_other _ _ he
   rw [this] at hu; exact .inl hu
 have hre : ∀ v, v ≠ p → (Dg.merge s p x t).rest v = s.rest v := fun v hv => upd_other _ _ hv
 have hlo : ∀ v, v ≠ p → (Dg.merge s p x t).low v = s.low v := fun v hv => upd_other _ _ hv
 have hlp : (Dg.merge s p x t).low p = min (s.low p) (s.low x) := by
  show upd s.low p (min (s.low p) (s.low ((x : Int)).toNat)) p = _
  rw [upd_self, Int.toNat_natCast]
 have hle : ∀ v, (Dg.merge s p x t).low v ≤ s.low v := by
  intro v
  by_cases he : v = p
  ·subst he; rw [hlp]; omega
  ·rw [hlo v he]; omega
 have hE : E G n p x := ⟨hx, by rw [h.split p, hr]; simp⟩
 refine ⟨h.nodup, h.lt, ?_, ?_, ?_, ?_, ?_, ?_, ?_, ?_, ?_, ?_, h.comes, ?_, ?_, h.one, h.behind⟩
 ·intro v hv
  have he : v ≠ p := fun e => hv (by subst e; exact List.mem_append.2 (.inl hpw))
  rw [hlo v he]; exact h.seen v hv
 ·intro v hv
  have he : v ≠ p := fun e => hpt (e ▸ hv)
  rw [hlo v he]; exact h.told v hv
 ·intro k v hk
  have h1 := h.rank k v hk
  refine ⟨?_, Nat.le_trans (hle v) h1.2⟩
  by_cases he : v = p
  ·subst he; rw [hlp]; omega
  ·rw [hlo v he]; exact h1.1
 ·intro v
  by_cases he : v = p
  ·subst he
   have h1 : (Dg.merge s v x t).done v = s.done v ++ [(x : Int)] := upd_self _ _ _
   have h2 : (Dg.merge s v x t).rest v = t := upd_self _ _ _
   rw [h1, h2, h.split v, hr]; simp
  ·have h1 : (Dg.merge s p x t).done v = s.done v := upd_other _ _ he
   rw [h1, hre v he]; exact h.split v
 ·intro v hv
  have he : v ≠ p := fun e => by subst e; rw [hlp] at hv; omega
  have h1 : (Dg.merge s p x t).done v = s.done v := upd_other _ _ he
  rw [hlo v he] at hv
  rw [h1]; exact h.new v hv
 ·intro v u hu hun
  have hu0 : s.low u ≠ 0 := by
   rcases hd v u hu with h1 | ⟨_, rfl⟩
   ·exact h.nofresh v u h1 hun
   ·exact h0
  by_cases he : u = p
  ·subst he; rw [hlp]; omega
  ·rw [hlo u he]; exact hu0
 ·intro v hv u k hu hk
  rcases hd v u hu with h1 | ⟨rfl, rfl⟩
  ·exact Nat.le_trans (hle v) (h.back v hv u k h1 hk)
  ·rw [hlp]
   have := (h.rank k u hk).2
   omega
 ·intro v hv
  have he : v ≠ p := by
   rcases hv with hv | ⟨p', o', h1, h2⟩
   ·exact fun e => hpt (e ▸ hv)
   ·exact hoth p' o' h1 v h2
  rw [hre v he]; exact h.over v hv
 ·intro v hv
  by_cases he : v = p
  ·subst he
   rw [hlp]
   by_cases hc : s.low v ≤ s.low x
   ·rw [Nat.min_eq_left hc]; exact h.sound v hv
   ·rw [Nat.min_eq_right (by omega)]
    have hxw : x ∈ s.wait := by
     rcases h.seen_of h0 with h1 | h1
     ·exact h1
     ·have h2 := h.told x h1
      obtain ⟨k, hk⟩ := List.getElem?_of_mem hv
      have h3 := (h.rank k v hk).2
      have h4 : k < s.wait.length := (List.getElem?_eq_some_iff.1 hk).1
      have := h.wait_len
      have h5 : n ≤ 9223372036854775807 := hn
      have h6 : s.low x = 9223372036854775807 := h2
      omega
    obtain ⟨u, h1, h2⟩ := h.sound x hxw
    exact ⟨u, h1, .step hE h2⟩
  ·rw [hlo v he]; exact h.sound v hv
 ·intro p' o' hpo' v hv k hk
  exact Nat.le_trans (hle v) (h.lower p' o' hpo' v hv k hk)
 ·intro p' o' hpo' v hv
  have hvp := hoth p' o' hpo' v hv
  rw [hlo v hvp]
  refine Nat.le_trans ?_ (h.least p' o' hpo' v hv)
  by_cases he : p' = p
  ·subst he
   refine Nat.le_trans (eff_le _ _ _ _) ?_
   rw [hlp]
   unfold eff
   rw [hr]
   show _ ≤ if 0 ≤ (x : Int) ∧ (x : Int) < (n : Int) ∧ s.low ((x : Int)).toNat ≠ 0 then min (s.low p') (s.low ((x : Int)).toNat) else s.low p'
   rw [Int.toNat_natCast, if_pos ⟨by omega, by omega, h0⟩]; omega
  ·unfold eff
   rw [hre p' he, hlo p' he]
   split
   ·omega
   ·rename_i hd tl _
    by_cases hdp : hd.toNat = p
    ·rw [hdp, hlp]
     by_cases hc : 0 ≤ hd ∧ hd < (n : Int)
     ·rw [if_pos ⟨hc.1, hc.2, by omega⟩, if_pos ⟨hc.1, hc.2, hp0⟩]; omega
     ·have h1 : ∀ q : Prop, ¬ (0 ≤ hd ∧ hd < (n : Int) ∧ q) := fun q hq => hc ⟨hq.1, hq.2.1⟩
      rw [if_neg (h1 _), if_neg (h1 _)]; omega
    ·rw [hlo _ hdp]; omega
 ·intro A' p' o1 q' o2 C he
  have hne := chain_apart h hs he
  rw [hre p' hne]
  exact h.chain A' p' o1 q' o2 C he
def leave (s : St) (A : List (Nat × List Nat)) (q : Nat) (oq : List Nat) (p : Nat) (o : List Nat) : St := { s with segs := A ++ [(q, oq ++ p :: o)] }
theorem Inv.leave (h : Inv G n s) {A : List (Nat × List Nat)} {q p : Nat} {oq o : List Nat} (hs : s.segs = A ++ [(q, oq), (p, o)]) (hr : s.rest p = []) (hlow : s.low p ≤ (flat (A ++ [(q, oq)])).length) : Inv G n (Dg.leave s A q oq p o) := by
 have hs' : s.segs = (A ++ [(q, oq)]) ++ [(p, o)] := by rw [hs]; simp
 obtain ⟨hpw, hpt, hpA, hpo, hoth⟩ := last_out h hs'
 have hw0 : s.wait = flat (A ++ [(q, oq)]) ++ p :: o := by simp [St.wait, hs, flat]
 have hw : (Dg.leave s A q oq p o).wait = s.wait := by
  simp [Dg.leave, St.wait, hs, flat]
 have hsegs : (Dg.leave s A q oq p o).segs = A ++ [(q, oq ++ p :: o)] := rfl
 have hat : s.wait[(flat (A ++ [(q, oq)])).length]? = some p := by rw [hw0]; simp
 have hmem : ∀ p' o', (p', o') ∈ (Dg.leave s A q oq p o).segs → ∀ v ∈ o', (∃ p1 o1, (p1, o1) ∈ s.segs ∧ v ∈ o1 ∧ (p1 = p ∨ p1 = p')) ∨ (v = p ∧ p' = q) := by
  intro p' o' hm v hv
  rw [hsegs] at hm
  simp only [List.mem_append, List.mem_cons, List.not_mem_nil, or_false, Prod.mk.injEq] at hm
  rcases hm with hm | ⟨rfl, rfl⟩
  ·exact .inl ⟨p', o', by rw [hs]; simp [hm], hv, .inr rfl⟩
  ·simp only [List.mem_append, List.mem_cons] at hv
   rcases hv with hv | rfl | hv
   ·exact .inl ⟨p', oq, by rw [hs]; simp, hv, .inr rfl⟩
   ·exact .inr ⟨rfl, rfl⟩
   ·exact .inl ⟨p, o, by rw [hs]; simp, hv, .inl rfl⟩
 refine ⟨by rw [hw]; exact h.nodup, by rw [hw]; exact h.lt, by rw [hw]; exact h.seen, h.told, by rw [hw]; exact h.rank, h.split, h.new, h.nofresh, by rw [hw]; exact h.back, ?_, by rw [hw]; exact h.sound, ?_, ?_, ?_, ?_, h.one, h.behind⟩
 ·intro v hv
  rcases hv with hv | ⟨p', o', h1, h2⟩
  ·exact h.over v (.inl hv)
  ·rcases hmem p' o' h1 v h2 with ⟨p1, o1, h3, h4, _⟩ | ⟨rfl, _⟩
   ·exact h.over v (.inr ⟨p1, o1, h3, h4⟩)
   ·exact hr
 ·intro p' o' h1 v h2 k hk
  rw [hw] at hk
  rcases hmem p' o' h1 v h2 with ⟨p1, o1, h3, h4, _⟩ | ⟨rfl, _⟩
  ·exact h.lower p1 o1 h3 v h4 k hk
  ·have := h.idx hk hat
   subst this; exact hlow
 ·intro A' p' o' C he v hv
  rw [hsegs] at he
  rcases snoc_split he with ⟨C', rfl, hA⟩ | ⟨rfl, hb, hA⟩
  ·refine h.comes A' p' o' (C' ++ [(q, oq), (p, o)]) (by rw [hs, hA]; simp) v ?_
   rw [flat_append] at hv ⊢
   simp only [flat_cons, flat_nil, List.append_nil, List.mem_append, List.mem_cons] at hv ⊢
   grind
  ·simp only [Prod.mk.injEq] at hb
   obtain ⟨rfl, rfl⟩ := hb
   refine h.comes A p' oq [(p, o)] (by rw [hs]) v ?_
   simp only [flat_cons, flat_nil, List.append_nil, List.mem_append, List.mem_cons] at hv ⊢
   grind
 ·intro p' o' h1 v h2
  show eff n s.low s.rest p' ≤ s.low v
  obtain ⟨t, ht⟩ := h.chain A q oq p o [] hs
  have hpn := h.lt p (by simp [hpw])
  have hq : eff n s.low s.rest q ≤ s.low p := by
   unfold eff
   rw [ht]
   show (if 0 ≤ (p : Int) ∧ (p : Int) < (n : Int) ∧ s.low ((p : Int)).toNat ≠ 0 then min (s.low q) (s.low ((p : Int)).toNat) else s.low q) ≤ s.low p
   rw [Int.toNat_natCast, if_pos ⟨by omega, by omega, h.wait_low hpw⟩]; omega
  rw [hsegs] at h1
  simp only [List.mem_append, List.mem_cons, List.not_mem_nil, or_false, Prod.mk.injEq] at h1
  rcases h1 with h1 | ⟨rfl, rfl⟩
  ·exact h.least p' o' (by rw [hs]; simp [h1]) v h2
  ·simp only [List.mem_append, List.mem_cons] at h2
   rcases h2 with h2 | rfl | h2
   ·exact h.least p' oq (by rw [hs]; simp) v h2
   ·exact hq
   ·have h3 := h.least p o (by rw [hs]; simp) v h2
    have h4 : eff n s.low s.rest p = s.low p := by unfold eff; rw [hr]
    omega
 ·intro A' p' o1 q' o2 C he
  rw [hsegs] at he
  have he' : A ++ [(q, oq ++ p :: o)] = (A' ++ [(p', o1)]) ++ (q', o2) :: C := by rw [he]; simp
  rcases snoc_split he' with ⟨C', rfl, hA⟩ | ⟨rfl, hb, hA⟩
  ·exact h.chain A' p' o1 q' o2 (C' ++ [(q, oq), (p, o)]) (by rw [hs, hA]; simp)
  ·simp only [Prod.mk.injEq] at hb
   obtain ⟨rfl, rfl⟩ := hb
   exact h.chain A' p' o1 q' oq [(p, o)] (by rw [hs, hA]; simp)
def cut (s : St) (A : List (Nat × List Nat)) (p : Nat) (o : List Nat) : St := { s with segs := A, low := fun v => if v ∈ p :: o then T else s.low v, parts := s.parts ++ [p :: o] }
theorem Inv.cut (h : Inv G n s) (hn : n ≤ T) {A : List (Nat × List Nat)} {p : Nat} {o : List Nat} (hs : s.segs = A ++ [(p, o)]) (hr : s.rest p = []) (hlow : s.low p = (flat A).length + 1) : Inv G n (Dg.cut s A p o) := by
 obtain ⟨hpw, hpt, hpA, hpo, hoth⟩ := last_out h hs
 have hw0 : s.wait = flat A ++ p :: o := by simp [St.wait, hs, flat]
 have hw : (Dg.cut s A p o).wait = flat A := rfl
 have ht : (Dg.cut s A p o).told = s.told ++ (p :: o) := by simp [Dg.cut, St.told]
 have hnw := h.wait_nodup
 have hwl := h.wait_len
 have hand : ∀ v ∈ flat A, v ∉ p :: o := by
  intro v hv hm
  rw [hw0] at hnw
  exact (List.nodup_append.1 hnw).2.2 v hv v hm rfl
 have hlo : ∀ v, v ∉ p :: o → (Dg.cut s A p o).low v = s.low v := fun v hv => if_neg hv
 have hlt : ∀ v ∈ p :: o, (Dg.cut s A p o).low v = T := fun v hv => if_pos hv
 have hge : ∀ v ∈ p :: o, (flat A).length + 1 ≤ s.low v := by
  intro v hv
  simp only [List.mem_cons] at hv
  rcases hv with rfl | hv
  ·omega
  ·have h3 := h.least p o (by rw [hs]; simp) v hv
   have h4 : eff n s.low s.rest p = s.low p := by unfold eff; rw [hr]
   omega
 have hget : ∀ k v : Nat, (flat A)[k]? = some v → s.wait[k]? = some v := by
  intro k v hk
  rw [hw0, List.getElem?_append_left (List.getElem?_eq_some_iff.1 hk).1]; exact hk
 have hrest : ∀ v ∈ p :: o, s.rest v = [] := by
  intro v hv
  simp only [List.mem_cons] at hv
  rcases hv with rfl | hv
  ·exact hr
  ·exact h.over v (.inr ⟨p, o, by rw [hs]; simp, hv⟩)
 have hsegm : ∀ p' o', (p', o') ∈ A → (p', o') ∈ s.segs := fun p' o' hm => by rw [hs]; simp [hm]
 refine ⟨?_, ?_, ?_, ?_, ?_, h.split, ?_, ?_, ?_, ?_, ?_, ?_, ?_, ?_, ?_, ?_, ?_⟩
 ·rw [hw, ht]
  have h1 := h.nodup
  rw [hw0] at h1
  have hp : (flat A ++ (s.told ++ p :: o)).Perm (flat A ++ p :: o ++ s.told) := by
   rw [List.append_assoc]
   exact List.Perm.append_left _ List.perm_append_comm
  exact hp.symm.nodup h1
 ·intro v hv
  rw [hw, ht] at hv
  refine h.lt v ?_
  rw [hw0]
  simp only [List.mem_append, List.mem_cons] at hv ⊢
  grind
 ·intro v hv
  rw [hw, ht] at hv
  simp only [List.mem_append, not_or] at hv
  rw [hlo v hv.2.2]
  refine h.seen v ?_
  rw [hw0]
  simp only [List.mem_append, not_or]
  exact ⟨⟨hv.1, hv.2.2⟩, hv.2.1⟩
 ·intro v hv
  rw [ht] at hv
  by_cases hm : v ∈ p :: o
  ·exact hlt v hm
  ·rw [hlo v hm]
   rcases List.mem_append.1 hv with h1 | h1
   ·exact h.told v h1
   ·exact absurd h1 hm
 ·intro k v hk
  rw [hw] at hk
  rw [hlo v (hand v (List.mem_of_getElem? hk))]
  exact h.rank k v (hget k v hk)
 ·intro v hv
  by_cases hm : v ∈ p :: o
  ·rw [hlt v hm] at hv; exact absurd hv (by decide)
  ·rw [hlo v hm] at hv; exact h.new v hv
 ·intro v u hu hun
  by_cases hm : u ∈ p :: o
  ·rw [hlt u hm]; decide
  ·rw [hlo u hm]; exact h.nofresh v u hu hun
 ·intro v hv u k hu hk
  rw [hw] at hv hk
  rw [hlo v (hand v hv)]
  exact h.back v (by rw [hw0]; exact List.mem_append.2 (.inl hv)) u k hu (hget k u hk)
 ·intro v hv
  show s.rest v = []
  rcases hv with hv | ⟨p', o', h1, h2⟩
  ·rw [ht] at hv
   rcases List.mem_append.1 hv with h1 | h1
   ·exact h.over v (.inl h1)
   ·exact hrest v h1
  ·exact h.over v (.inr ⟨p', o', hsegm _ _ h1, h2⟩)
 ·intro v hv
  rw [hw] at hv
  rw [hlo v (hand v hv)]
  obtain ⟨u, h1, h2⟩ := h.sound v (by rw [hw0]; exact List.mem_append.2 (.inl hv))
  refine ⟨u, ?_, h2⟩
  rw [hw]
  obtain ⟨k, hk⟩ := List.getElem?_of_mem hv
  have h3 := h.rank k v (hget k v hk)
  have h4 := (List.getElem?_eq_some_iff.1 hk).1
  rw [hw0, List.getElem?_append_left (by omega)] at h1
  exact h1
 ·intro p' o' h1 v h2 k hk
  rw [hw] at hk
  rw [hlo v (hand v (List.mem_of_getElem? hk))]
  exact h.lower p' o' (hsegm _ _ h1) v h2 k (hget k v hk)
 ·intro A' p' o' C he v hv
  have hA : A = A' ++ (p', o') :: C := he
  refine h.comes A' p' o' (C ++ [(p, o)]) (by rw [hs, hA]; simp) v ?_
  rw [flat_append]
  simp only [List.mem_append] at hv ⊢
  grind
 ·intro p' o' h1 v h2
  have hm := mem_flat (show (p', o') ∈ A from h1)
  have hvA := hm.2 v h2
  have hp' := hand p' hm.1
  rw [hlo v (hand v hvA)]
  have h3 := h.least p' o' (hsegm _ _ h1) v h2
  obtain ⟨k, hk⟩ := List.getElem?_of_mem hvA
  have h4 := (h.rank k v (hget k v hk)).2
  have h5 := (List.getElem?_eq_some_iff.1 hk).1
  unfold eff at h3 ⊢
  show (match s.rest p' with | [] => _ | h :: _ => _) ≤ _
  rw [hlo p' hp']
  split at h3
  ·rename_i hrd
   rw [hrd]; exact h3
  ·rename_i hd tl hrd
   rw [hrd]
   show (if 0 ≤ hd ∧ hd < (n : Int) ∧ (Dg.cut s A p o).low hd.toNat ≠ 0 then min (s.low p') ((Dg.cut s A p o).low hd.toNat) else s.low p') ≤ _
   by_cases hdm : hd.toNat ∈ p :: o
   ·have h6 := hge _ hdm
    have h7 : s.low p' ≤ s.low v := by
     by_cases hc : 0 ≤ hd ∧ hd < (n : Int) ∧ s.low hd.toNat ≠ 0
     ·rw [if_pos hc] at h3; omega
     ·rw [if_neg hc] at h3; exact h3
    split
    ·exact Nat.le_trans (Nat.min_le_left _ _) h7
    ·exact h7
   ·rw [hlo _ hdm]; exact h3
 ·intro A' p' o1 q' o2 C he
  have hA : A = A' ++ (p', o1) :: (q', o2) :: C := he
  exact h.chain A' p' o1 q' o2 (C ++ [(p, o)]) (by rw [hs, hA]; simp)
 ·intro P hP
  have hP' : P ∈ s.parts ++ [p :: o] := hP
  simp only [List.mem_append, List.mem_cons, List.not_mem_nil, or_false] at hP'
  rcases hP' with hP' | rfl
  ·exact h.one P hP'
  ·refine ⟨by simp, ?_⟩
   have hto : ∀ y ∈ p :: o, R G n p y := by
    intro y hy
    simp only [List.mem_cons] at hy
    rcases hy with rfl | hy
    ·exact .refl y
    ·exact h.comes A p o [] hs y (by simp [hy])
   have hback : ∀ k, ∀ x, s.wait[k]? = some x → (flat A).length ≤ k → R G n x p := by
    intro k
    induction k using Nat.strongRecOn with
    | ind k ih =>
     intro x hx hk
     have hx' := hx
     rw [hw0, List.getElem?_append_right hk] at hx'
     have hxm := List.mem_of_getElem? hx'
     by_cases he : x = p
     ·subst he; exact .refl x
     ·have hxo : x ∈ o := by simpa [he] using hxm
      have h1 := h.lower p o (by rw [hs]; simp) x hxo k hx
      have h2 := hge x hxm
      obtain ⟨u, h3, h4⟩ := h.sound x (List.mem_of_getElem? hx)
      exact h4.trans (ih (s.low x - 1) (by omega) u h3 (by omega))
   intro x hx y hy
   have hxw : x ∈ s.wait := by rw [hw0]; exact List.mem_append.2 (.inr hx)
   obtain ⟨j, hj⟩ := List.getElem?_of_mem hx
   have hk : s.wait[(flat A).length + j]? = some x := by
    rw [hw0, List.getElem?_append_right (by omega), Nat.add_sub_cancel_left]; exact hj
   exact (hback _ x hk (by omega)).trans (hto y hy)
 ·intro A' P C he x hx y hE
  have hpp : s.parts ++ [p :: o] = A' ++ P :: C := he
  rcases snoc_split hpp with ⟨C', rfl, hA⟩ | ⟨rfl, rfl, rfl⟩
  ·exact h.behind A' P C' hA x hx y hE
  ·have hyd : (y : Int) ∈ s.done x := by
    have := hE.2
    rw [h.split x, hrest x hx] at this
    simpa using this
   have hy0 := h.nofresh x y hyd hE.1
   have hxw : x ∈ s.wait := by rw [hw0]; exact List.mem_append.2 (.inr hx)
   rw [List.flatten_append]
   rcases h.seen_of hy0 with h1 | h1
   ·obtain ⟨k, hk⟩ := List.getElem?_of_mem h1
    have h2 := h.back x hxw y k hyd hk
    have h3 := hge x hx
    rw [hw0, List.getElem?_append_right (by omega)] at hk
    exact List.mem_append.2 (.inr (by simpa using List.mem_of_getElem? hk))
   ·exact List.mem_append.2 (.inl h1)
def Mono (s s' : St) : Prop := ∀ v, s.low v ≠ 0 → s'.low v ≠ 0
theorem Mono.refl (s : St) : Mono s s := fun _ h => h
theorem Mono.trans {a b c : St} (h : Mono a b) (k : Mono b c) : Mono a c := fun v hv => k v (h v hv)
theorem mono_enter (s : St) (x : Nat) : Mono s (Dg.enter s x) := fun v hv => by
 show upd s.low x (s.wait.length + 1) v ≠ 0
 by_cases he : v = x
 ·subst he; rw [upd_self]; omega
 ·rw [upd_other _ _ he]; exact hv
theorem mono_skip (s : St) (p : Nat) (x : Int) (t : List Int) : Mono s (Dg.skip s p x t) := fun _ h => h
theorem mono_merge (s : St) (p : Nat) (x : Int) (t : List Int) (h0 : s.low x.toNat ≠ 0) : Mono s (Dg.merge s p x t) := fun v hv => by
 show upd s.low p (min (s.low p) (s.low x.toNat)) v ≠ 0
 by_cases he : v = p
 ·subst he; rw [upd_self]; omega
 ·rw [upd_other _ _ he]; exact hv
theorem mono_leave (s : St) (A : List (Nat × List Nat)) (q : Nat) (oq : List Nat) (p : Nat) (o : List Nat) : Mono s (Dg.leave s A q oq p o) := fun _ h => h
theorem mono_cut (s : St) (A : List (Nat × List Nat)) (p : Nat) (o : List Nat) : Mono s (Dg.cut s A p o) := fun v hv => by
 show (if v ∈ p :: o then T else s.low v) ≠ 0
 split
 ·decide
 ·exact hv
structure Parted (G : Nat → List Int) (n : Nat) (ps : List (List Nat)) : Prop where
 nodup : ps.flatten.Nodup
 all : ∀ v, v ∈ ps.flatten ↔ v < n
 one : ∀ P ∈ ps, P ≠ [] ∧ ∀ x ∈ P, ∀ y ∈ P, R G n x y
 behind : ∀ A P C, ps = A ++ P :: C → ∀ x ∈ P, ∀ y, E G n x y → y ∈ (A ++ [P]).flatten
theorem Inv.parted (h : Inv G n s) (hs : s.segs = []) (hall : ∀ v, v < n → s.low v ≠ 0) : Parted G n s.parts := by
 have hw : s.wait = [] := by simp [St.wait, hs, flat]
 refine ⟨?_, fun v => ⟨fun hv => h.lt v (by rw [hw]; exact hv), fun hv => ?_⟩, h.one, h.behind⟩
 ·have := h.nodup; rw [hw] at this; exact this
 ·rcases h.seen_of (hall v hv) with h1 | h1
  ·rw [hw] at h1; cases h1
  ·exact h1
def sumTo (n : Nat) (f : Nat → Nat) : Nat := ((List.range n).map f).sum
theorem sumTo_succ (n : Nat) (f : Nat → Nat) : sumTo (n + 1) f = sumTo n f + f n := by simp [sumTo, List.range_succ]
theorem sumTo_congr {f g : Nat → Nat} : ∀ n, (∀ v, v < n → f v = g v) → sumTo n f = sumTo n g
 | 0, _ => rfl
 | n + 1, h => by rw [sumTo_succ, sumTo_succ, sumTo_congr n (fun v hv => h v (by omega)), h n (by omega)]
theorem sumTo_le {f g : Nat → Nat} : ∀ n, (∀ v, v < n → f v ≤ g v) → sumTo n f ≤ sumTo n g
 | 0, _ => Nat.le_refl _
 | n + 1, h => by
  have h1 := sumTo_le (f := f) (g := g) n (fun v hv => h v (by omega))
  have h2 := h n (by omega)
  rw [sumTo_succ, sumTo_succ]; omega
theorem sumTo_less {f g : Nat → Nat} {k : Nat} : ∀ n {p : Nat}, p < n → (∀ v, v < n → f v ≤ g v) → f p + k ≤ g p → sumTo n f + k ≤ sumTo n g
 | 0, p, hp, _, _ => by omega
 | n + 1, p, hp, h, hk => by
  rw [sumTo_succ, sumTo_succ]
  by_cases he : p = n
  ·subst he
   have := sumTo_le (f := f) (g := g) p (fun v hv => h v (by omega)); omega
  ·have := sumTo_less (f := f) (g := g) n (p := p) (by omega) (fun v hv => h v (by omega)) hk
   have h2 := h n (by omega); omega
def St.left (s : St) (n : Nat) : Nat := sumTo n (fun v => (if s.low v = 0 then 2 else 0) + (s.rest v).length) + s.segs.length
theorem left_enter {x : Nat} (hx : x < n) (h0 : s.low x = 0) : (Dg.enter s x).left n + 1 ≤ s.left n := by
 have h1 : sumTo n (fun v => (if (Dg.enter s x).low v = 0 then 2 else 0) + ((Dg.enter s x).rest v).length) + 2 ≤ sumTo n (fun v => (if s.low v = 0 then 2 else 0) + (s.rest v).length) := by
  refine sumTo_less n hx (fun v hv => ?_) ?_
  ·show (if upd s.low x (s.wait.length + 1) v = 0 then 2 else 0) + (s.rest v).length ≤ _
   by_cases he : v = x
   ·subst he; rw [upd_self]; simp
   ·rw [upd_other _ _ he]; omega
  ·show (if upd s.low x (s.wait.length + 1) x = 0 then 2 else 0) + (s.rest x).length + 2 ≤ _
   rw [upd_self, h0]; simp; omega
 have h2 : (Dg.enter s x).segs.length = s.segs.length + 1 := by simp [Dg.enter]
 unfold St.left
 omega
theorem left_skip {p : Nat} {x : Int} {t : List Int} (hp : p < n) (hr : s.rest p = x :: t) : (Dg.skip s p x t).left n + 1 ≤ s.left n := by
 have h1 : sumTo n (fun v => (if (Dg.skip s p x t).low v = 0 then 2 else 0) + ((Dg.skip s p x t).rest v).length) + 1 ≤ sumTo n (fun v => (if s.low v = 0 then 2 else 0) + (s.rest v).length) := by
  refine sumTo_less n hp (fun v hv => ?_) ?_
  ·show (if s.low v = 0 then 2 else 0) + (upd s.rest p t v).length ≤ _
   by_cases he : v = p
   ·subst he; rw [upd_self, hr]; simp
   ·rw [upd_other _ _ he]; omega
  ·show (if s.low p = 0 then 2 else 0) + (upd s.rest p t p).length + 1 ≤ _
   rw [upd_self, hr]; simp; omega
 have h2 : (Dg.skip s p x t).segs.length = s.segs.length := rfl
 unfold St.left
 omega
theorem left_merge {p : Nat} {x : Int} {t : List Int} (hp : p < n) (hr : s.rest p = x :: t) (h0 : s.low x.toNat ≠ 0) : (Dg.merge s p x t).left n + 1 ≤ s.left n := by
 have hz : ∀ v, ((if (Dg.merge s p x t).low v = 0 then 2 else 0) : Nat) = if s.low v = 0 then 2 else 0 := by
  intro v
  show (if upd s.low p (min (s.low p) (s.low x.toNat)) v = 0 then 2 else 0) = _
  by_cases he : v = p
  ·subst he
   rw [upd_self]
   by_cases h1 : s.low v = 0
   ·simp [h1]
   ·rw [if_neg h1, if_neg (by omega)]
  ·rw [upd_other _ _ he]
 have h1 : sumTo n (fun v => (if (Dg.merge s p x t).low v = 0 then 2 else 0) + ((Dg.merge s p x t).rest v).length) + 1 ≤ sumTo n (fun v => (if s.low v = 0 then 2 else 0) + (s.rest v).length) := by
  refine sumTo_less n hp (fun v hv => ?_) ?_
  ·show (if (Dg.merge s p x t).low v = 0 then 2 else 0) + (upd s.rest p t v).length ≤ _
   rw [hz v]
   by_cases he : v = p
   ·subst he; rw [upd_self, hr]; simp
   ·rw [upd_other _ _ he]; omega
  ·show (if (Dg.merge s p x t).low p = 0 then 2 else 0) + (upd s.rest p t p).length + 1 ≤ _
   rw [hz p, upd_self, hr]; simp; omega
 have h2 : (Dg.merge s p x t).segs.length = s.segs.length := rfl
 unfold St.left
 omega
theorem left_leave {A : List (Nat × List Nat)} {q p : Nat} {oq o : List Nat} (hs : s.segs = A ++ [(q, oq), (p, o)]) : (Dg.leave s A q oq p o).left n + 1 ≤ s.left n := by
 have h2 : (Dg.leave s A q oq p o).segs.length + 1 = s.segs.length := by rw [hs]; simp [Dg.leave]
 have h1 : (Dg.leave s A q oq p o).left n = sumTo n (fun v => (if s.low v = 0 then 2 else 0) + (s.rest v).length) + (Dg.leave s A q oq p o).segs.length := rfl
 rw [h1]
 unfold St.left
 omega
theorem left_cut {A : List (Nat × List Nat)} {p : Nat} {o : List Nat} (hs : s.segs = A ++ [(p, o)]) : (Dg.cut s A p o).left n + 1 ≤ s.left n := by
 have h2 : (Dg.cut s A p o).segs.length + 1 = s.segs.length := by rw [hs]; simp [Dg.cut]
 have h1 : sumTo n (fun v => (if (Dg.cut s A p o).low v = 0 then 2 else 0) + ((Dg.cut s A p o).rest v).length) ≤ sumTo n (fun v => (if s.low v = 0 then 2 else 0) + (s.rest v).length) := by
  refine sumTo_le n (fun v hv => ?_)
  show (if (if v ∈ p :: o then T else s.low v) = 0 then 2 else 0) + (s.rest v).length ≤ _
  by_cases hm : v ∈ p :: o
  ·rw [if_pos hm, if_neg (by decide)]; omega
  ·rw [if_neg hm]; omega
 unfold St.left
 omega
end
end Dg
end Go.Proofs.YtdlplmbdkjkeiaaDoor
