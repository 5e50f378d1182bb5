import Derived.Test.YtjcijffhcmbhnaaDoorMem
import Derived.Test.YtjcijffhcmbhnaaDoorBits
namespace Go.Proofs.YtjcijffhcmbhnaaDoor.Tb
set_option linter.unusedVariables false
def ended : List Int → Nat
 | [] => 0
 | x :: t => if ended t = 0 then (if x = 0 then 0 else 1) else ended t + 1
def trim (l : List Int) : List Int := l.take (ended l)
structure Ends (l : List Int) (k : Nat) : Prop where
 le : k ≤ l.length
 zero : ∀ i, k ≤ i → l.getD i 0 = 0
 last : 0 < k → l.getD (k - 1) 0 ≠ 0
theorem ended_ends : ∀ l : List Int, Ends l (ended l)
 | [] => ⟨by simp [ended], fun i _ => by simp, fun h => by simp [ended] at h⟩
 | x :: t => by
  have ih := ended_ends t
  unfold ended
  by_cases h : ended t = 0
  ·rw [if_pos h]
   by_cases hx : x = 0
   ·rw [if_pos hx]
    refine ⟨by simp, fun i _ => ?_, fun h => by omega⟩
    cases i with
    | zero => simp [hx]
    | succ i => rw [List.getD_cons_succ]; exact ih.zero i (by omega)
   ·rw [if_neg hx]
    refine ⟨by simp, fun i hi => ?_, fun _ => by simpa using hx⟩
    cases i with
    | zero => omega
    | succ i => rw [List.getD_cons_succ]; exact ih.zero i (by omega)
  ·rw [if_neg h]
   refine ⟨by have := ih.le; simp; omega, fun i hi => ?_, fun _ => ?_⟩
   ·cases i with
    | zero => omega
    | succ i => rw [List.getD_cons_succ]; exact ih.zero i (by omega)
   ·have h2 := ih.last (by omega)
    have : ended t + 1 - 1 = ended t - 1 + 1 := by omega
    rw [this, List.getD_cons_succ]; exact h2
theorem Ends.uniq {l : List Int} {k k' : Nat} (h : Ends l k) (h' : Ends l k') : k = k' := by
 rcases Nat.lt_trichotomy k k' with h1 | h1 | h1
 ·exact absurd (h.zero (k' - 1) (by omega)) (h'.last (by omega))
 ·exact h1
 ·exact absurd (h'.zero (k - 1) (by omega)) (h.last (by omega))
theorem Ends.trim {l : List Int} {k : Nat} (h : Ends l k) : trim l = l.take k := by unfold Tb.trim; rw [(ended_ends l).uniq h]
theorem ended_le (l : List Int) : ended l ≤ l.length := (ended_ends l).le
theorem trim_length (l : List Int) : (trim l).length = ended l := by unfold trim; rw [List.length_take]; exact Nat.min_eq_left (ended_le l)
theorem trim_le (l : List Int) : (trim l).length ≤ l.length := by rw [trim_length]; exact ended_le l
theorem trim_getD (l : List Int) (i : Nat) : (trim l).getD i 0 = l.getD i 0 := by
 by_cases h : i < ended l
 ·simp [trim, List.getD, h]
 ·rw [(ended_ends l).zero i (by omega)]
  have : (trim l).length ≤ i := by rw [trim_length]; omega
  simp [List.getD, List.getElem?_eq_none this]
theorem trim_ends (l : List Int) : Ends (trim l) (trim l).length := by
 rw [trim_length]
 refine ⟨by rw [trim_length]; omega, fun i hi => ?_, fun h => ?_⟩
 ·rw [trim_getD]; exact (ended_ends l).zero i hi
 ·rw [trim_getD]; exact (ended_ends l).last h
theorem trim_trim (l : List Int) : trim (trim l) = trim l := by rw [(trim_ends l).trim, List.take_length]
theorem trim_nil : trim [] = [] := rfl
theorem trim_noughts (l : List Int) (m : Nat) : trim (l ++ List.replicate m 0) = trim l := by
 have h := ended_ends l
 have h2 : Ends (l ++ List.replicate m 0) (ended l) := by
  refine ⟨by simp; have := h.le; omega, fun i hi => ?_, fun h0 => ?_⟩
  ·have h3 := h.zero i hi
   by_cases h4 : i < l.length
   ·rw [List.getD, List.getElem?_append_left h4]; exact h3
   ·rw [List.getD, List.getElem?_append_right (by omega), List.getElem?_replicate]; split <;> rfl
  ·rw [List.getD, List.getElem?_append_left (by have := h.le; omega)]; exact h.last h0
 rw [h2.trim, List.take_append_of_le_length h.le]
 rfl
theorem trim_small {l : List Int} {p : Int → Prop} (h : ∀ x ∈ l, p x) : ∀ x ∈ trim l, p x := fun x hx => h x (List.mem_of_mem_take hx)
theorem trim_ext {a b : List Int} (ha : trim a = a) (hb : trim b = b) (h : ∀ i, a.getD i 0 = b.getD i 0) : a = b := by
 have ea := trim_ends a
 have eb := trim_ends b
 rw [ha] at ea
 rw [hb] at eb
 have hl : a.length = b.length := by
  rcases Nat.lt_trichotomy a.length b.length with h1 | h1 | h1
  ·exact absurd (by rw [← h]; exact ea.zero _ (by omega)) (eb.last (by omega))
  ·exact h1
  ·exact absurd (by rw [h]; exact eb.zero _ (by omega)) (ea.last (by omega))
 apply List.ext_getElem hl
 intro i h1 h2
 have := h i
 simpa [List.getD, h1, h2] using this
def find (L : List (List Int)) (t : List Int) : Nat := L.findIdx (fun x => x == t)
theorem find_le (L : List (List Int)) (t : List Int) : find L t ≤ L.length := List.findIdx_le_length
theorem find_at {L : List (List Int)} {t : List Int} (h : find L t < L.length) : L[find L t]? = some t := by
 have h1 := List.findIdx_getElem (w := h)
 rw [List.getElem?_eq_getElem h]
 exact congrArg some (eq_of_beq h1)
theorem find_before {L : List (List Int)} {t : List Int} {k : Nat} (h : k < find L t) : L[k]? ≠ some t := by
 have h1 := List.not_of_lt_findIdx h
 have h2 : k < L.length := Nat.lt_of_lt_of_le h (find_le L t)
 rw [List.getElem?_eq_getElem h2]
 simpa using h1
theorem find_not {L : List (List Int)} {t : List Int} (h : find L t = L.length) : t ∉ L := by
 intro hm
 obtain ⟨k, hk⟩ := List.mem_iff_getElem?.1 hm
 exact find_before (by rw [h]; exact (List.getElem?_eq_some_iff.1 hk).1) hk
theorem find_of {L : List (List Int)} {t : List Int} {k : Nat} (h : L[k]? = some t) (hb : ∀ j, j < k → L[j]? ≠ some t) : find L t = k := by
 rcases Nat.lt_trichotomy (find L t) k with h1 | h1 | h1
 ·exact absurd (find_at (Nat.lt_trans h1 (List.getElem?_eq_some_iff.1 h).1)) (hb _ h1)
 ·exact h1
 ·exact absurd h (find_before h1)
theorem find_none {L : List (List Int)} {t : List Int} (h : t ∉ L) : find L t = L.length := by
 rcases Nat.lt_or_eq_of_le (find_le L t) with h1 | h1
 ·exact absurd (List.mem_iff_getElem?.2 ⟨_, find_at h1⟩) h
 ·exact h1
def step (s : List Nat × List (List Int)) (row : List Int) : List Nat × List (List Int) :=
 (s.1 ++ [find s.2 (trim row)], if find s.2 (trim row) < s.2.length then s.2 else s.2 ++ [trim row])
def share (rows : List (List Int)) : List Nat × List (List Int) := rows.foldl step ([], [])
def ids (rows : List (List Int)) : List Nat := (share rows).1
def outs (rows : List (List Int)) : List (List Int) := (share rows).2
theorem share_snoc (rows : List (List Int)) (row : List Int) : share (rows ++ [row]) = step (share rows) row := by simp [share]
theorem ids_snoc (rows : List (List Int)) (row : List Int) : ids (rows ++ [row]) = ids rows ++ [find (outs rows) (trim row)] := by
 unfold ids outs; rw [share_snoc]; rfl
theorem outs_snoc (rows : List (List Int)) (row : List Int) : outs (rows ++ [row]) = if find (outs rows) (trim row) < (outs rows).length then outs rows else outs rows ++ [trim row] := by
 unfold outs; rw [share_snoc]; rfl
theorem outs_old {rows : List (List Int)} {row : List Int} (h : find (outs rows) (trim row) < (outs rows).length) : outs (rows ++ [row]) = outs rows := by rw [outs_snoc, if_pos h]
theorem outs_new {rows : List (List Int)} {row : List Int} (h : ¬ find (outs rows) (trim row) < (outs rows).length) : outs (rows ++ [row]) = outs rows ++ [trim row] := by rw [outs_snoc, if_neg h]
theorem take_snoc {α : Type} {L : List α} {k : Nat} {x : α} (h : L[k]? = some x) : L.take (k + 1) = L.take k ++ [x] := by rw [List.take_add_one, h]; rfl
theorem snoc_ind {α : Type} {p : List α → Prop} (h0 : p []) (h1 : ∀ l x, p l → p (l ++ [x])) (l : List α) : p l := by
 have h : ∀ r : List α, p r.reverse := by
  intro r
  induction r with
  | nil => exact h0
  | cons x r ih => rw [List.reverse_cons]; exact h1 _ _ ih
 have := h l.reverse
 rwa [List.reverse_reverse] at this
theorem ids_length (rows : List (List Int)) : (ids rows).length = rows.length := by
 induction rows using snoc_ind with
 | h0 => rfl
 | h1 rows row ih => rw [ids_snoc]; simp [ih]
theorem outs_le (rows : List (List Int)) : (outs rows).length ≤ rows.length := by
 induction rows using snoc_ind with
 | h0 => exact Nat.le_refl _
 | h1 rows row ih => rw [outs_snoc]; split <;> simp <;> omega
theorem outs_mem {rows : List (List Int)} {t : List Int} (h : t ∈ outs rows) : ∃ row ∈ rows, t = trim row := by
 induction rows using snoc_ind with
 | h0 => cases h
 | h1 rows row ih =>
  rw [outs_snoc] at h
  split at h
  ·obtain ⟨r, h1, h2⟩ := ih h; exact ⟨r, by simp [h1], h2⟩
  ·rcases List.mem_append.1 h with h | h
   ·obtain ⟨r, h1, h2⟩ := ih h; exact ⟨r, by simp [h1], h2⟩
   ·simp at h; exact ⟨row, by simp, h⟩
theorem outs_trim {rows : List (List Int)} {t : List Int} (h : t ∈ outs rows) : trim t = t := by
 obtain ⟨r, _, rfl⟩ := outs_mem h; exact trim_trim r
theorem outs_apart (rows : List (List Int)) : ∀ (j k : Nat) (t : List Int), j < k → (outs rows)[j]? = some t → (outs rows)[k]? ≠ some t := by
 induction rows using snoc_ind with
 | h0 => intro j k t _ h; simp [outs, share] at h
 | h1 rows row ih =>
  rw [outs_snoc]
  split
  ·exact ih
  ·rename_i hn
   have hno := find_not (Nat.le_antisymm (find_le _ _) (Nat.not_lt.1 hn))
   intro j k t hjk h1 h2
   have hk := (List.getElem?_eq_some_iff.1 h2).1
   simp only [List.length_append, List.length_cons, List.length_nil] at hk
   rw [List.getElem?_append_left (by omega)] at h1
   by_cases he : k < (outs rows).length
   ·rw [List.getElem?_append_left he] at h2
    exact ih j k t hjk h1 h2
   ·have : k = (outs rows).length := by omega
    subst this
    simp at h2
    subst h2
    exact hno (List.mem_of_getElem? h1)
theorem outs_pre (rows : List (List Int)) (row : List Int) : outs rows <+: outs (rows ++ [row]) := by
 rw [outs_snoc]; split
 ·exact List.prefix_refl _
 ·exact List.prefix_append _ _
theorem outs_pre_all (rows : List (List Int)) (more : List (List Int)) : outs rows <+: outs (rows ++ more) := by
 induction more using snoc_ind with
 | h0 => rw [List.append_nil]; exact List.prefix_refl _
 | h1 more row ih => rw [← List.append_assoc]; exact ih.trans (outs_pre _ _)
theorem pre_at {α : Type} {L M : List α} (h : L <+: M) {k : Nat} {x : α} (hk : L[k]? = some x) : M[k]? = some x := by
 obtain ⟨t, rfl⟩ := h
 rw [List.getElem?_append_left (List.getElem?_eq_some_iff.1 hk).1]; exact hk
theorem ids_pre_all (rows : List (List Int)) (more : List (List Int)) : ids rows <+: ids (rows ++ more) := by
 induction more using snoc_ind with
 | h0 => rw [List.append_nil]; exact List.prefix_refl _
 | h1 more row ih => rw [← List.append_assoc, ids_snoc]; exact ih.trans (List.prefix_append _ _)
theorem ids_at (rows : List (List Int)) : ∀ (i : Nat) (row : List Int), rows[i]? = some row → ∃ k, (ids rows)[i]? = some k ∧ (outs rows)[k]? = some (trim row) := by
 induction rows using snoc_ind with
 | h0 => intro i row h; simp at h
 | h1 rows row ih =>
  intro i r hi
  by_cases he : i < rows.length
  ·rw [List.getElem?_append_left he] at hi
   obtain ⟨k, h1, h2⟩ := ih i r hi
   exact ⟨k, pre_at (ids_pre_all rows [row]) h1, pre_at (outs_pre rows row) h2⟩
  ·have hlt := (List.getElem?_eq_some_iff.1 hi).1
   simp only [List.length_append, List.length_cons, List.length_nil] at hlt
   have : i = rows.length := by omega
   subst this
   simp at hi
   subst hi
   refine ⟨find (outs rows) (trim row), by rw [ids_snoc, List.getElem?_append_right (by rw [ids_length]; omega), ids_length]; simp, ?_⟩
   by_cases hf : find (outs rows) (trim row) < (outs rows).length
   ·rw [outs_old hf]; exact find_at hf
   ·rw [outs_new hf]
    have : find (outs rows) (trim row) = (outs rows).length := Nat.le_antisymm (find_le _ _) (Nat.not_lt.1 hf)
    rw [this]; simp
theorem ids_lt {rows : List (List Int)} {i k : Nat} (h : (ids rows)[i]? = some k) : k < (outs rows).length := by
 have hi := (List.getElem?_eq_some_iff.1 h).1
 rw [ids_length] at hi
 obtain ⟨k', h1, h2⟩ := ids_at rows i _ (List.getElem?_eq_getElem hi)
 rw [h] at h1
 injection h1 with h1
 subst h1
 exact (List.getElem?_eq_some_iff.1 h2).1
theorem ids_le {rows : List (List Int)} {k : Nat} (h : k ∈ ids rows) : k < rows.length := by
 obtain ⟨i, hi⟩ := List.mem_iff_getElem?.1 h
 have := ids_lt hi
 have := outs_le rows
 omega
def Free (ow r : List Int) (p : Nat) : Prop := ∀ c, r.getD c 0 ≠ 0 → ow.getD (p + c) 0 = 0
structure Least (ow r : List Int) (p : Nat) : Prop where
 free : Free ow r p
 least : ∀ q, q < p → ¬ Free ow r q
theorem Least.uniq {ow r : List Int} {p q : Nat} (h : Least ow r p) (k : Least ow r q) : p = q := by
 rcases Nat.lt_trichotomy p q with h1 | h1 | h1
 ·exact absurd h.free (k.least p h1)
 ·exact h1
 ·exact absurd k.free (h.least q h1)
theorem getD_out {l : List Int} {i : Nat} (h : l.length ≤ i) : l.getD i 0 = 0 := by simp [List.getD, List.getElem?_eq_none h]
theorem getD_in {l : List Int} {i : Nat} (h : l.getD i 0 ≠ 0) : i < l.length := by
 by_cases h1 : i < l.length
 ·exact h1
 ·exact absurd (getD_out (by omega)) h
theorem free_end (ow r : List Int) : Free ow r ow.length := fun c _ => getD_out (by omega)
def freeB (ow r : List Int) (p : Nat) : Bool := (List.range r.length).all fun c => r.getD c 0 == 0 || ow.getD (p + c) 0 == 0
theorem freeB_iff (ow r : List Int) (p : Nat) : freeB ow r p = true ↔ Free ow r p := by
 unfold freeB Free
 rw [List.all_eq_true]
 constructor
 ·intro h c hc
  have := h c (List.mem_range.2 (getD_in hc))
  rw [Bool.or_eq_true, beq_iff_eq, beq_iff_eq] at this
  exact this.resolve_left hc
 ·intro h c _
  rw [Bool.or_eq_true, beq_iff_eq, beq_iff_eq]
  by_cases hc : r.getD c 0 = 0
  ·exact .inl hc
  ·exact .inr (h c hc)
def place (ow r : List Int) : Nat := (List.range (ow.length + 1)).findIdx (freeB ow r)
theorem place_le (ow r : List Int) : place ow r ≤ ow.length := by
 have : place ow r < (List.range (ow.length + 1)).length := List.findIdx_lt_length_of_exists ⟨ow.length, by simp, (freeB_iff _ _ _).2 (free_end ow r)⟩
 simp at this; omega
theorem place_least (ow r : List Int) : Least ow r (place ow r) := by
 have hlt : place ow r < (List.range (ow.length + 1)).length := by have := place_le ow r; simp; omega
 refine ⟨?_, fun q hq => ?_⟩
 ·have h : freeB ow r (List.range (ow.length + 1))[place ow r] = true := List.findIdx_getElem (w := hlt)
  rw [List.getElem_range] at h
  exact (freeB_iff _ _ _).1 h
 ·intro hf
  have h := List.not_of_lt_findIdx hq
  rw [List.getElem_range] at h
  rw [(freeB_iff _ _ _).2 hf] at h
  cases h
theorem place_nil (ow : List Int) : place ow [] = 0 := (place_least ow []).uniq ⟨fun c h => by simp at h, fun q h => by omega⟩
def lay (l r : List Int) (p : Nat) (f : Int → Int) : List Int := (List.range (max l.length (p + r.length))).map fun i => if p ≤ i ∧ r.getD (i - p) 0 ≠ 0 then f (r.getD (i - p) 0) else l.getD i 0
theorem lay_length (l r : List Int) (p : Nat) (f : Int → Int) : (lay l r p f).length = max l.length (p + r.length) := by simp [lay]
theorem lay_getD (l r : List Int) (p : Nat) (f : Int → Int) (i : Nat) : (lay l r p f).getD i 0 = if p ≤ i ∧ r.getD (i - p) 0 ≠ 0 then f (r.getD (i - p) 0) else l.getD i 0 := by
 by_cases h : i < max l.length (p + r.length)
 ·unfold lay
  rw [List.getD, List.getElem?_map, List.getElem?_range h]
  rfl
 ·rw [getD_out (by rw [lay_length]; omega), getD_out (l := l) (by omega), getD_out (l := r) (by omega)]
  simp
theorem lay_at {l r : List Int} {p : Nat} {f : Int → Int} {c : Nat} (h : r.getD c 0 ≠ 0) : (lay l r p f).getD (p + c) 0 = f (r.getD c 0) := by
 rw [lay_getD, if_pos ⟨by omega, by rw [Nat.add_sub_cancel_left]; exact h⟩, Nat.add_sub_cancel_left]
theorem lay_old {l r : List Int} {p : Nat} {f : Int → Int} {i : Nat} (h : ∀ c, i = p + c → r.getD c 0 = 0) : (lay l r p f).getD i 0 = l.getD i 0 := by
 rw [lay_getD, if_neg]
 rintro ⟨h1, h2⟩
 exact h2 (h (i - p) (by omega))
structure Pk where
 nx : List Int
 ow : List Int
 pl : List Nat
def put (s : Pk) (r : List Int) : Pk := ⟨lay s.nx r (place s.ow r) id, lay s.ow r (place s.ow r) (fun _ => (s.pl.length : Int) + 1), s.pl ++ [place s.ow r]⟩
def pack (L : List (List Int)) : Pk := L.foldl put ⟨[], [], []⟩
theorem pack_snoc (L : List (List Int)) (r : List Int) : pack (L ++ [r]) = put (pack L) r := by simp [pack]
theorem pack_nil : pack [] = ⟨[], [], []⟩ := rfl
theorem pl_length (L : List (List Int)) : (pack L).pl.length = L.length := by
 induction L using snoc_ind with
 | h0 => rfl
 | h1 L r ih => rw [pack_snoc]; simp [put, ih]
theorem nx_length (L : List (List Int)) : (pack L).nx.length = (pack L).ow.length := by
 induction L using snoc_ind with
 | h0 => rfl
 | h1 L r ih => rw [pack_snoc]; simp only [put, lay_length, ih]
theorem ow_length (L : List (List Int)) (m : Nat) (h : ∀ r ∈ L, r.length ≤ m) : (pack L).ow.length ≤ m * L.length := by
 induction L using snoc_ind with
 | h0 => simp [pack]
 | h1 L r ih =>
  rw [pack_snoc]
  have h1 := ih (fun x hx => h x (by simp [hx]))
  have h2 := h r (by simp)
  have h3 := place_le (pack L).ow r
  simp only [put, lay_length, List.length_append, List.length_cons, List.length_nil]
  rw [Nat.mul_add]
  omega
theorem ow_cell (L : List (List Int)) (i : Nat) : ((pack L).ow.getD i 0 = 0 ↔ (pack L).nx.getD i 0 = 0) ∧ 0 ≤ (pack L).ow.getD i 0 ∧ (pack L).ow.getD i 0 ≤ L.length := by
 induction L using snoc_ind with
 | h0 => simp [pack]
 | h1 L r ih =>
  rw [pack_snoc]
  simp only [put, lay_getD, pl_length, List.length_append, List.length_cons, List.length_nil, id]
  split
  ·rename_i h
   refine ⟨⟨fun h1 => by omega, fun h1 => absurd h1 h.2⟩, by omega, by omega⟩
  ·exact ⟨ih.1, ih.2.1, by omega⟩
theorem nx_small {L : List (List Int)} {q : Int → Prop} (h0 : q 0) (h : ∀ r ∈ L, ∀ x ∈ r, q x) : ∀ x ∈ (pack L).nx, q x := by
 induction L using snoc_ind with
 | h0 => intro x hx; simp [pack] at hx
 | h1 L r ih =>
  have ih' := ih (fun y hy => h y (by simp [hy]))
  intro x hx
  rw [pack_snoc] at hx
  obtain ⟨i, hi⟩ := List.mem_iff_getElem?.1 hx
  have e : (put (pack L) r).nx.getD i 0 = x := by simp [List.getD, hi]
  rw [← e]
  simp only [put, lay_getD, id]
  split
  ·rename_i h1
   have h2 := getD_in h1.2
   refine h r (by simp) _ ?_
   rw [List.getD, List.getElem?_eq_getElem h2]; exact List.getElem_mem h2
  ·by_cases h2 : i < (pack L).nx.length
   ·refine ih' _ ?_
    rw [List.getD, List.getElem?_eq_getElem h2]; exact List.getElem_mem h2
   ·rw [getD_out (by omega)]; exact h0
theorem put_old (s : Pk) (r : List Int) (hs : ∀ i, s.ow.getD i 0 = 0 ↔ s.nx.getD i 0 = 0) {i : Nat} (h : s.ow.getD i 0 ≠ 0) : (put s r).ow.getD i 0 = s.ow.getD i 0 ∧ (put s r).nx.getD i 0 = s.nx.getD i 0 := by
 have hf := (place_least s.ow r).free
 have hno : ∀ c, i = place s.ow r + c → r.getD c 0 = 0 := by
  intro c hc
  by_cases h1 : r.getD c 0 = 0
  ·exact h1
  ·exact absurd (hc ▸ hf c h1) h
 exact ⟨lay_old (f := fun _ => (s.pl.length : Int) + 1) hno, lay_old (f := id) hno⟩
theorem pack_old (L M : List (List Int)) {i : Nat} (h : (pack L).ow.getD i 0 ≠ 0) : (pack (L ++ M)).ow.getD i 0 = (pack L).ow.getD i 0 ∧ (pack (L ++ M)).nx.getD i 0 = (pack L).nx.getD i 0 := by
 induction M using snoc_ind with
 | h0 => rw [List.append_nil]; exact ⟨rfl, rfl⟩
 | h1 M r ih =>
  rw [← List.append_assoc, pack_snoc]
  have := put_old (pack (L ++ M)) r (fun i => (ow_cell (L ++ M) i).1) (i := i) (by rw [ih.1]; exact h)
  exact ⟨this.1.trans ih.1, this.2.trans ih.2⟩
theorem pack_longer (L M : List (List Int)) : (pack L).ow.length ≤ (pack (L ++ M)).ow.length := by
 induction M using snoc_ind with
 | h0 => rw [List.append_nil]; exact Nat.le_refl _
 | h1 M r ih => rw [← List.append_assoc, pack_snoc]; simp only [put, lay_length]; omega
theorem pl_pre (L M : List (List Int)) : (pack L).pl <+: (pack (L ++ M)).pl := by
 induction M using snoc_ind with
 | h0 => rw [List.append_nil]; exact List.prefix_refl _
 | h1 M r ih => rw [← List.append_assoc, pack_snoc]; exact ih.trans (List.prefix_append _ _)
theorem pl_at (L : List (List Int)) (k : Nat) (r : List Int) (h : L[k]? = some r) : (pack L).pl[k]? = some (place (pack (L.take k)).ow r) := by
 have hlt := (List.getElem?_eq_some_iff.1 h).1
 have e : L = (L.take k ++ [r]) ++ L.drop (k + 1) := by rw [← take_snoc h, List.take_append_drop]
 have h1 : (pack (L.take k ++ [r])).pl[k]? = some (place (pack (L.take k)).ow r) := by
  rw [pack_snoc]
  have : (pack (L.take k)).pl.length = k := by rw [pl_length, List.length_take]; omega
  simp only [put]
  rw [List.getElem?_append_right (by omega), this]; simp
 have h2 := pre_at (pl_pre (L.take k ++ [r]) (L.drop (k + 1))) h1
 rwa [← e] at h2
theorem nx_last (L : List (List Int)) (hL : ∀ r ∈ L, trim r = r) (h : 0 < (pack L).nx.length) : (pack L).nx.getD ((pack L).nx.length - 1) 0 ≠ 0 := by
 induction L using snoc_ind with
 | h0 => simp [pack] at h
 | h1 L r ih =>
  have ih' := ih (fun x hx => hL x (by simp [hx]))
  have hr := hL r (by simp)
  have he := trim_ends r
  rw [hr] at he
  rw [pack_snoc] at h ⊢
  simp only [put, lay_length] at h ⊢
  rw [lay_getD]
  split
  ·rename_i h1; exact h1.2
  ·rename_i h1
   by_cases h2 : (pack L).nx.length < place (pack L).ow r + r.length
   ·exfalso
    have h3 : 0 < r.length := by
     have := place_le (pack L).ow r
     have := nx_length L
     omega
    refine h1 ⟨by omega, ?_⟩
    have : max (pack L).nx.length (place (pack L).ow r + r.length) - 1 - place (pack L).ow r = r.length - 1 := by omega
    rw [this]; exact he.last h3
   ·have : max (pack L).nx.length (place (pack L).ow r + r.length) = (pack L).nx.length := by omega
    rw [this] at h ⊢
    exact ih' h
open BitKit
def nz (l : List Int) : Nat := cnt (fun i => l.getD i 0 != 0) l.length
theorem nz_le (l : List Int) : nz l ≤ l.length := cnt_le _ _
theorem cnt_or {f g : Nat → Bool} : ∀ n, (∀ i, i < n → ¬ (f i = true ∧ g i = true)) → cnt (fun i => f i || g i) n = cnt f n + cnt g n
 | 0, _ => rfl
 | n + 1, h => by
  rw [cnt, cnt, cnt, cnt_or n (fun i hi => h i (by omega))]
  have := h n (by omega)
  cases hf : f n <;> cases hg : g n <;> simp_all <;> omega
theorem nz_wide (l : List Int) {n : Nat} (h : l.length ≤ n) : cnt (fun i => l.getD i 0 != 0) n = nz l := cnt_stay _ h (fun i hi _ => by rw [getD_out hi]; rfl)
theorem nz_lay {l r : List Int} {p : Nat} {f : Int → Int} (hf : ∀ x, x ≠ 0 → f x ≠ 0) (h : Free l r p) : nz (lay l r p f) = nz l + nz r := by
 have hn := lay_length l r p f
 have h1 : nz (lay l r p f) = cnt (fun i => (l.getD i 0 != 0) || (decide (p ≤ i) && (r.getD (i - p) 0 != 0))) (max l.length (p + r.length)) := by
  unfold nz
  rw [hn]
  refine cnt_congr _ fun i _ => ?_
  show ((lay l r p f).getD i 0 != 0) = _
  rw [lay_getD]
  split
  ·rename_i h1
   have h2 : (f (r.getD (i - p) 0) != 0) = true := by simpa using hf _ h1.2
   have h3 : (r.getD (i - p) 0 != 0) = true := by simpa using h1.2
   rw [h2, h3]; simp [h1.1]
  ·rename_i h1
   by_cases h2 : p ≤ i
   ·have h3 : r.getD (i - p) 0 = 0 := by
     by_cases h4 : r.getD (i - p) 0 = 0
     ·exact h4
     ·exact absurd ⟨h2, h4⟩ h1
    rw [h3]; simp
   ·simp [h2]
 have h2 : cnt (fun i => decide (p ≤ i) && (r.getD (i - p) 0 != 0)) (max l.length (p + r.length)) = nz r := by
  have e : max l.length (p + r.length) = p + (max l.length (p + r.length) - p) := by omega
  rw [e, cnt_add]
  have e1 : cnt (fun i => decide (p ≤ i) && (r.getD (i - p) 0 != 0)) p = 0 := by
   have := cnt_stay (fun i => decide (p ≤ i) && (r.getD (i - p) 0 != 0)) (n := 0) (m := p) (by omega) (fun i _ hi => by
    have : ¬ p ≤ i := by omega
    simp [this])
   rw [this]; rfl
  rw [e1, Nat.zero_add]
  rw [← nz_wide r (n := max l.length (p + r.length) - p) (by omega)]
  refine cnt_congr _ fun i _ => ?_
  simp
 rw [h1, cnt_or, h2, nz_wide l (by omega)]
 rintro i _ ⟨h3, h4⟩
 simp at h3 h4
 have := h (i - p) h4.2
 have e : p + (i - p) = i := by omega
 rw [e] at this
 exact h3 this
def dense : List (List Int) → Nat
 | [] => 0
 | r :: L => nz r + dense L
theorem dense_append (L M : List (List Int)) : dense (L ++ M) = dense L + dense M := by
 induction L with
 | nil => simp [dense]
 | cons r L ih => rw [List.cons_append, dense, dense, ih]; omega
theorem dense_one (r : List Int) : dense [r] = nz r := by simp [dense]
theorem dense_snoc (L : List (List Int)) (r : List Int) : dense (L ++ [r]) = dense L + nz r := by rw [dense_append, dense_one]
theorem nz_ow (L : List (List Int)) : nz (pack L).ow = dense L := by
 induction L using snoc_ind with
 | h0 => rfl
 | h1 L r ih =>
  rw [pack_snoc, dense_snoc, ← ih]
  have hf := (place_least (pack L).ow r).free
  unfold put
  generalize place (pack L).ow r = p at hf ⊢
  generalize (pack L).pl.length = n
  generalize (pack L).ow = ow at hf ⊢
  exact nz_lay (f := fun _ => (n : Int) + 1) (fun x _ => by omega) hf
theorem dense_le (L : List (List Int)) (m : Nat) (h : ∀ r ∈ L, r.length ≤ m) : dense L ≤ m * L.length := by
 induction L with
 | nil => simp [dense]
 | cons r L ih =>
  have h1 := ih (fun x hx => h x (by simp [hx]))
  have h2 := h r (by simp)
  have h3 := nz_le r
  simp only [dense, List.length_cons, Nat.mul_add]
  omega
def base (rows : List (List Int)) : List Int := (ids rows).map fun k => (((pack (outs rows)).pl.getD k 0 : Nat) : Int)
def idsI (rows : List (List Int)) : List Int := (ids rows).map fun k : Nat => (k : Int)
theorem base_length (rows : List (List Int)) : (base rows).length = rows.length := by simp [base, ids_length]
theorem idsI_length (rows : List (List Int)) : (idsI rows).length = rows.length := by simp [idsI, ids_length]
end Go.Proofs.YtjcijffhcmbhnaaDoor.Tb
