import Derived.Test.YtehagenopnnhcaaGreatDoorSmL
namespace Go.Proofs.YtehagenopnnhcaaGreatDoor
namespace Sm
open Rd (Name Pat Tok Lev Rule G)
set_option linter.unusedVariables false
set_option linter.unusedSimpArgs false
def newTok (n : Name) : Tok := ⟨n, ⟨[120], [], false⟩⟩
def withTok (s : S) (n : Name) : G := ⟨(gram s).toks ++ [newTok n], [], (gram s).levels, (gram s).start, (gram s).rules⟩
def zz : Name := [122, 122]
def zRule (r : Rule) : Rule := ⟨r.left, r.right ++ [zz], r.prec, r.action⟩
def withZ (s : S) (i : Nat) (r : Rule) : G := ⟨(gram s).toks, [], (gram s).levels, (gram s).start, (gram s).rules.set i (zRule r)⟩
section
variable {s : S}
theorem right_tok (hl : nl s ≤ 5) (h20 : s.lefts.length ≤ 20) (h8 : ∀ l ∈ s.rights, l.length ≤ 8) {r : Rule} (hr : r ∈ (gram s).rules) : Pr.Right (withTok s r.left) := by
 have h := right_gram hl h20 h8
 have h5 := nt_le (s := s)
 have h4 := nv_le (s := s)
 have htl : (gram s).toks.length = nt s := by show ((List.range (nt s)).map tok).length = _; simp
 obtain ⟨v, hv, e⟩ := left_is (Nat.le_refl _) (show r ∈ rules s (nv s) from hr)
 refine ⟨?_, by show 0 ≤ 4; omega, h.nlev, h.nrule, h.rules, h.start, fun t ht => ?_, fun p hp => by simp [withTok] at hp, h.levels, h.each, ?_, h.lonce⟩
 ·show ((gram s).toks ++ [newTok r.left]).length ≤ 20
  rw [List.length_append, htl]; simp; omega
 ·rcases List.mem_append.1 (show t ∈ (gram s).toks ++ [newTok r.left] from ht) with h1 | h1
  ·exact h.toks t h1
  ·simp at h1; subst h1
   unfold Pr.tokOk
   rw [Bool.and_eq_true]
   refine ⟨?_, by show Pr.patOk ⟨[120], [], false⟩ = true; decide +kernel⟩
   show Pr.nameOk r.left = true
   rw [e]; exact stuv_ok v (by omega)
 ·show (((gram s).toks ++ [newTok r.left]).map Tok.name).Nodup
  rw [List.map_append, List.nodup_append]
  refine ⟨h.tonce, by simp, fun a ha b hb hab => ?_⟩
  simp [newTok] at hb
  subst hb
  obtain ⟨t, ht, rfl⟩ := List.mem_map.1 ha
  obtain ⟨i, hi, rfl⟩ := List.mem_map.1 (show t ∈ (List.range (nt s)).map tok from ht)
  rw [List.mem_range] at hi
  rw [e] at hab
  exact stuv_abc (by omega) (by omega) hab.symm
theorem of_tok (hl : nl s ≤ 5) (h20 : s.lefts.length ≤ 20) (h8 : ∀ l ∈ s.rights, l.length ≤ 8) {r : Rule} (hr : r ∈ (gram s).rules) : Nm.ofG (withTok s r.left) = (Nm.empty, 15, r.left) := by
 have hf := fine_gram hl h20 h8
 have hw : Nm.wrong (withTok s r.left) = (15, r.left) := by
  have h1 : (withTok s r.left).toks.find? (Nm.wrongTok (withTok s r.left)) = some (newTok r.left) := by
   show ((gram s).toks ++ [newTok r.left]).find? _ = _
   rw [List.find?_append]
   have h2 : (gram s).toks.find? (Nm.wrongTok (withTok s r.left)) = none := by
    rw [List.find?_eq_none]
    intro t ht hw
    unfold Nm.wrongTok at hw
    rw [decide_eq_true_eq] at hw
    exact hf.apart t ht (Nm.place_ge.1 hw)
   rw [h2]
   show [newTok r.left].find? _ = _
   rw [List.find?_cons_of_pos]
   unfold Nm.wrongTok
   rw [decide_eq_true_eq]
   exact Nm.place_ge.2 (Nm.left_mem (g := gram s) hr)
  unfold Nm.wrong
  rw [h1]; rfl
 unfold Nm.ofG
 rw [if_pos ((Pr.rightB_iff _).2 (right_tok hl h20 h8 hr)), hw]; rfl
theorem set_lefts {l : List Rule} {i : Nat} {r : Rule} (h : l[i]? = some r) : (l.set i (zRule r)).map Rule.left = l.map Rule.left := by
 apply List.ext_getElem?
 intro j
 rw [List.getElem?_map, List.getElem?_map, List.getElem?_set]
 by_cases e : i = j
 ·subst e
  rw [if_pos rfl, h]
  obtain ⟨h1, _⟩ := List.getElem?_eq_some_iff.1 h
  rw [if_pos h1]; rfl
 ·rw [if_neg e]
theorem right_Z (hl : nl s ≤ 5) (h20 : s.lefts.length ≤ 20) (h7 : ∀ l ∈ s.rights, l.length ≤ 7) {i : Nat} {r : Rule} (hr : (gram s).rules[i]? = some r) : Pr.Right (withZ s i r) := by
 have h := right_gram hl h20 (fun l hl => Nat.le_trans (h7 l hl) (by decide))
 have hrm := List.mem_of_getElem? hr
 refine ⟨h.ntok, by show 0 ≤ 4; omega, h.nlev, ?_, ?_, h.start, h.toks, fun p hp => by simp [withZ] at hp, h.levels, fun x hx => ?_, h.tonce, h.lonce⟩
 ·show ((gram s).rules.set i (zRule r)).length ≤ 40
  rw [List.length_set]; exact h.nrule
 ·intro e
  have h1 := congrArg List.length (show (gram s).rules.set i (zRule r) = [] from e)
  rw [List.length_set] at h1
  exact h.rules (List.length_eq_zero_iff.1 h1)
 ·rcases List.mem_or_eq_of_mem_set (show x ∈ (gram s).rules.set i (zRule r) from hx) with h1 | h1
  ·exact h.each x h1
  ·subst h1
   obtain ⟨k1, k2, k3, k4, k5⟩ := Nm.rule_ok h r hrm
   have hlen : r.right.length ≤ 7 := right_len h7 (show r ∈ rules s (nv s) from hrm)
   unfold Pr.ruleOk
   simp only [Bool.and_eq_true, Bool.or_eq_true, decide_eq_true_eq, beq_iff_eq, List.all_eq_true]
   refine ⟨k1, by show (r.right ++ [zz]).length ≤ 8; simp; omega, fun n hn => ?_, k4, k5⟩
   rcases List.mem_append.1 (show n ∈ r.right ++ [zz] from hn) with h2 | h2
   ·exact k3 n h2
   ·simp at h2; subst h2; decide +kernel
theorem zz_not {i : Nat} {r : Rule} (hr : (gram s).rules[i]? = some r) : Nm.symG (withZ s i r) zz < 0 := by
 have ht : zz ∉ Nm.terms (withZ s i r) := by
  intro h
  unfold Nm.terms at h
  rcases List.mem_cons.1 h with h | h
  ·exact absurd h (by decide)
  ·obtain ⟨t, ht, e⟩ := List.mem_map.1 h
   obtain ⟨k, _, rfl⟩ := List.mem_map.1 (show t ∈ (List.range (nt s)).map tok from ht)
   have := congrArg List.length e
   simp [tok, abc, zz] at this
 have hv : zz ∉ Nm.vars (withZ s i r) := by
  intro h
  have e : Nm.vars (withZ s i r) = Nm.vars (gram s) := by
   unfold Nm.vars
   show Nm.varsOf (((gram s).rules.set i (zRule r)).map Rule.left) = _
   rw [set_lefts hr]
  rw [e] at h
  obtain ⟨v, _, e⟩ := vars_is h
  have := congrArg List.length e
  simp [stuv, zz] at this
 have h1 := Nm.place_neg.2 ht
 have h2 := Nm.place_neg.2 hv
 unfold Nm.symG Nm.sym
 rw [if_neg (by omega), if_neg (by omega)]; omega
theorem of_Z (hl : nl s ≤ 5) (h20 : s.lefts.length ≤ 20) (h7 : ∀ l ∈ s.rights, l.length ≤ 7) {i : Nat} {r : Rule} (hr : (gram s).rules[i]? = some r) : Nm.ofG (withZ s i r) = (Nm.empty, 16, zz) := by
 have hf := fine_gram hl h20 (fun l hl => Nat.le_trans (h7 l hl) (by decide))
 have hv : Nm.vars (withZ s i r) = Nm.vars (gram s) := by
  unfold Nm.vars
  show Nm.varsOf (((gram s).rules.set i (zRule r)).map Rule.left) = _
  rw [set_lefts hr]
 have hsy : ∀ n, Nm.symG (withZ s i r) n = Nm.symG (gram s) n := fun n => by
  unfold Nm.symG
  rw [hv]; rfl
 obtain ⟨hil, _⟩ := List.getElem?_eq_some_iff.1 hr
 have hsplit : (gram s).rules.set i (zRule r) = (gram s).rules.take i ++ zRule r :: (gram s).rules.drop (i + 1) := by
  rw [List.set_eq_take_append_cons_drop, if_pos hil]
 have hw : Nm.wrong (withZ s i r) = (16, zz) := by
  have h1 : (withZ s i r).toks.find? (Nm.wrongTok (withZ s i r)) = none := by
   rw [List.find?_eq_none]
   intro t ht hw
   unfold Nm.wrongTok at hw
   rw [decide_eq_true_eq, hv] at hw
   exact hf.apart t ht (Nm.place_ge.1 hw)
  have h2 : (withZ s i r).rules.findSome? (Nm.wrongRule (withZ s i r)) = some (16, zz) := by
   show ((gram s).rules.set i (zRule r)).findSome? _ = _
   rw [hsplit, List.findSome?_append]
   have h3 : ((gram s).rules.take i).findSome? (Nm.wrongRule (withZ s i r)) = none := by
    rw [List.findSome?_eq_none_iff]
    intro x hx
    have hxm := List.mem_of_mem_take hx
    obtain ⟨k1, k2⟩ := hf.rules x hxm
    unfold Nm.wrongRule
    have h4 : x.right.find? (Nm.wrongName (withZ s i r)) = none := by
     rw [List.find?_eq_none]
     intro n hn hw
     unfold Nm.wrongName at hw
     rw [decide_eq_true_eq, hsy] at hw
     have := k1 n hn
     omega
    rw [h4]
    simp only []
    rw [if_neg]
    intro hp
    rcases k2 with h | h
    ·exact hp.1 h
    ·exact h hp.2
   rw [h3]
   show (zRule r :: (gram s).rules.drop (i + 1)).findSome? _ = _
   have h5 : Nm.wrongRule (withZ s i r) (zRule r) = some (16, zz) := by
    unfold Nm.wrongRule
    have h6 : (zRule r).right.find? (Nm.wrongName (withZ s i r)) = some zz := by
     show (r.right ++ [zz]).find? _ = _
     rw [List.find?_append]
     have h7' : r.right.find? (Nm.wrongName (withZ s i r)) = none := by
      rw [List.find?_eq_none]
      intro n hn hw
      unfold Nm.wrongName at hw
      rw [decide_eq_true_eq, hsy] at hw
      have := (hf.rules r (List.mem_of_getElem? hr)).1 n hn
      omega
     rw [h7']
     show [zz].find? _ = _
     rw [List.find?_cons_of_pos]
     unfold Nm.wrongName
     rw [decide_eq_true_eq]
     exact zz_not hr
    rw [h6]
   rw [List.findSome?_cons, h5]
  unfold Nm.wrong
  rw [h1]
  simp only []
  rw [h2]
 unfold Nm.ofG
 rw [if_pos ((Pr.rightB_iff _).2 (right_Z hl h20 h7 hr)), hw]; rfl
theorem lvl_same {i : Nat} {r : Rule} : Pr.lvl (withZ s i r) = Pr.lvl (gram s) := rfl
theorem lvl_tok {n : Name} : Pr.lvl (withTok s n) = Pr.lvl (gram s) := rfl
end
end Sm
end Go.Proofs.YtehagenopnnhcaaGreatDoor
