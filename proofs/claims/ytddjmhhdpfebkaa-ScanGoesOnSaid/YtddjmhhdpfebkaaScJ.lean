import Derived.Test.YtddjmhhdpfebkaaScI
import Derived.DeepKeys
namespace Go.Proofs.Ytddjmhhdpfebkaa
set_option maxRecDepth 100000
open Go.RowKit
set_option linter.unusedVariables false
set_option linter.unusedSimpArgs false
def Tk.small (x : Tk) : Prop := x.t ≤ 1000000 ∧ x.a ≤ 1000000 ∧ x.b ≤ 1000000
theorem cTok : Try.prog.cellsOf 41 = 3 := by kernel_rfl
theorem cInt : Try.prog.cellsOf 3 = 1 := by kernel_rfl
theorem lits_int (n : Nat) (h : n ≤ 1000000) : Try.prog.keyLits 2 3 [.int .i64 (n : Int)] = some [Lit.int .i64 (n : Int)] := by
 have hw : (Lit.int .i64 (n : Int)).wf = true := by simp [Lit.wf, IntKind.min, IntKind.max, IntKind.signed, IntKind.bits]; omega
 simp [Program.keyLits, Try.underlying3, hw]
theorem lits_tok (x : Tk) (h : x.small) : Try.prog.keyLits 3 41 x.cells = some [Lit.int .i64 (x.t : Int), Lit.int .i64 (x.a : Int), Lit.int .i64 (x.b : Int)] := by
 have h1 := lits_int x.t h.1
 have h2 := lits_int x.a h.2.1
 have h3 := lits_int x.b h.2.2
 unfold Program.keyLits
 simp [Try.underlying41, cTok, cInt, Tk.cells, h1, h2, h3]
theorem eq_toks (x y : Tk) (hx : x.small) (hy : y.small) : ∀ w, (Op.equalIn 10000 41 x.val y.val).run Try.prog w = .ok (decide (x = y)) w := by
 intro w
 have h := run_equalIn_deep (P := Try.prog) 9997 3 41 (by kernel_rfl)
 obtain ⟨r, hr, hiff⟩ := h w 3 3 x.val y.val _ _ (by kernel_rfl) (by kernel_rfl) (lits_tok x hx) (lits_tok y hy)
 have : r = decide (x = y) := by
  rw [Bool.eq_iff_iff, hiff, decide_eq_true_iff]
  obtain ⟨a, b, c⟩ := x
  obtain ⟨a', b', c'⟩ := y
  simp
  omega
 rw [← this]; exact hr
theorem neq_toks (x y : Tk) (hx : x.small) (hy : y.small) (w : World) : (binOp .neq 41 x.val y.val).run Try.prog w = .ok (.bool (!decide (x = y))) w := by
 have h := eq_toks x y hx hy w
 unfold Tk.val at h ⊢
 simp only [binOp]
 simp [Op.equal, Op.maxDepth, h]
theorem Cl.tk {w : World} {B : Nat} {A : Option Addr} {l : List Tk} (h : Cl w B A (l.flatMap Tk.cells)) {i : Nat} {p : Tk} (hp : l[i]? = some p) :
  ∃ b o, A = some ⟨b, o, none⟩ ∧ b < B ∧ w.cell? ⟨b, o + i * 3, none⟩ = some (.int .i64 (p.t : Int)) ∧ w.cell? ⟨b, o + i * 3 + 1, none⟩ = some (.int .i64 (p.a : Int)) ∧ w.cell? ⟨b, o + i * 3 + 2, none⟩ = some (.int .i64 (p.b : Int)) := by
 have hat := flat_at Tk.cells 3 (fun _ => rfl) l i
 obtain ⟨b, o, h1, h2, h3⟩ := h.ex (fun e => by
  have := hat 0 p hp (by omega)
  rw [e] at this
  simp [Tk.cells] at this)
 refine ⟨b, o, h1, h2, ?_, ?_, ?_⟩
 ·have := h3 (i * 3 + 0) _ (hat 0 p hp (by omega)); simpa [Nat.add_assoc] using this
 ·have := h3 (i * 3 + 1) _ (hat 1 p hp (by omega)); simpa [Nat.add_assoc] using this
 ·have := h3 (i * 3 + 2) _ (hat 2 p hp (by omega)); simpa [Nat.add_assoc] using this
set_option maxHeartbeats 4000000 in
theorem toks_any (A : Option Addr) (c : Nat) (l : List Tk) (A' : Option Addr) (c' : Nat) (l' : List Tk) (B : Nat) (w : World) (h : Cl w B A (l.flatMap Tk.cells)) (h' : Cl w B A' (l'.flatMap Tk.cells)) (hl : l.length ≤ 100000) (hl' : l'.length ≤ 100000) (hs : ∀ x ∈ l, x.small) (hs' : ∀ x ∈ l', x.small) :
  Calls Try.prog 14 #[.slice A l.length c, .slice A' l'.length c'] w fun e w' => e = .returned (.bool (decide (l = l'))) ∧ Below w.heap.size w w' := by
 have HO := Lib.hid h
 have HO' := Lib.hid h'
 obtain ⟨n, hn⟩ : ∃ n, l.length = n := ⟨_, rfl⟩
 obtain ⟨n', hn'⟩ : ∃ n, l'.length = n := ⟨_, rfl⟩
 rw [hn] at hl ⊢
 rw [hn'] at hl' ⊢
 have HN := Lib.hid hn
 have HN' := Lib.hid hn'
 have HSM := Lib.hid hs
 have HSM' := Lib.hid hs'
 clear h h' hn hn' hs hs'
 by_cases hnn : n = n'
 ·subst hnn
  obtain ⟨b, hb⟩ : ∃ b, decide (l = l') = b := ⟨_, rfl⟩
  have HBB := Lib.hid hb
  rw [hb]
  clear hb
  go_enter Try.func14, Try.ntmps14
  go_wp2_with fail
  go_loopw [5] (fun i wr => ∃ k : Nat, k ≤ n ∧ i = .int .i64 (k : Int) ∧ (∀ j, j < k → l[j]? = l'[j]?) ∧ ∃ m, wr = w.drewN m) (fun i _ => n - (intOf i).toNat)
  case atStart => exact ⟨0, by omega, rfl, fun i hi => by omega, 0, rfl⟩
  case round =>
   obtain ⟨k, hk, rfl, hsame, m, rfl⟩ := hrel
   have HS := Lib.hid hsame
   clear hsame
   by_cases hlt : k < n
   ·obtain ⟨x, hx⟩ : ∃ p, l[k]? = some p := ⟨_, List.getElem?_eq_getElem (by rw [HN.out]; exact hlt)⟩
    obtain ⟨y, hy⟩ : ∃ p, l'[k]? = some p := ⟨_, List.getElem?_eq_getElem (by rw [HN'.out]; exact hlt)⟩
    obtain ⟨b1, o1, rfl, _, y0, y1, y2⟩ := HO.out.tk hx
    obtain ⟨b2, o2, rfl, _, z0, z1, z2⟩ := HO'.out.tk hy
    have hq := neq_toks x y (HSM.out x (List.mem_of_getElem? hx)) (HSM'.out y (List.mem_of_getElem? hy))
    unfold Tk.val Tk.cells at hq
    have HX := Lib.hid hx
    have HY := Lib.hid hy
    have hltI : (k : Int) < (n : Int) := by omega
    have h0I : (0 : Int) ≤ (k : Int) := by omega
    have hkI : ((k : Int)).toNat = k := by omega
    clear hx hy
    by_cases he : x = y
    ·rw [decide_eq_true he] at hq
     have HE := Lib.hid he
     clear he
     go_wp2_with fail
     go_quiet (fail)
     go_wp2_with fail
     go_roundw
     case rel =>
      refine ⟨k + 1, by omega, by go_num, fun i hi => ?_, _, rfl⟩
      by_cases h : i = k
      ·rw [h, HX.out, HY.out, HE.out]
      ·exact HS.out i (by omega)
     case measure => simp [intOf]; omega
    ·rw [decide_eq_false he] at hq
     have hv : b = false := by
      rw [← HBB.out, decide_eq_false_iff_not]
      intro h
      have h1 := HX.out
      rw [h, HY.out] at h1
      injection h1 with h1
      exact he h1.symm
     have HV := Lib.hid hv
     clear he hv
     go_wp2_with fail
     go_quiet (fail)
     go_wp2_with fail
     go_ret
     exact ⟨by rw [HV.out]; rfl, by rw [World.drewN_drewN]; exact below_drewN (Below.refl _ _) _⟩
   ·obtain rfl : n = k := by omega
    have hv : b = true := by
     rw [← HBB.out, decide_eq_true_iff]
     apply List.ext_getElem?
     intro i
     by_cases hi : i < n
     ·exact HS.out i hi
     ·rw [List.getElem?_eq_none (by rw [HN.out]; omega), List.getElem?_eq_none (by rw [HN'.out]; omega)]
    have HV := Lib.hid hv
    clear hv hlt
    go_wp2_with fail
    go_ret
    exact ⟨by rw [HV.out]; rfl, below_drewN (Below.refl _ _) _⟩
 ·have hnI : ((n : Int) != (n' : Int)) = true := by simp; omega
  have hv : decide (l = l') = false := by
   rw [decide_eq_false_iff_not]
   rintro rfl
   exact hnn (by rw [← HN.out, ← HN'.out])
  rw [hv]
  clear hv
  go_enter Try.func14, Try.ntmps14
  go_wp2_with fail
  go_ret
  exact ⟨rfl, Below.refl _ _⟩
end Go.Proofs.Ytddjmhhdpfebkaa
