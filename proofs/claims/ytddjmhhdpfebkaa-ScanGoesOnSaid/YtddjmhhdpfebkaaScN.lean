import Derived.Test.YtddjmhhdpfebkaaScL
namespace Go.Proofs.Ytddjmhhdpfebkaa
set_option maxRecDepth 100000
open Go.RowKit
set_option linter.unusedVariables false
set_option linter.unusedSimpArgs false
namespace Sc
theorem ct_ne (ts ks : List P) (s : List UInt8) (a k : Nat) : (ct ts ks s a k).1 ≠ [] := by
 obtain ⟨x, ok, a', k', h⟩ := nx_is ts ks s s.length a k (by omega)
 rw [h.cuts]
 split <;> simp
structure Stand (ts ks : List P) (s : List UInt8) (L : List Tk) (ok : Bool) (K k a kk : Nat) : Prop where
 left : k < L.length → ct ts ks s a kk = (L.drop k, ok, K)
 done : k = L.length → nx ts ks s a kk = (⟨0, a, a⟩, ok, a, kk) ∧ kk = K ∧ L[L.length - 1]? = some ⟨0, a, a⟩
theorem Stand.begin_ {ts ks : List P} {s : List UInt8} {L : List Tk} {ok : Bool} {K : Nat} (h : ct ts ks s 0 0 = (L, ok, K)) : Stand ts ks s L ok K 0 0 0 :=
 ⟨fun _ => by rw [h, List.drop_zero], fun h0 => by
  have := ct_ne ts ks s 0 0
  rw [h] at this
  exact absurd (List.eq_nil_of_length_eq_zero h0.symm) this⟩
theorem Stand.next {ts ks : List P} {s : List UInt8} {L : List Tk} {ok ok' : Bool} {K k a kk a' k' : Nat} {x : Tk} (h : Stand ts ks s L ok K k a kk) (hk : k < L.length) (hn : Nx ts ks s a kk x ok' a' k') :
  L[k]? = some x ∧ Stand ts ks s L ok K (k + 1) a' k' ∧ (x.t = 0 → ok' = ok ∧ k + 1 = L.length) ∧ (x.t ≠ 0 → ok' = true ∧ k + 1 < L.length) := by
 have hc := h.left hk
 rw [hn.cuts] at hc
 by_cases ht : x.t = 0
 ·rw [if_pos ht] at hc
  simp only [Prod.mk.injEq] at hc
  obtain ⟨c1, c2, c3⟩ := hc
  subst c2 c3
  obtain ⟨l1, l2, l3, l4, l5⟩ := hn.last ht
  have hx : L[k]? = some x := by
   have h1 : (L.drop k)[0]? = some x := by rw [← c1]; rfl
   rwa [List.getElem?_drop, Nat.add_zero] at h1
  have hlen : k + 1 = L.length := by
   have h1 := congrArg List.length c1
   simp only [List.length_cons, List.length_nil, List.length_drop] at h1
   omega
  have hxe : x = ⟨0, a', a'⟩ := by
   obtain ⟨t, b, c⟩ := x
   simp only at ht l1 l2
   subst ht l1 l2
   rfl
  refine ⟨hx, ⟨fun h0 => by omega, fun h0 => ⟨by rw [l4, hxe], rfl, ?_⟩⟩, fun _ => ⟨rfl, hlen⟩, fun h0 => absurd ht h0⟩
  rw [show L.length - 1 = k by omega, hx, hxe]
 ·rw [if_neg ht] at hc
  simp only [Prod.mk.injEq] at hc
  obtain ⟨c1, c2⟩ := hc
  have hx : L[k]? = some x := by
   have h1 : (L.drop k)[0]? = some x := by rw [← c1]; rfl
   rwa [List.getElem?_drop, Nat.add_zero] at h1
  have hd : L.drop (k + 1) = (ct ts ks s a' k').1 := by
   rw [← List.tail_drop, ← c1]; rfl
  have hlen : k + 1 < L.length := by
   have h1 := ct_ne ts ks s a' k'
   rw [← hd] at h1
   have h2 := List.length_pos_iff.2 h1
   rw [List.length_drop] at h2
   omega
  refine ⟨hx, ⟨fun _ => ?_, fun h0 => by omega⟩, fun h0 => absurd h0 ht, fun _ => ⟨(hn.tok (by omega)).1, hlen⟩⟩
  rw [hd, ← c2]
end Sc
theorem skipped_any (g : Nat) (v : Value) (w : World) (h : w.cell? ⟨g, 4, none⟩ = some v) :
  Calls Try.prog 16 #[.pointer (some ⟨g, 0, none⟩)] w fun e w' => e = .returned v ∧ ∃ k, w' = w.drewN k := by
 go_enter Try.func16, Try.ntmps16
 go_wp2_with fail
 go_ret
 exact ⟨rfl, 0, rfl⟩
theorem at_any (g : Nat) (v : Value) (w : World) (h : w.cell? ⟨g, 3, none⟩ = some v) :
  Calls Try.prog 17 #[.pointer (some ⟨g, 0, none⟩)] w fun e w' => e = .returned v ∧ ∃ k, w' = w.drewN k := by
 go_enter Try.func17, Try.ntmps17
 go_wp2_with fail
 go_ret
 exact ⟨rfl, 0, rfl⟩
theorem refall_at (A : Option Addr) (c : Nat) (ts : List P) (Ak : Option Addr) (ck : Nat) (ks : List P) (s : ByteArray) (w : World) (hcl : Cl w w.heap.size A (ts.flatMap Sc.tok)) (hck : Cl w w.heap.size Ak (ks.flatMap Sc.cells))
  (h20 : ts.length ≤ 1000) (h10 : ks.length ≤ 1000) (hz : ∀ p, p ∈ ts ∨ p ∈ ks → Sz p) (hsz : s.size ≤ 1000) (n m : Nat) (hn : ts.length = n) (hm : ks.length = m) (L : List Tk) (ok : Bool) (k : Nat) (hct : Sc.ct ts ks (bl s) 0 0 = (L, ok, k)) (l : Nat) (hl : L.length = l) (okc : Int) (ho : okV ok = .int .i64 okc) :
  Calls Try.prog 12 #[.agg #[.slice A n c, .slice Ak m ck, .slice none 0 0, .string ⟨#[]⟩, .slice none 0 0], .string s] w fun e w' => ∃ A' c', (e = .returned (.tuple #[.slice A' l c', .int .i64 okc, .int .i64 (k : Int)]) ∧ Lie w' 41 A' (L.flatMap Tk.cells)) ∧ Below w.heap.size w w' := by
 have h := refall_any A c ts Ak ck ks s w hcl hck h20 h10 hz hsz
 rw [hct, hn, hm] at h
 simp only at h
 rw [hl, ho] at h
 exact h
theorem new_at (A : Option Addr) (c : Nat) (ts : List P) (Ak : Option Addr) (ck : Nat) (ks : List P) (s : ByteArray) (w : World) (hcl : Cl w w.heap.size A (ts.flatMap Sc.tok)) (hck : Cl w w.heap.size Ak (ks.flatMap Sc.cells)) (hAk : Ak = none → ck = 0) (h20 : ts.length ≤ 1000) (h10 : ks.length ≤ 1000) (n m : Nat) (hn : ts.length = n) (hm : ks.length = m) :
  Calls Try.prog 13 #[.agg #[.slice A n c, .slice Ak m ck, .slice none 0 0, .string ⟨#[]⟩, .slice none 0 0], .string s] w fun e w' => ∃ g, (e = .returned (.pointer (some ⟨g, 0, none⟩)) ∧ w.heap.size ≤ g ∧ IsSc w' g s ts ks 0 0) ∧ Below w.heap.size w w' := by
 subst hn hm
 exact new_any A c ts Ak ck ks s w hcl hck hAk h20 h10
theorem eql_tok (x : Tk) (hx : x.small) (w : World) : (binOp .eql 41 x.val x.val).run Try.prog w = .ok (.bool true) w := by
 have h := eq_toks x x hx hx w
 rw [decide_eq_true rfl] at h
 unfold Tk.val at h ⊢
 simp only [binOp]
 simp [Op.equal, Op.maxDepth, h]
theorem neq_tok (x : Tk) (hx : x.small) (w : World) : (binOp .neq 41 x.val x.val).run Try.prog w = .ok (.bool false) w := by
 have h := neq_toks x x hx hx w
 rwa [decide_eq_true rfl] at h
end Go.Proofs.Ytddjmhhdpfebkaa
