import Derived.Test.YtpgmapjjjpcmfaaGreatDoorPrP
import Derived.Test.YtpgmapjjjpcmfaaGreatDoorPrAAX
namespace Go.Proofs.YtpgmapjjjpcmfaaGreatDoor
open Go.RowKit
open Lx
set_option linter.unusedVariables false
set_option linter.unusedSimpArgs false
set_option maxRecDepth 100000
theorem awG_print : printV awG = .tuple #[.string (str [37, 115, 116, 97, 114, 116, 32, 69, 10, 37, 37, 10, 69, 32, 58, 32, 69, 32, 78, 32, 123, 49, 125, 32, 59, 10]), .int .i64 0] := by
 unfold printV
 rw [if_pos (show Pr.rightB awG = true by decide +kernel), if_neg (show ¬ 4000 < (Pr.text awG).length by decide +kernel)]
 have h : Pr.text awG = [37, 115, 116, 97, 114, 116, 32, 69, 10, 37, 37, 10, 69, 32, 58, 32, 69, 32, 78, 32, 123, 49, 125, 32, 59, 10] := by decide +kernel
 rw [h]
theorem awP : Pr.pattern ⟨[], [45, 48], true⟩ = [91, 92, 45, 48, 93, 43] := by decide +kernel
theorem awG_sz : Sz awG := by
 refine ⟨?_, ?_, ?_, ?_, ?_, ?_, ?_, ?_, ?_⟩ <;> simp [awG]
set_option maxHeartbeats 1000000 in
theorem awake7_any (w : World) (hT : Tab w) (h0 : 1 < w.heap.size) :
  Calls Tryz.prog 5 #[] w fun e w' => e = .returned (.bool true) ∧ Below w.heap.size w w' := by
 have hb : Below w.heap.size w ((w.alloc (.cells #[.string ⟨#[69]⟩, .string ⟨#[78]⟩] 9)).alloc (.cells #[.string ⟨#[69]⟩, .slice (some ⟨w.heap.size, 0, none⟩) 2 2, .string ⟨#[]⟩, .string ⟨#[49]⟩] 36)) := ((Below.refl _ _).alloc (Nat.le_refl _) _).alloc (by simp) _
 have ha1 := (At.new w 9 #[.string ⟨#[69]⟩, .string ⟨#[78]⟩]).alloc (.cells #[.string ⟨#[69]⟩, .slice (some ⟨w.heap.size, 0, none⟩) 2 2, .string ⟨#[]⟩, .string ⟨#[49]⟩] 36)
 have ha2 := At.new (w.alloc (.cells #[.string ⟨#[69]⟩, .string ⟨#[78]⟩] 9)) 36 #[.string ⟨#[69]⟩, .slice (some ⟨w.heap.size, 0, none⟩) 2 2, .string ⟨#[]⟩, .string ⟨#[49]⟩]
 rw [show (w.alloc (.cells #[.string ⟨#[69]⟩, .string ⟨#[78]⟩] 9)).heap.size = w.heap.size + 1 by simp] at ha2
 obtain ⟨W, hW⟩ : ∃ W, (w.alloc (.cells #[.string ⟨#[69]⟩, .string ⟨#[78]⟩] 9)).alloc (.cells #[.string ⟨#[69]⟩, .slice (some ⟨w.heap.size, 0, none⟩) 2 2, .string ⟨#[]⟩, .string ⟨#[49]⟩] 36) = W := ⟨_, rfl⟩
 rw [hW] at hb ha1 ha2
 have hgc : GramC W W.heap.size (.agg #[.slice none 0 0, .slice none 0 0, .slice none 0 0, .string ⟨#[69]⟩, .slice (some ⟨w.heap.size + 1, 0, none⟩) 1 1]) awG := by
  refine ⟨none, 0, none, 0, none, 0, some ⟨w.heap.size + 1, 0, none⟩, 1, [], [(⟨[69], [[69], [78]], [], [49]⟩, .slice (some ⟨w.heap.size, 0, none⟩) 2 2)], rfl, Cl.nil _ _ _, Cl.nil _ _ _, Cl.nil _ _ _, rfl, by simp, ⟨fun _ => ⟨_, _, rfl, ha2.lt, fun j u hu => ?_⟩⟩, rfl, fun p hp => ?_⟩
  ·rw [Nat.zero_add, ha2.cell]
   rw [← hu]; simp [rulesV, ruleCells]; rfl
  ·simp only [List.mem_cons, List.not_mem_nil, or_false] at hp
   subst hp
   refine ⟨_, _, rfl, ⟨fun _ => ⟨_, _, rfl, ha1.lt, fun j u hu => ?_⟩⟩⟩
   rw [Nat.zero_add, ha1.cell]
   rw [← hu]; simp [namesV]; rfl
 have HP := Lib.hid (print_any _ awG W.heap.size W hgc (Nat.le_refl _) awG_sz (hT.below hb h0) (by have := hb.size; omega) (fun _ => by decide +kernel))
 rw [awG_print] at HP
 have HPA := Lib.hid (fun w => pattern7_any ⟨[], [45, 48], true⟩ w (by decide) (by decide))
 rw [awP] at HPA
 unfold patV at HPA
 have HB := Lib.hid hb
 have HW := Lib.hid hW
 clear hb ha1 ha2 hW hgc hT h0
 have f1 : ((str [37, 115, 116, 97, 114, 116, 32, 69, 10, 37, 37, 10, 69, 32, 58, 32, 69, 32, 78, 32, 123, 49, 125, 32, 59, 10]).toList == (⟨#[37, 115, 116, 97, 114, 116, 32, 69, 10, 37, 37, 10, 69, 32, 58, 32, 69, 32, 78, 32, 123, 49, 125, 32, 59, 10]⟩ : ByteArray).toList) = true := by rw [toList_eq, toList_eq, bl_str]; rfl
 have f2 : ((str [91, 92, 45, 48, 93, 43]).toList == (⟨#[91, 92, 45, 48, 93, 43]⟩ : ByteArray).toList) = true := by rw [toList_eq, toList_eq, bl_str]; rfl
 have e1 : (⟨#[37, 115, 116, 97, 114, 116, 32, 69, 10, 37, 37, 10, 69, 32, 58, 32, 69, 32, 78, 32, 123, 49, 125, 32, 59, 10]⟩ : ByteArray).toList = [37, 115, 116, 97, 114, 116, 32, 69, 10, 37, 37, 10, 69, 32, 58, 32, 69, 32, 78, 32, 123, 49, 125, 32, 59, 10] := by rw [toList_eq]; rfl
 have e2 : (⟨#[91, 92, 45, 48, 93, 43]⟩ : ByteArray).toList = [91, 92, 45, 48, 93, 43] := by rw [toList_eq]; rfl
 rw [e1] at f1
 rw [e2] at f2
 clear e1 e2
 go_enter Tryz.func5, Tryz.ntmps5
 go_wp2_with fail
 rw [HW.out]
 refine HP.out.mono ?_
 rintro e w1 ⟨rfl, hb1⟩
 go_wp2_with fail
 refine (HPA.out _).mono ?_
 rintro e w2 ⟨rfl, hb2⟩
 go_wp2_with fail
 go_ret
 exact ⟨rfl, HB.out.trans ((hb1.trans (hb2.mono hb1.size)).mono HB.out.size)⟩
theorem lex_pattern {p : Rd.Pat} (h : Pr.patOk p = true) : ∃ MS : List Mk, (lex (Pr.pattern p)).marks (Pr.pattern p) = MS ∧ MS.map Rd.er = Pr.patE p ++ [Pr.em 0 []] ∧ (lex (Pr.pattern p)).diag (Pr.pattern p) = (0, 0, 0) := by
 have h1 := Pr.pe_pattern_then h Rd.pe_nil
 rw [List.append_nil, List.append_nil] at h1
 obtain ⟨ms, h2, h3⟩ := Pr.lex_pe h1 (by have := Pr.pattern_len h; omega)
 refine ⟨ms.map (mkOf (Pr.pattern p)), by rw [h2]; rfl, by rw [Rd.er_mkOf]; exact h3, by rw [h2]; rfl⟩
theorem er_two {MS : List Mk} {a b : Mk} (h : MS.map Rd.er = [a, b]) : ∃ m0 m1, MS = [m0, m1] ∧ Rd.er m0 = a := by
 cases MS with
 | nil => simp at h
 | cons x r =>
  cases r with
  | nil => simp at h
  | cons y r =>
   cases r with
   | nil => simp at h; exact ⟨x, y, rfl, h.1⟩
   | cons z r => simp at h
theorem er_three {MS : List Mk} {a b c : Mk} (h : MS.map Rd.er = [a, b, c]) : ∃ m0 m1 m2, MS = [m0, m1, m2] ∧ Rd.er m0 = a ∧ Rd.er m1 = b := by
 cases MS with
 | nil => simp at h
 | cons x r =>
  simp only [List.map_cons, List.cons.injEq] at h
  obtain ⟨y, z, rfl, h2⟩ := er_two h.2
  exact ⟨x, y, z, rfl, h.1, h2⟩
theorem er_mk {m : Mk} {k : Nat} {t : Rd.Name} (h : Rd.er m = Pr.em k t) : m.kind = k ∧ m.text = t := by
 unfold Rd.er Pr.em at h
 injection h with h1 h2
 exact ⟨h1, h2⟩
end Go.Proofs.YtpgmapjjjpcmfaaGreatDoor
