import Derived.Test.YtdlplmbdkjkeiaaDoorDhB
namespace Go.Proofs.YtdlplmbdkjkeiaaDoor
set_option maxRecDepth 100000
open Go.RowKit
open BitKit
set_option linter.unusedVariables false
set_option linter.unusedSimpArgs false
set_option maxHeartbeats 2000000 in
theorem parts12_law (v : Value) (E : List (List Int)) (w : World) (hE : RowsL w v E) (hT : Tab w) (hg0 : 0 < w.heap.size) :
  Calls Tryd.prog 4 #[v] w fun e w' => e = .returned (.bool true) ∧ Below w.heap.size w w' := by
 have KE := Lib.hid hE
 have Kaw := Lib.hid (awake_any w hT hg0)
 clear hE hT
 go_enter Tryd.func4, Tryd.ntmps4
 go_wp2_with fail
 refine Kaw.out.mono ?_
 rintro e w1 ⟨rfl, hb1⟩
 have KE1 := Lib.hid (KE.out.below hb1)
 have Kb1 := Lib.hid hb1
 have Kfew := Lib.hid (few_any v (.slice none 0 0) E [] w1 KE1.out (RowsL.nil _ _))
 clear hb1 Kaw
 go_wp2_with fail
 refine Kfew.out.mono ?_
 rintro e w2 ⟨⟨r, rfl, hr⟩, rfl⟩
 cases r
 ·clear hr
  go_wp2_with fail
  go_ret
  exact ⟨rfl, Kb1.out⟩
 ·have h25 : E.length ≤ 25 := (hr rfl).1
  have hn : E.length ≤ 1099511627776 := by omega
  have Kp := Lib.hid (parts_say v E w2 KE1.out hn)
  clear hr Kfew h25
  go_wp2_with fail
  refine Kp.out.mono ?_
  rintro e w3 ⟨u, LL, rfl, hP⟩
  have KE3 := Lib.hid (KE1.out.below hP.below)
  have Kb3 := Lib.hid (Kb1.out.trans (below_le hP.below Kb1.out.size))
  have KP := Lib.hid hP
  have Kl := Lib.hid (loops_say v E w3 KE3.out hn)
  clear hP Kp KE1 Kb1
  go_wp2_with fail
  refine Kl.out.mono ?_
  rintro e w4 ⟨u2, Q, rfl, hQ⟩
  have KE4 := Lib.hid (KE3.out.below hQ.below)
  have Kb4 := Lib.hid (Kb3.out.trans (below_le hQ.below Kb3.out.size))
  have Kr4 := Lib.hid (KP.out.rows.below hQ.below)
  have KQ := Lib.hid hQ
  have Krp := Lib.hid (refparts_any v E w4 KE4.out hn)
  clear hQ Kl KE3 Kb3
  go_wp2_with fail
  refine Krp.out.mono ?_
  rintro e w5 ⟨u3, OV, rb, rfl, hRP⟩
  have hLL : LL = Dg.canon rb E.length := KP.out.canon rb (fun i k hi hk => hRP.tells i hi k)
  have hrows5 := Kr4.out.below hRP.below
  have hrows5' := hRP.at_.rows (canon_small rb hn)
  rw [hLL] at hrows5
  have hc := lists_any _ _ _ _ _ hrows5 hrows5'
  rw [decide_eq_true rfl] at hc
  have Kc := Lib.hid hc
  have KE5 := Lib.hid (KE4.out.below hRP.below)
  have Kb5 := Lib.hid (Kb4.out.trans (below_le hRP.below Kb4.out.size))
  have KQ5 := Lib.hid (KQ.out.row.below hRP.below)
  clear hRP hLL hrows5 hrows5' hc Krp KE4 Kb4 Kr4
  go_wp2_with fail
  refine Kc.out.mono ?_
  rintro e w6 ⟨rfl, k6, hw6⟩
  have hE6 : RowsL w6 v E := by rw [hw6]; exact KE5.out.drewN _
  have hb6 : Below w.heap.size w w6 := by rw [hw6]; exact below_drewN Kb5.out _
  have hQ6 : Row w6 u2 (ints Q) := by rw [hw6]; exact KQ5.out.below (below_drewN (Below.refl _ _) _)
  have Kb6 := Lib.hid hb6
  have KQ6 := Lib.hid hQ6
  have Krl := Lib.hid (refloops_any v E w6 hE6 hn)
  clear hE6 hb6 hQ6 hw6 Kc KE5 Kb5 KQ5
  go_wp2_with fail
  refine Krl.out.mono ?_
  rintro e w7 ⟨u4, M, H, rfl, hRL⟩
  have hQM : Q = M := by rw [KQ.out.is H hRL.tells, hRL.is]
  have hrow7 := KQ6.out.below hRL.below
  have hrow7' := row_places hRL.own (fun x hx => by
   rw [hRL.is] at hx
   have := List.mem_range.1 (List.mem_filter.1 hx).1
   omega)
  rw [hQM] at hrow7
  have hc := ints_says _ _ _ _ _ hrow7 hrow7'
  rw [decide_eq_true rfl] at hc
  have Kc := Lib.hid hc
  have Kb7 := Lib.hid (Kb6.out.trans (below_le hRL.below Kb6.out.size))
  clear hRL hQM hrow7 hrow7' hc Krl Kb6 KQ6
  go_wp2_with fail
  refine Kc.out.mono ?_
  rintro e w8 ⟨rfl, k8, hw8⟩
  have Kb8 := Lib.hid (show Below w.heap.size w w8 by rw [hw8]; exact below_drewN Kb7.out _)
  clear hw8
  go_wp2_with fail
  go_ret
  exact ⟨rfl, Kb8.out⟩
end Go.Proofs.YtdlplmbdkjkeiaaDoor
