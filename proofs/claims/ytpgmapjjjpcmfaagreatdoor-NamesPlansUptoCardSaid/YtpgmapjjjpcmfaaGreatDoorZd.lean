/-
  The steps of a region that draws its order (text Zed), with the slot that each fills; a call.
-/
import Derived.Test.YtpgmapjjjpcmfaaGreatDoorZed
namespace Go.Proofs.YtpgmapjjjpcmfaaGreatDoor
open Go
set_option linter.unusedVariables false
set_option linter.unusedSimpArgs false
namespace Zd
theorem pureD {P : Program} {md : Region.Mode} {ops : Array Oper} {Q : Exit → Act → World → Prop} {S : World → Prop} {Z : List Nat} {i : Nat} {d : Option Nat} {oi : Oper} {v : Value} {f : Nat} {listed : Array Bool} {a : Act} {w : World} (hi : ops[i]? = some oi) (hd : oi.dst = d)
    (hs : Region.noSelect ops = true) (hf : Region.free md ops listed i = true) (hr : (Region.ready md ops listed).contains i = true) (hc : Zed.closedB md ops listed = true) (hn : Z.contains i = false)
    (hQ : ∀ c a w, Q (.panic c) (a.put oi.dst v) w → Q (.panic c) a w) (hy : YieldsIf P ops (fun _ => True) oi v a) (hS : Zed.off Z listed = true ∨ S w)
    (h : Zed.AnyZ P md ops Q S Z f (listed.setIfInBounds i true) (a.put d v) w) : Zed.AnyZ P md ops Q S Z (f + 1) listed a w := by
  subst hd
  exact Zed.pure hi hs hf hr hc hn hQ hy hS h
theorem takeD {P : Program} {md : Region.Mode} {ops : Array Oper} {Q : Exit → Act → World → Prop} {S : World → Prop} {Z : List Nat} {i : Nat} {d : Option Nat} {oi : Oper} {v : Value} {f : Nat} {listed : Array Bool} {a : Act} {w : World} (hi : ops[i]? = some oi) (hd : oi.dst = d)
    (hs : Region.noSelect ops = true) (hf : Region.free md ops listed i = true) (hr : (Region.ready md ops listed).contains i = true) (hc : Zed.closedB md ops listed = true) (hn : Zed.needsB md ops Z i = true)
    (hQ : ∀ c a w, Q (.panic c) (a.put oi.dst v) w → Q (.panic c) a w) (hy : YieldsIf P ops S oi v a) (hS : S w)
    (h : Zed.AnyZ P md ops Q S Z f (listed.setIfInBounds i true) (a.put d v) w) : Zed.AnyZ P md ops Q S Z (f + 1) listed a w := by
  subst hd
  exact Zed.take hi hs hf hr hc hn hQ hy hS h
theorem call {P : Program} {md : Region.Mode} {ops : Array Oper} {Q : Exit → Act → World → Prop} {S : World → Prop} {Z : List Nat} {i : Nat} {d : Option Nat} {o : Oper} {f : Nat} {listed : Array Bool} {a : Act} {w : World} {fn : FuncId} {vs : Array Value} {F : Ending → World → Prop}
    (hr : Region.ready md ops listed = [i]) (ho : ops[i]? = some o) (hd : o.dst = d) (hw : Region.wanted o (yielded ops a.tmps) = true) (hrun : (execOp a.eval o).run P w = .ok (.enter fn vs) w) (hc : Calls P fn vs w F)
    (hF : ∀ e w', F e w' → ∃ v, e = .returned v ∧ S w' ∧ Zed.AnyZ P md ops Q S Z f (listed.setIfInBounds i true) (a.put d v) w') : Zed.AnyZ P md ops Q S Z (f + 1) listed a w := by
  subst hd
  refine Zed.one hr ho (fun K' hK => ?_)
  rw [if_pos hw]
  unfold Oper.wp
  rw [hrun, Oper.upon_enter]
  refine hc.mono fun e w' h => ?_
  obtain ⟨v, rfl, hS, hA⟩ := hF e w' h
  exact hK.out _ _ (.inr hS) hA
end Zd
end Go.Proofs.YtpgmapjjjpcmfaaGreatDoor

