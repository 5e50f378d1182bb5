import Derived.Test.YtccndcebbjipnaaGreatDoorT43
import Derived.Test.YtccndcebbjipnaaGreatDoorT15
import Derived.Test.YtccndcebbjipnaaGreatDoorT18
import Derived.BigQuiet
import Derived.Deep.QuietTactic
import Derived.Test.YtccndcebbjipnaaGreatDoorT44
import Derived.Test.YtccndcebbjipnaaGreatDoorT38
import Derived.Deep.RegionHeld3
import Derived.Sort.Grow
import Derived.Below
section
namespace Go.Proofs.YtccndcebbjipnaaGreatDoor
open Go.RowKit
open Lx
set_option linter.unusedVariables false
set_option linter.unusedSimpArgs false
set_option maxRecDepth 100000
def awG : Rd.G := ⟨[], [], [], [69], [⟨[69], [[69], [78]], [], [49]⟩]⟩
end Go.Proofs.YtccndcebbjipnaaGreatDoor
end
section
namespace Go.Proofs.YtccndcebbjipnaaGreatDoor
open Go.RowKit
open Lx
set_option linter.unusedVariables false
set_option linter.unusedSimpArgs false
set_option maxRecDepth 100000
namespace Pr
open Rd (Name Pat Tok Lev Rule G)
def tokN (t : Tok) : Nat := t.name.length + t.pat.text.length + t.pat.set.length
def patN (p : Pat) : Nat := p.text.length + p.set.length
def namN (n : Name) : Nat := n.length + 1
def levN (v : Lev) : Nat := (v.names.map namN).sum
def rulN0 (r : Rule) : Nat := r.left.length + r.prec.length + r.action.length
def rulN (r : Rule) : Nat := rulN0 r + (r.right.map namN).sum
def pre {α : Type} (f : α → Nat) (l : List α) (k : Nat) : Nat := ((l.take k).map f).sum
def cntN (g : G) : Nat := g.toks.length + g.skips.length + g.levels.length + g.rules.length
def total (g : G) : Nat := cntN g + (g.toks.map tokN).sum + (g.skips.map patN).sum + (g.levels.map levN).sum + (g.rules.map rulN).sum
def fewB (g : G) : Bool := decide (cntN g ≤ 60) && decide (total g ≤ 1500)
end Pr
structure FewIs (e : Ending) (T : Prop) (fb : Bool) : Prop where
  ex : ∃ b : Bool, e = .returned (.bool b) ∧ (T → b = fb)
end Go.Proofs.YtccndcebbjipnaaGreatDoor
end
section
namespace Go.Proofs.YtccndcebbjipnaaGreatDoor
open Go.RowKit Go.Sort
open Lx
set_option linter.unusedVariables false
set_option linter.unusedSimpArgs false
set_option maxRecDepth 100000
namespace Pr
open Rd (Name Pat Tok Lev Rule G)
end Pr
namespace Nm
end Nm
end Go.Proofs.YtccndcebbjipnaaGreatDoor
end
section
namespace Go.Proofs.YtccndcebbjipnaaGreatDoor
open Go.RowKit Go.Sort
open Lx
set_option linter.unusedVariables false
set_option linter.unusedSimpArgs false
set_option maxRecDepth 100000
theorem plan_sz {G : Rd.G} (h : Nm.Fine G) : PSz (Nm.plan G) := by
 have b1 : G.toks.length ≤ 20 := h.right.ntok
 have b4 : G.rules.length ≤ 40 := h.right.nrule
 have b3 : G.levels.length ≤ 10 := h.right.nlev
 have hv : (Nm.vars G).length ≤ 40 := Nat.le_trans Nm.vars_len b4
 refine ⟨?_, ?_, ?_, ?_, ?_, ?_, ?_, ?_, ?_⟩
 ·show (Nm.terms G).length ≤ 1000; rw [Nm.terms_len]; omega
 ·show (Nm.vars G).length ≤ 1000; omega
 ·unfold Nm.plan; simp; omega
 ·unfold Nm.plan Nm.levelsG; simp [Nm.terms_len]; omega
 ·unfold Nm.plan; simp; omega
 ·unfold Nm.plan; simp; omega
 ·intro n hn
  have hn' : n ∈ Nm.terms G := hn
  unfold Nm.terms at hn'
  rcases List.mem_cons.1 hn' with rfl | hn'
  ·decide
  ·obtain ⟨t, ht, rfl⟩ := List.mem_map.1 hn'
   exact Pr.name_len (Nm.tok_ok h.right t ht)
 ·intro n hn
  exact Pr.name_len (Nm.vars_ok h.right n hn)
 ·intro x hx
  have hx' : x ∈ (⟨Nm.acceptG G, [Nm.symG G G.start], 0⟩ : Nm.Prod) :: G.rules.map (Nm.prod G) := hx
  rcases List.mem_cons.1 hx' with rfl | hx'
  ·show 1 ≤ 1000; decide
  ·obtain ⟨r, hr, rfl⟩ := List.mem_map.1 hx'
   have := (Nm.rule_ok h.right r hr).2.1
   unfold Nm.prod; simp; omega
end Go.Proofs.YtccndcebbjipnaaGreatDoor
end
