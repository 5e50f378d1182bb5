/-
  The walks of tronagelaw07's awake and PrinterPatterns.
-/
import Derived.Test.YtpgmapjjjpcmfaaGreatDoorPrAA
import Derived.Test.YtpgmapjjjpcmfaaGreatDoorPrU
namespace Go.Proofs.YtpgmapjjjpcmfaaGreatDoor
open Go.RowKit
open Lx
set_option linter.unusedVariables false
set_option linter.unusedSimpArgs false
set_option maxRecDepth 100000

def awG : Rd.G := ⟨[], [], [], [69], [⟨[69], [[69], [78]], [], [49]⟩]⟩
end Go.Proofs.YtpgmapjjjpcmfaaGreatDoor

