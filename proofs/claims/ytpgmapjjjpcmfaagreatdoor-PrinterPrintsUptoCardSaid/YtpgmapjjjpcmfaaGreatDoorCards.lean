/-
  DERIVED. GIVEN WITH THE SEED: THE CARDS: each row of YtpgmapjjjpcmfaaGreatDoorRows.lean that lists a variable, with what it lists TIED to the program's text (the seventh form; the later family's looks); each row that meets fmt, with fmt's text TOLD by the authors' own Lean function (tested against real Go, not proved from fmt's source: count such statements apart). THE CARD IS WHAT COUNTS. Prove the row's statement (the work); the ties are given (YtpgmapjjjpcmfaaGreatDoorTie.lean); close each card by the builder's one call (the guide's Derived/Test/ToyasCard.lean, 'card_holds'). Laid BY PROGRAM, IN A SANDBOX (cutbox-door.mjs). By AI agents, Wed Nov 11 2026. No macro, syntax, notation, axiom, sorry.
-/
import Derived.Test.YtpgmapjjjpcmfaaGreatDoorRows
import GoSem.ClaimSeven
namespace Go.Proofs.YtpgmapjjjpcmfaaGreatDoor
namespace Rows

/-- THE TIED CARD OF 'tronagelaw07.PrinterPrints'. -/
def printerPrintsCard : Claim7 := { stood := { row := printerPrintsRow, standIns := [], harness := (true, "cbc9233256be9bf6903a1601fba11e74a2cd8c0d1739b2c18ec55cd98a652666"), looks := false }, kinds := [], alts := [], laidByText := true, laidKinds := [.data], laidTests := true, laidLooks := .later }
def PrinterPrintsCardSaid : Prop := Claim7.holds Tryz.pinned (.plain (OpenSpec.ofChange printerPrintsSpec)) printerPrintsCard

/-- THE TIED CARD OF 'tronagelaw08.NamesPlans'. -/
def namesPlansCard : Claim7 := { stood := { row := namesPlansRow, standIns := [], harness := (true, "cbc9233256be9bf6903a1601fba11e74a2cd8c0d1739b2c18ec55cd98a652666"), looks := false }, kinds := [], alts := [], laidByText := true, laidKinds := [.data], laidTests := true, laidLooks := .later }
def NamesPlansCardSaid : Prop := Claim7.holds Tryz.pinned (.plain (OpenSpec.ofChange namesPlansSpec)) namesPlansCard

/-- THE SECOND FORM's CARD OF 'tronagelaw07.PrinterPrints'. -/
def printerPrintsUptoCard : Claim7 := { stood := { row := printerPrintsUptoRow, standIns := [], harness := (true, "cbc9233256be9bf6903a1601fba11e74a2cd8c0d1739b2c18ec55cd98a652666"), looks := false }, kinds := [], alts := [], laidByText := true, laidKinds := [.data], laidTests := true, laidLooks := .later }
def PrinterPrintsUptoCardSaid : Prop := Claim7.holds Tryz.pinned (.plain (OpenSpec.upto printerPrintsSpec)) printerPrintsUptoCard

/-- THE SECOND FORM's CARD OF 'tronagelaw08.NamesPlans'. -/
def namesPlansUptoCard : Claim7 := { stood := { row := namesPlansUptoRow, standIns := [], harness := (true, "cbc9233256be9bf6903a1601fba11e74a2cd8c0d1739b2c18ec55cd98a652666"), looks := false }, kinds := [], alts := [], laidByText := true, laidKinds := [.data], laidTests := true, laidLooks := .later }
def NamesPlansUptoCardSaid : Prop := Claim7.holds Tryz.pinned (.plain (OpenSpec.upto namesPlansSpec)) namesPlansUptoCard
end Rows
end Go.Proofs.YtpgmapjjjpcmfaaGreatDoor
