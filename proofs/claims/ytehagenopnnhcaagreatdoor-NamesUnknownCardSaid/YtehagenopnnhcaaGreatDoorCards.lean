/-
  DERIVED. GIVEN WITH THE SEED: THE CARDS: each row of YtehagenopnnhcaaGreatDoorRows.lean that lists a variable, with what it lists TIED to the program's text (the seventh form; the later family's looks); each row that meets fmt, with fmt's text TOLD by the authors' own Lean function (tested against real Go, not proved from fmt's source: count such statements apart). THE CARD IS WHAT COUNTS. Prove the row's statement (the work); the ties are given (YtehagenopnnhcaaGreatDoorTie.lean); close each card by the builder's one call (the guide's Derived/Test/ToyasCard.lean, 'card_holds'). Laid BY PROGRAM, IN A SANDBOX (cutbox-door.mjs). By AI agents, Wed Nov 11 2026. No macro, syntax, notation, axiom, sorry.
-/
import Derived.Test.YtehagenopnnhcaaGreatDoorRows
import GoSem.ClaimSeven
namespace Go.Proofs.YtehagenopnnhcaaGreatDoor
namespace Rows

/-- THE TIED CARD OF 'tronagelaw07.PrinterPrints'. -/
def printerPrintsCard : Claim7 := { stood := { row := printerPrintsRow, standIns := [], harness := (true, "a7efbfe56d9c10e62c0a5e2121b56b9dfae2058236b104af52fdc6ef103980ef"), looks := false }, kinds := [], alts := [], laidByText := true, laidKinds := [.data], laidTests := true, laidLooks := .later }
def PrinterPrintsCardSaid : Prop := Claim7.holds Tryz.pinned (.plain (OpenSpec.ofChange printerPrintsSpec)) printerPrintsCard

/-- THE TIED CARD OF 'tronagelaw08.NamesPlans'. -/
def namesPlansCard : Claim7 := { stood := { row := namesPlansRow, standIns := [], harness := (true, "a7efbfe56d9c10e62c0a5e2121b56b9dfae2058236b104af52fdc6ef103980ef"), looks := false }, kinds := [], alts := [], laidByText := true, laidKinds := [.data], laidTests := true, laidLooks := .later }
def NamesPlansCardSaid : Prop := Claim7.holds Tryz.pinned (.plain (OpenSpec.ofChange namesPlansSpec)) namesPlansCard

/-- THE TIED CARD OF 'tronagelaw08.NamesTell'. -/
def namesTellCard : Claim7 := { stood := { row := namesTellRow, standIns := [], harness := (true, "a7efbfe56d9c10e62c0a5e2121b56b9dfae2058236b104af52fdc6ef103980ef"), looks := false }, kinds := [], alts := [], laidByText := true, laidKinds := [.data], laidTests := true, laidLooks := .later }
def NamesTellCardSaid : Prop := Claim7.holds Tryz.pinned (.plain (OpenSpec.ofChange namesTellSpec)) namesTellCard

/-- THE TIED CARD OF 'tronagelaw08.NamesLevels'. -/
def namesLevelsCard : Claim7 := { stood := { row := namesLevelsRow, standIns := [], harness := (true, "a7efbfe56d9c10e62c0a5e2121b56b9dfae2058236b104af52fdc6ef103980ef"), looks := false }, kinds := [], alts := [], laidByText := true, laidKinds := [.data], laidTests := true, laidLooks := .later }
def NamesLevelsCardSaid : Prop := Claim7.holds Tryz.pinned (.plain (OpenSpec.ofChange namesLevelsSpec)) namesLevelsCard

/-- THE TIED CARD OF 'tronagelaw08.NamesUnknown'. -/
def namesUnknownCard : Claim7 := { stood := { row := namesUnknownRow, standIns := [], harness := (true, "a7efbfe56d9c10e62c0a5e2121b56b9dfae2058236b104af52fdc6ef103980ef"), looks := false }, kinds := [], alts := [], laidByText := true, laidKinds := [.data], laidTests := true, laidLooks := .later }
def NamesUnknownCardSaid : Prop := Claim7.holds Tryz.pinned (.plain (OpenSpec.ofChange namesUnknownSpec)) namesUnknownCard

/-- THE SECOND FORM's CARD OF 'tronagelaw07.PrinterPrints'. -/
def printerPrintsUptoCard : Claim7 := { stood := { row := printerPrintsUptoRow, standIns := [], harness := (true, "a7efbfe56d9c10e62c0a5e2121b56b9dfae2058236b104af52fdc6ef103980ef"), looks := false }, kinds := [], alts := [], laidByText := true, laidKinds := [.data], laidTests := true, laidLooks := .later }
def PrinterPrintsUptoCardSaid : Prop := Claim7.holds Tryz.pinned (.plain (OpenSpec.upto printerPrintsSpec)) printerPrintsUptoCard

/-- THE SECOND FORM's CARD OF 'tronagelaw08.NamesPlans'. -/
def namesPlansUptoCard : Claim7 := { stood := { row := namesPlansUptoRow, standIns := [], harness := (true, "a7efbfe56d9c10e62c0a5e2121b56b9dfae2058236b104af52fdc6ef103980ef"), looks := false }, kinds := [], alts := [], laidByText := true, laidKinds := [.data], laidTests := true, laidLooks := .later }
def NamesPlansUptoCardSaid : Prop := Claim7.holds Tryz.pinned (.plain (OpenSpec.upto namesPlansSpec)) namesPlansUptoCard

/-- THE SECOND FORM's CARD OF 'tronagelaw08.NamesTell'. -/
def namesTellUptoCard : Claim7 := { stood := { row := namesTellUptoRow, standIns := [], harness := (true, "a7efbfe56d9c10e62c0a5e2121b56b9dfae2058236b104af52fdc6ef103980ef"), looks := false }, kinds := [], alts := [], laidByText := true, laidKinds := [.data], laidTests := true, laidLooks := .later }
def NamesTellUptoCardSaid : Prop := Claim7.holds Tryz.pinned (.plain (OpenSpec.upto namesTellSpec)) namesTellUptoCard

/-- THE SECOND FORM's CARD OF 'tronagelaw08.NamesLevels'. -/
def namesLevelsUptoCard : Claim7 := { stood := { row := namesLevelsUptoRow, standIns := [], harness := (true, "a7efbfe56d9c10e62c0a5e2121b56b9dfae2058236b104af52fdc6ef103980ef"), looks := false }, kinds := [], alts := [], laidByText := true, laidKinds := [.data], laidTests := true, laidLooks := .later }
def NamesLevelsUptoCardSaid : Prop := Claim7.holds Tryz.pinned (.plain (OpenSpec.upto namesLevelsSpec)) namesLevelsUptoCard

/-- THE SECOND FORM's CARD OF 'tronagelaw08.NamesUnknown'. -/
def namesUnknownUptoCard : Claim7 := { stood := { row := namesUnknownUptoRow, standIns := [], harness := (true, "a7efbfe56d9c10e62c0a5e2121b56b9dfae2058236b104af52fdc6ef103980ef"), looks := false }, kinds := [], alts := [], laidByText := true, laidKinds := [.data], laidTests := true, laidLooks := .later }
def NamesUnknownUptoCardSaid : Prop := Claim7.holds Tryz.pinned (.plain (OpenSpec.upto namesUnknownSpec)) namesUnknownUptoCard
end Rows
end Go.Proofs.YtehagenopnnhcaaGreatDoor
