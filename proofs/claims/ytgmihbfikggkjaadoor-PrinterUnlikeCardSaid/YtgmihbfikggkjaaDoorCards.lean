/-
  DERIVED. GIVEN WITH THE SEED: THE CARDS: each row of YtgmihbfikggkjaaDoorRows.lean that lists a variable, with what it lists TIED to the program's text (the seventh form; the later family's looks); each row that meets fmt, with fmt's text TOLD by the authors' own Lean function (tested against real Go, not proved from fmt's source: count such statements apart). THE CARD IS WHAT COUNTS. Prove the row's statement (the work); the ties are given (YtgmihbfikggkjaaDoorTie.lean); close each card by the builder's one call (the guide's Derived/Test/ToyasCard.lean, 'card_holds'). Laid BY PROGRAM, IN A SANDBOX (cutbox-door.mjs). By AI agents, Wed Nov 11 2026. No macro, syntax, notation, axiom, sorry.
-/
import Derived.Test.YtgmihbfikggkjaaDoorRows
import GoSem.ClaimSeven
namespace Go.Proofs.YtgmihbfikggkjaaDoor
namespace Rows

/-- THE TIED CARD OF 'tronagelaw06.ReaderRules'. -/
def readerRulesCard : Claim7 := { stood := { row := readerRulesRow, standIns := [], harness := (true, "ab6412a74b0bfb5d00de0d34d456197277130f97226c05a980127f8a96a541e2"), looks := false }, kinds := [], alts := [], laidByText := true, laidKinds := [.data], laidTests := true, laidLooks := .later }
def ReaderRulesCardSaid : Prop := Claim7.holds Tryd.pinned (.plain (OpenSpec.ofChange readerRulesSpec)) readerRulesCard

/-- THE TIED CARD OF 'tronagelaw07.PrinterUnlike'. -/
def printerUnlikeCard : Claim7 := { stood := { row := printerUnlikeRow, standIns := [], harness := (true, "ab6412a74b0bfb5d00de0d34d456197277130f97226c05a980127f8a96a541e2"), looks := false }, kinds := [], alts := [], laidByText := true, laidKinds := [.data], laidTests := true, laidLooks := .later }
def PrinterUnlikeCardSaid : Prop := Claim7.holds Tryd.pinned (.plain (OpenSpec.ofChange printerUnlikeSpec)) printerUnlikeCard

/-- THE TIED CARD OF 'tronagelaw07.PrinterPatterns'. -/
def printerPatternsCard : Claim7 := { stood := { row := printerPatternsRow, standIns := [], harness := (true, "ab6412a74b0bfb5d00de0d34d456197277130f97226c05a980127f8a96a541e2"), looks := false }, kinds := [], alts := [], laidByText := true, laidKinds := [.data], laidTests := true, laidLooks := .later }
def PrinterPatternsCardSaid : Prop := Claim7.holds Tryd.pinned (.plain (OpenSpec.ofChange printerPatternsSpec)) printerPatternsCard

/-- THE SECOND FORM's CARD OF 'tronagelaw06.ReaderRules'. -/
def readerRulesUptoCard : Claim7 := { stood := { row := readerRulesUptoRow, standIns := [], harness := (true, "ab6412a74b0bfb5d00de0d34d456197277130f97226c05a980127f8a96a541e2"), looks := false }, kinds := [], alts := [], laidByText := true, laidKinds := [.data], laidTests := true, laidLooks := .later }
def ReaderRulesUptoCardSaid : Prop := Claim7.holds Tryd.pinned (.plain (OpenSpec.upto readerRulesSpec)) readerRulesUptoCard

/-- THE SECOND FORM's CARD OF 'tronagelaw07.PrinterUnlike'. -/
def printerUnlikeUptoCard : Claim7 := { stood := { row := printerUnlikeUptoRow, standIns := [], harness := (true, "ab6412a74b0bfb5d00de0d34d456197277130f97226c05a980127f8a96a541e2"), looks := false }, kinds := [], alts := [], laidByText := true, laidKinds := [.data], laidTests := true, laidLooks := .later }
def PrinterUnlikeUptoCardSaid : Prop := Claim7.holds Tryd.pinned (.plain (OpenSpec.upto printerUnlikeSpec)) printerUnlikeUptoCard

/-- THE SECOND FORM's CARD OF 'tronagelaw07.PrinterPatterns'. -/
def printerPatternsUptoCard : Claim7 := { stood := { row := printerPatternsUptoRow, standIns := [], harness := (true, "ab6412a74b0bfb5d00de0d34d456197277130f97226c05a980127f8a96a541e2"), looks := false }, kinds := [], alts := [], laidByText := true, laidKinds := [.data], laidTests := true, laidLooks := .later }
def PrinterPatternsUptoCardSaid : Prop := Claim7.holds Tryd.pinned (.plain (OpenSpec.upto printerPatternsSpec)) printerPatternsUptoCard
end Rows
end Go.Proofs.YtgmihbfikggkjaaDoor
