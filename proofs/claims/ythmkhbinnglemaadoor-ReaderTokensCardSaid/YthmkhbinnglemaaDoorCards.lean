/-
  DERIVED. GIVEN WITH THE SEED: THE CARDS: each row of YthmkhbinnglemaaDoorRows.lean that lists a variable, with what it lists TIED to the program's text (the seventh form; the later family's looks); each row that meets fmt, with fmt's text TOLD by the authors' own Lean function (tested against real Go, not proved from fmt's source: count such statements apart). THE CARD IS WHAT COUNTS. Prove the row's statement (the work); the ties are given (YthmkhbinnglemaaDoorTie.lean); close each card by the builder's one call (the guide's Derived/Test/ToyasCard.lean, 'card_holds'). Laid BY PROGRAM, IN A SANDBOX (cutbox-door.mjs). By AI agents, Wed Nov 11 2026. No macro, syntax, notation, axiom, sorry.
-/
import Derived.Test.YthmkhbinnglemaaDoorRows
import GoSem.ClaimSeven
namespace Go.Proofs.YthmkhbinnglemaaDoor
namespace Rows

/-- THE TIED CARD OF 'tronagelaw06.ReaderInside'. -/
def readerInsideCard : Claim7 := { stood := { row := readerInsideRow, standIns := [], harness := (true, "ccf26a0521512d9e2569ffb615030a45c3e4509125d0e2c9229f459fbb8898d8"), looks := false }, kinds := [], alts := [], laidByText := true, laidKinds := [.data], laidTests := true, laidLooks := .later }
def ReaderInsideCardSaid : Prop := Claim7.holds Tryd.pinned (.plain (OpenSpec.ofChange readerInsideSpec)) readerInsideCard

/-- THE TIED CARD OF 'tronagelaw06.ReaderRules'. -/
def readerRulesCard : Claim7 := { stood := { row := readerRulesRow, standIns := [], harness := (true, "ccf26a0521512d9e2569ffb615030a45c3e4509125d0e2c9229f459fbb8898d8"), looks := false }, kinds := [], alts := [], laidByText := true, laidKinds := [.data], laidTests := true, laidLooks := .later }
def ReaderRulesCardSaid : Prop := Claim7.holds Tryd.pinned (.plain (OpenSpec.ofChange readerRulesSpec)) readerRulesCard

/-- THE TIED CARD OF 'tronagelaw06.ReaderTokens'. -/
def readerTokensCard : Claim7 := { stood := { row := readerTokensRow, standIns := [], harness := (true, "ccf26a0521512d9e2569ffb615030a45c3e4509125d0e2c9229f459fbb8898d8"), looks := false }, kinds := [], alts := [], laidByText := true, laidKinds := [.data], laidTests := true, laidLooks := .later }
def ReaderTokensCardSaid : Prop := Claim7.holds Tryd.pinned (.plain (OpenSpec.ofChange readerTokensSpec)) readerTokensCard

/-- THE TIED CARD OF 'tronagelaw06.ReaderJoins'. -/
def readerJoinsCard : Claim7 := { stood := { row := readerJoinsRow, standIns := [], harness := (true, "ccf26a0521512d9e2569ffb615030a45c3e4509125d0e2c9229f459fbb8898d8"), looks := false }, kinds := [], alts := [], laidByText := true, laidKinds := [.data], laidTests := true, laidLooks := .later }
def ReaderJoinsCardSaid : Prop := Claim7.holds Tryd.pinned (.plain (OpenSpec.ofChange readerJoinsSpec)) readerJoinsCard

/-- THE SECOND FORM's CARD OF 'tronagelaw06.ReaderInside'. -/
def readerInsideUptoCard : Claim7 := { stood := { row := readerInsideUptoRow, standIns := [], harness := (true, "ccf26a0521512d9e2569ffb615030a45c3e4509125d0e2c9229f459fbb8898d8"), looks := false }, kinds := [], alts := [], laidByText := true, laidKinds := [.data], laidTests := true, laidLooks := .later }
def ReaderInsideUptoCardSaid : Prop := Claim7.holds Tryd.pinned (.plain (OpenSpec.upto readerInsideSpec)) readerInsideUptoCard

/-- THE SECOND FORM's CARD OF 'tronagelaw06.ReaderRules'. -/
def readerRulesUptoCard : Claim7 := { stood := { row := readerRulesUptoRow, standIns := [], harness := (true, "ccf26a0521512d9e2569ffb615030a45c3e4509125d0e2c9229f459fbb8898d8"), looks := false }, kinds := [], alts := [], laidByText := true, laidKinds := [.data], laidTests := true, laidLooks := .later }
def ReaderRulesUptoCardSaid : Prop := Claim7.holds Tryd.pinned (.plain (OpenSpec.upto readerRulesSpec)) readerRulesUptoCard

/-- THE SECOND FORM's CARD OF 'tronagelaw06.ReaderTokens'. -/
def readerTokensUptoCard : Claim7 := { stood := { row := readerTokensUptoRow, standIns := [], harness := (true, "ccf26a0521512d9e2569ffb615030a45c3e4509125d0e2c9229f459fbb8898d8"), looks := false }, kinds := [], alts := [], laidByText := true, laidKinds := [.data], laidTests := true, laidLooks := .later }
def ReaderTokensUptoCardSaid : Prop := Claim7.holds Tryd.pinned (.plain (OpenSpec.upto readerTokensSpec)) readerTokensUptoCard

/-- THE SECOND FORM's CARD OF 'tronagelaw06.ReaderJoins'. -/
def readerJoinsUptoCard : Claim7 := { stood := { row := readerJoinsUptoRow, standIns := [], harness := (true, "ccf26a0521512d9e2569ffb615030a45c3e4509125d0e2c9229f459fbb8898d8"), looks := false }, kinds := [], alts := [], laidByText := true, laidKinds := [.data], laidTests := true, laidLooks := .later }
def ReaderJoinsUptoCardSaid : Prop := Claim7.holds Tryd.pinned (.plain (OpenSpec.upto readerJoinsSpec)) readerJoinsUptoCard
end Rows
end Go.Proofs.YthmkhbinnglemaaDoor
