/-
  DERIVED. GIVEN WITH THE SEED: THE CARDS: each row of YtljgfacjefebaaaDoorRows.lean that lists a variable, with what it lists TIED to the program's text (the seventh form; the later family's looks); each row that meets fmt, with fmt's text TOLD by the authors' own Lean function (tested against real Go, not proved from fmt's source: count such statements apart). THE CARD IS WHAT COUNTS. Prove the row's statement (the work); the ties are given (YtljgfacjefebaaaDoorTie.lean); close each card by the builder's one call (the guide's Derived/Test/ToyasCard.lean, 'card_holds'). Laid BY PROGRAM, IN A SANDBOX (cutbox-door.mjs). By AI agents, Wed Nov 11 2026. No macro, syntax, notation, axiom, sorry.
-/
import Derived.Test.YtljgfacjefebaaaDoorRows
import GoSem.ClaimSeven
namespace Go.Proofs.YtljgfacjefebaaaDoor
namespace Rows

/-- THE TIED CARD OF 'tripartitelaw07.DocJoins'. -/
def docJoinsCard : Claim7 := { stood := { row := docJoinsRow, standIns := [], harness := (true, "725421720c4cbd16a2875f13038dd15d8be82a025fff5c91eea8c73b8dbfe8e4"), looks := false }, kinds := [], alts := [], laidByText := true, laidKinds := [.data, .pinned], laidTests := true, laidLooks := .later }
def DocJoinsCardSaid : Prop := Claim7.holds Tryd.pinned (.plain (OpenSpec.ofChange docJoinsSpec)) docJoinsCard

/-- THE TIED CARD OF 'tripartitelaw07.DocWidths'. -/
def docWidthsCard : Claim7 := { stood := { row := docWidthsRow, standIns := [], harness := (true, "725421720c4cbd16a2875f13038dd15d8be82a025fff5c91eea8c73b8dbfe8e4"), looks := false }, kinds := [], alts := [], laidByText := true, laidKinds := [.data, .pinned], laidTests := true, laidLooks := .later }
def DocWidthsCardSaid : Prop := Claim7.holds Tryd.pinned (.plain (OpenSpec.ofChange docWidthsSpec)) docWidthsCard

/-- THE TIED CARD OF 'tripartitelaw08.MarkLines'. -/
def markLinesCard : Claim7 := { stood := { row := markLinesRow, standIns := [], harness := (true, "725421720c4cbd16a2875f13038dd15d8be82a025fff5c91eea8c73b8dbfe8e4"), looks := false }, kinds := [], alts := [], laidByText := true, laidKinds := [.data, .pinned], laidTests := true, laidLooks := .later }
def MarkLinesCardSaid : Prop := Claim7.holds Tryd.pinned (.plain (OpenSpec.ofChange markLinesSpec)) markLinesCard

/-- THE TIED CARD OF 'tripartitelaw08.MarkReads'. -/
def markReadsCard : Claim7 := { stood := { row := markReadsRow, standIns := [], harness := (true, "725421720c4cbd16a2875f13038dd15d8be82a025fff5c91eea8c73b8dbfe8e4"), looks := false }, kinds := [], alts := [], laidByText := true, laidKinds := [.data, .pinned], laidTests := true, laidLooks := .later }
def MarkReadsCardSaid : Prop := Claim7.holds Tryd.pinned (.plain (OpenSpec.ofChange markReadsSpec)) markReadsCard

/-- THE TIED CARD OF 'tripartitelaw08.MarkPrints'. -/
def markPrintsCard : Claim7 := { stood := { row := markPrintsRow, standIns := [], harness := (true, "725421720c4cbd16a2875f13038dd15d8be82a025fff5c91eea8c73b8dbfe8e4"), looks := false }, kinds := [], alts := [], laidByText := true, laidKinds := [.data, .pinned], laidTests := true, laidLooks := .later }
def MarkPrintsCardSaid : Prop := Claim7.holds Tryd.pinned (.plain (OpenSpec.ofChange markPrintsSpec)) markPrintsCard

/-- THE TIED CARD OF 'tripartitelaw08.MarkWidths'. -/
def markWidthsCard : Claim7 := { stood := { row := markWidthsRow, standIns := [], harness := (true, "725421720c4cbd16a2875f13038dd15d8be82a025fff5c91eea8c73b8dbfe8e4"), looks := false }, kinds := [], alts := [], laidByText := true, laidKinds := [.data, .pinned], laidTests := true, laidLooks := .later }
def MarkWidthsCardSaid : Prop := Claim7.holds Tryd.pinned (.plain (OpenSpec.ofChange markWidthsSpec)) markWidthsCard

/-- THE TIED CARD OF 'tripartitelaw09.ParseBack'. -/
def parseBackCard : Claim7 := { stood := { row := parseBackRow, standIns := [], harness := (true, "725421720c4cbd16a2875f13038dd15d8be82a025fff5c91eea8c73b8dbfe8e4"), looks := false }, kinds := [], alts := [], laidByText := true, laidKinds := [.data, .pinned], laidTests := true, laidLooks := .later }
def ParseBackCardSaid : Prop := Claim7.holds Tryd.pinned (.plain (OpenSpec.ofChange parseBackSpec)) parseBackCard

/-- THE SECOND FORM's CARD OF 'tripartitelaw07.DocJoins'. -/
def docJoinsUptoCard : Claim7 := { stood := { row := docJoinsUptoRow, standIns := [], harness := (true, "725421720c4cbd16a2875f13038dd15d8be82a025fff5c91eea8c73b8dbfe8e4"), looks := false }, kinds := [], alts := [], laidByText := true, laidKinds := [.data, .pinned], laidTests := true, laidLooks := .later }
def DocJoinsUptoCardSaid : Prop := Claim7.holds Tryd.pinned (.plain (OpenSpec.upto docJoinsSpec)) docJoinsUptoCard

/-- THE SECOND FORM's CARD OF 'tripartitelaw07.DocWidths'. -/
def docWidthsUptoCard : Claim7 := { stood := { row := docWidthsUptoRow, standIns := [], harness := (true, "725421720c4cbd16a2875f13038dd15d8be82a025fff5c91eea8c73b8dbfe8e4"), looks := false }, kinds := [], alts := [], laidByText := true, laidKinds := [.data, .pinned], laidTests := true, laidLooks := .later }
def DocWidthsUptoCardSaid : Prop := Claim7.holds Tryd.pinned (.plain (OpenSpec.upto docWidthsSpec)) docWidthsUptoCard

/-- THE SECOND FORM's CARD OF 'tripartitelaw08.MarkLines'. -/
def markLinesUptoCard : Claim7 := { stood := { row := markLinesUptoRow, standIns := [], harness := (true, "725421720c4cbd16a2875f13038dd15d8be82a025fff5c91eea8c73b8dbfe8e4"), looks := false }, kinds := [], alts := [], laidByText := true, laidKinds := [.data, .pinned], laidTests := true, laidLooks := .later }
def MarkLinesUptoCardSaid : Prop := Claim7.holds Tryd.pinned (.plain (OpenSpec.upto markLinesSpec)) markLinesUptoCard

/-- THE SECOND FORM's CARD OF 'tripartitelaw08.MarkReads'. -/
def markReadsUptoCard : Claim7 := { stood := { row := markReadsUptoRow, standIns := [], harness := (true, "725421720c4cbd16a2875f13038dd15d8be82a025fff5c91eea8c73b8dbfe8e4"), looks := false }, kinds := [], alts := [], laidByText := true, laidKinds := [.data, .pinned], laidTests := true, laidLooks := .later }
def MarkReadsUptoCardSaid : Prop := Claim7.holds Tryd.pinned (.plain (OpenSpec.upto markReadsSpec)) markReadsUptoCard

/-- THE SECOND FORM's CARD OF 'tripartitelaw08.MarkPrints'. -/
def markPrintsUptoCard : Claim7 := { stood := { row := markPrintsUptoRow, standIns := [], harness := (true, "725421720c4cbd16a2875f13038dd15d8be82a025fff5c91eea8c73b8dbfe8e4"), looks := false }, kinds := [], alts := [], laidByText := true, laidKinds := [.data, .pinned], laidTests := true, laidLooks := .later }
def MarkPrintsUptoCardSaid : Prop := Claim7.holds Tryd.pinned (.plain (OpenSpec.upto markPrintsSpec)) markPrintsUptoCard

/-- THE SECOND FORM's CARD OF 'tripartitelaw08.MarkWidths'. -/
def markWidthsUptoCard : Claim7 := { stood := { row := markWidthsUptoRow, standIns := [], harness := (true, "725421720c4cbd16a2875f13038dd15d8be82a025fff5c91eea8c73b8dbfe8e4"), looks := false }, kinds := [], alts := [], laidByText := true, laidKinds := [.data, .pinned], laidTests := true, laidLooks := .later }
def MarkWidthsUptoCardSaid : Prop := Claim7.holds Tryd.pinned (.plain (OpenSpec.upto markWidthsSpec)) markWidthsUptoCard

/-- THE SECOND FORM's CARD OF 'tripartitelaw09.ParseBack'. -/
def parseBackUptoCard : Claim7 := { stood := { row := parseBackUptoRow, standIns := [], harness := (true, "725421720c4cbd16a2875f13038dd15d8be82a025fff5c91eea8c73b8dbfe8e4"), looks := false }, kinds := [], alts := [], laidByText := true, laidKinds := [.data, .pinned], laidTests := true, laidLooks := .later }
def ParseBackUptoCardSaid : Prop := Claim7.holds Tryd.pinned (.plain (OpenSpec.upto parseBackSpec)) parseBackUptoCard
end Rows
end Go.Proofs.YtljgfacjefebaaaDoor
