/-
  DERIVED. GIVEN WITH THE SEED: THE CARDS: each row of YtjfmigpahglajaaGreatDoorRows.lean that lists a variable, with what it lists TIED to the program's text (the seventh form; the later family's looks); each row that meets fmt, with fmt's text TOLD by the authors' own Lean function (tested against real Go, not proved from fmt's source: count such statements apart). THE CARD IS WHAT COUNTS. Prove the row's statement (the work); the ties are given (YtjfmigpahglajaaGreatDoorTie.lean); close each card by the builder's one call (the guide's Derived/Test/ToyasCard.lean, 'card_holds'). Laid BY PROGRAM, IN A SANDBOX (cutbox-door.mjs). By AI agents, Wed Nov 11 2026. No macro, syntax, notation, axiom, sorry.
-/
import Derived.Test.YtjfmigpahglajaaGreatDoorRows
import GoSem.ClaimSeven
namespace Go.Proofs.YtjfmigpahglajaaGreatDoor
namespace Rows

/-- THE TIED CARD OF 'tripartitelaw12.MergeTexts'. -/
def mergeTextsCard : Claim7 := { stood := { row := mergeTextsRow, standIns := [], harness := (true, "f48bd0c7b3a5d1e49939fa7066426bab2180566c060edd418a64aab8598fd7a2"), looks := false }, kinds := [], alts := [], laidByText := true, laidKinds := [.data, .pinned], laidTests := true, laidLooks := .later }
def MergeTextsCardSaid : Prop := Claim7.holds Tryz.pinned (.plain (OpenSpec.ofChange mergeTextsSpec)) mergeTextsCard

/-- THE TIED CARD OF 'tripartitelaw12.MergeSames'. -/
def mergeSamesCard : Claim7 := { stood := { row := mergeSamesRow, standIns := [], harness := (true, "f48bd0c7b3a5d1e49939fa7066426bab2180566c060edd418a64aab8598fd7a2"), looks := false }, kinds := [], alts := [], laidByText := true, laidKinds := [.data, .pinned], laidTests := true, laidLooks := .later }
def MergeSamesCardSaid : Prop := Claim7.holds Tryz.pinned (.plain (OpenSpec.ofChange mergeSamesSpec)) mergeSamesCard

/-- THE TIED CARD OF 'tripartitelaw12.MergeTurns'. -/
def mergeTurnsCard : Claim7 := { stood := { row := mergeTurnsRow, standIns := [], harness := (true, "f48bd0c7b3a5d1e49939fa7066426bab2180566c060edd418a64aab8598fd7a2"), looks := false }, kinds := [], alts := [], laidByText := true, laidKinds := [.data, .pinned], laidTests := true, laidLooks := .later }
def MergeTurnsCardSaid : Prop := Claim7.holds Tryz.pinned (.plain (OpenSpec.ofChange mergeTurnsSpec)) mergeTurnsCard

/-- THE TIED CARD OF 'tripartitelaw12.MergeBases'. -/
def mergeBasesCard : Claim7 := { stood := { row := mergeBasesRow, standIns := [], harness := (true, "f48bd0c7b3a5d1e49939fa7066426bab2180566c060edd418a64aab8598fd7a2"), looks := false }, kinds := [], alts := [], laidByText := true, laidKinds := [.data, .pinned], laidTests := true, laidLooks := .later }
def MergeBasesCardSaid : Prop := Claim7.holds Tryz.pinned (.plain (OpenSpec.ofChange mergeBasesSpec)) mergeBasesCard

/-- THE TIED CARD OF 'tripartitelaw12.MergeAgain'. -/
def mergeAgainCard : Claim7 := { stood := { row := mergeAgainRow, standIns := [], harness := (true, "f48bd0c7b3a5d1e49939fa7066426bab2180566c060edd418a64aab8598fd7a2"), looks := false }, kinds := [], alts := [], laidByText := true, laidKinds := [.data, .pinned], laidTests := true, laidLooks := .later }
def MergeAgainCardSaid : Prop := Claim7.holds Tryz.pinned (.plain (OpenSpec.ofChange mergeAgainSpec)) mergeAgainCard

/-- THE TIED CARD OF 'tripartitetop.TripartiteMerges'. -/
def tripartiteMergesCard : Claim7 := { stood := { row := tripartiteMergesRow, standIns := [], harness := (true, "f48bd0c7b3a5d1e49939fa7066426bab2180566c060edd418a64aab8598fd7a2"), looks := false }, kinds := [], alts := [], laidByText := true, laidKinds := [.data, .pinned], laidTests := true, laidLooks := .later }
def TripartiteMergesCardSaid : Prop := Claim7.holds Tryz.pinned (.plain (OpenSpec.ofChange tripartiteMergesSpec)) tripartiteMergesCard

/-- THE TIED CARD OF 'tripartitetop.TripartiteSpans'. -/
def tripartiteSpansCard : Claim7 := { stood := { row := tripartiteSpansRow, standIns := [], harness := (true, "f48bd0c7b3a5d1e49939fa7066426bab2180566c060edd418a64aab8598fd7a2"), looks := false }, kinds := [], alts := [], laidByText := true, laidKinds := [.data, .pinned], laidTests := true, laidLooks := .later }
def TripartiteSpansCardSaid : Prop := Claim7.holds Tryz.pinned (.plain (OpenSpec.ofChange tripartiteSpansSpec)) tripartiteSpansCard

/-- THE TIED CARD OF 'tripartitetop.TripartiteSides'. -/
def tripartiteSidesCard : Claim7 := { stood := { row := tripartiteSidesRow, standIns := [], harness := (true, "f48bd0c7b3a5d1e49939fa7066426bab2180566c060edd418a64aab8598fd7a2"), looks := false }, kinds := [], alts := [], laidByText := true, laidKinds := [.data, .pinned], laidTests := true, laidLooks := .later }
def TripartiteSidesCardSaid : Prop := Claim7.holds Tryz.pinned (.plain (OpenSpec.ofChange tripartiteSidesSpec)) tripartiteSidesCard

/-- THE TIED CARD OF 'tripartitetop.TripartiteBack'. -/
def tripartiteBackCard : Claim7 := { stood := { row := tripartiteBackRow, standIns := [], harness := (true, "f48bd0c7b3a5d1e49939fa7066426bab2180566c060edd418a64aab8598fd7a2"), looks := false }, kinds := [], alts := [], laidByText := true, laidKinds := [.data, .pinned], laidTests := true, laidLooks := .later }
def TripartiteBackCardSaid : Prop := Claim7.holds Tryz.pinned (.plain (OpenSpec.ofChange tripartiteBackSpec)) tripartiteBackCard

/-- THE TIED CARD OF 'tripartitetop.TripartiteApart'. -/
def tripartiteApartCard : Claim7 := { stood := { row := tripartiteApartRow, standIns := [], harness := (true, "f48bd0c7b3a5d1e49939fa7066426bab2180566c060edd418a64aab8598fd7a2"), looks := false }, kinds := [], alts := [], laidByText := true, laidKinds := [.data, .pinned], laidTests := true, laidLooks := .later }
def TripartiteApartCardSaid : Prop := Claim7.holds Tryz.pinned (.plain (OpenSpec.ofChange tripartiteApartSpec)) tripartiteApartCard

/-- THE SECOND FORM's CARD OF 'tripartitelaw12.MergeTexts'. -/
def mergeTextsUptoCard : Claim7 := { stood := { row := mergeTextsUptoRow, standIns := [], harness := (true, "f48bd0c7b3a5d1e49939fa7066426bab2180566c060edd418a64aab8598fd7a2"), looks := false }, kinds := [], alts := [], laidByText := true, laidKinds := [.data, .pinned], laidTests := true, laidLooks := .later }
def MergeTextsUptoCardSaid : Prop := Claim7.holds Tryz.pinned (.plain (OpenSpec.upto mergeTextsSpec)) mergeTextsUptoCard

/-- THE SECOND FORM's CARD OF 'tripartitelaw12.MergeSames'. -/
def mergeSamesUptoCard : Claim7 := { stood := { row := mergeSamesUptoRow, standIns := [], harness := (true, "f48bd0c7b3a5d1e49939fa7066426bab2180566c060edd418a64aab8598fd7a2"), looks := false }, kinds := [], alts := [], laidByText := true, laidKinds := [.data, .pinned], laidTests := true, laidLooks := .later }
def MergeSamesUptoCardSaid : Prop := Claim7.holds Tryz.pinned (.plain (OpenSpec.upto mergeSamesSpec)) mergeSamesUptoCard

/-- THE SECOND FORM's CARD OF 'tripartitelaw12.MergeTurns'. -/
def mergeTurnsUptoCard : Claim7 := { stood := { row := mergeTurnsUptoRow, standIns := [], harness := (true, "f48bd0c7b3a5d1e49939fa7066426bab2180566c060edd418a64aab8598fd7a2"), looks := false }, kinds := [], alts := [], laidByText := true, laidKinds := [.data, .pinned], laidTests := true, laidLooks := .later }
def MergeTurnsUptoCardSaid : Prop := Claim7.holds Tryz.pinned (.plain (OpenSpec.upto mergeTurnsSpec)) mergeTurnsUptoCard

/-- THE SECOND FORM's CARD OF 'tripartitelaw12.MergeBases'. -/
def mergeBasesUptoCard : Claim7 := { stood := { row := mergeBasesUptoRow, standIns := [], harness := (true, "f48bd0c7b3a5d1e49939fa7066426bab2180566c060edd418a64aab8598fd7a2"), looks := false }, kinds := [], alts := [], laidByText := true, laidKinds := [.data, .pinned], laidTests := true, laidLooks := .later }
def MergeBasesUptoCardSaid : Prop := Claim7.holds Tryz.pinned (.plain (OpenSpec.upto mergeBasesSpec)) mergeBasesUptoCard

/-- THE SECOND FORM's CARD OF 'tripartitelaw12.MergeAgain'. -/
def mergeAgainUptoCard : Claim7 := { stood := { row := mergeAgainUptoRow, standIns := [], harness := (true, "f48bd0c7b3a5d1e49939fa7066426bab2180566c060edd418a64aab8598fd7a2"), looks := false }, kinds := [], alts := [], laidByText := true, laidKinds := [.data, .pinned], laidTests := true, laidLooks := .later }
def MergeAgainUptoCardSaid : Prop := Claim7.holds Tryz.pinned (.plain (OpenSpec.upto mergeAgainSpec)) mergeAgainUptoCard

/-- THE SECOND FORM's CARD OF 'tripartitetop.TripartiteMerges'. -/
def tripartiteMergesUptoCard : Claim7 := { stood := { row := tripartiteMergesUptoRow, standIns := [], harness := (true, "f48bd0c7b3a5d1e49939fa7066426bab2180566c060edd418a64aab8598fd7a2"), looks := false }, kinds := [], alts := [], laidByText := true, laidKinds := [.data, .pinned], laidTests := true, laidLooks := .later }
def TripartiteMergesUptoCardSaid : Prop := Claim7.holds Tryz.pinned (.plain (OpenSpec.upto tripartiteMergesSpec)) tripartiteMergesUptoCard

/-- THE SECOND FORM's CARD OF 'tripartitetop.TripartiteSpans'. -/
def tripartiteSpansUptoCard : Claim7 := { stood := { row := tripartiteSpansUptoRow, standIns := [], harness := (true, "f48bd0c7b3a5d1e49939fa7066426bab2180566c060edd418a64aab8598fd7a2"), looks := false }, kinds := [], alts := [], laidByText := true, laidKinds := [.data, .pinned], laidTests := true, laidLooks := .later }
def TripartiteSpansUptoCardSaid : Prop := Claim7.holds Tryz.pinned (.plain (OpenSpec.upto tripartiteSpansSpec)) tripartiteSpansUptoCard

/-- THE SECOND FORM's CARD OF 'tripartitetop.TripartiteSides'. -/
def tripartiteSidesUptoCard : Claim7 := { stood := { row := tripartiteSidesUptoRow, standIns := [], harness := (true, "f48bd0c7b3a5d1e49939fa7066426bab2180566c060edd418a64aab8598fd7a2"), looks := false }, kinds := [], alts := [], laidByText := true, laidKinds := [.data, .pinned], laidTests := true, laidLooks := .later }
def TripartiteSidesUptoCardSaid : Prop := Claim7.holds Tryz.pinned (.plain (OpenSpec.upto tripartiteSidesSpec)) tripartiteSidesUptoCard

/-- THE SECOND FORM's CARD OF 'tripartitetop.TripartiteBack'. -/
def tripartiteBackUptoCard : Claim7 := { stood := { row := tripartiteBackUptoRow, standIns := [], harness := (true, "f48bd0c7b3a5d1e49939fa7066426bab2180566c060edd418a64aab8598fd7a2"), looks := false }, kinds := [], alts := [], laidByText := true, laidKinds := [.data, .pinned], laidTests := true, laidLooks := .later }
def TripartiteBackUptoCardSaid : Prop := Claim7.holds Tryz.pinned (.plain (OpenSpec.upto tripartiteBackSpec)) tripartiteBackUptoCard

/-- THE SECOND FORM's CARD OF 'tripartitetop.TripartiteApart'. -/
def tripartiteApartUptoCard : Claim7 := { stood := { row := tripartiteApartUptoRow, standIns := [], harness := (true, "f48bd0c7b3a5d1e49939fa7066426bab2180566c060edd418a64aab8598fd7a2"), looks := false }, kinds := [], alts := [], laidByText := true, laidKinds := [.data, .pinned], laidTests := true, laidLooks := .later }
def TripartiteApartUptoCardSaid : Prop := Claim7.holds Tryz.pinned (.plain (OpenSpec.upto tripartiteApartSpec)) tripartiteApartUptoCard
end Rows
end Go.Proofs.YtjfmigpahglajaaGreatDoor
