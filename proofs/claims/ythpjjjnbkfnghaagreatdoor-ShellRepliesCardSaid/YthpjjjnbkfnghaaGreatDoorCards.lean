/-
  DERIVED. GIVEN WITH THE SEED: THE CARDS: each row of YthpjjjnbkfnghaaGreatDoorRows.lean that lists a variable, with what it lists TIED to the program's text (the seventh form; the later family's looks); each row that meets fmt, with fmt's text TOLD by the authors' own Lean function (tested against real Go, not proved from fmt's source: count such statements apart). THE CARD IS WHAT COUNTS. Prove the row's statement (the work); the ties are given (YthpjjjnbkfnghaaGreatDoorTie.lean); close each card by the builder's one call (the guide's Derived/Test/ToyasCard.lean, 'card_holds'). Laid BY PROGRAM, IN A SANDBOX (cutbox-door.mjs). By AI agents, Wed Nov 11 2026. No macro, syntax, notation, axiom, sorry.
-/
import Derived.Test.YthpjjjnbkfnghaaGreatDoorRows
import GoSem.ClaimSeven
namespace Go.Proofs.YthpjjjnbkfnghaaGreatDoor
namespace Rows

/-- THE TIED CARD OF 'tripartitelaw05.PatchTurns'. -/
def patchTurnsCard : Claim7 := { stood := { row := patchTurnsRow, standIns := [], harness := (true, "d52d202a80acfef9fa440bef71b12f363297002aac000144c053c8acf0c83dad"), looks := true }, kinds := [], alts := [], laidByText := true, laidKinds := [.data, .data, .data, .data, .sentinel, .sentinel, .pinned], laidTests := true, laidLooks := .later }
def PatchTurnsCardSaid : Prop := Claim7.holds Tryz.pinned (.plain (OpenSpec.ofChange patchTurnsSpec)) patchTurnsCard

/-- THE TIED CARD OF 'tripartitelaw13.ShellReplies'. -/
def shellRepliesCard : Claim7 := { stood := { row := shellRepliesRow, standIns := [], harness := (true, "d52d202a80acfef9fa440bef71b12f363297002aac000144c053c8acf0c83dad"), looks := true }, kinds := [], alts := [], laidByText := true, laidKinds := [.data, .data, .data, .data, .sentinel, .sentinel, .pinned], laidTests := true, laidLooks := .later }
def ShellRepliesCardSaid : Prop := Claim7.holds Tryz.pinned (.plain (OpenSpec.ofChange shellRepliesSpec)) shellRepliesCard

/-- THE TIED CARD OF 'tripartitelaw13.ShellSame'. -/
def shellSameCard : Claim7 := { stood := { row := shellSameRow, standIns := [], harness := (true, "d52d202a80acfef9fa440bef71b12f363297002aac000144c053c8acf0c83dad"), looks := true }, kinds := [], alts := [], laidByText := true, laidKinds := [.data, .data, .data, .data, .sentinel, .sentinel, .pinned], laidTests := true, laidLooks := .later }
def ShellSameCardSaid : Prop := Claim7.holds Tryz.pinned (.plain (OpenSpec.ofChange shellSameSpec)) shellSameCard

/-- THE TIED CARD OF 'tripartitelaw13.ShellShows'. -/
def shellShowsCard : Claim7 := { stood := { row := shellShowsRow, standIns := [], harness := (true, "d52d202a80acfef9fa440bef71b12f363297002aac000144c053c8acf0c83dad"), looks := true }, kinds := [], alts := [], laidByText := true, laidKinds := [.data, .data, .data, .data, .sentinel, .sentinel, .pinned], laidTests := true, laidLooks := .later }
def ShellShowsCardSaid : Prop := Claim7.holds Tryz.pinned (.plain (OpenSpec.ofChange shellShowsSpec)) shellShowsCard

/-- THE TIED CARD OF 'tripartitetop.TripartitePatches'. -/
def tripartitePatchesCard : Claim7 := { stood := { row := tripartitePatchesRow, standIns := [], harness := (true, "d52d202a80acfef9fa440bef71b12f363297002aac000144c053c8acf0c83dad"), looks := true }, kinds := [], alts := [], laidByText := true, laidKinds := [.data, .data, .data, .data, .sentinel, .sentinel, .pinned], laidTests := true, laidLooks := .later }
def TripartitePatchesCardSaid : Prop := Claim7.holds Tryz.pinned (.plain (OpenSpec.ofChange tripartitePatchesSpec)) tripartitePatchesCard

/-- THE TIED CARD OF 'tripartitetop.TripartiteLines'. -/
def tripartiteLinesCard : Claim7 := { stood := { row := tripartiteLinesRow, standIns := [], harness := (true, "d52d202a80acfef9fa440bef71b12f363297002aac000144c053c8acf0c83dad"), looks := true }, kinds := [], alts := [], laidByText := true, laidKinds := [.data, .data, .data, .data, .sentinel, .sentinel, .pinned], laidTests := true, laidLooks := .later }
def TripartiteLinesCardSaid : Prop := Claim7.holds Tryz.pinned (.plain (OpenSpec.ofChange tripartiteLinesSpec)) tripartiteLinesCard

/-- THE SECOND FORM's CARD OF 'tripartitelaw05.PatchTurns'. -/
def patchTurnsUptoCard : Claim7 := { stood := { row := patchTurnsUptoRow, standIns := [], harness := (true, "d52d202a80acfef9fa440bef71b12f363297002aac000144c053c8acf0c83dad"), looks := true }, kinds := [], alts := [], laidByText := true, laidKinds := [.data, .data, .data, .data, .sentinel, .sentinel, .pinned], laidTests := true, laidLooks := .later }
def PatchTurnsUptoCardSaid : Prop := Claim7.holds Tryz.pinned (.plain (OpenSpec.upto patchTurnsSpec)) patchTurnsUptoCard

/-- THE SECOND FORM's CARD OF 'tripartitelaw13.ShellReplies'. -/
def shellRepliesUptoCard : Claim7 := { stood := { row := shellRepliesUptoRow, standIns := [], harness := (true, "d52d202a80acfef9fa440bef71b12f363297002aac000144c053c8acf0c83dad"), looks := true }, kinds := [], alts := [], laidByText := true, laidKinds := [.data, .data, .data, .data, .sentinel, .sentinel, .pinned], laidTests := true, laidLooks := .later }
def ShellRepliesUptoCardSaid : Prop := Claim7.holds Tryz.pinned (.plain (OpenSpec.upto shellRepliesSpec)) shellRepliesUptoCard

/-- THE SECOND FORM's CARD OF 'tripartitelaw13.ShellSame'. -/
def shellSameUptoCard : Claim7 := { stood := { row := shellSameUptoRow, standIns := [], harness := (true, "d52d202a80acfef9fa440bef71b12f363297002aac000144c053c8acf0c83dad"), looks := true }, kinds := [], alts := [], laidByText := true, laidKinds := [.data, .data, .data, .data, .sentinel, .sentinel, .pinned], laidTests := true, laidLooks := .later }
def ShellSameUptoCardSaid : Prop := Claim7.holds Tryz.pinned (.plain (OpenSpec.upto shellSameSpec)) shellSameUptoCard

/-- THE SECOND FORM's CARD OF 'tripartitelaw13.ShellShows'. -/
def shellShowsUptoCard : Claim7 := { stood := { row := shellShowsUptoRow, standIns := [], harness := (true, "d52d202a80acfef9fa440bef71b12f363297002aac000144c053c8acf0c83dad"), looks := true }, kinds := [], alts := [], laidByText := true, laidKinds := [.data, .data, .data, .data, .sentinel, .sentinel, .pinned], laidTests := true, laidLooks := .later }
def ShellShowsUptoCardSaid : Prop := Claim7.holds Tryz.pinned (.plain (OpenSpec.upto shellShowsSpec)) shellShowsUptoCard

/-- THE SECOND FORM's CARD OF 'tripartitetop.TripartitePatches'. -/
def tripartitePatchesUptoCard : Claim7 := { stood := { row := tripartitePatchesUptoRow, standIns := [], harness := (true, "d52d202a80acfef9fa440bef71b12f363297002aac000144c053c8acf0c83dad"), looks := true }, kinds := [], alts := [], laidByText := true, laidKinds := [.data, .data, .data, .data, .sentinel, .sentinel, .pinned], laidTests := true, laidLooks := .later }
def TripartitePatchesUptoCardSaid : Prop := Claim7.holds Tryz.pinned (.plain (OpenSpec.upto tripartitePatchesSpec)) tripartitePatchesUptoCard

/-- THE SECOND FORM's CARD OF 'tripartitetop.TripartiteLines'. -/
def tripartiteLinesUptoCard : Claim7 := { stood := { row := tripartiteLinesUptoRow, standIns := [], harness := (true, "d52d202a80acfef9fa440bef71b12f363297002aac000144c053c8acf0c83dad"), looks := true }, kinds := [], alts := [], laidByText := true, laidKinds := [.data, .data, .data, .data, .sentinel, .sentinel, .pinned], laidTests := true, laidLooks := .later }
def TripartiteLinesUptoCardSaid : Prop := Claim7.holds Tryz.pinned (.plain (OpenSpec.upto tripartiteLinesSpec)) tripartiteLinesUptoCard
end Rows
end Go.Proofs.YthpjjjnbkfnghaaGreatDoor
