/-
  NARROWER THAN 'FOR EVERY INPUT', by the rows' own cells (each row's printed sentence says how): MergeTexts: laid · MergeSames: laid · MergeTurns: laid · MergeBases: laid · MergeAgain: laid · TripartiteMerges: laid · TripartiteSpans: laid · TripartiteSides: laid · TripartiteBack: laid · TripartiteApart: laid.
  DERIVED. THE GIVEN ROWS OF THIS SEAT. 10 by the template 'for every input the law returns true; each argument reads behind the call as it read before'; 0 by the template 'total and deterministic' (their statements: YtjfmigpahglajaaGreatDoorTotals.lean).
  GIVEN WITH THE SEED: the statements are not yours to turn. If you find one false, say at which input.
  Laid BY PROGRAM, IN A SANDBOX (cutbox-rows.mjs): the forced cells as the released guide's own fill.sh prints them over the translation f40983ee394ddc36… (all of the seat's roots in one cut). By AI agents, Wed Nov 11 2026. No macro, syntax, notation, axiom, sorry.
-/
import Derived.Test.YtjfmigpahglajaaGreatDoorChecked
import GoSem.PinnedTables
import GoSem.Claim
import GoSem.ClaimJoined
import GoSem.ClaimMapViews
import Derived.JoinedTies
import Derived.KernelRfl
namespace Go.Proofs.YtjfmigpahglajaaGreatDoor
/- THE CELL 'sum', in the pinned program and in every row, IS THE sha256 OF THE DUMP (.gsa) THAT YtjfmigpahglajaaGreatDoorProg.lean LOADS. Nothing in Lean hashes anything: it is a label: what it is worth is what the hold of that sum in a sandbox is worth. -/
noncomputable def Tryz.pinned : Pinned := { name := "ytjfmigpahglajaagreatdoor", sum := "f40983ee394ddc36106b55f7ec2402b9db8cdc7bc9c19b9d6fa20bd58accfbc7", checked := Tryz.checked }
namespace Rows
def none {H : Type} : Left H := { results := [], args := [] }

/- WHAT THE LISTED PACKAGE-LEVEL VARIABLES READ AS WHEN THE CALL BEGINS. Each datum BY PROGRAM (the guide's laid-datum.mjs) off the statement by which the dump's own 'gosem.cut.vars' lays the variable. In a bare row this is a premise. The card (YtjfmigpahglajaaGreatDoorCards.lean) ties it to the program's text. -/
def laid_unicode_utf8_acceptRanges {H : Type} : DataW H := .agg [.agg [.lit (.int .u8 128), .lit (.int .u8 191)], .agg [.lit (.int .u8 160), .lit (.int .u8 191)], .agg [.lit (.int .u8 128), .lit (.int .u8 159)], .agg [.lit (.int .u8 144), .lit (.int .u8 191)], .agg [.lit (.int .u8 128), .lit (.int .u8 143)], .agg [.lit (.int .u8 0), .lit (.int .u8 0)], .agg [.lit (.int .u8 0), .lit (.int .u8 0)], .agg [.lit (.int .u8 0), .lit (.int .u8 0)], .agg [.lit (.int .u8 0), .lit (.int .u8 0)], .agg [.lit (.int .u8 0), .lit (.int .u8 0)], .agg [.lit (.int .u8 0), .lit (.int .u8 0)], .agg [.lit (.int .u8 0), .lit (.int .u8 0)], .agg [.lit (.int .u8 0), .lit (.int .u8 0)], .agg [.lit (.int .u8 0), .lit (.int .u8 0)], .agg [.lit (.int .u8 0), .lit (.int .u8 0)], .agg [.lit (.int .u8 0), .lit (.int .u8 0)]]
/-- One of Go's own tables, pinned by name: the form's constant. -/
def laid_unicode_utf8_first : DataW Unit := Go.Pinned.utf8First

/-- 'tripartitelaw12.MergeTexts': WHATEVER THE INPUT: true; the input reads as it did. -/
def mergeTextsSpec : ChangeSpec := { name := "mergeTexts", fn := fun _ => fun
  | [d1, d2] => { results := [.lit (.bool true)], args := [d1, d2] }
  | _ => none }
def mergeTextsRow : OpenClaim := { program := "ytjfmigpahglajaagreatdoor", sum := "f40983ee394ddc36106b55f7ec2402b9db8cdc7bc9c19b9d6fa20bd58accfbc7", func := "tripartite/tripartitelaw12.MergeTexts", spec := "mergeTexts", inPlace := ["internal/bytealg.IndexByteString", "internal/bytealg.IndexString", "internal/abi.NoEscape", "internal/bytealg.MakeNoZero", "internal/bytealg.CountString"], recurses := true, named := ["internal/bytealg.MaxLen", "unicode/utf8.first", "unicode/utf8.acceptRanges"], apart := false, laid := [("unicode/utf8.acceptRanges", laid_unicode_utf8_acceptRanges), ("unicode/utf8.first", laid_unicode_utf8_first)] }
def MergeTextsSaid : Prop := mergeTextsRow.holds Tryz.pinned (OpenSpec.ofChange mergeTextsSpec)

/-- ITS FALSE NEIGHBOUR: 'it returns false'. Refute it at one input. -/
def mergeTextsWrong : ChangeSpec := { name := "mergeTexts", fn := fun _ => fun
  | [d1, d2] => { results := [.lit (.bool false)], args := [d1, d2] }
  | _ => none }
def MergeTextsWrongFalsely : Prop := mergeTextsRow.holds Tryz.pinned (OpenSpec.ofChange mergeTextsWrong)

/-- 'tripartitelaw12.MergeSames': WHATEVER THE INPUT: true; the input reads as it did. -/
def mergeSamesSpec : ChangeSpec := { name := "mergeSames", fn := fun _ => fun
  | [d1, d2, d3] => { results := [.lit (.bool true)], args := [d1, d2, d3] }
  | _ => none }
def mergeSamesRow : OpenClaim := { program := "ytjfmigpahglajaagreatdoor", sum := "f40983ee394ddc36106b55f7ec2402b9db8cdc7bc9c19b9d6fa20bd58accfbc7", func := "tripartite/tripartitelaw12.MergeSames", spec := "mergeSames", inPlace := ["internal/bytealg.IndexByteString", "internal/bytealg.IndexString", "internal/abi.NoEscape", "internal/bytealg.MakeNoZero", "internal/bytealg.CountString"], recurses := true, named := ["internal/bytealg.MaxLen", "unicode/utf8.first", "unicode/utf8.acceptRanges"], apart := false, laid := [("unicode/utf8.acceptRanges", laid_unicode_utf8_acceptRanges), ("unicode/utf8.first", laid_unicode_utf8_first)] }
def MergeSamesSaid : Prop := mergeSamesRow.holds Tryz.pinned (OpenSpec.ofChange mergeSamesSpec)

/-- ITS FALSE NEIGHBOUR: 'it returns false'. Refute it at one input. -/
def mergeSamesWrong : ChangeSpec := { name := "mergeSames", fn := fun _ => fun
  | [d1, d2, d3] => { results := [.lit (.bool false)], args := [d1, d2, d3] }
  | _ => none }
def MergeSamesWrongFalsely : Prop := mergeSamesRow.holds Tryz.pinned (OpenSpec.ofChange mergeSamesWrong)

/-- 'tripartitelaw12.MergeTurns': WHATEVER THE INPUT: true; the input reads as it did. -/
def mergeTurnsSpec : ChangeSpec := { name := "mergeTurns", fn := fun _ => fun
  | [d1, d2] => { results := [.lit (.bool true)], args := [d1, d2] }
  | _ => none }
def mergeTurnsRow : OpenClaim := { program := "ytjfmigpahglajaagreatdoor", sum := "f40983ee394ddc36106b55f7ec2402b9db8cdc7bc9c19b9d6fa20bd58accfbc7", func := "tripartite/tripartitelaw12.MergeTurns", spec := "mergeTurns", inPlace := ["internal/bytealg.IndexByteString", "internal/bytealg.IndexString", "internal/abi.NoEscape", "internal/bytealg.MakeNoZero", "internal/bytealg.CountString"], recurses := true, named := ["internal/bytealg.MaxLen", "unicode/utf8.first", "unicode/utf8.acceptRanges"], apart := false, laid := [("unicode/utf8.acceptRanges", laid_unicode_utf8_acceptRanges), ("unicode/utf8.first", laid_unicode_utf8_first)] }
def MergeTurnsSaid : Prop := mergeTurnsRow.holds Tryz.pinned (OpenSpec.ofChange mergeTurnsSpec)

/-- ITS FALSE NEIGHBOUR: 'it returns false'. Refute it at one input. -/
def mergeTurnsWrong : ChangeSpec := { name := "mergeTurns", fn := fun _ => fun
  | [d1, d2] => { results := [.lit (.bool false)], args := [d1, d2] }
  | _ => none }
def MergeTurnsWrongFalsely : Prop := mergeTurnsRow.holds Tryz.pinned (OpenSpec.ofChange mergeTurnsWrong)

/-- 'tripartitelaw12.MergeBases': WHATEVER THE INPUT: true; the input reads as it did. -/
def mergeBasesSpec : ChangeSpec := { name := "mergeBases", fn := fun _ => fun
  | [d1, d2] => { results := [.lit (.bool true)], args := [d1, d2] }
  | _ => none }
def mergeBasesRow : OpenClaim := { program := "ytjfmigpahglajaagreatdoor", sum := "f40983ee394ddc36106b55f7ec2402b9db8cdc7bc9c19b9d6fa20bd58accfbc7", func := "tripartite/tripartitelaw12.MergeBases", spec := "mergeBases", inPlace := ["internal/bytealg.IndexByteString", "internal/bytealg.IndexString", "internal/abi.NoEscape", "internal/bytealg.MakeNoZero", "internal/bytealg.CountString"], recurses := true, named := ["internal/bytealg.MaxLen", "unicode/utf8.first", "unicode/utf8.acceptRanges"], apart := false, laid := [("unicode/utf8.acceptRanges", laid_unicode_utf8_acceptRanges), ("unicode/utf8.first", laid_unicode_utf8_first)] }
def MergeBasesSaid : Prop := mergeBasesRow.holds Tryz.pinned (OpenSpec.ofChange mergeBasesSpec)

/-- ITS FALSE NEIGHBOUR: 'it returns false'. Refute it at one input. -/
def mergeBasesWrong : ChangeSpec := { name := "mergeBases", fn := fun _ => fun
  | [d1, d2] => { results := [.lit (.bool false)], args := [d1, d2] }
  | _ => none }
def MergeBasesWrongFalsely : Prop := mergeBasesRow.holds Tryz.pinned (OpenSpec.ofChange mergeBasesWrong)

/-- 'tripartitelaw12.MergeAgain': WHATEVER THE INPUT: true; the input reads as it did. -/
def mergeAgainSpec : ChangeSpec := { name := "mergeAgain", fn := fun _ => fun
  | [d1, d2] => { results := [.lit (.bool true)], args := [d1, d2] }
  | _ => none }
def mergeAgainRow : OpenClaim := { program := "ytjfmigpahglajaagreatdoor", sum := "f40983ee394ddc36106b55f7ec2402b9db8cdc7bc9c19b9d6fa20bd58accfbc7", func := "tripartite/tripartitelaw12.MergeAgain", spec := "mergeAgain", inPlace := ["internal/bytealg.IndexByteString", "internal/bytealg.IndexString", "internal/abi.NoEscape", "internal/bytealg.MakeNoZero", "internal/bytealg.CountString"], recurses := true, named := ["internal/bytealg.MaxLen", "unicode/utf8.first", "unicode/utf8.acceptRanges"], apart := false, laid := [("unicode/utf8.acceptRanges", laid_unicode_utf8_acceptRanges), ("unicode/utf8.first", laid_unicode_utf8_first)] }
def MergeAgainSaid : Prop := mergeAgainRow.holds Tryz.pinned (OpenSpec.ofChange mergeAgainSpec)

/-- ITS FALSE NEIGHBOUR: 'it returns false'. Refute it at one input. -/
def mergeAgainWrong : ChangeSpec := { name := "mergeAgain", fn := fun _ => fun
  | [d1, d2] => { results := [.lit (.bool false)], args := [d1, d2] }
  | _ => none }
def MergeAgainWrongFalsely : Prop := mergeAgainRow.holds Tryz.pinned (OpenSpec.ofChange mergeAgainWrong)

/-- 'tripartitetop.TripartiteMerges': WHATEVER THE INPUT: true; the input reads as it did. -/
def tripartiteMergesSpec : ChangeSpec := { name := "tripartiteMerges", fn := fun _ => fun
  | [d1, d2] => { results := [.lit (.bool true)], args := [d1, d2] }
  | _ => none }
def tripartiteMergesRow : OpenClaim := { program := "ytjfmigpahglajaagreatdoor", sum := "f40983ee394ddc36106b55f7ec2402b9db8cdc7bc9c19b9d6fa20bd58accfbc7", func := "tripartite/tripartitetop.TripartiteMerges", spec := "tripartiteMerges", inPlace := ["internal/bytealg.IndexByteString", "internal/bytealg.IndexString", "internal/abi.NoEscape", "internal/bytealg.MakeNoZero", "internal/bytealg.CountString"], recurses := true, named := ["internal/bytealg.MaxLen", "unicode/utf8.first", "unicode/utf8.acceptRanges"], apart := false, laid := [("unicode/utf8.acceptRanges", laid_unicode_utf8_acceptRanges), ("unicode/utf8.first", laid_unicode_utf8_first)] }
def TripartiteMergesSaid : Prop := tripartiteMergesRow.holds Tryz.pinned (OpenSpec.ofChange tripartiteMergesSpec)

/-- ITS FALSE NEIGHBOUR: 'it returns false'. Refute it at one input. -/
def tripartiteMergesWrong : ChangeSpec := { name := "tripartiteMerges", fn := fun _ => fun
  | [d1, d2] => { results := [.lit (.bool false)], args := [d1, d2] }
  | _ => none }
def TripartiteMergesWrongFalsely : Prop := tripartiteMergesRow.holds Tryz.pinned (OpenSpec.ofChange tripartiteMergesWrong)

/-- 'tripartitetop.TripartiteSpans': WHATEVER THE INPUT: true; the input reads as it did. -/
def tripartiteSpansSpec : ChangeSpec := { name := "tripartiteSpans", fn := fun _ => fun
  | [d1, d2] => { results := [.lit (.bool true)], args := [d1, d2] }
  | _ => none }
def tripartiteSpansRow : OpenClaim := { program := "ytjfmigpahglajaagreatdoor", sum := "f40983ee394ddc36106b55f7ec2402b9db8cdc7bc9c19b9d6fa20bd58accfbc7", func := "tripartite/tripartitetop.TripartiteSpans", spec := "tripartiteSpans", inPlace := ["internal/bytealg.IndexByteString", "internal/bytealg.IndexString", "internal/abi.NoEscape", "internal/bytealg.MakeNoZero", "internal/bytealg.CountString"], recurses := true, named := ["internal/bytealg.MaxLen", "unicode/utf8.first", "unicode/utf8.acceptRanges"], apart := false, laid := [("unicode/utf8.acceptRanges", laid_unicode_utf8_acceptRanges), ("unicode/utf8.first", laid_unicode_utf8_first)] }
def TripartiteSpansSaid : Prop := tripartiteSpansRow.holds Tryz.pinned (OpenSpec.ofChange tripartiteSpansSpec)

/-- ITS FALSE NEIGHBOUR: 'it returns false'. Refute it at one input. -/
def tripartiteSpansWrong : ChangeSpec := { name := "tripartiteSpans", fn := fun _ => fun
  | [d1, d2] => { results := [.lit (.bool false)], args := [d1, d2] }
  | _ => none }
def TripartiteSpansWrongFalsely : Prop := tripartiteSpansRow.holds Tryz.pinned (OpenSpec.ofChange tripartiteSpansWrong)

/-- 'tripartitetop.TripartiteSides': WHATEVER THE INPUT: true; the input reads as it did. -/
def tripartiteSidesSpec : ChangeSpec := { name := "tripartiteSides", fn := fun _ => fun
  | [d1, d2, d3] => { results := [.lit (.bool true)], args := [d1, d2, d3] }
  | _ => none }
def tripartiteSidesRow : OpenClaim := { program := "ytjfmigpahglajaagreatdoor", sum := "f40983ee394ddc36106b55f7ec2402b9db8cdc7bc9c19b9d6fa20bd58accfbc7", func := "tripartite/tripartitetop.TripartiteSides", spec := "tripartiteSides", inPlace := ["internal/bytealg.IndexByteString", "internal/bytealg.IndexString", "internal/abi.NoEscape", "internal/bytealg.MakeNoZero", "internal/bytealg.CountString"], recurses := true, named := ["internal/bytealg.MaxLen", "unicode/utf8.first", "unicode/utf8.acceptRanges"], apart := false, laid := [("unicode/utf8.acceptRanges", laid_unicode_utf8_acceptRanges), ("unicode/utf8.first", laid_unicode_utf8_first)] }
def TripartiteSidesSaid : Prop := tripartiteSidesRow.holds Tryz.pinned (OpenSpec.ofChange tripartiteSidesSpec)

/-- ITS FALSE NEIGHBOUR: 'it returns false'. Refute it at one input. -/
def tripartiteSidesWrong : ChangeSpec := { name := "tripartiteSides", fn := fun _ => fun
  | [d1, d2, d3] => { results := [.lit (.bool false)], args := [d1, d2, d3] }
  | _ => none }
def TripartiteSidesWrongFalsely : Prop := tripartiteSidesRow.holds Tryz.pinned (OpenSpec.ofChange tripartiteSidesWrong)

/-- 'tripartitetop.TripartiteBack': WHATEVER THE INPUT: true; the input reads as it did. -/
def tripartiteBackSpec : ChangeSpec := { name := "tripartiteBack", fn := fun _ => fun
  | [d1, d2] => { results := [.lit (.bool true)], args := [d1, d2] }
  | _ => none }
def tripartiteBackRow : OpenClaim := { program := "ytjfmigpahglajaagreatdoor", sum := "f40983ee394ddc36106b55f7ec2402b9db8cdc7bc9c19b9d6fa20bd58accfbc7", func := "tripartite/tripartitetop.TripartiteBack", spec := "tripartiteBack", inPlace := ["internal/bytealg.IndexByteString", "internal/bytealg.IndexString", "internal/abi.NoEscape", "internal/bytealg.MakeNoZero", "internal/bytealg.CountString"], recurses := true, named := ["internal/bytealg.MaxLen", "unicode/utf8.first", "unicode/utf8.acceptRanges"], apart := false, laid := [("unicode/utf8.acceptRanges", laid_unicode_utf8_acceptRanges), ("unicode/utf8.first", laid_unicode_utf8_first)] }
def TripartiteBackSaid : Prop := tripartiteBackRow.holds Tryz.pinned (OpenSpec.ofChange tripartiteBackSpec)

/-- ITS FALSE NEIGHBOUR: 'it returns false'. Refute it at one input. -/
def tripartiteBackWrong : ChangeSpec := { name := "tripartiteBack", fn := fun _ => fun
  | [d1, d2] => { results := [.lit (.bool false)], args := [d1, d2] }
  | _ => none }
def TripartiteBackWrongFalsely : Prop := tripartiteBackRow.holds Tryz.pinned (OpenSpec.ofChange tripartiteBackWrong)

/-- 'tripartitetop.TripartiteApart': WHATEVER THE INPUT: true; the input reads as it did. -/
def tripartiteApartSpec : ChangeSpec := { name := "tripartiteApart", fn := fun _ => fun
  | [d1, d2] => { results := [.lit (.bool true)], args := [d1, d2] }
  | _ => none }
def tripartiteApartRow : OpenClaim := { program := "ytjfmigpahglajaagreatdoor", sum := "f40983ee394ddc36106b55f7ec2402b9db8cdc7bc9c19b9d6fa20bd58accfbc7", func := "tripartite/tripartitetop.TripartiteApart", spec := "tripartiteApart", inPlace := ["internal/bytealg.IndexByteString", "internal/bytealg.IndexString", "internal/abi.NoEscape", "internal/bytealg.MakeNoZero", "internal/bytealg.CountString"], recurses := true, named := ["internal/bytealg.MaxLen", "unicode/utf8.first", "unicode/utf8.acceptRanges"], apart := false, laid := [("unicode/utf8.acceptRanges", laid_unicode_utf8_acceptRanges), ("unicode/utf8.first", laid_unicode_utf8_first)] }
def TripartiteApartSaid : Prop := tripartiteApartRow.holds Tryz.pinned (OpenSpec.ofChange tripartiteApartSpec)

/-- ITS FALSE NEIGHBOUR: 'it returns false'. Refute it at one input. -/
def tripartiteApartWrong : ChangeSpec := { name := "tripartiteApart", fn := fun _ => fun
  | [d1, d2] => { results := [.lit (.bool false)], args := [d1, d2] }
  | _ => none }
def TripartiteApartWrongFalsely : Prop := tripartiteApartRow.holds Tryz.pinned (OpenSpec.ofChange tripartiteApartWrong)

/- THE SECOND FORM. 'bulk': how many values and letters a reading holds, each counted each time it is reached (what is shared counts as often as it is met; a slice's spare places count too). A statement '..UptoSaid' is the law's where the arguments, and the package variables that the reading takes, are together of bulk at most 1048576: NARROWER than '..Said'. Prove '..Said' where nothing that the law and all that it calls make is longer than what came in: it says more and counts as full. Else prove '..UptoSaid'. A law counts once. -/
mutual
def uptoBulk {H : Type} : DataW H → Nat
  | .lit (.string bytes) => bytes.length + 1
  | .lit _ => 1
  | .nil => 1
  | .ptr d => uptoBulk d + 1
  | .slice elems spare => uptoBulkAll elems + uptoBulkAll spare + 1
  | .agg parts => uptoBulkAll parts + 1
  | .iface _ d => uptoBulk d + 1
  | .map entries => uptoBulkEntries entries + 1
  | .held _ => 1
def uptoBulkAll {H : Type} : List (DataW H) → Nat
  | [] => 0
  | d :: r => uptoBulk d + uptoBulkAll r
def uptoBulkEntries {H : Type} : List (Lit × DataW H) → Nat
  | [] => 0
  | x :: r => uptoBulkEntry x + uptoBulkEntries r
def uptoBulkEntry {H : Type} : Lit × DataW H → Nat
  | (.string bytes, d) => bytes.length + uptoBulk d + 1
  | (_, d) => uptoBulk d + 1
 end
def uptoSmall : (H : Type) → List (DataW H) → Bool := fun _ ds => decide (uptoBulkAll ds ≤ 1048576)
def OpenSpec.upto (s : _root_.Go.ChangeSpec) : _root_.Go.OpenSpec := { _root_.Go.OpenSpec.ofChange s with cond := some uptoSmall }

/-- 'tripartitelaw12.MergeTexts', WHERE WHAT IT READS IS OF BULK AT MOST 1048576: true; the input reads as it did. -/
def mergeTextsUptoRow : OpenClaim := { program := "ytjfmigpahglajaagreatdoor", sum := "f40983ee394ddc36106b55f7ec2402b9db8cdc7bc9c19b9d6fa20bd58accfbc7", func := "tripartite/tripartitelaw12.MergeTexts", spec := "mergeTexts", inPlace := ["internal/bytealg.IndexByteString", "internal/bytealg.IndexString", "internal/abi.NoEscape", "internal/bytealg.MakeNoZero", "internal/bytealg.CountString"], recurses := true, named := ["internal/bytealg.MaxLen", "unicode/utf8.first", "unicode/utf8.acceptRanges"], apart := false, laid := [("unicode/utf8.acceptRanges", laid_unicode_utf8_acceptRanges), ("unicode/utf8.first", laid_unicode_utf8_first)], narrowed := true }
def MergeTextsUptoSaid : Prop := mergeTextsUptoRow.holds Tryz.pinned (OpenSpec.upto mergeTextsSpec)

/-- 'tripartitelaw12.MergeSames', WHERE WHAT IT READS IS OF BULK AT MOST 1048576: true; the input reads as it did. -/
def mergeSamesUptoRow : OpenClaim := { program := "ytjfmigpahglajaagreatdoor", sum := "f40983ee394ddc36106b55f7ec2402b9db8cdc7bc9c19b9d6fa20bd58accfbc7", func := "tripartite/tripartitelaw12.MergeSames", spec := "mergeSames", inPlace := ["internal/bytealg.IndexByteString", "internal/bytealg.IndexString", "internal/abi.NoEscape", "internal/bytealg.MakeNoZero", "internal/bytealg.CountString"], recurses := true, named := ["internal/bytealg.MaxLen", "unicode/utf8.first", "unicode/utf8.acceptRanges"], apart := false, laid := [("unicode/utf8.acceptRanges", laid_unicode_utf8_acceptRanges), ("unicode/utf8.first", laid_unicode_utf8_first)], narrowed := true }
def MergeSamesUptoSaid : Prop := mergeSamesUptoRow.holds Tryz.pinned (OpenSpec.upto mergeSamesSpec)

/-- 'tripartitelaw12.MergeTurns', WHERE WHAT IT READS IS OF BULK AT MOST 1048576: true; the input reads as it did. -/
def mergeTurnsUptoRow : OpenClaim := { program := "ytjfmigpahglajaagreatdoor", sum := "f40983ee394ddc36106b55f7ec2402b9db8cdc7bc9c19b9d6fa20bd58accfbc7", func := "tripartite/tripartitelaw12.MergeTurns", spec := "mergeTurns", inPlace := ["internal/bytealg.IndexByteString", "internal/bytealg.IndexString", "internal/abi.NoEscape", "internal/bytealg.MakeNoZero", "internal/bytealg.CountString"], recurses := true, named := ["internal/bytealg.MaxLen", "unicode/utf8.first", "unicode/utf8.acceptRanges"], apart := false, laid := [("unicode/utf8.acceptRanges", laid_unicode_utf8_acceptRanges), ("unicode/utf8.first", laid_unicode_utf8_first)], narrowed := true }
def MergeTurnsUptoSaid : Prop := mergeTurnsUptoRow.holds Tryz.pinned (OpenSpec.upto mergeTurnsSpec)

/-- 'tripartitelaw12.MergeBases', WHERE WHAT IT READS IS OF BULK AT MOST 1048576: true; the input reads as it did. -/
def mergeBasesUptoRow : OpenClaim := { program := "ytjfmigpahglajaagreatdoor", sum := "f40983ee394ddc36106b55f7ec2402b9db8cdc7bc9c19b9d6fa20bd58accfbc7", func := "tripartite/tripartitelaw12.MergeBases", spec := "mergeBases", inPlace := ["internal/bytealg.IndexByteString", "internal/bytealg.IndexString", "internal/abi.NoEscape", "internal/bytealg.MakeNoZero", "internal/bytealg.CountString"], recurses := true, named := ["internal/bytealg.MaxLen", "unicode/utf8.first", "unicode/utf8.acceptRanges"], apart := false, laid := [("unicode/utf8.acceptRanges", laid_unicode_utf8_acceptRanges), ("unicode/utf8.first", laid_unicode_utf8_first)], narrowed := true }
def MergeBasesUptoSaid : Prop := mergeBasesUptoRow.holds Tryz.pinned (OpenSpec.upto mergeBasesSpec)

/-- 'tripartitelaw12.MergeAgain', WHERE WHAT IT READS IS OF BULK AT MOST 1048576: true; the input reads as it did. -/
def mergeAgainUptoRow : OpenClaim := { program := "ytjfmigpahglajaagreatdoor", sum := "f40983ee394ddc36106b55f7ec2402b9db8cdc7bc9c19b9d6fa20bd58accfbc7", func := "tripartite/tripartitelaw12.MergeAgain", spec := "mergeAgain", inPlace := ["internal/bytealg.IndexByteString", "internal/bytealg.IndexString", "internal/abi.NoEscape", "internal/bytealg.MakeNoZero", "internal/bytealg.CountString"], recurses := true, named := ["internal/bytealg.MaxLen", "unicode/utf8.first", "unicode/utf8.acceptRanges"], apart := false, laid := [("unicode/utf8.acceptRanges", laid_unicode_utf8_acceptRanges), ("unicode/utf8.first", laid_unicode_utf8_first)], narrowed := true }
def MergeAgainUptoSaid : Prop := mergeAgainUptoRow.holds Tryz.pinned (OpenSpec.upto mergeAgainSpec)

/-- 'tripartitetop.TripartiteMerges', WHERE WHAT IT READS IS OF BULK AT MOST 1048576: true; the input reads as it did. -/
def tripartiteMergesUptoRow : OpenClaim := { program := "ytjfmigpahglajaagreatdoor", sum := "f40983ee394ddc36106b55f7ec2402b9db8cdc7bc9c19b9d6fa20bd58accfbc7", func := "tripartite/tripartitetop.TripartiteMerges", spec := "tripartiteMerges", inPlace := ["internal/bytealg.IndexByteString", "internal/bytealg.IndexString", "internal/abi.NoEscape", "internal/bytealg.MakeNoZero", "internal/bytealg.CountString"], recurses := true, named := ["internal/bytealg.MaxLen", "unicode/utf8.first", "unicode/utf8.acceptRanges"], apart := false, laid := [("unicode/utf8.acceptRanges", laid_unicode_utf8_acceptRanges), ("unicode/utf8.first", laid_unicode_utf8_first)], narrowed := true }
def TripartiteMergesUptoSaid : Prop := tripartiteMergesUptoRow.holds Tryz.pinned (OpenSpec.upto tripartiteMergesSpec)

/-- 'tripartitetop.TripartiteSpans', WHERE WHAT IT READS IS OF BULK AT MOST 1048576: true; the input reads as it did. -/
def tripartiteSpansUptoRow : OpenClaim := { program := "ytjfmigpahglajaagreatdoor", sum := "f40983ee394ddc36106b55f7ec2402b9db8cdc7bc9c19b9d6fa20bd58accfbc7", func := "tripartite/tripartitetop.TripartiteSpans", spec := "tripartiteSpans", inPlace := ["internal/bytealg.IndexByteString", "internal/bytealg.IndexString", "internal/abi.NoEscape", "internal/bytealg.MakeNoZero", "internal/bytealg.CountString"], recurses := true, named := ["internal/bytealg.MaxLen", "unicode/utf8.first", "unicode/utf8.acceptRanges"], apart := false, laid := [("unicode/utf8.acceptRanges", laid_unicode_utf8_acceptRanges), ("unicode/utf8.first", laid_unicode_utf8_first)], narrowed := true }
def TripartiteSpansUptoSaid : Prop := tripartiteSpansUptoRow.holds Tryz.pinned (OpenSpec.upto tripartiteSpansSpec)

/-- 'tripartitetop.TripartiteSides', WHERE WHAT IT READS IS OF BULK AT MOST 1048576: true; the input reads as it did. -/
def tripartiteSidesUptoRow : OpenClaim := { program := "ytjfmigpahglajaagreatdoor", sum := "f40983ee394ddc36106b55f7ec2402b9db8cdc7bc9c19b9d6fa20bd58accfbc7", func := "tripartite/tripartitetop.TripartiteSides", spec := "tripartiteSides", inPlace := ["internal/bytealg.IndexByteString", "internal/bytealg.IndexString", "internal/abi.NoEscape", "internal/bytealg.MakeNoZero", "internal/bytealg.CountString"], recurses := true, named := ["internal/bytealg.MaxLen", "unicode/utf8.first", "unicode/utf8.acceptRanges"], apart := false, laid := [("unicode/utf8.acceptRanges", laid_unicode_utf8_acceptRanges), ("unicode/utf8.first", laid_unicode_utf8_first)], narrowed := true }
def TripartiteSidesUptoSaid : Prop := tripartiteSidesUptoRow.holds Tryz.pinned (OpenSpec.upto tripartiteSidesSpec)

/-- 'tripartitetop.TripartiteBack', WHERE WHAT IT READS IS OF BULK AT MOST 1048576: true; the input reads as it did. -/
def tripartiteBackUptoRow : OpenClaim := { program := "ytjfmigpahglajaagreatdoor", sum := "f40983ee394ddc36106b55f7ec2402b9db8cdc7bc9c19b9d6fa20bd58accfbc7", func := "tripartite/tripartitetop.TripartiteBack", spec := "tripartiteBack", inPlace := ["internal/bytealg.IndexByteString", "internal/bytealg.IndexString", "internal/abi.NoEscape", "internal/bytealg.MakeNoZero", "internal/bytealg.CountString"], recurses := true, named := ["internal/bytealg.MaxLen", "unicode/utf8.first", "unicode/utf8.acceptRanges"], apart := false, laid := [("unicode/utf8.acceptRanges", laid_unicode_utf8_acceptRanges), ("unicode/utf8.first", laid_unicode_utf8_first)], narrowed := true }
def TripartiteBackUptoSaid : Prop := tripartiteBackUptoRow.holds Tryz.pinned (OpenSpec.upto tripartiteBackSpec)

/-- 'tripartitetop.TripartiteApart', WHERE WHAT IT READS IS OF BULK AT MOST 1048576: true; the input reads as it did. -/
def tripartiteApartUptoRow : OpenClaim := { program := "ytjfmigpahglajaagreatdoor", sum := "f40983ee394ddc36106b55f7ec2402b9db8cdc7bc9c19b9d6fa20bd58accfbc7", func := "tripartite/tripartitetop.TripartiteApart", spec := "tripartiteApart", inPlace := ["internal/bytealg.IndexByteString", "internal/bytealg.IndexString", "internal/abi.NoEscape", "internal/bytealg.MakeNoZero", "internal/bytealg.CountString"], recurses := true, named := ["internal/bytealg.MaxLen", "unicode/utf8.first", "unicode/utf8.acceptRanges"], apart := false, laid := [("unicode/utf8.acceptRanges", laid_unicode_utf8_acceptRanges), ("unicode/utf8.first", laid_unicode_utf8_first)], narrowed := true }
def TripartiteApartUptoSaid : Prop := tripartiteApartUptoRow.holds Tryz.pinned (OpenSpec.upto tripartiteApartSpec)

end Rows
end Go.Proofs.YtjfmigpahglajaaGreatDoor
