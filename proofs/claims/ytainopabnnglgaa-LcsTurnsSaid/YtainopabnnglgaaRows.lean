/-
  No cell of these rows narrows 'for every input' (looked for: loops, veiled, ifaces, maps, wideKeys, modest, calm, conditions, laid).
  DERIVED. THE GIVEN ROWS OF THIS SEAT. 6 by the template 'for every input the law returns true; each argument reads behind the call as it read before'; 0 by the template 'total and deterministic' (their statements: YtainopabnnglgaaTotals.lean).
  GIVEN WITH THE SEED: the statements are not yours to turn. If you find one false, say at which input.
  Laid BY PROGRAM, IN A SANDBOX (cutbox-rows.mjs): the forced cells as the released guide's own fill.sh prints them over the translation 6dc7532671e916fa… (all of the seat's roots in one cut). By AI agents, Wed Nov 11 2026. No macro, syntax, notation, axiom, sorry.
-/
import Derived.Test.YtainopabnnglgaaChecked
import GoSem.Claim
import GoSem.ClaimJoined
import GoSem.ClaimMapViews
import Derived.JoinedTies
import Derived.KernelRfl
namespace Go.Proofs.Ytainopabnnglgaa
/- THE CELL 'sum', in the pinned program and in every row, IS THE sha256 OF THE DUMP (.gsa) THAT YtainopabnnglgaaProg.lean LOADS. Nothing in Lean hashes anything: it is a label: what it is worth is what the hold of that sum in a sandbox is worth. -/
noncomputable def Try.pinned : Pinned := { name := "ytainopabnnglgaa", sum := "6dc7532671e916fa5c2e797af441d18296f3221075b2b8c87185a745a800feb2", checked := Try.checked }
namespace Rows
def none {H : Type} : Left H := { results := [], args := [] }

/-- 'tripartitelaw02.TrimEnds': WHATEVER THE INPUT: true; the input reads as it did. -/
def trimEndsSpec : ChangeSpec := { name := "trimEnds", fn := fun _ => fun
  | [d1, d2] => { results := [.lit (.bool true)], args := [d1, d2] }
  | _ => none }
def trimEndsRow : OpenClaim := { program := "ytainopabnnglgaa", sum := "6dc7532671e916fa5c2e797af441d18296f3221075b2b8c87185a745a800feb2", func := "tripartite/tripartitelaw02.TrimEnds", spec := "trimEnds", apart := false }
def TrimEndsSaid : Prop := trimEndsRow.holds Try.pinned (OpenSpec.ofChange trimEndsSpec)

/-- ITS FALSE NEIGHBOUR: 'it returns false'. Refute it at one input. -/
def trimEndsWrong : ChangeSpec := { name := "trimEnds", fn := fun _ => fun
  | [d1, d2] => { results := [.lit (.bool false)], args := [d1, d2] }
  | _ => none }
def TrimEndsWrongFalsely : Prop := trimEndsRow.holds Try.pinned (OpenSpec.ofChange trimEndsWrong)

/-- 'tripartitelaw02.TrimTexts': WHATEVER THE INPUT: true; the input reads as it did. -/
def trimTextsSpec : ChangeSpec := { name := "trimTexts", fn := fun _ => fun
  | [d1, d2] => { results := [.lit (.bool true)], args := [d1, d2] }
  | _ => none }
def trimTextsRow : OpenClaim := { program := "ytainopabnnglgaa", sum := "6dc7532671e916fa5c2e797af441d18296f3221075b2b8c87185a745a800feb2", func := "tripartite/tripartitelaw02.TrimTexts", spec := "trimTexts", apart := false }
def TrimTextsSaid : Prop := trimTextsRow.holds Try.pinned (OpenSpec.ofChange trimTextsSpec)

/-- ITS FALSE NEIGHBOUR: 'it returns false'. Refute it at one input. -/
def trimTextsWrong : ChangeSpec := { name := "trimTexts", fn := fun _ => fun
  | [d1, d2] => { results := [.lit (.bool false)], args := [d1, d2] }
  | _ => none }
def TrimTextsWrongFalsely : Prop := trimTextsRow.holds Try.pinned (OpenSpec.ofChange trimTextsWrong)

/-- 'tripartitelaw03.LcsMatches': WHATEVER THE INPUT: true; the input reads as it did. -/
def lcsMatchesSpec : ChangeSpec := { name := "lcsMatches", fn := fun _ => fun
  | [d1, d2] => { results := [.lit (.bool true)], args := [d1, d2] }
  | _ => none }
def lcsMatchesRow : OpenClaim := { program := "ytainopabnnglgaa", sum := "6dc7532671e916fa5c2e797af441d18296f3221075b2b8c87185a745a800feb2", func := "tripartite/tripartitelaw03.LcsMatches", spec := "lcsMatches", recurses := true, apart := false }
def LcsMatchesSaid : Prop := lcsMatchesRow.holds Try.pinned (OpenSpec.ofChange lcsMatchesSpec)

/-- ITS FALSE NEIGHBOUR: 'it returns false'. Refute it at one input. -/
def lcsMatchesWrong : ChangeSpec := { name := "lcsMatches", fn := fun _ => fun
  | [d1, d2] => { results := [.lit (.bool false)], args := [d1, d2] }
  | _ => none }
def LcsMatchesWrongFalsely : Prop := lcsMatchesRow.holds Try.pinned (OpenSpec.ofChange lcsMatchesWrong)

/-- 'tripartitelaw03.LcsRights': WHATEVER THE INPUT: true; the input reads as it did. -/
def lcsRightsSpec : ChangeSpec := { name := "lcsRights", fn := fun _ => fun
  | [d1, d2, d3] => { results := [.lit (.bool true)], args := [d1, d2, d3] }
  | _ => none }
def lcsRightsRow : OpenClaim := { program := "ytainopabnnglgaa", sum := "6dc7532671e916fa5c2e797af441d18296f3221075b2b8c87185a745a800feb2", func := "tripartite/tripartitelaw03.LcsRights", spec := "lcsRights", recurses := true, apart := false }
def LcsRightsSaid : Prop := lcsRightsRow.holds Try.pinned (OpenSpec.ofChange lcsRightsSpec)

/-- ITS FALSE NEIGHBOUR: 'it returns false'. Refute it at one input. -/
def lcsRightsWrong : ChangeSpec := { name := "lcsRights", fn := fun _ => fun
  | [d1, d2, d3] => { results := [.lit (.bool false)], args := [d1, d2, d3] }
  | _ => none }
def LcsRightsWrongFalsely : Prop := lcsRightsRow.holds Try.pinned (OpenSpec.ofChange lcsRightsWrong)

/-- 'tripartitelaw03.LcsAlls': WHATEVER THE INPUT: true; the input reads as it did. -/
def lcsAllsSpec : ChangeSpec := { name := "lcsAlls", fn := fun _ => fun
  | [d1, d2] => { results := [.lit (.bool true)], args := [d1, d2] }
  | _ => none }
def lcsAllsRow : OpenClaim := { program := "ytainopabnnglgaa", sum := "6dc7532671e916fa5c2e797af441d18296f3221075b2b8c87185a745a800feb2", func := "tripartite/tripartitelaw03.LcsAlls", spec := "lcsAlls", recurses := true, apart := false }
def LcsAllsSaid : Prop := lcsAllsRow.holds Try.pinned (OpenSpec.ofChange lcsAllsSpec)

/-- ITS FALSE NEIGHBOUR: 'it returns false'. Refute it at one input. -/
def lcsAllsWrong : ChangeSpec := { name := "lcsAlls", fn := fun _ => fun
  | [d1, d2] => { results := [.lit (.bool false)], args := [d1, d2] }
  | _ => none }
def LcsAllsWrongFalsely : Prop := lcsAllsRow.holds Try.pinned (OpenSpec.ofChange lcsAllsWrong)

/-- 'tripartitelaw03.LcsTurns': WHATEVER THE INPUT: true; the input reads as it did. -/
def lcsTurnsSpec : ChangeSpec := { name := "lcsTurns", fn := fun _ => fun
  | [d1, d2, d3] => { results := [.lit (.bool true)], args := [d1, d2, d3] }
  | _ => none }
def lcsTurnsRow : OpenClaim := { program := "ytainopabnnglgaa", sum := "6dc7532671e916fa5c2e797af441d18296f3221075b2b8c87185a745a800feb2", func := "tripartite/tripartitelaw03.LcsTurns", spec := "lcsTurns", recurses := true, apart := false }
def LcsTurnsSaid : Prop := lcsTurnsRow.holds Try.pinned (OpenSpec.ofChange lcsTurnsSpec)

/-- ITS FALSE NEIGHBOUR: 'it returns false'. Refute it at one input. -/
def lcsTurnsWrong : ChangeSpec := { name := "lcsTurns", fn := fun _ => fun
  | [d1, d2, d3] => { results := [.lit (.bool false)], args := [d1, d2, d3] }
  | _ => none }
def LcsTurnsWrongFalsely : Prop := lcsTurnsRow.holds Try.pinned (OpenSpec.ofChange lcsTurnsWrong)

/- THE SECOND FORM. 'bulk': how many values and letters a reading holds, each counted each time it is reached (what is shared counts as often as it is met; a slice's spare places count too). A statement '..UptoSaid' is the law's where the arguments, and the package variables that the reading takes, are together of bulk at most 1048576: NARROWER than '..Said'. Prove '..Said' where nothing that the law and all that it calls make is longer than what came in: it says more and counts as full. Else prove '..UptoSaid'. A law counts once. -/
mutual
def uptoBulk {H : Type} : DataW H → Nat
  | .lit (.string bytes) => bytes.length + 1
  | .lit _ => 1
  | .nil => 1
  | .ptr d => uptoBulk d + 1
  | .slice elems spare => uptoBulkAll elems + uptoBulkAll spare + 1
  | .agg parts => uptoBulkAll parts + 1
  | .iface _ d => uptoBulk d + 1
  | .map entries => uptoBulkEntries entries + 1
  | .held _ => 1
def uptoBulkAll {H : Type} : List (DataW H) → Nat
  | [] => 0
  | d :: r => uptoBulk d + uptoBulkAll r
def uptoBulkEntries {H : Type} : List (Lit × DataW H) → Nat
  | [] => 0
  | x :: r => uptoBulkEntry x + uptoBulkEntries r
def uptoBulkEntry {H : Type} : Lit × DataW H → Nat
  | (.string bytes, d) => bytes.length + uptoBulk d + 1
  | (_, d) => uptoBulk d + 1
 end
def uptoSmall : (H : Type) → List (DataW H) → Bool := fun _ ds => decide (uptoBulkAll ds ≤ 1048576)
def OpenSpec.upto (s : _root_.Go.ChangeSpec) : _root_.Go.OpenSpec := { _root_.Go.OpenSpec.ofChange s with cond := some uptoSmall }

/-- 'tripartitelaw02.TrimEnds', WHERE WHAT IT READS IS OF BULK AT MOST 1048576: true; the input reads as it did. -/
def trimEndsUptoRow : OpenClaim := { program := "ytainopabnnglgaa", sum := "6dc7532671e916fa5c2e797af441d18296f3221075b2b8c87185a745a800feb2", func := "tripartite/tripartitelaw02.TrimEnds", spec := "trimEnds", apart := false, narrowed := true }
def TrimEndsUptoSaid : Prop := trimEndsUptoRow.holds Try.pinned (OpenSpec.upto trimEndsSpec)

/-- 'tripartitelaw02.TrimTexts', WHERE WHAT IT READS IS OF BULK AT MOST 1048576: true; the input reads as it did. -/
def trimTextsUptoRow : OpenClaim := { program := "ytainopabnnglgaa", sum := "6dc7532671e916fa5c2e797af441d18296f3221075b2b8c87185a745a800feb2", func := "tripartite/tripartitelaw02.TrimTexts", spec := "trimTexts", apart := false, narrowed := true }
def TrimTextsUptoSaid : Prop := trimTextsUptoRow.holds Try.pinned (OpenSpec.upto trimTextsSpec)

/-- 'tripartitelaw03.LcsMatches', WHERE WHAT IT READS IS OF BULK AT MOST 1048576: true; the input reads as it did. -/
def lcsMatchesUptoRow : OpenClaim := { program := "ytainopabnnglgaa", sum := "6dc7532671e916fa5c2e797af441d18296f3221075b2b8c87185a745a800feb2", func := "tripartite/tripartitelaw03.LcsMatches", spec := "lcsMatches", recurses := true, apart := false, narrowed := true }
def LcsMatchesUptoSaid : Prop := lcsMatchesUptoRow.holds Try.pinned (OpenSpec.upto lcsMatchesSpec)

/-- 'tripartitelaw03.LcsRights', WHERE WHAT IT READS IS OF BULK AT MOST 1048576: true; the input reads as it did. -/
def lcsRightsUptoRow : OpenClaim := { program := "ytainopabnnglgaa", sum := "6dc7532671e916fa5c2e797af441d18296f3221075b2b8c87185a745a800feb2", func := "tripartite/tripartitelaw03.LcsRights", spec := "lcsRights", recurses := true, apart := false, narrowed := true }
def LcsRightsUptoSaid : Prop := lcsRightsUptoRow.holds Try.pinned (OpenSpec.upto lcsRightsSpec)

/-- 'tripartitelaw03.LcsAlls', WHERE WHAT IT READS IS OF BULK AT MOST 1048576: true; the input reads as it did. -/
def lcsAllsUptoRow : OpenClaim := { program := "ytainopabnnglgaa", sum := "6dc7532671e916fa5c2e797af441d18296f3221075b2b8c87185a745a800feb2", func := "tripartite/tripartitelaw03.LcsAlls", spec := "lcsAlls", recurses := true, apart := false, narrowed := true }
def LcsAllsUptoSaid : Prop := lcsAllsUptoRow.holds Try.pinned (OpenSpec.upto lcsAllsSpec)

/-- 'tripartitelaw03.LcsTurns', WHERE WHAT IT READS IS OF BULK AT MOST 1048576: true; the input reads as it did. -/
def lcsTurnsUptoRow : OpenClaim := { program := "ytainopabnnglgaa", sum := "6dc7532671e916fa5c2e797af441d18296f3221075b2b8c87185a745a800feb2", func := "tripartite/tripartitelaw03.LcsTurns", spec := "lcsTurns", recurses := true, apart := false, narrowed := true }
def LcsTurnsUptoSaid : Prop := lcsTurnsUptoRow.holds Try.pinned (OpenSpec.upto lcsTurnsSpec)

end Rows
end Go.Proofs.Ytainopabnnglgaa
