/-
  No cell of these rows narrows 'for every input' (looked for: loops, veiled, ifaces, maps, wideKeys, modest, calm, conditions, laid).
  DERIVED. THE GIVEN ROWS OF THIS SEAT. 4 by the template 'for every input the law returns true; each argument reads behind the call as it read before'; 0 by the template 'total and deterministic' (their statements: YtpbccamaipekjaaTotals.lean).
  GIVEN WITH THE SEED: the statements are not yours to turn. If you find one false, say at which input.
  Laid BY PROGRAM, IN A SANDBOX (cutbox-rows.mjs): the forced cells as the released guide's own fill.sh prints them over the translation e5c566df8dcccbcf… (all of the seat's roots in one cut). By AI agents, Wed Nov 11 2026. No macro, syntax, notation, axiom, sorry.
-/
import Derived.Test.YtpbccamaipekjaaChecked
import GoSem.Claim
import GoSem.ClaimJoined
import GoSem.ClaimMapViews
import Derived.JoinedTies
import Derived.KernelRfl
namespace Go.Proofs.Ytpbccamaipekjaa
/- THE CELL 'sum', in the pinned program and in every row, IS THE sha256 OF THE DUMP (.gsa) THAT YtpbccamaipekjaaProg.lean LOADS. Nothing in Lean hashes anything: it is a label: what it is worth is what the hold of that sum in a sandbox is worth. -/
noncomputable def Try.pinned : Pinned := { name := "ytpbccamaipekjaa", sum := "e5c566df8dcccbcf68baea03fde4848fb9e78e21138341bd20780bf8013e90eb", checked := Try.checked }
namespace Rows
def none {H : Type} : Left H := { results := [], args := [] }

/-- 'tripartitelaw04.EditScripts': WHATEVER THE INPUT: true; the input reads as it did. -/
def editScriptsSpec : ChangeSpec := { name := "editScripts", fn := fun _ => fun
  | [d1, d2, d3] => { results := [.lit (.bool true)], args := [d1, d2, d3] }
  | _ => none }
def editScriptsRow : OpenClaim := { program := "ytpbccamaipekjaa", sum := "e5c566df8dcccbcf68baea03fde4848fb9e78e21138341bd20780bf8013e90eb", func := "tripartite/tripartitelaw04.EditScripts", spec := "editScripts", apart := false }
def EditScriptsSaid : Prop := editScriptsRow.holds Try.pinned (OpenSpec.ofChange editScriptsSpec)

/-- ITS FALSE NEIGHBOUR: 'it returns false'. Refute it at one input. -/
def editScriptsWrong : ChangeSpec := { name := "editScripts", fn := fun _ => fun
  | [d1, d2, d3] => { results := [.lit (.bool false)], args := [d1, d2, d3] }
  | _ => none }
def EditScriptsWrongFalsely : Prop := editScriptsRow.holds Try.pinned (OpenSpec.ofChange editScriptsWrong)

/-- 'tripartitelaw04.EditApplies': WHATEVER THE INPUT: true; the input reads as it did. -/
def editAppliesSpec : ChangeSpec := { name := "editApplies", fn := fun _ => fun
  | [d1, d2, d3] => { results := [.lit (.bool true)], args := [d1, d2, d3] }
  | _ => none }
def editAppliesRow : OpenClaim := { program := "ytpbccamaipekjaa", sum := "e5c566df8dcccbcf68baea03fde4848fb9e78e21138341bd20780bf8013e90eb", func := "tripartite/tripartitelaw04.EditApplies", spec := "editApplies", apart := false }
def EditAppliesSaid : Prop := editAppliesRow.holds Try.pinned (OpenSpec.ofChange editAppliesSpec)

/-- ITS FALSE NEIGHBOUR: 'it returns false'. Refute it at one input. -/
def editAppliesWrong : ChangeSpec := { name := "editApplies", fn := fun _ => fun
  | [d1, d2, d3] => { results := [.lit (.bool false)], args := [d1, d2, d3] }
  | _ => none }
def EditAppliesWrongFalsely : Prop := editAppliesRow.holds Try.pinned (OpenSpec.ofChange editAppliesWrong)

/-- 'tripartitelaw06.ChunkLists': WHATEVER THE INPUT: true; the input reads as it did. -/
def chunkListsSpec : ChangeSpec := { name := "chunkLists", fn := fun _ => fun
  | [d1, d2, d3] => { results := [.lit (.bool true)], args := [d1, d2, d3] }
  | _ => none }
def chunkListsRow : OpenClaim := { program := "ytpbccamaipekjaa", sum := "e5c566df8dcccbcf68baea03fde4848fb9e78e21138341bd20780bf8013e90eb", func := "tripartite/tripartitelaw06.ChunkLists", spec := "chunkLists", apart := false }
def ChunkListsSaid : Prop := chunkListsRow.holds Try.pinned (OpenSpec.ofChange chunkListsSpec)

/-- ITS FALSE NEIGHBOUR: 'it returns false'. Refute it at one input. -/
def chunkListsWrong : ChangeSpec := { name := "chunkLists", fn := fun _ => fun
  | [d1, d2, d3] => { results := [.lit (.bool false)], args := [d1, d2, d3] }
  | _ => none }
def ChunkListsWrongFalsely : Prop := chunkListsRow.holds Try.pinned (OpenSpec.ofChange chunkListsWrong)

/-- 'tripartitelaw06.ChunkClasses': WHATEVER THE INPUT: true; the input reads as it did. -/
def chunkClassesSpec : ChangeSpec := { name := "chunkClasses", fn := fun _ => fun
  | [d1, d2, d3] => { results := [.lit (.bool true)], args := [d1, d2, d3] }
  | _ => none }
def chunkClassesRow : OpenClaim := { program := "ytpbccamaipekjaa", sum := "e5c566df8dcccbcf68baea03fde4848fb9e78e21138341bd20780bf8013e90eb", func := "tripartite/tripartitelaw06.ChunkClasses", spec := "chunkClasses", apart := false }
def ChunkClassesSaid : Prop := chunkClassesRow.holds Try.pinned (OpenSpec.ofChange chunkClassesSpec)

/-- ITS FALSE NEIGHBOUR: 'it returns false'. Refute it at one input. -/
def chunkClassesWrong : ChangeSpec := { name := "chunkClasses", fn := fun _ => fun
  | [d1, d2, d3] => { results := [.lit (.bool false)], args := [d1, d2, d3] }
  | _ => none }
def ChunkClassesWrongFalsely : Prop := chunkClassesRow.holds Try.pinned (OpenSpec.ofChange chunkClassesWrong)

/- THE SECOND FORM. 'bulk': how many values and letters a reading holds, each counted each time it is reached (what is shared counts as often as it is met; a slice's spare places count too). A statement '..UptoSaid' is the law's where the arguments, and the package variables that the reading takes, are together of bulk at most 1048576: NARROWER than '..Said'. Prove '..Said' where nothing that the law and all that it calls make is longer than what came in: it says more and counts as full. Else prove '..UptoSaid'. A law counts once. -/
mutual
def uptoBulk {H : Type} : DataW H → Nat
  | .lit (.string bytes) => bytes.length + 1
  | .lit _ => 1
  | .nil => 1
  | .ptr d => uptoBulk d + 1
  | .slice elems spare => uptoBulkAll elems + uptoBulkAll spare + 1
  | .agg parts => uptoBulkAll parts + 1
  | .iface _ d => uptoBulk d + 1
  | .map entries => uptoBulkEntries entries + 1
  | .held _ => 1
def uptoBulkAll {H : Type} : List (DataW H) → Nat
  | [] => 0
  | d :: r => uptoBulk d + uptoBulkAll r
def uptoBulkEntries {H : Type} : List (Lit × DataW H) → Nat
  | [] => 0
  | x :: r => uptoBulkEntry x + uptoBulkEntries r
def uptoBulkEntry {H : Type} : Lit × DataW H → Nat
  | (.string bytes, d) => bytes.length + uptoBulk d + 1
  | (_, d) => uptoBulk d + 1
 end
def uptoSmall : (H : Type) → List (DataW H) → Bool := fun _ ds => decide (uptoBulkAll ds ≤ 1048576)
def OpenSpec.upto (s : _root_.Go.ChangeSpec) : _root_.Go.OpenSpec := { _root_.Go.OpenSpec.ofChange s with cond := some uptoSmall }

/-- 'tripartitelaw04.EditScripts', WHERE WHAT IT READS IS OF BULK AT MOST 1048576: true; the input reads as it did. -/
def editScriptsUptoRow : OpenClaim := { program := "ytpbccamaipekjaa", sum := "e5c566df8dcccbcf68baea03fde4848fb9e78e21138341bd20780bf8013e90eb", func := "tripartite/tripartitelaw04.EditScripts", spec := "editScripts", apart := false, narrowed := true }
def EditScriptsUptoSaid : Prop := editScriptsUptoRow.holds Try.pinned (OpenSpec.upto editScriptsSpec)

/-- 'tripartitelaw04.EditApplies', WHERE WHAT IT READS IS OF BULK AT MOST 1048576: true; the input reads as it did. -/
def editAppliesUptoRow : OpenClaim := { program := "ytpbccamaipekjaa", sum := "e5c566df8dcccbcf68baea03fde4848fb9e78e21138341bd20780bf8013e90eb", func := "tripartite/tripartitelaw04.EditApplies", spec := "editApplies", apart := false, narrowed := true }
def EditAppliesUptoSaid : Prop := editAppliesUptoRow.holds Try.pinned (OpenSpec.upto editAppliesSpec)

/-- 'tripartitelaw06.ChunkLists', WHERE WHAT IT READS IS OF BULK AT MOST 1048576: true; the input reads as it did. -/
def chunkListsUptoRow : OpenClaim := { program := "ytpbccamaipekjaa", sum := "e5c566df8dcccbcf68baea03fde4848fb9e78e21138341bd20780bf8013e90eb", func := "tripartite/tripartitelaw06.ChunkLists", spec := "chunkLists", apart := false, narrowed := true }
def ChunkListsUptoSaid : Prop := chunkListsUptoRow.holds Try.pinned (OpenSpec.upto chunkListsSpec)

/-- 'tripartitelaw06.ChunkClasses', WHERE WHAT IT READS IS OF BULK AT MOST 1048576: true; the input reads as it did. -/
def chunkClassesUptoRow : OpenClaim := { program := "ytpbccamaipekjaa", sum := "e5c566df8dcccbcf68baea03fde4848fb9e78e21138341bd20780bf8013e90eb", func := "tripartite/tripartitelaw06.ChunkClasses", spec := "chunkClasses", apart := false, narrowed := true }
def ChunkClassesUptoSaid : Prop := chunkClassesUptoRow.holds Try.pinned (OpenSpec.upto chunkClassesSpec)

end Rows
end Go.Proofs.Ytpbccamaipekjaa
