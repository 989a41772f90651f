/-
  No cell of these rows narrows 'for every input' (looked for: loops, veiled, ifaces, maps, wideKeys, modest, calm, conditions, laid).
  DERIVED. THE GIVEN ROWS OF THIS SEAT. 5 by the template 'for every input the law returns true; each argument reads behind the call as it read before'; 0 by the template 'total and deterministic' (their statements: YtnhfobhdbablaaaTotals.lean).
  GIVEN WITH THE SEED: the statements are not yours to turn. If you find one false, say at which input.
  Laid BY PROGRAM, IN A SANDBOX (cutbox-rows.mjs): the forced cells as the released guide's own fill.sh prints them over the translation 5687c0aee474bc4d… (all of the seat's roots in one cut). By AI agents, Wed Nov 11 2026. No macro, syntax, notation, axiom, sorry.
-/
import Derived.Test.YtnhfobhdbablaaaChecked
import GoSem.Claim
import GoSem.ClaimJoined
import GoSem.ClaimMapViews
import Derived.JoinedTies
import Derived.KernelRfl
namespace Go.Proofs.Ytnhfobhdbablaaa
/- THE CELL 'sum', in the pinned program and in every row, IS THE sha256 OF THE DUMP (.gsa) THAT YtnhfobhdbablaaaProg.lean LOADS. Nothing in Lean hashes anything: it is a label: what it is worth is what the hold of that sum in a sandbox is worth. -/
noncomputable def Try.pinned : Pinned := { name := "ytnhfobhdbablaaa", sum := "5687c0aee474bc4daf0c7a8ba121eb3b599b24bb08cdc42ea2c82ca8f499d62b", checked := Try.checked }
namespace Rows
def none {H : Type} : Left H := { results := [], args := [] }

/-- 'tripartitelaw10.BuildDocs': WHATEVER THE INPUT: true; the input reads as it did. -/
def buildDocsSpec : ChangeSpec := { name := "buildDocs", fn := fun _ => fun
  | [d1, d2, d3] => { results := [.lit (.bool true)], args := [d1, d2, d3] }
  | _ => none }
def buildDocsRow : OpenClaim := { program := "ytnhfobhdbablaaa", sum := "5687c0aee474bc4daf0c7a8ba121eb3b599b24bb08cdc42ea2c82ca8f499d62b", func := "tripartite/tripartitelaw10.BuildDocs", spec := "buildDocs", inPlace := ["internal/bytealg.IndexByteString", "internal/bytealg.IndexString", "internal/abi.NoEscape", "internal/bytealg.MakeNoZero"], named := ["internal/bytealg.MaxLen"], apart := false }
def BuildDocsSaid : Prop := buildDocsRow.holds Try.pinned (OpenSpec.ofChange buildDocsSpec)

/-- ITS FALSE NEIGHBOUR: 'it returns false'. Refute it at one input. -/
def buildDocsWrong : ChangeSpec := { name := "buildDocs", fn := fun _ => fun
  | [d1, d2, d3] => { results := [.lit (.bool false)], args := [d1, d2, d3] }
  | _ => none }
def BuildDocsWrongFalsely : Prop := buildDocsRow.holds Try.pinned (OpenSpec.ofChange buildDocsWrong)

/-- 'tripartitelaw10.BuildFavours': WHATEVER THE INPUT: true; the input reads as it did. -/
def buildFavoursSpec : ChangeSpec := { name := "buildFavours", fn := fun _ => fun
  | [d1, d2] => { results := [.lit (.bool true)], args := [d1, d2] }
  | _ => none }
def buildFavoursRow : OpenClaim := { program := "ytnhfobhdbablaaa", sum := "5687c0aee474bc4daf0c7a8ba121eb3b599b24bb08cdc42ea2c82ca8f499d62b", func := "tripartite/tripartitelaw10.BuildFavours", spec := "buildFavours", inPlace := ["internal/bytealg.IndexByteString", "internal/bytealg.IndexString", "internal/abi.NoEscape", "internal/bytealg.MakeNoZero"], named := ["internal/bytealg.MaxLen"], apart := false }
def BuildFavoursSaid : Prop := buildFavoursRow.holds Try.pinned (OpenSpec.ofChange buildFavoursSpec)

/-- ITS FALSE NEIGHBOUR: 'it returns false'. Refute it at one input. -/
def buildFavoursWrong : ChangeSpec := { name := "buildFavours", fn := fun _ => fun
  | [d1, d2] => { results := [.lit (.bool false)], args := [d1, d2] }
  | _ => none }
def BuildFavoursWrongFalsely : Prop := buildFavoursRow.holds Try.pinned (OpenSpec.ofChange buildFavoursWrong)

/-- 'tripartitelaw10.BuildHoists': WHATEVER THE INPUT: true; the input reads as it did. -/
def buildHoistsSpec : ChangeSpec := { name := "buildHoists", fn := fun _ => fun
  | [d1, d2] => { results := [.lit (.bool true)], args := [d1, d2] }
  | _ => none }
def buildHoistsRow : OpenClaim := { program := "ytnhfobhdbablaaa", sum := "5687c0aee474bc4daf0c7a8ba121eb3b599b24bb08cdc42ea2c82ca8f499d62b", func := "tripartite/tripartitelaw10.BuildHoists", spec := "buildHoists", inPlace := ["internal/bytealg.IndexByteString", "internal/bytealg.IndexString", "internal/abi.NoEscape", "internal/bytealg.MakeNoZero"], named := ["internal/bytealg.MaxLen"], apart := false }
def BuildHoistsSaid : Prop := buildHoistsRow.holds Try.pinned (OpenSpec.ofChange buildHoistsSpec)

/-- ITS FALSE NEIGHBOUR: 'it returns false'. Refute it at one input. -/
def buildHoistsWrong : ChangeSpec := { name := "buildHoists", fn := fun _ => fun
  | [d1, d2] => { results := [.lit (.bool false)], args := [d1, d2] }
  | _ => none }
def BuildHoistsWrongFalsely : Prop := buildHoistsRow.holds Try.pinned (OpenSpec.ofChange buildHoistsWrong)

/-- 'tripartitelaw11.ResolveAlls': WHATEVER THE INPUT: true; the input reads as it did. -/
def resolveAllsSpec : ChangeSpec := { name := "resolveAlls", fn := fun _ => fun
  | [d1, d2, d3] => { results := [.lit (.bool true)], args := [d1, d2, d3] }
  | _ => none }
def resolveAllsRow : OpenClaim := { program := "ytnhfobhdbablaaa", sum := "5687c0aee474bc4daf0c7a8ba121eb3b599b24bb08cdc42ea2c82ca8f499d62b", func := "tripartite/tripartitelaw11.ResolveAlls", spec := "resolveAlls", inPlace := ["internal/bytealg.IndexByteString", "internal/bytealg.IndexString", "internal/abi.NoEscape", "internal/bytealg.MakeNoZero"], named := ["internal/bytealg.MaxLen"], apart := false }
def ResolveAllsSaid : Prop := resolveAllsRow.holds Try.pinned (OpenSpec.ofChange resolveAllsSpec)

/-- ITS FALSE NEIGHBOUR: 'it returns false'. Refute it at one input. -/
def resolveAllsWrong : ChangeSpec := { name := "resolveAlls", fn := fun _ => fun
  | [d1, d2, d3] => { results := [.lit (.bool false)], args := [d1, d2, d3] }
  | _ => none }
def ResolveAllsWrongFalsely : Prop := resolveAllsRow.holds Try.pinned (OpenSpec.ofChange resolveAllsWrong)

/-- 'tripartitelaw11.ResolveOnes': WHATEVER THE INPUT: true; the input reads as it did. -/
def resolveOnesSpec : ChangeSpec := { name := "resolveOnes", fn := fun _ => fun
  | [d1, d2, d3] => { results := [.lit (.bool true)], args := [d1, d2, d3] }
  | _ => none }
def resolveOnesRow : OpenClaim := { program := "ytnhfobhdbablaaa", sum := "5687c0aee474bc4daf0c7a8ba121eb3b599b24bb08cdc42ea2c82ca8f499d62b", func := "tripartite/tripartitelaw11.ResolveOnes", spec := "resolveOnes", inPlace := ["internal/bytealg.IndexByteString", "internal/bytealg.IndexString", "internal/abi.NoEscape", "internal/bytealg.MakeNoZero"], named := ["internal/bytealg.MaxLen"], apart := false }
def ResolveOnesSaid : Prop := resolveOnesRow.holds Try.pinned (OpenSpec.ofChange resolveOnesSpec)

/-- ITS FALSE NEIGHBOUR: 'it returns false'. Refute it at one input. -/
def resolveOnesWrong : ChangeSpec := { name := "resolveOnes", fn := fun _ => fun
  | [d1, d2, d3] => { results := [.lit (.bool false)], args := [d1, d2, d3] }
  | _ => none }
def ResolveOnesWrongFalsely : Prop := resolveOnesRow.holds Try.pinned (OpenSpec.ofChange resolveOnesWrong)

/- THE SECOND FORM. 'bulk': how many values and letters a reading holds, each counted each time it is reached (what is shared counts as often as it is met; a slice's spare places count too). A statement '..UptoSaid' is the law's where the arguments, and the package variables that the reading takes, are together of bulk at most 1048576: NARROWER than '..Said'. Prove '..Said' where nothing that the law and all that it calls make is longer than what came in: it says more and counts as full. Else prove '..UptoSaid'. A law counts once. -/
mutual
def uptoBulk {H : Type} : DataW H → Nat
  | .lit (.string bytes) => bytes.length + 1
  | .lit _ => 1
  | .nil => 1
  | .ptr d => uptoBulk d + 1
  | .slice elems spare => uptoBulkAll elems + uptoBulkAll spare + 1
  | .agg parts => uptoBulkAll parts + 1
  | .iface _ d => uptoBulk d + 1
  | .map entries => uptoBulkEntries entries + 1
  | .held _ => 1
def uptoBulkAll {H : Type} : List (DataW H) → Nat
  | [] => 0
  | d :: r => uptoBulk d + uptoBulkAll r
def uptoBulkEntries {H : Type} : List (Lit × DataW H) → Nat
  | [] => 0
  | x :: r => uptoBulkEntry x + uptoBulkEntries r
def uptoBulkEntry {H : Type} : Lit × DataW H → Nat
  | (.string bytes, d) => bytes.length + uptoBulk d + 1
  | (_, d) => uptoBulk d + 1
 end
def uptoSmall : (H : Type) → List (DataW H) → Bool := fun _ ds => decide (uptoBulkAll ds ≤ 1048576)
def OpenSpec.upto (s : _root_.Go.ChangeSpec) : _root_.Go.OpenSpec := { _root_.Go.OpenSpec.ofChange s with cond := some uptoSmall }

/-- 'tripartitelaw10.BuildDocs', WHERE WHAT IT READS IS OF BULK AT MOST 1048576: true; the input reads as it did. -/
def buildDocsUptoRow : OpenClaim := { program := "ytnhfobhdbablaaa", sum := "5687c0aee474bc4daf0c7a8ba121eb3b599b24bb08cdc42ea2c82ca8f499d62b", func := "tripartite/tripartitelaw10.BuildDocs", spec := "buildDocs", inPlace := ["internal/bytealg.IndexByteString", "internal/bytealg.IndexString", "internal/abi.NoEscape", "internal/bytealg.MakeNoZero"], named := ["internal/bytealg.MaxLen"], apart := false, narrowed := true }
def BuildDocsUptoSaid : Prop := buildDocsUptoRow.holds Try.pinned (OpenSpec.upto buildDocsSpec)

/-- 'tripartitelaw10.BuildFavours', WHERE WHAT IT READS IS OF BULK AT MOST 1048576: true; the input reads as it did. -/
def buildFavoursUptoRow : OpenClaim := { program := "ytnhfobhdbablaaa", sum := "5687c0aee474bc4daf0c7a8ba121eb3b599b24bb08cdc42ea2c82ca8f499d62b", func := "tripartite/tripartitelaw10.BuildFavours", spec := "buildFavours", inPlace := ["internal/bytealg.IndexByteString", "internal/bytealg.IndexString", "internal/abi.NoEscape", "internal/bytealg.MakeNoZero"], named := ["internal/bytealg.MaxLen"], apart := false, narrowed := true }
def BuildFavoursUptoSaid : Prop := buildFavoursUptoRow.holds Try.pinned (OpenSpec.upto buildFavoursSpec)

/-- 'tripartitelaw10.BuildHoists', WHERE WHAT IT READS IS OF BULK AT MOST 1048576: true; the input reads as it did. -/
def buildHoistsUptoRow : OpenClaim := { program := "ytnhfobhdbablaaa", sum := "5687c0aee474bc4daf0c7a8ba121eb3b599b24bb08cdc42ea2c82ca8f499d62b", func := "tripartite/tripartitelaw10.BuildHoists", spec := "buildHoists", inPlace := ["internal/bytealg.IndexByteString", "internal/bytealg.IndexString", "internal/abi.NoEscape", "internal/bytealg.MakeNoZero"], named := ["internal/bytealg.MaxLen"], apart := false, narrowed := true }
def BuildHoistsUptoSaid : Prop := buildHoistsUptoRow.holds Try.pinned (OpenSpec.upto buildHoistsSpec)

/-- 'tripartitelaw11.ResolveAlls', WHERE WHAT IT READS IS OF BULK AT MOST 1048576: true; the input reads as it did. -/
def resolveAllsUptoRow : OpenClaim := { program := "ytnhfobhdbablaaa", sum := "5687c0aee474bc4daf0c7a8ba121eb3b599b24bb08cdc42ea2c82ca8f499d62b", func := "tripartite/tripartitelaw11.ResolveAlls", spec := "resolveAlls", inPlace := ["internal/bytealg.IndexByteString", "internal/bytealg.IndexString", "internal/abi.NoEscape", "internal/bytealg.MakeNoZero"], named := ["internal/bytealg.MaxLen"], apart := false, narrowed := true }
def ResolveAllsUptoSaid : Prop := resolveAllsUptoRow.holds Try.pinned (OpenSpec.upto resolveAllsSpec)

/-- 'tripartitelaw11.ResolveOnes', WHERE WHAT IT READS IS OF BULK AT MOST 1048576: true; the input reads as it did. -/
def resolveOnesUptoRow : OpenClaim := { program := "ytnhfobhdbablaaa", sum := "5687c0aee474bc4daf0c7a8ba121eb3b599b24bb08cdc42ea2c82ca8f499d62b", func := "tripartite/tripartitelaw11.ResolveOnes", spec := "resolveOnes", inPlace := ["internal/bytealg.IndexByteString", "internal/bytealg.IndexString", "internal/abi.NoEscape", "internal/bytealg.MakeNoZero"], named := ["internal/bytealg.MaxLen"], apart := false, narrowed := true }
def ResolveOnesUptoSaid : Prop := resolveOnesUptoRow.holds Try.pinned (OpenSpec.upto resolveOnesSpec)

end Rows
end Go.Proofs.Ytnhfobhdbablaaa
