/-
  Of all numbers and Pairs: the chunks are told, or that they do not fit; all Spans of a list are it; the other way round they are Turned. No conditions.
-/
import Derived.Test.YtpbccamaipekjaaChunkR
import Derived.Test.YtpbccamaipekjaaAxh
import Derived.Test.YtpbccamaipekjaaRows
set_option linter.unusedVariables false
set_option maxRecDepth 100000
namespace Go.Proofs.Ytpbccamaipekjaa.ChunkLists
open Go Go.ChangeShapes Go.WideShapes Go.ChangeAt Go.RowKit

theorem own : ownKnob Try.prog.godebug = none := by kernel_rfl
theorem laid : laidOutB Try.prog = true := by kernel_rfl
theorem lifted (os : Os) (started : os.Started) (H : Type) (enc : TypeId × Value → H) :
    ReturnsInHanded {} Try.checked os 5 .any (Rows.chunkListsSpec.pre6 enc Try.prog Try.f5 Rows.chunkListsRow.domain false) (Rows.chunkListsSpec.post enc Try.prog Try.f5 false true false false) := by
  refine returnsInHanded_of_change_sized (C := Try.checked) own started (by kernel_rfl) Try.func5
    (ChangeSpec.witness6 (enc := enc) (C := Try.checked) false ⟨#[], #[.agg #[.int .i64 0, .int .i64 0, .int .i64 0], .slice none 0 0, .slice none 0 0], []⟩ 8 (by kernel_rfl) (by kernel_rfl) (by kernel_rfl) (by kernel_rfl)) ?_
  intro W base args ds gs before hval hW _ hz _
  exact law_calls (ts := [49, 23, 23]) laid okChunkLists rfl rfl Try.underlying4
    (openAll_cons (opensK_agg agg49 (opens_array Try.underlying49 cells49 (by kernel_rfl) (opensL_cons (opens_int Try.underlying3 cells3) (opensL_cons (opens_int Try.underlying3 cells3) (opensL_one (opens_int Try.underlying3 cells3)))))) (openAll_cons (opensK_slice Try.underlying23 cells23 (opens_struct Try.underlying85 cells85 (by kernel_rfl) (opensL_cons (opens_int Try.underlying3 cells3) (opensL_one (opens_int Try.underlying3 cells3)))) (by decide) (of_decide_eq_true (by kernel_rfl))) (openAll_cons (opensK_slice Try.underlying23 cells23 (opens_struct Try.underlying85 cells85 (by kernel_rfl) (opensL_cons (opens_int Try.underlying3 cells3) (opensL_one (opens_int Try.underlying3 cells3)))) (by decide) (of_decide_eq_true (by kernel_rfl))) openAll_nil))) (by kernel_rfl)
    (pre_f3 (fun _ _ _ h _ _ => ⟨⟨h.1, h.2.1, h.2.2⟩, rfl⟩)) rfl (fun ds h => by match ds, h with | [_, _, _], _ => exact ⟨rfl, rfl, rfl⟩) W base args ds gs before hval hW hz
theorem over : Rows.chunkListsRow.holds Try.pinned (OpenSpec.ofChange Rows.chunkListsSpec) :=
  OpenClaim.holds_of_wide 5 Try.f5 rfl rfl rfl rfl rfl rfl rfl ⟨rfl, rfl, rfl, rfl, rfl⟩ rfl rfl rfl rfl rfl (by kernel_rfl) Try.func5 (by kernel_rfl)
    (of_decide_eq_true (by kernel_rfl)) (by unfold Func.isWrapper; first | (rw [if_pos (by decide +kernel)]; kernel_rfl) | (rw [if_neg (by decide +kernel)]; exact ⟨rfl, rfl⟩))
    (fun os started H enc _ => lifted os started H enc)
end Go.Proofs.Ytpbccamaipekjaa.ChunkLists
namespace Go.Proofs.Ytpbccamaipekjaa
/-- Of all numbers and Pairs: the chunks are told, or that they do not fit; all Spans of a list are it; the other way round they are Turned. No conditions. -/
theorem chunkLists_holds : Rows.ChunkListsSaid := ChunkLists.over
end Go.Proofs.Ytpbccamaipekjaa
#print axioms Go.Proofs.Ytpbccamaipekjaa.chunkLists_holds
