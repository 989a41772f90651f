/-
  Of all chunks and lists: the class is told; turned the other way round it is the other one's; what a Span cuts. No conditions.
-/
import Derived.Test.YtpbccamaipekjaaChunkT
import Derived.Test.YtpbccamaipekjaaAxh
import Derived.Test.YtpbccamaipekjaaRows
set_option linter.unusedVariables false
set_option maxRecDepth 100000
namespace Go.Proofs.Ytpbccamaipekjaa.ChunkClasses
open Go Go.ChangeShapes Go.WideShapes Go.ChangeAt Go.RowKit

theorem own : ownKnob Try.prog.godebug = none := by kernel_rfl
theorem laid : laidOutB Try.prog = true := by kernel_rfl
theorem lifted (os : Os) (started : os.Started) (H : Type) (enc : TypeId × Value → H) :
    ReturnsInHanded {} Try.checked os 6 .any (Rows.chunkClassesSpec.pre6 enc Try.prog Try.f6 Rows.chunkClassesRow.domain false) (Rows.chunkClassesSpec.post enc Try.prog Try.f6 false true false false) := by
  refine returnsInHanded_of_change_sized (C := Try.checked) own started (by kernel_rfl) Try.func6
    (ChangeSpec.witness6 (enc := enc) (C := Try.checked) false ⟨#[], #[.agg #[.bool false, .int .i64 0, .int .i64 0, .int .i64 0, .int .i64 0, .int .i64 0, .int .i64 0], .agg #[.slice none 0 0, .slice none 0 0, .slice none 0 0], .agg #[.int .i64 0, .int .i64 0]], []⟩ 8 (by kernel_rfl) (by kernel_rfl) (by kernel_rfl) (by kernel_rfl)) ?_
  intro W base args ds gs before hval hW _ hz _
  exact law_calls (ts := [65, 70, 63]) laid okChunkClasses rfl rfl Try.underlying4
    (openAll_cons (opensK_agg agg65 (opens_struct Try.underlying65 cells65 (by kernel_rfl) (opensL_cons (opens_bool Try.underlying4 cells4) (opensL_cons (opens_struct Try.underlying63 cells63 (by kernel_rfl) (opensL_cons (opens_int Try.underlying3 cells3) (opensL_one (opens_int Try.underlying3 cells3)))) (opensL_cons (opens_struct Try.underlying63 cells63 (by kernel_rfl) (opensL_cons (opens_int Try.underlying3 cells3) (opensL_one (opens_int Try.underlying3 cells3)))) (opensL_one (opens_struct Try.underlying63 cells63 (by kernel_rfl) (opensL_cons (opens_int Try.underlying3 cells3) (opensL_one (opens_int Try.underlying3 cells3)))))))))) (openAll_cons (opensK_agg agg70 (opens_array Try.underlying70 cells70 (by kernel_rfl) (opensL_cons (opens_slice Try.underlying22 cells22 (opens_string Try.underlying9 cells9) (by decide) (of_decide_eq_true (by kernel_rfl))) (opensL_cons (opens_slice Try.underlying22 cells22 (opens_string Try.underlying9 cells9) (by decide) (of_decide_eq_true (by kernel_rfl))) (opensL_one (opens_slice Try.underlying22 cells22 (opens_string Try.underlying9 cells9) (by decide) (of_decide_eq_true (by kernel_rfl)))))))) (openAll_cons (opensK_agg agg63 (opens_struct Try.underlying63 cells63 (by kernel_rfl) (opensL_cons (opens_int Try.underlying3 cells3) (opensL_one (opens_int Try.underlying3 cells3))))) openAll_nil))) (by kernel_rfl)
    (pre_f3 (fun _ _ _ _ _ h => ⟨⟨h.1, h.2⟩, rfl⟩)) rfl (fun ds h => by match ds, h with | [_, _, _], _ => exact ⟨rfl, rfl, rfl⟩) W base args ds gs before hval hW hz
theorem over : Rows.chunkClassesRow.holds Try.pinned (OpenSpec.ofChange Rows.chunkClassesSpec) :=
  OpenClaim.holds_of_wide 6 Try.f6 rfl rfl rfl rfl rfl rfl rfl ⟨rfl, rfl, rfl, rfl, rfl⟩ rfl rfl rfl rfl rfl (by kernel_rfl) Try.func6 (by kernel_rfl)
    (of_decide_eq_true (by kernel_rfl)) (by unfold Func.isWrapper; first | (rw [if_pos (by decide +kernel)]; kernel_rfl) | (rw [if_neg (by decide +kernel)]; exact ⟨rfl, rfl⟩))
    (fun os started H enc _ => lifted os started H enc)
end Go.Proofs.Ytpbccamaipekjaa.ChunkClasses
namespace Go.Proofs.Ytpbccamaipekjaa
/-- Of all chunks and lists: the class is told; turned the other way round it is the other one's; what a Span cuts. No conditions. -/
theorem chunkClasses_holds : Rows.ChunkClassesSaid := ChunkClasses.over
end Go.Proofs.Ytpbccamaipekjaa
#print axioms Go.Proofs.Ytpbccamaipekjaa.chunkClasses_holds
