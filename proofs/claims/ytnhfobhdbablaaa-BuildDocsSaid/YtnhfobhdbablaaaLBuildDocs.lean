/-
  Of all three texts, styles, labels and sides the Doc is told, or what may not be, it may be printed, and has as many conflicts as are told: for every input that the row's reach allows.
-/
import Derived.Test.YtnhfobhdbablaaaMb4
import Derived.Test.YtnhfobhdbablaaaRows
set_option linter.unusedVariables false
set_option maxRecDepth 100000
namespace Go.Proofs.Ytnhfobhdbablaaa.BuildDocs
open Go Go.ChangeShapes Go.WideShapes Go.ChangeAt Go.RowKit

theorem own : ownKnob Try.prog.godebug = none := by kernel_rfl
theorem laid : laidOutB Try.prog = true := by kernel_rfl
theorem lifted (os : Os) (started : os.Started) (H : Type) (enc : TypeId × Value → H) :
    ReturnsInHanded {} Try.checked os 3 .any (Rows.buildDocsSpec.pre6 enc Try.prog Try.f3 Rows.buildDocsRow.domain false) (Rows.buildDocsSpec.post enc Try.prog Try.f3 false true false false) := by
  refine returnsInHanded_of_change_sized (C := Try.checked) own started (by kernel_rfl) Try.func3
    (ChangeSpec.witness6 (enc := enc) (C := Try.checked) false ⟨#[], #[.agg #[.string ⟨#[]⟩, .string ⟨#[]⟩, .string ⟨#[]⟩], .int .i64 0, .agg #[.string ⟨#[]⟩, .string ⟨#[]⟩, .string ⟨#[]⟩, .bool false, .string ⟨#[]⟩, .string ⟨#[]⟩, .string ⟨#[]⟩, .string ⟨#[]⟩, .bool false]], []⟩ 8 (by kernel_rfl) (by kernel_rfl) (by kernel_rfl) (by kernel_rfl)) ?_
  intro W base args ds gs before hval hW _ hz _
  exact law_calls (ts := [22, 3, 24]) laid okBuildDocs rfl rfl Try.underlying4
    (openAll_cons (opensK_agg agg22 (opens_array Try.underlying22 cells22 (by kernel_rfl) (opensL_cons (opens_string Try.underlying9 cells9) (opensL_cons (opens_string Try.underlying9 cells9) (opensL_one (opens_string Try.underlying9 cells9)))))) (openAll_cons (opensK_int Try.underlying3 cells3) (openAll_cons (opensK_agg agg24 (opens_struct Try.underlying24 cells24 (by kernel_rfl) (opensL_cons (opens_string Try.underlying9 cells9) (opensL_cons (opens_string Try.underlying9 cells9) (opensL_cons (opens_string Try.underlying9 cells9) (opensL_cons (opens_bool Try.underlying4 cells4) (opensL_cons (opens_string Try.underlying9 cells9) (opensL_cons (opens_string Try.underlying9 cells9) (opensL_cons (opens_string Try.underlying9 cells9) (opensL_cons (opens_string Try.underlying9 cells9) (opensL_one (opens_bool Try.underlying4 cells4)))))))))))) openAll_nil))) (by kernel_rfl)
    (pre_f3 (fun _ _ _ _ _ q => ⟨⟨⟨q.1, q.2.1, q.2.2.1⟩, q.2.2.2.2.1, q.2.2.2.2.2.1, q.2.2.2.2.2.2.1, q.2.2.2.2.2.2.2.1⟩, rfl⟩)) rfl (fun ds h => by match ds, h with | [_, _, _], _ => exact ⟨rfl, rfl, rfl⟩) W base args ds gs before hval hW hz
theorem over : Rows.buildDocsRow.holds Try.pinned (OpenSpec.ofChange Rows.buildDocsSpec) :=
  OpenClaim.holds_of_wide 3 Try.f3 rfl rfl rfl rfl rfl rfl rfl ⟨rfl, rfl, rfl, rfl, rfl⟩ rfl rfl rfl rfl rfl (by kernel_rfl) Try.func3 (by kernel_rfl)
    (of_decide_eq_true (by kernel_rfl)) (by unfold Func.isWrapper; first | (rw [if_pos (by decide +kernel)]; kernel_rfl) | (rw [if_neg (by decide +kernel)]; exact ⟨rfl, rfl⟩))
    (fun os started H enc _ => lifted os started H enc)
end Go.Proofs.Ytnhfobhdbablaaa.BuildDocs
namespace Go.Proofs.Ytnhfobhdbablaaa
/-- Of all three texts, styles, labels and sides the Doc is told, or what may not be, it may be printed, and has as many conflicts as are told: for every input that the row's reach allows. -/
theorem buildDocs_holds : Rows.BuildDocsSaid := BuildDocs.over
end Go.Proofs.Ytnhfobhdbablaaa
#print axioms Go.Proofs.Ytnhfobhdbablaaa.buildDocs_holds
