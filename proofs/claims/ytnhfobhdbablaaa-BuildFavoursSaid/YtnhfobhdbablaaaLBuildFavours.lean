/-
  With one side favoured there is no conflict, and if all chunks but stable ones are conflicts, the Doc is that text: for every three texts that the row's reach allows.
-/
import Derived.Test.YtnhfobhdbablaaaMb4
import Derived.Test.YtnhfobhdbablaaaRows
set_option linter.unusedVariables false
set_option maxRecDepth 100000
namespace Go.Proofs.Ytnhfobhdbablaaa.BuildFavours
open Go Go.ChangeShapes Go.WideShapes Go.ChangeAt Go.RowKit

theorem own : ownKnob Try.prog.godebug = none := by kernel_rfl
theorem laid : laidOutB Try.prog = true := by kernel_rfl
theorem lifted (os : Os) (started : os.Started) (H : Type) (enc : TypeId × Value → H) :
    ReturnsInHanded {} Try.checked os 4 .any (Rows.buildFavoursSpec.pre6 enc Try.prog Try.f4 Rows.buildFavoursRow.domain false) (Rows.buildFavoursSpec.post enc Try.prog Try.f4 false true false false) := by
  refine returnsInHanded_of_change_sized (C := Try.checked) own started (by kernel_rfl) Try.func4
    (ChangeSpec.witness6 (enc := enc) (C := Try.checked) false ⟨#[], #[.agg #[.string ⟨#[]⟩, .string ⟨#[]⟩, .string ⟨#[]⟩], .bool false], []⟩ 8 (by kernel_rfl) (by kernel_rfl) (by kernel_rfl) (by kernel_rfl)) ?_
  intro W base args ds gs before hval hW _ hz _
  exact law_calls (ts := [22, 4]) laid okBuildFavours rfl rfl Try.underlying4
    (openAll_cons (opensK_agg agg22 (opens_array Try.underlying22 cells22 (by kernel_rfl) (opensL_cons (opens_string Try.underlying9 cells9) (opensL_cons (opens_string Try.underlying9 cells9) (opensL_one (opens_string Try.underlying9 cells9)))))) (openAll_cons (opensK_bool Try.underlying4 cells4) openAll_nil)) (by kernel_rfl)
    (pre_f2 (fun _ _ _ _ => ⟨trivial, rfl⟩)) rfl (fun ds h => by match ds, h with | [_, _], _ => exact ⟨rfl, rfl, rfl⟩) W base args ds gs before hval hW hz
theorem over : Rows.buildFavoursRow.holds Try.pinned (OpenSpec.ofChange Rows.buildFavoursSpec) :=
  OpenClaim.holds_of_wide 4 Try.f4 rfl rfl rfl rfl rfl rfl rfl ⟨rfl, rfl, rfl, rfl, rfl⟩ rfl rfl rfl rfl rfl (by kernel_rfl) Try.func4 (by kernel_rfl)
    (of_decide_eq_true (by kernel_rfl)) (by unfold Func.isWrapper; first | (rw [if_pos (by decide +kernel)]; kernel_rfl) | (rw [if_neg (by decide +kernel)]; exact ⟨rfl, rfl⟩))
    (fun os started H enc _ => lifted os started H enc)
end Go.Proofs.Ytnhfobhdbablaaa.BuildFavours
namespace Go.Proofs.Ytnhfobhdbablaaa
/-- With one side favoured there is no conflict, and if all chunks but stable ones are conflicts, the Doc is that text: for every three texts that the row's reach allows. -/
theorem buildFavours_holds : Rows.BuildFavoursSaid := BuildFavours.over
end Go.Proofs.Ytnhfobhdbablaaa
#print axioms Go.Proofs.Ytnhfobhdbablaaa.buildFavours_holds
