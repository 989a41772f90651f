/-
  Of all two lists it is told what they begin with, and end with: for every two lists that the row's reach allows.
-/
import Derived.Test.YtnhfobhdbablaaaMb4
import Derived.Test.YtnhfobhdbablaaaRows
set_option linter.unusedVariables false
set_option maxRecDepth 100000
namespace Go.Proofs.Ytnhfobhdbablaaa.BuildHoists
open Go Go.ChangeShapes Go.WideShapes Go.ChangeAt Go.RowKit

theorem own : ownKnob Try.prog.godebug = none := by kernel_rfl
theorem laid : laidOutB Try.prog = true := by kernel_rfl
theorem lifted (os : Os) (started : os.Started) (H : Type) (enc : TypeId × Value → H) :
    ReturnsInHanded {} Try.checked os 5 .any (Rows.buildHoistsSpec.pre6 enc Try.prog Try.f5 Rows.buildHoistsRow.domain false) (Rows.buildHoistsSpec.post enc Try.prog Try.f5 false true false false) := by
  refine returnsInHanded_of_change_sized (C := Try.checked) own started (by kernel_rfl) Try.func5
    (ChangeSpec.witness6 (enc := enc) (C := Try.checked) false ⟨#[], #[.slice none 0 0, .slice none 0 0], []⟩ 8 (by kernel_rfl) (by kernel_rfl) (by kernel_rfl) (by kernel_rfl)) ?_
  intro W base args ds gs before hval hW _ hz _
  exact law_calls (ts := [28, 28]) laid okBuildHoists rfl rfl Try.underlying4
    (openAll_cons (opensK_slice Try.underlying28 cells28 (opens_string Try.underlying9 cells9) (by decide) (of_decide_eq_true (by kernel_rfl))) (openAll_cons (opensK_slice Try.underlying28 cells28 (opens_string Try.underlying9 cells9) (by decide) (of_decide_eq_true (by kernel_rfl))) openAll_nil)) (by kernel_rfl)
    (pre_f2 (fun _ _ _ _ => ⟨trivial, rfl⟩)) rfl (fun ds h => by match ds, h with | [_, _], _ => exact ⟨rfl, rfl, rfl⟩) W base args ds gs before hval hW hz
theorem over : Rows.buildHoistsRow.holds Try.pinned (OpenSpec.ofChange Rows.buildHoistsSpec) :=
  OpenClaim.holds_of_wide 5 Try.f5 rfl rfl rfl rfl rfl rfl rfl ⟨rfl, rfl, rfl, rfl, rfl⟩ rfl rfl rfl rfl rfl (by kernel_rfl) Try.func5 (by kernel_rfl)
    (of_decide_eq_true (by kernel_rfl)) (by unfold Func.isWrapper; first | (rw [if_pos (by decide +kernel)]; kernel_rfl) | (rw [if_neg (by decide +kernel)]; exact ⟨rfl, rfl⟩))
    (fun os started H enc _ => lifted os started H enc)
end Go.Proofs.Ytnhfobhdbablaaa.BuildHoists
namespace Go.Proofs.Ytnhfobhdbablaaa
/-- Of all two lists it is told what they begin with, and end with: for every two lists that the row's reach allows. -/
theorem buildHoists_holds : Rows.BuildHoistsSaid := BuildHoists.over
end Go.Proofs.Ytnhfobhdbablaaa
#print axioms Go.Proofs.Ytnhfobhdbablaaa.buildHoists_holds
