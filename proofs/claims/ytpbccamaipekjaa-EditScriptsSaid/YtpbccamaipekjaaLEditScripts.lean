/-
  Of all two lists and all pairs: the script is told as the document has it, or that they are no matching; it leads there, and back. No conditions.
-/
import Derived.Test.YtpbccamaipekjaaEditQ
import Derived.Test.YtpbccamaipekjaaAxh
import Derived.Test.YtpbccamaipekjaaRows
set_option linter.unusedVariables false
set_option maxRecDepth 100000
namespace Go.Proofs.Ytpbccamaipekjaa.EditScripts
open Go Go.ChangeShapes Go.WideShapes Go.ChangeAt Go.RowKit

theorem own : ownKnob Try.prog.godebug = none := by kernel_rfl
theorem laid : laidOutB Try.prog = true := by kernel_rfl
theorem lifted (os : Os) (started : os.Started) (H : Type) (enc : TypeId × Value → H) :
    ReturnsInHanded {} Try.checked os 3 .any (Rows.editScriptsSpec.pre6 enc Try.prog Try.f3 Rows.editScriptsRow.domain false) (Rows.editScriptsSpec.post enc Try.prog Try.f3 false true false false) := by
  refine returnsInHanded_of_change (C := Try.checked) own started (by kernel_rfl) Try.func3
    (ChangeSpec.witness6 (enc := enc) (C := Try.checked) false ⟨#[], #[.slice none 0 0, .slice none 0 0, .slice none 0 0], []⟩ 8 (by kernel_rfl) (by kernel_rfl) (by kernel_rfl) (by kernel_rfl)) ?_
  intro W base args ds gs before hval hW _ _
  exact law_calls (ts := [22, 22, 23]) laid okEditScripts rfl rfl Try.underlying4
    (openAll_cons (opensK_slice Try.underlying22 cells22 (opens_string Try.underlying9 cells9) (by decide)) (openAll_cons (opensK_slice Try.underlying22 cells22 (opens_string Try.underlying9 cells9) (by decide)) (openAll_cons (opensK_slice Try.underlying23 cells23 (opens_struct Try.underlying85 cells85 (by kernel_rfl) (opensL_cons (opens_int Try.underlying3 cells3) (opensL_one (opens_int Try.underlying3 cells3)))) (by decide)) openAll_nil))) (by kernel_rfl)
    (pre_f3 (fun _ _ _ _ _ _ => ⟨trivial, rfl⟩)) rfl (fun ds h => by match ds, h with | [_, _, _], _ => exact ⟨rfl, rfl, rfl⟩) W base args ds gs before hval hW
theorem over : Rows.editScriptsRow.holds Try.pinned (OpenSpec.ofChange Rows.editScriptsSpec) :=
  OpenClaim.holds_of_wide 3 Try.f3 rfl rfl rfl rfl rfl rfl rfl ⟨rfl, rfl, rfl, rfl, rfl⟩ rfl rfl rfl rfl rfl (by kernel_rfl) Try.func3 (by kernel_rfl)
    (of_decide_eq_true (by kernel_rfl)) (by unfold Func.isWrapper; first | (rw [if_pos (by decide +kernel)]; kernel_rfl) | (rw [if_neg (by decide +kernel)]; exact ⟨rfl, rfl⟩))
    (fun os started H enc _ => lifted os started H enc)
end Go.Proofs.Ytpbccamaipekjaa.EditScripts
namespace Go.Proofs.Ytpbccamaipekjaa
/-- Of all two lists and all pairs: the script is told as the document has it, or that they are no matching; it leads there, and back. No conditions. -/
theorem editScripts_holds : Rows.EditScriptsSaid := EditScripts.over
end Go.Proofs.Ytpbccamaipekjaa
#print axioms Go.Proofs.Ytpbccamaipekjaa.editScripts_holds
