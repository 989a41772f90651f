/-
  Of all lists and pairs it is told whether they are a matching.
-/
import Derived.Test.YtainopabnnglgaaLcsT
import Derived.Test.YtainopabnnglgaaAxh
import Derived.Test.YtainopabnnglgaaRows
set_option linter.unusedVariables false
set_option maxRecDepth 100000
namespace Go.Proofs.Ytainopabnnglgaa.LcsRights
open Go Go.ChangeShapes Go.WideShapes Go.ChangeAt Go.RowKit

theorem own : ownKnob Try.prog.godebug = none := by kernel_rfl
theorem laid : laidOutB Try.prog = true := by kernel_rfl
theorem lifted (os : Os) (started : os.Started) (H : Type) (enc : TypeId × Value → H) :
    ReturnsInHanded {} Try.checked os 6 .any (Rows.lcsRightsSpec.pre6 enc Try.prog Try.f6 Rows.lcsRightsRow.domain false) (Rows.lcsRightsSpec.post enc Try.prog Try.f6 false true false false) := by
  refine returnsInHanded_of_change (C := Try.checked) own started (by kernel_rfl) Try.func6
    (ChangeSpec.witness6 (enc := enc) (C := Try.checked) false ⟨#[], #[.slice none 0 0, .slice none 0 0, .slice none 0 0], []⟩ 8 (by kernel_rfl) (by kernel_rfl) (by kernel_rfl) (by kernel_rfl)) ?_
  intro W base args ds gs before hval hW _ _
  exact law_calls (ts := [22, 22, 30]) laid okLcsRights rfl rfl Try.underlying4
    (openAll_cons (opensK_slice Try.underlying22 cells22 (opens_int Try.underlying3 cells3) (by decide)) (openAll_cons (opensK_slice Try.underlying22 cells22 (opens_int Try.underlying3 cells3) (by decide)) (openAll_cons (opensK_slice Try.underlying30 cells30 (opens_struct Try.underlying37 cells37 (by kernel_rfl) (opensL_cons (opens_int Try.underlying3 cells3) (opensL_one (opens_int Try.underlying3 cells3)))) (by decide)) openAll_nil))) (by kernel_rfl)
    (pre_f3 (fun _ _ _ _ _ _ => ⟨trivial, rfl⟩)) rfl (fun ds h => by match ds, h with | [_, _, _], _ => exact ⟨rfl, rfl, rfl⟩) W base args ds gs before hval hW
theorem over : Rows.lcsRightsRow.holds Try.pinned (OpenSpec.ofChange Rows.lcsRightsSpec) :=
  OpenClaim.holds_of_wide 6 Try.f6 rfl rfl rfl rfl rfl rfl rfl ⟨rfl, rfl, rfl, rfl, rfl⟩ rfl rfl rfl rfl rfl (by kernel_rfl) Try.func6 (by kernel_rfl)
    (of_decide_eq_true (by kernel_rfl)) (by unfold Func.isWrapper; first | (rw [if_pos (by decide +kernel)]; kernel_rfl) | (rw [if_neg (by decide +kernel)]; exact ⟨rfl, rfl⟩))
    (fun os started H enc _ => lifted os started H enc)
end Go.Proofs.Ytainopabnnglgaa.LcsRights
namespace Go.Proofs.Ytainopabnnglgaa
/-- Of all lists and pairs it is told whether they are a matching. -/
theorem lcsRights_holds : Rows.LcsRightsSaid := LcsRights.over
end Go.Proofs.Ytainopabnnglgaa
#print axioms Go.Proofs.Ytainopabnnglgaa.lcsRights_holds
