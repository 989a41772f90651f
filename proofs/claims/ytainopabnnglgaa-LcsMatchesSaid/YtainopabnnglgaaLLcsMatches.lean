/-
  Of all two lists a longest matching is told, and how many are left; what is handed in stays, and asked again it is the same.
-/
import Derived.Test.YtainopabnnglgaaLcsT
import Derived.Test.YtainopabnnglgaaAxh
import Derived.Test.YtainopabnnglgaaRows
set_option linter.unusedVariables false
set_option maxRecDepth 100000
namespace Go.Proofs.Ytainopabnnglgaa.LcsMatches
open Go Go.ChangeShapes Go.WideShapes Go.ChangeAt Go.RowKit

theorem own : ownKnob Try.prog.godebug = none := by kernel_rfl
theorem laid : laidOutB Try.prog = true := by kernel_rfl
theorem lifted (os : Os) (started : os.Started) (H : Type) (enc : TypeId × Value → H) :
    ReturnsInHanded {} Try.checked os 5 .any (Rows.lcsMatchesSpec.pre6 enc Try.prog Try.f5 Rows.lcsMatchesRow.domain false) (Rows.lcsMatchesSpec.post enc Try.prog Try.f5 false true false false) := by
  refine returnsInHanded_of_change (C := Try.checked) own started (by kernel_rfl) Try.func5
    (ChangeSpec.witness6 (enc := enc) (C := Try.checked) false ⟨#[], #[.slice none 0 0, .slice none 0 0], []⟩ 8 (by kernel_rfl) (by kernel_rfl) (by kernel_rfl) (by kernel_rfl)) ?_
  intro W base args ds gs before hval hW _ _
  exact law_calls (ts := [22, 22]) laid okLcsMatches rfl rfl Try.underlying4
    (openAll_cons (opensK_slice Try.underlying22 cells22 (opens_int Try.underlying3 cells3) (by decide)) (openAll_cons (opensK_slice Try.underlying22 cells22 (opens_int Try.underlying3 cells3) (by decide)) openAll_nil)) (by kernel_rfl)
    (pre_f2 (fun _ _ _ _ => ⟨trivial, rfl⟩)) rfl (fun ds h => by match ds, h with | [_, _], _ => exact ⟨rfl, rfl, rfl⟩) W base args ds gs before hval hW
theorem over : Rows.lcsMatchesRow.holds Try.pinned (OpenSpec.ofChange Rows.lcsMatchesSpec) :=
  OpenClaim.holds_of_wide 5 Try.f5 rfl rfl rfl rfl rfl rfl rfl ⟨rfl, rfl, rfl, rfl, rfl⟩ rfl rfl rfl rfl rfl (by kernel_rfl) Try.func5 (by kernel_rfl)
    (of_decide_eq_true (by kernel_rfl)) (by unfold Func.isWrapper; first | (rw [if_pos (by decide +kernel)]; kernel_rfl) | (rw [if_neg (by decide +kernel)]; exact ⟨rfl, rfl⟩))
    (fun os started H enc _ => lifted os started H enc)
end Go.Proofs.Ytainopabnnglgaa.LcsMatches
namespace Go.Proofs.Ytainopabnnglgaa
/-- Of all two lists a longest matching is told, and how many are left; what is handed in stays, and asked again it is the same. -/
theorem lcsMatches_holds : Rows.LcsMatchesSaid := LcsMatches.over
end Go.Proofs.Ytainopabnnglgaa
#print axioms Go.Proofs.Ytainopabnnglgaa.lcsMatches_holds
