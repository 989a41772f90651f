/-
  The other way round as many are matched; by way of a third list no fewer are left without a pair.
-/
import Derived.Test.YtainopabnnglgaaLcsT
import Derived.Test.YtainopabnnglgaaAxh
import Derived.Test.YtainopabnnglgaaRows
set_option linter.unusedVariables false
set_option maxRecDepth 100000
namespace Go.Proofs.Ytainopabnnglgaa.LcsTurns
open Go Go.ChangeShapes Go.WideShapes Go.ChangeAt Go.RowKit

theorem own : ownKnob Try.prog.godebug = none := by kernel_rfl
theorem laid : laidOutB Try.prog = true := by kernel_rfl
theorem lifted (os : Os) (started : os.Started) (H : Type) (enc : TypeId × Value → H) :
    ReturnsInHanded {} Try.checked os 8 .any (Rows.lcsTurnsSpec.pre6 enc Try.prog Try.f8 Rows.lcsTurnsRow.domain false) (Rows.lcsTurnsSpec.post enc Try.prog Try.f8 false true false false) := by
  refine returnsInHanded_of_change (C := Try.checked) own started (by kernel_rfl) Try.func8
    (ChangeSpec.witness6 (enc := enc) (C := Try.checked) false ⟨#[], #[.slice none 0 0, .slice none 0 0, .slice none 0 0], []⟩ 8 (by kernel_rfl) (by kernel_rfl) (by kernel_rfl) (by kernel_rfl)) ?_
  intro W base args ds gs before hval hW _ _
  exact law_calls (ts := [22, 22, 22]) laid okLcsTurns rfl rfl Try.underlying4
    (openAll_cons (opensK_slice Try.underlying22 cells22 (opens_int Try.underlying3 cells3) (by decide)) (openAll_cons (opensK_slice Try.underlying22 cells22 (opens_int Try.underlying3 cells3) (by decide)) (openAll_cons (opensK_slice Try.underlying22 cells22 (opens_int Try.underlying3 cells3) (by decide)) openAll_nil))) (by kernel_rfl)
    (pre_f3 (fun _ _ _ _ _ _ => ⟨trivial, rfl⟩)) rfl (fun ds h => by match ds, h with | [_, _, _], _ => exact ⟨rfl, rfl, rfl⟩) W base args ds gs before hval hW
theorem over : Rows.lcsTurnsRow.holds Try.pinned (OpenSpec.ofChange Rows.lcsTurnsSpec) :=
  OpenClaim.holds_of_wide 8 Try.f8 rfl rfl rfl rfl rfl rfl rfl ⟨rfl, rfl, rfl, rfl, rfl⟩ rfl rfl rfl rfl rfl (by kernel_rfl) Try.func8 (by kernel_rfl)
    (of_decide_eq_true (by kernel_rfl)) (by unfold Func.isWrapper; first | (rw [if_pos (by decide +kernel)]; kernel_rfl) | (rw [if_neg (by decide +kernel)]; exact ⟨rfl, rfl⟩))
    (fun os started H enc _ => lifted os started H enc)
end Go.Proofs.Ytainopabnnglgaa.LcsTurns
namespace Go.Proofs.Ytainopabnnglgaa
/-- The other way round as many are matched; by way of a third list no fewer are left without a pair. -/
theorem lcsTurns_holds : Rows.LcsTurnsSaid := LcsTurns.over
end Go.Proofs.Ytainopabnnglgaa
#print axioms Go.Proofs.Ytainopabnnglgaa.lcsTurns_holds
