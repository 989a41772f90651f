/-
  'TrimTextsSaid': of whatever two lists of texts, how many are the same at the beginning and then at the end is told as the document tells it; no condition.
-/
import Derived.Test.YtainopabnnglgaaTrimT
import Derived.Test.YtainopabnnglgaaAxh
import Derived.Test.YtainopabnnglgaaRows
set_option linter.unusedVariables false
set_option maxRecDepth 100000
namespace Go.Proofs.Ytainopabnnglgaa.trimTexts
open Go Go.ChangeShapes Go.WideShapes Go.ChangeAt Go.RowKit

theorem own : ownKnob Try.prog.godebug = none := by kernel_rfl
theorem laid : laidOutB Try.prog = true := by kernel_rfl
theorem lifted (os : Os) (started : os.Started) (H : Type) (enc : TypeId × Value → H) :
    ReturnsInHanded {} Try.checked os 4 .any (Rows.trimTextsSpec.pre6 enc Try.prog Try.f4 Rows.trimTextsRow.domain false) (Rows.trimTextsSpec.post enc Try.prog Try.f4 false true false false) := by
  refine returnsInHanded_of_change (C := Try.checked) own started (by kernel_rfl) Try.func4
    (ChangeSpec.witness6 (enc := enc) (C := Try.checked) false ⟨#[], #[.slice none 0 0, .slice none 0 0], []⟩ 8 (by kernel_rfl) (by kernel_rfl) (by kernel_rfl) (by kernel_rfl)) ?_
  intro W base args ds gs before hval hW _ _
  exact law_calls (ts := [27, 27]) laid okTrimTexts rfl rfl Try.underlying4
    (openAll_cons (opensK_slice Try.underlying27 cells27 (opens_string Try.underlying9 cells9) (by decide)) (openAll_cons (opensK_slice Try.underlying27 cells27 (opens_string Try.underlying9 cells9) (by decide)) openAll_nil)) (by kernel_rfl)
    (pre_f2 (fun _ _ _ _ => ⟨trivial, rfl⟩)) rfl (fun ds h => by match ds, h with | [_, _], _ => exact ⟨rfl, rfl, rfl⟩) W base args ds gs before hval hW
theorem over : Rows.trimTextsRow.holds Try.pinned (OpenSpec.ofChange Rows.trimTextsSpec) :=
  OpenClaim.holds_of_wide 4 Try.f4 rfl rfl rfl rfl rfl rfl rfl ⟨rfl, rfl, rfl, rfl, rfl⟩ rfl rfl rfl rfl rfl (by kernel_rfl) Try.func4 (by kernel_rfl)
    (of_decide_eq_true (by kernel_rfl)) (by unfold Func.isWrapper; first | (rw [if_pos (by decide +kernel)]; kernel_rfl) | (rw [if_neg (by decide +kernel)]; exact ⟨rfl, rfl⟩))
    (fun os started H enc _ => lifted os started H enc)
end Go.Proofs.Ytainopabnnglgaa.trimTexts
namespace Go.Proofs.Ytainopabnnglgaa
/-- 'TrimTextsSaid': of whatever two lists of texts, how many are the same at the beginning and then at the end is told as the document tells it; no condition. -/
theorem trimTexts_holds : Rows.TrimTextsSaid := trimTexts.over
end Go.Proofs.Ytainopabnnglgaa
#print axioms Go.Proofs.Ytainopabnnglgaa.trimTexts_holds
