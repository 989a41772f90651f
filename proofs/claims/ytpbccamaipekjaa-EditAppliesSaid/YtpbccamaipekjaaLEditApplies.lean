/-
  Of all scripts that may be, and lists: what becomes of them is told, or that it does not fit; the way back. No conditions.
-/
import Derived.Test.YtpbccamaipekjaaEditQ
import Derived.Test.YtpbccamaipekjaaAxh
import Derived.Test.YtpbccamaipekjaaRows
set_option linter.unusedVariables false
set_option maxRecDepth 100000
namespace Go.Proofs.Ytpbccamaipekjaa.EditApplies
open Go Go.ChangeShapes Go.WideShapes Go.ChangeAt Go.RowKit

theorem own : ownKnob Try.prog.godebug = none := by kernel_rfl
theorem laid : laidOutB Try.prog = true := by kernel_rfl
theorem lifted (os : Os) (started : os.Started) (H : Type) (enc : TypeId × Value → H) :
    ReturnsInHanded {} Try.checked os 4 .any (Rows.editAppliesSpec.pre6 enc Try.prog Try.f4 Rows.editAppliesRow.domain false) (Rows.editAppliesSpec.post enc Try.prog Try.f4 false true false false) := by
  refine returnsInHanded_of_change_sized (C := Try.checked) own started (by kernel_rfl) Try.func4
    (ChangeSpec.witness6 (enc := enc) (C := Try.checked) false ⟨#[], #[.slice none 0 0, .slice none 0 0, .bool false], []⟩ 8 (by kernel_rfl) (by kernel_rfl) (by kernel_rfl) (by kernel_rfl)) ?_
  intro W base args ds gs before hval hW _ hz _
  exact law_calls (ts := [30, 22, 4]) laid okEditApplies rfl rfl Try.underlying4
    (openAll_cons (opensK_slice Try.underlying30 cells30 (opens_struct Try.underlying92 cells92 (by kernel_rfl) (opensL_cons (opens_int Try.underlying3 cells3) (opensL_one (opens_slice Try.underlying22 cells22 (opens_string Try.underlying9 cells9) (by decide) (of_decide_eq_true (by kernel_rfl)))))) (by decide) (of_decide_eq_true (by kernel_rfl))) (openAll_cons (opensK_slice Try.underlying22 cells22 (opens_string Try.underlying9 cells9) (by decide) (of_decide_eq_true (by kernel_rfl))) (openAll_cons (opensK_bool Try.underlying4 cells4) openAll_nil))) (by kernel_rfl)
    (pre_f3 (fun _ _ _ h _ _ => ⟨⟨h.1, fun s hs => (h.2 s hs).2.1⟩, rfl⟩)) rfl (fun ds h => by match ds, h with | [_, _, _], _ => exact ⟨rfl, rfl, rfl⟩) W base args ds gs before hval hW hz
theorem over : Rows.editAppliesRow.holds Try.pinned (OpenSpec.ofChange Rows.editAppliesSpec) :=
  OpenClaim.holds_of_wide 4 Try.f4 rfl rfl rfl rfl rfl rfl rfl ⟨rfl, rfl, rfl, rfl, rfl⟩ rfl rfl rfl rfl rfl (by kernel_rfl) Try.func4 (by kernel_rfl)
    (of_decide_eq_true (by kernel_rfl)) (by unfold Func.isWrapper; first | (rw [if_pos (by decide +kernel)]; kernel_rfl) | (rw [if_neg (by decide +kernel)]; exact ⟨rfl, rfl⟩))
    (fun os started H enc _ => lifted os started H enc)
end Go.Proofs.Ytpbccamaipekjaa.EditApplies
namespace Go.Proofs.Ytpbccamaipekjaa
/-- Of all scripts that may be, and lists: what becomes of them is told, or that it does not fit; the way back. No conditions. -/
theorem editApplies_holds : Rows.EditAppliesSaid := EditApplies.over
end Go.Proofs.Ytpbccamaipekjaa
#print axioms Go.Proofs.Ytpbccamaipekjaa.editApplies_holds
