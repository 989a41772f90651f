/-
  Of all Docs and sides the text is told, or why there is none; likewise with a side for each conflict: for every list of Parts, side and list of sides that the row's reach allows.
-/
import Derived.Test.YtnhfobhdbablaaaMr4
import Derived.Test.YtnhfobhdbablaaaRows
set_option linter.unusedVariables false
set_option maxRecDepth 100000
namespace Go.Proofs.Ytnhfobhdbablaaa.ResolveAlls
open Go Go.ChangeShapes Go.WideShapes Go.ChangeAt Go.RowKit

theorem own : ownKnob Try.prog.godebug = none := by kernel_rfl
theorem laid : laidOutB Try.prog = true := by kernel_rfl
theorem lifted (os : Os) (started : os.Started) (H : Type) (enc : TypeId × Value → H) :
    ReturnsInHanded {} Try.checked os 6 .any (Rows.resolveAllsSpec.pre6 enc Try.prog Try.f6 Rows.resolveAllsRow.domain false) (Rows.resolveAllsSpec.post enc Try.prog Try.f6 false true false false) := by
  refine returnsInHanded_of_change_sized (C := Try.checked) own started (by kernel_rfl) Try.func6
    (ChangeSpec.witness6 (enc := enc) (C := Try.checked) false ⟨#[], #[.slice none 0 0, .int .i64 0, .slice none 0 0], []⟩ 8 (by kernel_rfl) (by kernel_rfl) (by kernel_rfl) (by kernel_rfl)) ?_
  intro W base args ds gs before hval hW _ hz _
  exact law_calls (ts := [26, 3, 66]) laid okResolveAlls rfl rfl Try.underlying4
    (openAll_cons (opensK_slice Try.underlying26 cells26 (opens_struct Try.underlying24 cells24 (by kernel_rfl) (opensL_cons (opens_string Try.underlying9 cells9) (opensL_cons (opens_string Try.underlying9 cells9) (opensL_cons (opens_string Try.underlying9 cells9) (opensL_cons (opens_bool Try.underlying4 cells4) (opensL_cons (opens_string Try.underlying9 cells9) (opensL_cons (opens_string Try.underlying9 cells9) (opensL_cons (opens_string Try.underlying9 cells9) (opensL_cons (opens_string Try.underlying9 cells9) (opensL_one (opens_bool Try.underlying4 cells4))))))))))) (by decide) (of_decide_eq_true (by kernel_rfl))) (openAll_cons (opensK_int Try.underlying3 cells3) (openAll_cons (opensK_slice Try.underlying66 cells66 (opens_int Try.underlying3 cells3) (by decide) (of_decide_eq_true (by kernel_rfl))) openAll_nil))) (by kernel_rfl)
    (pre_f3 (fun _ _ _ h _ s => ⟨⟨⟨h.1, fun p hp => let q := h.2 p hp; ⟨⟨q.1, q.2.1, q.2.2.1⟩, q.2.2.2.2.1, q.2.2.2.2.2.1, q.2.2.2.2.2.2.1, q.2.2.2.2.2.2.2.1⟩⟩, s.1⟩, rfl⟩)) rfl (fun ds h => by match ds, h with | [_, _, _], _ => exact ⟨rfl, rfl, rfl⟩) W base args ds gs before hval hW hz
theorem over : Rows.resolveAllsRow.holds Try.pinned (OpenSpec.ofChange Rows.resolveAllsSpec) :=
  OpenClaim.holds_of_wide 6 Try.f6 rfl rfl rfl rfl rfl rfl rfl ⟨rfl, rfl, rfl, rfl, rfl⟩ rfl rfl rfl rfl rfl (by kernel_rfl) Try.func6 (by kernel_rfl)
    (of_decide_eq_true (by kernel_rfl)) (by unfold Func.isWrapper; first | (rw [if_pos (by decide +kernel)]; kernel_rfl) | (rw [if_neg (by decide +kernel)]; exact ⟨rfl, rfl⟩))
    (fun os started H enc _ => lifted os started H enc)
end Go.Proofs.Ytnhfobhdbablaaa.ResolveAlls
namespace Go.Proofs.Ytnhfobhdbablaaa
/-- Of all Docs and sides the text is told, or why there is none; likewise with a side for each conflict: for every list of Parts, side and list of sides that the row's reach allows. -/
theorem resolveAlls_holds : Rows.ResolveAllsSaid := ResolveAlls.over
end Go.Proofs.Ytnhfobhdbablaaa
#print axioms Go.Proofs.Ytnhfobhdbablaaa.resolveAlls_holds
