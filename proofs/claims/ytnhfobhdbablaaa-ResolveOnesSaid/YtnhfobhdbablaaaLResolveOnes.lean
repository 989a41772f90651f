/-
  Of all Docs, conflicts and sides the Doc is told in which that one is resolved, or why there is none: for every list of Parts and numbers that the row's reach allows.
-/
import Derived.Test.YtnhfobhdbablaaaMr4
import Derived.Test.YtnhfobhdbablaaaRows
set_option linter.unusedVariables false
set_option maxRecDepth 100000
namespace Go.Proofs.Ytnhfobhdbablaaa.ResolveOnes
open Go Go.ChangeShapes Go.WideShapes Go.ChangeAt Go.RowKit

theorem own : ownKnob Try.prog.godebug = none := by kernel_rfl
theorem laid : laidOutB Try.prog = true := by kernel_rfl
theorem lifted (os : Os) (started : os.Started) (H : Type) (enc : TypeId × Value → H) :
    ReturnsInHanded {} Try.checked os 7 .any (Rows.resolveOnesSpec.pre6 enc Try.prog Try.f7 Rows.resolveOnesRow.domain false) (Rows.resolveOnesSpec.post enc Try.prog Try.f7 false true false false) := by
  refine returnsInHanded_of_change_sized (C := Try.checked) own started (by kernel_rfl) Try.func7
    (ChangeSpec.witness6 (enc := enc) (C := Try.checked) false ⟨#[], #[.slice none 0 0, .int .i64 0, .int .i64 0], []⟩ 8 (by kernel_rfl) (by kernel_rfl) (by kernel_rfl) (by kernel_rfl)) ?_
  intro W base args ds gs before hval hW _ hz _
  exact law_calls (ts := [26, 3, 3]) laid okResolveOnes rfl rfl Try.underlying4
    (openAll_cons (opensK_slice Try.underlying26 cells26 (opens_struct Try.underlying24 cells24 (by kernel_rfl) (opensL_cons (opens_string Try.underlying9 cells9) (opensL_cons (opens_string Try.underlying9 cells9) (opensL_cons (opens_string Try.underlying9 cells9) (opensL_cons (opens_bool Try.underlying4 cells4) (opensL_cons (opens_string Try.underlying9 cells9) (opensL_cons (opens_string Try.underlying9 cells9) (opensL_cons (opens_string Try.underlying9 cells9) (opensL_cons (opens_string Try.underlying9 cells9) (opensL_one (opens_bool Try.underlying4 cells4))))))))))) (by decide) (of_decide_eq_true (by kernel_rfl))) (openAll_cons (opensK_int Try.underlying3 cells3) (openAll_cons (opensK_int Try.underlying3 cells3) openAll_nil))) (by kernel_rfl)
    (pre_f3 (fun _ _ _ h n _ => ⟨⟨⟨h.1, fun p hp => let q := h.2 p hp; ⟨⟨q.1, q.2.1, q.2.2.1⟩, q.2.2.2.2.1, q.2.2.2.2.2.1, q.2.2.2.2.2.2.1, q.2.2.2.2.2.2.2.1⟩⟩, n⟩, rfl⟩)) rfl (fun ds h => by match ds, h with | [_, _, _], _ => exact ⟨rfl, rfl, rfl⟩) W base args ds gs before hval hW hz
theorem over : Rows.resolveOnesRow.holds Try.pinned (OpenSpec.ofChange Rows.resolveOnesSpec) :=
  OpenClaim.holds_of_wide 7 Try.f7 rfl rfl rfl rfl rfl rfl rfl ⟨rfl, rfl, rfl, rfl, rfl⟩ rfl rfl rfl rfl rfl (by kernel_rfl) Try.func7 (by kernel_rfl)
    (of_decide_eq_true (by kernel_rfl)) (by unfold Func.isWrapper; first | (rw [if_pos (by decide +kernel)]; kernel_rfl) | (rw [if_neg (by decide +kernel)]; exact ⟨rfl, rfl⟩))
    (fun os started H enc _ => lifted os started H enc)
end Go.Proofs.Ytnhfobhdbablaaa.ResolveOnes
namespace Go.Proofs.Ytnhfobhdbablaaa
/-- Of all Docs, conflicts and sides the Doc is told in which that one is resolved, or why there is none: for every list of Parts and numbers that the row's reach allows. -/
theorem resolveOnes_holds : Rows.ResolveOnesSaid := ResolveOnes.over
end Go.Proofs.Ytnhfobhdbablaaa
#print axioms Go.Proofs.Ytnhfobhdbablaaa.resolveOnes_holds
