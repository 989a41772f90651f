/-
  Of whatever two texts, the changes of the one to the other, written as a patch and read again, lead there, and those of the way back lead back again: the law TripartitePatches answers true at every input.
-/
import Derived.Test.YthpjjjnbkfnghaaGreatDoorMq6
import Derived.Test.YthpjjjnbkfnghaaGreatDoorRows
import Derived.Test.YthpjjjnbkfnghaaGreatDoorCards
import Derived.Test.YthpjjjnbkfnghaaGreatDoorTie
import Derived.SevenTiedAt
import Derived.LaidLaws
import Derived.LaidHandle
import Derived.Handed
set_option linter.unusedVariables false
set_option maxRecDepth 100000
set_option maxHeartbeats 40000000
namespace Go.Proofs.YthpjjjnbkfnghaaGreatDoor.TripartitePatches
open Go Go.ChangeShapes Go.WideShapes Go.ChangeAt Go.RowKit

theorem own : ownKnob Tryz.prog.godebug = none := by kernel_rfl
theorem laid : laidOutB Tryz.prog = true := by kernel_rfl
theorem tz {W : World} (hx : laidMetH Tryz.prog Rows.tripartitePatchesRow.laid W) (hsh : W.ShapedOpen Tryz.prog) : Tz W := by
  intro b q h
  unfold tabZ at h
  split at h
  · rename_i e
    subst e
    obtain rfl := Option.some.inj h
    exact tab_met (name := (Rows.tripartitePatchesRow.laid.map Prod.fst).getD 2 "") (k := .u64) (zs := Lib.pow10Tab) (t := 292) (by kernel_rfl) (by kernel_rfl) Tryz.underlying292 Tryz.underlying23 cells23 cells292 (by kernel_rfl) (List.mem_of_getElem? (i := 2) (by kernel_rfl)) hx
  · split at h
    · rename_i e
      subst e
      obtain rfl := Option.some.inj h
      exact len_shaped (t := 3) (zero := #[.int .i64 0]) hsh (of_decide_eq_true (by kernel_rfl)) (by kernel_rfl) rfl (by kernel_rfl) (by kernel_rfl) Tryz.underlying3
    · cases h
theorem lifted (os : Go.Os) (started : os.Started) (H : Type) (enc : TypeId × Value → H) :
    ReturnsInHanded {} Tryz.checked os 7 .any (fun w args => (Rows.tripartitePatchesSpec.pre enc Tryz.prog Tryz.f7 Rows.tripartitePatchesRow.domain false w args ∧ laidMetH Tryz.prog Rows.tripartitePatchesRow.laid w) ∧ sizedMet enc Tryz.prog Tryz.f7 (OpenSpec.ofChange Rows.tripartitePatchesSpec) false w args) (Rows.tripartitePatchesSpec.post enc Tryz.prog Tryz.f7 false true false false) := by
  refine returns_laid (C := Tryz.checked) (X := fun w _ => laidMetH Tryz.prog Rows.tripartitePatchesRow.laid w) (fun _ _ _ hh h => h.of_heap hh) own started (by kernel_rfl) Tryz.func7
    (witness_zip (enc := enc) (C := Tryz.checked) (os := os) (X := fun w _ => laidMetH Tryz.prog Rows.tripartitePatchesRow.laid w) false (World.laidAll Tryz.prog os Rows.tripartitePatchesRow.laid) #[.string ⟨#[]⟩, .string ⟨#[]⟩, .int .i64 0] 8 rfl (by kernel_rfl) (by kernel_rfl) (by kernel_rfl) (by kernel_rfl) (by kernel_rfl) (met_laid _ (by kernel_rfl) (by kernel_rfl) (by kernel_rfl))) ?_
  intro W base args ds gs before hval hW _ hz hx hsh _
  exact law_calls (ts := [9, 9, 3]) laid okTripartitePatches rfl rfl Tryz.underlying4
    (openAll_cons (opensK_string Tryz.underlying9 cells9) (openAll_cons (opensK_string Tryz.underlying9 cells9) (openAll_cons (opensK_int Tryz.underlying3 cells3) openAll_nil))) (by kernel_rfl)
    (pre_f3 (fun _ _ _ _ _ _ => ⟨trivial, rfl⟩)) rfl (fun ds h => by match ds, h with | [_, _, _], _ => exact ⟨rfl, rfl, rfl⟩) W base args ds gs before (tz hx hsh) hval hW hz
theorem jf : joinedFacts Tryz.pinned.checked.prog 7 Tryz.f7 Rows.tripartitePatchesSpec Rows.tripartitePatchesRow = true := by
  unfold joinedFacts
  simp only [Bool.and_eq_true]
  repeat' refine And.intro ?_ ?_
  all_goals as_aux_lemma => kernel_rfl
theorem over : Rows.tripartitePatchesRow.holds Tryz.pinned (OpenSpec.ofChange Rows.tripartitePatchesSpec) :=
  OpenClaim.holds_of_wide 7 Tryz.f7 rfl rfl rfl rfl rfl rfl rfl ⟨rfl, rfl, rfl, rfl, rfl⟩ rfl rfl rfl rfl rfl (by as_aux_lemma => kernel_rfl) Tryz.func7 jf
    (of_decide_eq_true (by as_aux_lemma => kernel_rfl)) (by unfold Func.isWrapper; first | (rw [if_pos (by decide +kernel)]; kernel_rfl) | (rw [if_neg (by decide +kernel)]; exact ⟨rfl, rfl⟩))
    (fun os started H enc _ => lifted os started H enc)
theorem over_card : Claim7.holds Tryz.pinned (.plain (OpenSpec.ofChange Rows.tripartitePatchesSpec)) Rows.tripartitePatchesCard :=
  Claim7.holds_tied_plain_at .later [] Rows.tripartitePatchesCard.laidKinds Rows.tripartitePatchesCard.laidTests Rows.tripartitePatchesCard.stood.harness Rows.tripartitePatchesCard.stood.looks
    over (fun _ h => by cases h) (by as_aux_lemma => kernel_rfl) (fun _ h => by cases h) tripartitePatches_row_tie rfl ⟨rfl, rfl⟩ (by as_aux_lemma => kernel_rfl) (by as_aux_lemma => kernel_rfl)
    (fun f fn hf hfn => by
      obtain rfl : f = 7 := Option.some.inj ((show Tryz.prog.funcNamed Rows.tripartitePatchesRow.func = some 7 by as_aux_lemma => kernel_rfl).symm.trans hf) |>.symm
      obtain rfl : fn = Tryz.f7 := (Option.some.inj (Tryz.func7.symm.trans hfn)).symm
      refine ⟨by as_aux_lemma => kernel_rfl, fun j t ht => ?_⟩
      have hall : (Tryz.f7.params.toList.all fun t => !Tryz.prog.wantsStandIn t) = true := by as_aux_lemma => kernel_rfl
      have hm : t ∈ Tryz.f7.params.toList := Array.mem_toList_iff.2 (Array.mem_of_getElem? ht)
      exact (by simpa using List.all_eq_true.1 hall t hm : Tryz.prog.wantsStandIn t = false))
    (by as_aux_lemma => kernel_rfl)
end Go.Proofs.YthpjjjnbkfnghaaGreatDoor.TripartitePatches
namespace Go.Proofs.YthpjjjnbkfnghaaGreatDoor
/-- Of whatever two texts, the changes of the one to the other, written as a patch and read again, lead there, and those of the way back lead back again: the law TripartitePatches answers true at every input. -/
theorem tripartitePatches_holds : Rows.TripartitePatchesCardSaid := TripartitePatches.over_card
end Go.Proofs.YthpjjjnbkfnghaaGreatDoor
#print axioms Go.Proofs.YthpjjjnbkfnghaaGreatDoor.tripartitePatches_holds
