/-
  The replies of a new shell hang on the lines alone, also beside another one.
-/
import Derived.Test.YthpjjjnbkfnghaaGreatDoorMd7
import Derived.Test.YthpjjjnbkfnghaaGreatDoorRows
import Derived.Test.YthpjjjnbkfnghaaGreatDoorCards
import Derived.Test.YthpjjjnbkfnghaaGreatDoorTie
import Derived.SevenTiedAt
import Derived.LaidLaws
import Derived.LaidHandle
import Derived.Handed
set_option linter.unusedVariables false
set_option maxRecDepth 100000
set_option maxHeartbeats 40000000
namespace Go.Proofs.YthpjjjnbkfnghaaGreatDoor.ShellSame
open Go Go.ChangeShapes Go.WideShapes Go.ChangeAt Go.RowKit

theorem own : ownKnob Tryz.prog.godebug = none := by kernel_rfl
theorem laid : laidOutB Tryz.prog = true := by kernel_rfl
theorem tz {W : World} (hx : laidMetH Tryz.prog Rows.shellSameRow.laid W) (hsh : W.ShapedOpen Tryz.prog) : Tz W := by
  intro b q h
  unfold tabZ at h
  split at h
  · rename_i e
    subst e
    obtain rfl := Option.some.inj h
    exact tab_met (name := (Rows.shellSameRow.laid.map Prod.fst).getD 2 "") (k := .u64) (zs := Lib.pow10Tab) (t := 292) (by kernel_rfl) (by kernel_rfl) Tryz.underlying292 Tryz.underlying23 cells23 cells292 (by kernel_rfl) (List.mem_of_getElem? (i := 2) (by kernel_rfl)) hx
  · split at h
    · rename_i e
      subst e
      obtain rfl := Option.some.inj h
      exact len_shaped (t := 3) (zero := #[.int .i64 0]) hsh (of_decide_eq_true (by kernel_rfl)) (by kernel_rfl) rfl (by kernel_rfl) (by kernel_rfl) Tryz.underlying3
    · split at h
      · rename_i e
        subst e
        obtain rfl := Option.some.inj h
        exact sen_met (name := "strconv.ErrSyntax") (nm := match (Rows.laid_strconv_ErrSyntax : DataW Unit) with | .iface n _ => n | _ => "") (d0 := match (Rows.laid_strconv_ErrSyntax : DataW Unit) with | .iface _ d => d | d => d) (t := 140) (by kernel_rfl) (by kernel_rfl) Tryz.underlying140 (by kernel_rfl) (List.mem_of_getElem? (i := 5) (by kernel_rfl)) hx
      · split at h
        · rename_i e
          subst e
          obtain rfl := Option.some.inj h
          exact sen_met (name := "strconv.ErrRange") (nm := match (Rows.laid_strconv_ErrRange : DataW Unit) with | .iface n _ => n | _ => "") (d0 := match (Rows.laid_strconv_ErrRange : DataW Unit) with | .iface _ d => d | d => d) (t := 140) (by kernel_rfl) (by kernel_rfl) Tryz.underlying140 (by kernel_rfl) (List.mem_of_getElem? (i := 4) (by kernel_rfl)) hx
        · cases h
theorem lifted (os : Go.Os) (started : os.Started) (H : Type) (enc : TypeId × Value → H) :
    ReturnsInHanded {} Tryz.checked os 5 .any (fun w args => (Rows.shellSameSpec.pre enc Tryz.prog Tryz.f5 Rows.shellSameRow.domain false w args ∧ laidMetH Tryz.prog Rows.shellSameRow.laid w) ∧ sizedMet enc Tryz.prog Tryz.f5 (OpenSpec.ofChange Rows.shellSameSpec) false w args) (Rows.shellSameSpec.post enc Tryz.prog Tryz.f5 false true false false) := by
  refine returns_laid (C := Tryz.checked) (X := fun w _ => laidMetH Tryz.prog Rows.shellSameRow.laid w) (fun _ _ _ hh h => h.of_heap hh) own started (by kernel_rfl) Tryz.func5
    (witness_zip (enc := enc) (C := Tryz.checked) (os := os) (X := fun w _ => laidMetH Tryz.prog Rows.shellSameRow.laid w) false (World.laidAll Tryz.prog os Rows.shellSameRow.laid) #[.slice none 0 0, .slice none 0 0] 8 rfl (by kernel_rfl) (by kernel_rfl) (by kernel_rfl) (by kernel_rfl) (by kernel_rfl) (met_laid _ (by kernel_rfl) (by kernel_rfl) (by kernel_rfl))) ?_
  intro W base args ds gs before hval hW _ hz hx hsh _
  exact law_calls (ts := [36, 36]) laid okShellSame rfl rfl Tryz.underlying4
    (openAll_cons (opensK_slice Tryz.underlying36 cells36 (opens_string Tryz.underlying9 cells9) (by decide) (of_decide_eq_true (by kernel_rfl))) (openAll_cons (opensK_slice Tryz.underlying36 cells36 (opens_string Tryz.underlying9 cells9) (by decide) (of_decide_eq_true (by kernel_rfl))) openAll_nil)) (by kernel_rfl)
    (pre_f2 (fun _ _ h k => ⟨⟨h.1, k.1⟩, rfl⟩)) rfl (fun ds h => by match ds, h with | [_, _], _ => exact ⟨rfl, rfl, rfl⟩) W base args ds gs before (tz hx hsh) hval hW hz
theorem jf : joinedFacts Tryz.pinned.checked.prog 5 Tryz.f5 Rows.shellSameSpec Rows.shellSameRow = true := by
  unfold joinedFacts
  simp only [Bool.and_eq_true]
  repeat' refine And.intro ?_ ?_
  all_goals as_aux_lemma => kernel_rfl
theorem over : Rows.shellSameRow.holds Tryz.pinned (OpenSpec.ofChange Rows.shellSameSpec) :=
  OpenClaim.holds_of_wide 5 Tryz.f5 rfl rfl rfl rfl rfl rfl rfl ⟨rfl, rfl, rfl, rfl, rfl⟩ rfl rfl rfl rfl rfl (by as_aux_lemma => kernel_rfl) Tryz.func5 jf
    (of_decide_eq_true (by as_aux_lemma => kernel_rfl)) (by unfold Func.isWrapper; first | (rw [if_pos (by decide +kernel)]; kernel_rfl) | (rw [if_neg (by decide +kernel)]; exact ⟨rfl, rfl⟩))
    (fun os started H enc _ => lifted os started H enc)
theorem over_card : Claim7.holds Tryz.pinned (.plain (OpenSpec.ofChange Rows.shellSameSpec)) Rows.shellSameCard :=
  Claim7.holds_tied_plain_at .later [] Rows.shellSameCard.laidKinds Rows.shellSameCard.laidTests Rows.shellSameCard.stood.harness Rows.shellSameCard.stood.looks
    over (fun _ h => by cases h) (by as_aux_lemma => kernel_rfl) (fun _ h => by cases h) shellSame_row_tie rfl ⟨rfl, rfl⟩ (by as_aux_lemma => kernel_rfl) (by as_aux_lemma => kernel_rfl)
    (fun f fn hf hfn => by
      obtain rfl : f = 5 := Option.some.inj ((show Tryz.prog.funcNamed Rows.shellSameRow.func = some 5 by as_aux_lemma => kernel_rfl).symm.trans hf) |>.symm
      obtain rfl : fn = Tryz.f5 := (Option.some.inj (Tryz.func5.symm.trans hfn)).symm
      refine ⟨by as_aux_lemma => kernel_rfl, fun j t ht => ?_⟩
      have hall : (Tryz.f5.params.toList.all fun t => !Tryz.prog.wantsStandIn t) = true := by as_aux_lemma => kernel_rfl
      have hm : t ∈ Tryz.f5.params.toList := Array.mem_toList_iff.2 (Array.mem_of_getElem? ht)
      exact (by simpa using List.all_eq_true.1 hall t hm : Tryz.prog.wantsStandIn t = false))
    (by as_aux_lemma => kernel_rfl)
end Go.Proofs.YthpjjjnbkfnghaaGreatDoor.ShellSame
namespace Go.Proofs.YthpjjjnbkfnghaaGreatDoor
/-- The replies of a new shell hang on the lines alone, also beside another one. -/
theorem shellSame_holds : Rows.ShellSameCardSaid := ShellSame.over_card
end Go.Proofs.YthpjjjnbkfnghaaGreatDoor
#print axioms Go.Proofs.YthpjjjnbkfnghaaGreatDoor.shellSame_holds
