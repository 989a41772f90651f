/-
  Of a text of unlike lines, of which one side changes some, and the other one others, between which a line stays, there is no conflict, and both have what they changed: whatever is handed in, the statement returns true, and what is handed in reads behind the call as before.
-/
import Derived.Test.YtjfmigpahglajaaGreatDoorMg5
import Derived.Test.YtjfmigpahglajaaGreatDoorRows
import Derived.Test.YtjfmigpahglajaaGreatDoorCards
import Derived.Test.YtjfmigpahglajaaGreatDoorTie
import Derived.SevenTiedAt
import Derived.LaidLaws
import Derived.LaidHandle
import Derived.Handed
set_option linter.unusedVariables false
set_option maxRecDepth 100000
set_option maxHeartbeats 40000000
namespace Go.Proofs.YtjfmigpahglajaaGreatDoor.TripartiteApart
open Go Go.ChangeShapes Go.WideShapes Go.ChangeAt Go.RowKit

theorem own : ownKnob Tryz.prog.godebug = none := by kernel_rfl
theorem laid : laidOutB Tryz.prog = true := by kernel_rfl
/-- The values of plain data, one behind the other. -/
def flatD : Nat → DataW Unit → List Value
  | 0, _ => []
  | n + 1, .agg l => (l.map (flatD n)).flatten
  | _ + 1, .lit (.int k v) => [.int k v]
  | _ + 1, .lit (.bool b) => [.bool b]
  | _ + 1, .lit (.string s) => [.string ⟨s.toArray⟩]
  | _ + 1, _ => []
def setC (cs : List Value) : Obj → Obj
  | .cells _ t fr => .cells cs.toArray t fr
  | o => o
/-- A world in which the variables hold what the program's text lays. -/
noncomputable def laidWorld (os : Os) : World :=
  let w0 := World.holding Tryz.prog os ⟨#[], #[], []⟩
  { w0 with heap := ((w0.heap.modify 2 (setC (flatD 9 Rows.laid_unicode_utf8_acceptRanges))).modify 1 (setC (flatD 9 Rows.laid_unicode_utf8_first))) }
theorem laidWorld_met (os : Os) (args : Array Value) : laidMetH Tryz.prog Rows.tripartiteApartRow.laid ((laidWorld os).forCall (fun _ _ => 0) ⟨#[], args, []⟩).memory :=
  laidMetH_of_parts (laidMet_of_run' 8 (by kernel_rfl) (by kernel_rfl)) (by kernel_rfl)
theorem lifted (os : Os) (started : os.Started) (H : Type) (enc : TypeId × Value → H) :
    ReturnsInHanded {} Tryz.checked os 12 .any (fun w args => (Rows.tripartiteApartSpec.pre enc Tryz.prog Tryz.f12 Rows.tripartiteApartRow.domain false w args ∧ laidMetH Tryz.prog Rows.tripartiteApartRow.laid w) ∧ sizedMet enc Tryz.prog Tryz.f12 (OpenSpec.ofChange Rows.tripartiteApartSpec) false w args) (Rows.tripartiteApartSpec.post enc Tryz.prog Tryz.f12 false true false false) := by
  refine returnsInHanded_of_change_and (C := Tryz.checked) (X := fun w _ => laidMetH Tryz.prog Rows.tripartiteApartRow.laid w) (fun _ _ _ hh h => h.of_heap hh) own started (by kernel_rfl) Tryz.func12
    (ChangeSpec.witness_at (enc := enc) (C := Tryz.checked) (os := os) (X := fun w _ => laidMetH Tryz.prog Rows.tripartiteApartRow.laid w) false (laidWorld os) #[.slice none 0 0, .agg #[.int .i64 0, .int .i64 0, .int .i64 0, .string ⟨#[]⟩, .string ⟨#[]⟩, .string ⟨#[]⟩]] 8 rfl (by kernel_rfl) (by kernel_rfl) (by kernel_rfl) (by kernel_rfl) (by kernel_rfl) (laidWorld_met os _)) ?_
  intro W base args ds gs before hval hW _ hz _ _
  exact law_calls (ts := [75, 24]) laid okTripartiteApart rfl rfl Tryz.underlying4
    (openAll_cons (opensK_slice Tryz.underlying75 cells75 (opens_int Tryz.underlying3 cells3) (by decide) (of_decide_eq_true (by kernel_rfl))) (openAll_cons (opensK_agg agg24 (opens_struct Tryz.underlying24 cells24 (by kernel_rfl) (opensL_cons (opens_int Tryz.underlying3 cells3) (opensL_cons (opens_int Tryz.underlying3 cells3) (opensL_cons (opens_int Tryz.underlying3 cells3) (opensL_cons (opens_string Tryz.underlying9 cells9) (opensL_cons (opens_string Tryz.underlying9 cells9) (opensL_one (opens_string Tryz.underlying9 cells9))))))))) openAll_nil)) (by kernel_rfl)
    (pre_f2 (fun _ _ g h => ⟨⟨g.1, h.2.2.2.1, h.2.2.2.2.1, h.2.2.2.2.2⟩, rfl⟩)) rfl (fun ds h => by match ds, h with | [_, _], _ => exact ⟨rfl, rfl, rfl⟩) W base args ds gs before hval hW hz
theorem jf : joinedFacts Tryz.pinned.checked.prog 12 Tryz.f12 Rows.tripartiteApartSpec Rows.tripartiteApartRow = true := by
  unfold joinedFacts
  simp only [Bool.and_eq_true]
  repeat' refine And.intro ?_ ?_
  all_goals as_aux_lemma => kernel_rfl
theorem over : Rows.tripartiteApartRow.holds Tryz.pinned (OpenSpec.ofChange Rows.tripartiteApartSpec) :=
  OpenClaim.holds_of_wide 12 Tryz.f12 rfl rfl rfl rfl rfl rfl rfl ⟨rfl, rfl, rfl, rfl, rfl⟩ rfl rfl rfl rfl rfl (by as_aux_lemma => kernel_rfl) Tryz.func12 jf
    (of_decide_eq_true (by as_aux_lemma => kernel_rfl)) (by unfold Func.isWrapper; first | (rw [if_pos (by decide +kernel)]; kernel_rfl) | (rw [if_neg (by decide +kernel)]; exact ⟨rfl, rfl⟩))
    (fun os started H enc _ => lifted os started H enc)
theorem over_card : Claim7.holds Tryz.pinned (.plain (OpenSpec.ofChange Rows.tripartiteApartSpec)) Rows.tripartiteApartCard :=
  Claim7.holds_tied_plain_at .later [] Rows.tripartiteApartCard.laidKinds Rows.tripartiteApartCard.laidTests Rows.tripartiteApartCard.stood.harness Rows.tripartiteApartCard.stood.looks
    over (fun _ h => by cases h) (by as_aux_lemma => kernel_rfl) (fun _ h => by cases h) tripartiteApart_row_tie rfl ⟨rfl, rfl⟩ (by as_aux_lemma => kernel_rfl) (by as_aux_lemma => kernel_rfl)
    (fun f fn hf hfn => by
      obtain rfl : f = 12 := Option.some.inj ((show Tryz.prog.funcNamed Rows.tripartiteApartRow.func = some 12 by as_aux_lemma => kernel_rfl).symm.trans hf) |>.symm
      obtain rfl : fn = Tryz.f12 := (Option.some.inj (Tryz.func12.symm.trans hfn)).symm
      refine ⟨by as_aux_lemma => kernel_rfl, fun j t ht => ?_⟩
      have hall : (Tryz.f12.params.toList.all fun t => !Tryz.prog.wantsStandIn t) = true := by as_aux_lemma => kernel_rfl
      have hm : t ∈ Tryz.f12.params.toList := Array.mem_toList_iff.2 (Array.mem_of_getElem? ht)
      exact (by simpa using List.all_eq_true.1 hall t hm : Tryz.prog.wantsStandIn t = false))
    (by as_aux_lemma => kernel_rfl)
end Go.Proofs.YtjfmigpahglajaaGreatDoor.TripartiteApart
namespace Go.Proofs.YtjfmigpahglajaaGreatDoor
/-- Of a text of unlike lines, of which one side changes some, and the other one others, between which a line stays, there is no conflict, and both have what they changed: whatever is handed in, the statement returns true, and what is handed in reads behind the call as before. -/
theorem tripartiteApart_holds : Rows.TripartiteApartCardSaid := TripartiteApart.over_card
end Go.Proofs.YtjfmigpahglajaaGreatDoor
#print axioms Go.Proofs.YtjfmigpahglajaaGreatDoor.tripartiteApart_holds
