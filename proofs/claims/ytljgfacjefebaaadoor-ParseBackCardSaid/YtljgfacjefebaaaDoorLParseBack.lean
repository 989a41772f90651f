/-
  Of every Doc that may be printed by a width, its print is parsed to just that Doc; by a wider one it is text alone: it has no condition.
-/
import Derived.Test.YtljgfacjefebaaaDoorParseU
import Derived.Test.YtljgfacjefebaaaDoorAxh
import Derived.Test.YtljgfacjefebaaaDoorRows
import Derived.Test.YtljgfacjefebaaaDoorCards
import Derived.Test.YtljgfacjefebaaaDoorTie
import Derived.SevenTiedAt
import Derived.LaidLaws
import Derived.LaidHandle
import Derived.Handed
set_option linter.unusedVariables false
set_option maxRecDepth 100000
namespace Go.Proofs.YtljgfacjefebaaaDoor.ParseBack
open Go Go.ChangeShapes Go.WideShapes Go.ChangeAt Go.RowKit

theorem own : ownKnob Tryd.prog.godebug = none := by kernel_rfl
theorem laid : laidOutB Tryd.prog = true := by kernel_rfl
/-- The values of plain data, one behind the other. -/
def flatD : Nat → DataW Unit → List Value
  | 0, _ => []
  | n + 1, .agg l => (l.map (flatD n)).flatten
  | _ + 1, .lit (.int k v) => [.int k v]
  | _ + 1, .lit (.bool b) => [.bool b]
  | _ + 1, .lit (.string s) => [.string ⟨s.toArray⟩]
  | _ + 1, _ => []
def setC (cs : List Value) : Obj → Obj
  | .cells _ t fr => .cells cs.toArray t fr
  | o => o
/-- A world in which the variables hold what the program's text lays. -/
noncomputable def laidWorld (os : Os) : World :=
  let w0 := World.holding Tryd.prog os ⟨#[], #[], []⟩
  { w0 with heap := ((w0.heap.modify 2 (setC (flatD 9 Rows.laid_unicode_utf8_acceptRanges))).modify 1 (setC (flatD 9 Rows.laid_unicode_utf8_first))) }
theorem laidWorld_met (os : Os) (args : Array Value) : laidMetH Tryd.prog Rows.parseBackRow.laid ((laidWorld os).forCall (fun _ _ => 0) ⟨#[], args, []⟩).memory :=
  laidMetH_of_parts (laidMet_of_run' 8 (by kernel_rfl) (by kernel_rfl)) (by kernel_rfl)
theorem lifted (os : Os) (started : os.Started) (H : Type) (enc : TypeId × Value → H) :
    ReturnsInHanded {} Tryd.checked os 9 .any (fun w args => (Rows.parseBackSpec.pre enc Tryd.prog Tryd.f9 Rows.parseBackRow.domain false w args ∧ laidMetH Tryd.prog Rows.parseBackRow.laid w) ∧ sizedMet enc Tryd.prog Tryd.f9 (OpenSpec.ofChange Rows.parseBackSpec) false w args) (Rows.parseBackSpec.post enc Tryd.prog Tryd.f9 false true false false) := by
  refine returnsInHanded_of_change_and (C := Tryd.checked) (X := fun w _ => laidMetH Tryd.prog Rows.parseBackRow.laid w) (fun _ _ _ hh h => h.of_heap hh) own started (by kernel_rfl) Tryd.func9
    (ChangeSpec.witness_at (enc := enc) (C := Tryd.checked) (os := os) (X := fun w _ => laidMetH Tryd.prog Rows.parseBackRow.laid w) false (laidWorld os) #[.slice none 0 0, .int .i64 0] 8 rfl (by kernel_rfl) (by kernel_rfl) (by kernel_rfl) (by kernel_rfl) (by kernel_rfl) (laidWorld_met os _)) ?_
  intro W base args ds gs before hval hW _ hz _ _
  exact law_calls (ts := [22, 3]) laid okParseBack rfl rfl Tryd.underlying4
    (openAll_cons (opensK_slice Tryd.underlying22 cells22 (opens_struct Tryd.underlying62 cells62 (by kernel_rfl) (opensL_cons (opens_string Tryd.underlying9 cells9) (opensL_cons (opens_string Tryd.underlying9 cells9) (opensL_cons (opens_string Tryd.underlying9 cells9) (opensL_cons (opens_bool Tryd.underlying4 cells4) (opensL_cons (opens_string Tryd.underlying9 cells9) (opensL_cons (opens_string Tryd.underlying9 cells9) (opensL_cons (opens_string Tryd.underlying9 cells9) (opensL_cons (opens_string Tryd.underlying9 cells9) (opensL_one (opens_bool Tryd.underlying4 cells4))))))))))) (by decide) (of_decide_eq_true (by kernel_rfl))) (openAll_cons (opensK_int Tryd.underlying3 cells3) openAll_nil)) (by kernel_rfl)
    (pre_f2 (fun _ _ h _ => ⟨⟨h.1, fun p hp => let q := h.2 p hp; ⟨⟨q.1, q.2.1, q.2.2.1⟩, q.2.2.2.2.1, q.2.2.2.2.2.1, q.2.2.2.2.2.2.1, q.2.2.2.2.2.2.2.1⟩⟩, rfl⟩)) rfl (fun ds h => by match ds, h with | [_, _], _ => exact ⟨rfl, rfl, rfl⟩) W base args ds gs before hval hW hz
theorem over : Rows.parseBackRow.holds Tryd.pinned (OpenSpec.ofChange Rows.parseBackSpec) :=
  OpenClaim.holds_of_wide 9 Tryd.f9 rfl rfl rfl rfl rfl rfl rfl ⟨rfl, rfl, rfl, rfl, rfl⟩ rfl rfl rfl rfl rfl (by kernel_rfl) Tryd.func9 (by kernel_rfl)
    (of_decide_eq_true (by kernel_rfl)) (by unfold Func.isWrapper; first | (rw [if_pos (by decide +kernel)]; kernel_rfl) | (rw [if_neg (by decide +kernel)]; exact ⟨rfl, rfl⟩))
    (fun os started H enc _ => lifted os started H enc)
theorem over_card : Claim7.holds Tryd.pinned (.plain (OpenSpec.ofChange Rows.parseBackSpec)) Rows.parseBackCard :=
  Claim7.holds_tied_plain_at .later [] Rows.parseBackCard.laidKinds Rows.parseBackCard.laidTests Rows.parseBackCard.stood.harness Rows.parseBackCard.stood.looks
    over (fun _ h => by cases h) (by kernel_rfl) (fun _ h => by cases h) parseBack_row_tie rfl ⟨rfl, rfl⟩ (by kernel_rfl) (by kernel_rfl)
    (fun f fn hf hfn => by
      obtain rfl : f = 9 := Option.some.inj ((show Tryd.prog.funcNamed Rows.parseBackRow.func = some 9 by kernel_rfl).symm.trans hf) |>.symm
      obtain rfl : fn = Tryd.f9 := (Option.some.inj (Tryd.func9.symm.trans hfn)).symm
      refine ⟨by kernel_rfl, fun j t ht => ?_⟩
      have hall : (Tryd.f9.params.toList.all fun t => !Tryd.prog.wantsStandIn t) = true := by kernel_rfl
      have hm : t ∈ Tryd.f9.params.toList := Array.mem_toList_iff.2 (Array.mem_of_getElem? ht)
      exact (by simpa using List.all_eq_true.1 hall t hm : Tryd.prog.wantsStandIn t = false))
    (by kernel_rfl)
end Go.Proofs.YtljgfacjefebaaaDoor.ParseBack
namespace Go.Proofs.YtljgfacjefebaaaDoor
/-- Of every Doc that may be printed by a width, its print is parsed to just that Doc; by a wider one it is text alone: it has no condition. -/
theorem parseBack_holds : Rows.ParseBackCardSaid := ParseBack.over_card
end Go.Proofs.YtljgfacjefebaaaDoor
#print axioms Go.Proofs.YtljgfacjefebaaaDoor.parseBack_holds
