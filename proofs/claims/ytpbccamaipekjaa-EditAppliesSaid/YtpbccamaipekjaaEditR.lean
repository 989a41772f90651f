/-
  edit: the law's own example.
-/
import Derived.Test.YtpbccamaipekjaaEditS
set_option linter.unusedSimpArgs false
set_option linter.unusedVariables false
set_option maxRecDepth 100000
set_option maxHeartbeats 2000000
namespace Go.Proofs.Ytpbccamaipekjaa
open Go
attribute [local irreducible] AW AVle ASle RowLe
def tPr : Nat → AV := fun j => if 0 ≤ j ∧ j < 1 then AV.val (.int .i64 1) else zC [.int .i64 0, .int .i64 0] j
theorem tPr_dec : (eP eI eI).dec (fun j => if 0 ≤ j ∧ j < 1 then AV.val (.int .i64 1) else zC [.int .i64 0, .int .i64 0] j) = ((1 : Int), (0 : Int)) := rfl
theorem tPr_ok : (kL (eP eI eI)).ok (.sn 1 2 fun i => [fun j => if 0 ≤ j ∧ j < 1 then AV.val (.int .i64 1) else zC [.int .i64 0, .int .i64 0] j].getD i fun _ => .any) = True := eq_true (by
  show AVle _ (sL (eP eI eI) [((1 : Int), (0 : Int))])
  refine AVle.sn fun i hi j hj => ?_
  obtain rfl : i = 0 := by omega
  match j, hj with
  | 0, _ => exact AVle.refl _
  | 1, _ => exact AVle.refl _)
theorem tRgt : rgt (numA [[97], [98]] [[98], [99]]) (numB [[97], [98]] [[98], [99]]) (-1) (-1) [(1, 0)] = true := by decide
theorem tOf : ofG [[97], [98]] [[98], [99]] [(1, 0)] 0 0 [] = [(1, [[97]]), (0, [[98]]), (2, [[99]])] := by decide
theorem tLess2 : lessL 2 [(1, [[97]]), (0, [[98]]), (2, [[99]])] = [[97], [98]] := by decide
theorem tLess1 : lessL 1 [(1, [[97]]), (0, [[98]]), (2, [[99]])] = [[98], [99]] := by decide
theorem tC0 : countL 0 [(1, [[97]]), (0, [[98]]), (2, [[99]])] = 1 := by decide
theorem tC1 : countL 1 [(1, [[97]]), (0, [[98]]), (2, [[99]])] = 1 := by decide
theorem tC2 : countL 2 [(1, [[97]]), (0, [[98]]), (2, [[99]])] = 1 := by decide
theorem tRight : rightE (-1) [(1, [[97]]), (0, [[98]]), (2, [[99]])] = true := by decide
def sToldE : Spec := Spec.f0 (kB.enc true)
theorem okToldE : SpecOK Try.prog 10 sToldE := by
  refine SpecOK.f0 Try.func10 rfl (by decide) Try.results10 Try.ntmps10 ?_
  have hΓ : GOK Try.prog (gam [(8, sLcsTo), (7, sOfE), (13, sApplyE), (15, sCountsE), (19, sRightE)]) := (.cons okLcsTo (.cons okOfE (.cons okApplyE (.cons okCountsE (.cons okRightE .nil)))))
  refine AW.of hΓ mixed [] _ _ _ rfl ?_
  simp only [go_sem, sLcsTo, sOfE, sApplyE, sCountsE, sRightE, pp_sz, st_sz, sp0, sp1, stC20, stC21, st_d, zC_10, zC_11, tPr_dec, tPr_ok, tRgt, tOf, tLess2, tLess1, tC0, tC1, tC2, tRight]
  done
end Go.Proofs.Ytpbccamaipekjaa
