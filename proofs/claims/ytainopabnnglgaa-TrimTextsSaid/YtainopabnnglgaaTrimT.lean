/-
  trim's laws: what they come to.
-/
import Derived.Test.YtainopabnnglgaaTrimW
set_option linter.unusedSimpArgs false
set_option maxRecDepth 100000
namespace Go.Proofs.Ytainopabnnglgaa
open Go
attribute [local irreducible] AW AVle ASle RowLe

def sTold2 : Spec := Spec.f0 (kB.enc true)
theorem okTold2 : SpecOK Try.prog 11 sTold2 := by
  refine SpecOK.f0 Try.func11 rfl (by decide) Try.results11 Try.ntmps11 ?_
  have hΓ : GOK Try.prog (gam [(9, sEndsI), (14, sEndsS), (12, sEqI)]) := .cons okEndsI (.cons okEndsS (.cons okEqI .nil))
  refine AW.of hΓ mixed [] _ _ _ rfl ?_
  have e1 : ahd ([1, 2, 3] : List Int) [1, 3] = 1 := by decide
  have e2 : bhd (([1, 2, 3] : List Int).drop 1) (([1, 3] : List Int).drop 1) = 1 := by decide
  have e3 : ahd ([[97], [97]] : List (List UInt8)) [[97]] = 1 := by decide
  have e4 : bhd (([[97], [97]] : List (List UInt8)).drop 1) (([[97]] : List (List UInt8)).drop 1) = 0 := by decide
  simp only [go_sem, sEndsI, sEndsS, sEqI, e1, e2, e3, e4]
  simp

def sTrimEnds : Spec := Spec.f2 (kL eI) (kL eI) (fun _ _ => True) (fun _ _ => kB.enc true)
theorem okTrimEnds : SpecOK Try.prog 3 sTrimEnds := by
  refine SpecOK.f2 Try.func3 rfl (by decide) Try.results3 Try.ntmps3 (by decide) fun a b _ => ?_
  have hΓ : GOK Try.prog (gam [(9, sEndsI), (10, sRefEndsI), (11, sTold2), (12, sEqI), (13, sSameI)]) :=
    .cons okEndsI (.cons okRefEndsI (.cons okTold2 (.cons okEqI (.cons okSameI .nil))))
  refine AW.of hΓ mixed [1] _ _ _ rfl ?_
  simp only [go_sem]
  refine ⟨by omega, by omega, AW.cut ⟨[(0, sL eI (a.take 300)), (1, sL eI (b.take 300))], [], 51, 0, 0, []⟩ ?_ ?_⟩
  · simp only [go_sem]
    exact ⟨take_le eI a rfl rfl (by omega), take_le eI b rfl rfl (by omega)⟩
  have ha : (a.take 300).length ≤ 300 := by simp; omega
  have hb : (b.take 300).length ≤ 300 := by simp; omega
  generalize a.take 300 = a at *
  generalize b.take 300 = b at *
  refine AW.of hΓ mixed [] _ _ _ rfl ?_
  simp only [go_sem, sEndsI, sRefEndsI, sTold2, sEqI, sSameI]
  trace_state
  omega

def sTrimTexts : Spec := Spec.f2 (kL eS) (kL eS) (fun _ _ => True) (fun _ _ => kB.enc true)
theorem okTrimTexts : SpecOK Try.prog 4 sTrimTexts := by
  refine SpecOK.f2 Try.func4 rfl (by decide) Try.results4 Try.ntmps4 (by decide) fun a b _ => ?_
  have hΓ : GOK Try.prog (gam [(14, sEndsS), (15, sRefEndsS), (11, sTold2), (16, sEqS), (17, sSameS)]) :=
    .cons okEndsS (.cons okRefEndsS (.cons okTold2 (.cons okEqS (.cons okSameS .nil))))
  refine AW.of hΓ mixed [1] _ _ _ rfl ?_
  simp only [go_sem]
  refine ⟨by omega, by omega, AW.cut ⟨[(0, sL eS (a.take 300)), (1, sL eS (b.take 300))], [], 51, 0, 0, []⟩ ?_ ?_⟩
  · simp only [go_sem]
    exact ⟨take_le eS a rfl rfl (by omega), take_le eS b rfl rfl (by omega)⟩
  have ha : (a.take 300).length ≤ 300 := by simp; omega
  have hb : (b.take 300).length ≤ 300 := by simp; omega
  generalize a.take 300 = a at *
  generalize b.take 300 = b at *
  refine AW.of hΓ mixed [] _ _ _ rfl ?_
  simp only [go_sem, sEndsS, sRefEndsS, sTold2, sEqS, sSameS]
  trace_state
  omega
end Go.Proofs.Ytainopabnnglgaa
