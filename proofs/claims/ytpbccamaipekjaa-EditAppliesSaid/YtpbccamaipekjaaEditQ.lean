/-
  edit: the laws.
-/
import Derived.Test.YtpbccamaipekjaaEditR
import Derived.Test.YtpbccamaipekjaaEditP
set_option linter.unusedSimpArgs false
set_option linter.unusedVariables false
set_option maxRecDepth 100000
set_option maxHeartbeats 2000000
namespace Go.Proofs.Ytpbccamaipekjaa
open Go
attribute [local irreducible] AW AVle ASle RowLe
def sEditScripts : Spec := Spec.f3 (kL eS) (kL eS) (kL (eP eI eI)) (fun _ _ _ => True) (fun _ _ _ => kB.enc true)
theorem okEditScripts : SpecOK Try.prog 3 sEditScripts := by
  refine SpecOK.f3 Try.func3 rfl (by decide) Try.results3 Try.ntmps3 (by decide) fun a b l _ => ?_
  have hΓ : GOK Try.prog (gam [(10, sToldE), (8, sLcsTo), (7, sOfE), (9, sRefOfE), (12, sFromE), (11, sSameE), (13, sApplyE), (14, sBackE), (16, sSameS), (15, sCountsE)]) := (.cons okToldE (.cons okLcsTo (.cons okOfE (.cons okRefOfE (.cons okFromE (.cons okSameE (.cons okApplyE (.cons okBackE (.cons okSameS (.cons okCountsE .nil))))))))))
  refine AW.of hΓ mixed [1, 99999] _ _ _ rfl ?_
  simp only [go_sem, sToldE, sLcsTo, sOfE, sRefOfE, sFromE, sSameE, sApplyE, sBackE, sSameS, sCountsE, pp_sz]
  refine ⟨by omega, by omega, by omega, ?_⟩
  refine AW.cut ⟨[(0, sL eS (a.take 60)), (1, sL eS (b.take 60)), (2, sL (eP eI eI) (l.take 60))], [], 130, 0, 0, []⟩ ?_ ?_
  · simp only [go_sem]
    exact ⟨cap_le eS a rfl rfl (by omega), cap_le eS b rfl rfl (by omega), cap_le (eP eI eI) l rfl rfl (by omega)⟩
  obtain ⟨A, hA, lA⟩ := capped a 60
  obtain ⟨B, hB, lB⟩ := capped b 60
  obtain ⟨C, hC, lC⟩ := capped l 60
  rw [hA, hB, hC]
  rcases hq : rgt (numA A B) (numB A B) (-1) (-1) C with _ | _
  · refine AW.of hΓ mixed [] _ _ _ rfl ?_
    simp only [go_sem, sToldE, sLcsTo, sOfE, sRefOfE, sFromE, sSameE, sApplyE, sBackE, sSameS, sCountsE, pp_sz, st_sz, hq]
    exact ⟨by omega, by omega, by omega, by omega⟩
  · obtain ⟨h1, h2, h3, h4, h5⟩ := of_all hq
    have h6 := of_len (a := A) (b := B) C 0 0 []
    obtain ⟨S, hS⟩ : ∃ S, ofG A B C 0 0 [] = S := ⟨_, rfl⟩
    rw [hS] at h1 h2 h3 h4 h5 h6
    simp only [List.length_nil] at h6
    have h7 : S.length < 10000 := by omega
    have h8 : ∀ s ∈ S, s.2.length ≤ 10000 := fun s hs => by
      by_cases e : s.1 = 2
      · have := less_mem (j := 1) hs (by omega)
        rw [h2] at this
        omega
      · have := less_mem hs e
        rw [h1] at this
        omega
    have h9 := back_len S
    have h10 := back_mem h8
    have h11 := (back_l2 S).trans h2
    have h12 := (back_l1 S).trans h1
    refine AW.of hΓ mixed [] _ _ _ rfl ?_
    simp only [go_sem, sToldE, sLcsTo, sOfE, sRefOfE, sFromE, sSameE, sApplyE, sBackE, sSameS, sCountsE, pp_sz, st_sz, hq, hS, h1, h2, h11, h12]
    exact ⟨by omega, by omega, by omega, ⟨h7, h8⟩, ⟨h7, h7, h8⟩, ⟨h7, h8, by omega⟩, ⟨h7, h8⟩, ⟨by omega, h10, by omega⟩, ⟨h7, h8⟩, by omega, by omega, fun _ => by omega, fun _ => by omega, ⟨by omega, by omega⟩, by omega⟩
theorem sum_mem {l : List (Int × List (List UInt8))} {m : Nat} (h : sumL l ≤ m) : ∀ s ∈ l, s.2.length ≤ m := fun s hs => Nat.le_trans (sumL_mem hs) h
theorem less_len {l : List (Int × List (List UInt8))} (j : Int) : (lessL j l).length ≤ sumL l := by
  induction l with
  | nil => simp [lessL]
  | cons s l ih =>
    rw [lessL_cons, List.length_append]
    have e : sumL (s :: l) = s.2.length + sumL l := by simp [sumL]
    rw [e]
    by_cases h : s.1 = j
    · rw [if_pos h, List.length_nil]; omega
    · rw [if_neg h]; omega
def sEditApplies : Spec := Spec.f3 (kL (eP eI (eL eS))) (kL eS) kB (fun l _ _ => l.length ≤ 140737488351232 ∧ ∀ s ∈ l, s.2.length ≤ 140737488351232) (fun _ _ _ => kB.enc true)
theorem okEditApplies : SpecOK Try.prog 4 sEditApplies := by
  refine SpecOK.f3 Try.func4 rfl (by decide) Try.results4 Try.ntmps4 (by decide) fun l a own ⟨hl0, hs0⟩ => ?_
  have hΓ : GOK Try.prog (gam [(10, sToldE), (17, sFewE), (18, sToE), (19, sRightE), (20, sRefRightE), (21, sSideE), (13, sApplyE), (16, sSameS), (14, sBackE), (12, sFromE), (22, sRefBackE), (11, sSameE)]) := (.cons okToldE (.cons okFewE (.cons okToE (.cons okRightE (.cons okRefRightE (.cons okSideE (.cons okApplyE (.cons okSameS (.cons okBackE (.cons okFromE (.cons okRefBackE (.cons okSameE .nil))))))))))))
  by_cases hf : l.length ≤ 100 ∧ sumL l ≤ 300 ∧ a.length ≤ 300
  · obtain ⟨hl, hs, ha⟩ := hf
    have d1 : decide (l.length ≤ 100) = true := decide_eq_true hl
    have d2 : decide (sumL l ≤ 300) = true := decide_eq_true hs
    have d3 : (300 < (a.length : Int)) = False := eq_false (by omega)
    have h8 : ∀ s ∈ l, s.2.length ≤ 10000 := fun s h => by have := sumL_mem h; omega
    rcases hr : rightE (-1) l with _ | _
    · refine AW.of hΓ mixed [] _ _ _ rfl ?_
      simp only [go_sem, sToldE, sFewE, sToE, sRightE, sRefRightE, sSideE, sApplyE, sSameS, sBackE, sFromE, sRefBackE, sSameE, st_sz, d1, d2, d3, hr]
      exact ⟨⟨hl0, hs0⟩, by omega, h8⟩
    · obtain ⟨b1, b2⟩ := back_all hr
      obtain ⟨s1, s2⟩ := right_side hr
      have h9 := back_len l
      have h10 := back_mem h8
      have h11 := less_len (l := l) 1
      have h12 := less_len (l := l) 2
      have hlen : l.length < 10000 := by omega
      refine AW.of hΓ mixed [] _ _ _ rfl ?_
      simp only [go_sem, sToldE, sFewE, sToE, sRightE, sRefRightE, sSideE, sApplyE, sSameS, sBackE, sFromE, sRefBackE, sSameE, st_sz, d1, d2, d3, hr]
      refine ⟨⟨hl0, hs0⟩, ⟨hlen, h8⟩, ⟨hlen, h8⟩, ⟨hlen, h8⟩, ⟨hlen, h8⟩, ?_⟩
      refine AW.seqTo (fun x : { x : List (List UInt8) // x.length ≤ 300 } => Sh.st ⟨[(0, sL (eP eI (eL eS)) l), (1, sL eS x.1), (7, sL (eP eI (eL eS)) l)], [], 99, 0, 0, []⟩) ?_ ?_
      · refine AW.of hΓ mixed [] _ _ _ rfl ?_
        simp only [go_sem, sToldE, sFewE, sToE, sRightE, sRefRightE, sSideE, sApplyE, sSameS, sBackE, sFromE, sRefBackE, sSameE, st_sz, s1]
        refine ⟨fun _ => ⟨⟨hlen, h8⟩, ⟨lessL 2 l, by omega⟩, toFits ?_⟩, fun _ => ⟨⟨a, ha⟩, toFits ?_⟩⟩
        · simp only [go_sem, sToldE, sFewE, sToE, sRightE, sRefRightE, sSideE, sApplyE, sSameS, sBackE, sFromE, sRefBackE, sSameE]
        · simp only [go_sem, sToldE, sFewE, sToE, sRightE, sRefRightE, sSideE, sApplyE, sSameS, sBackE, sFromE, sRefBackE, sSameE]
      · rintro ⟨c, hc⟩
        have h13 : ∀ s ∈ l, s.2.length ≤ 10000 ∧ 0 ≤ s.1 ∧ s.1 ≤ 2 := fun s h => ⟨h8 s h, right_kinds hr s h⟩
        by_cases e : lessL 2 l = c
        · have e2 : decide (c = lessL 2 l) = true := decide_eq_true e.symm
          refine AW.of hΓ mixed [] _ _ _ rfl ?_
          simp only [go_sem, sToldE, sFewE, sToE, sRightE, sRefRightE, sSideE, sApplyE, sSameS, sBackE, sFromE, sRefBackE, sSameE, st_sz, s1, s2, hr, b1, b2, e, e2]
          and_intros <;> first | assumption | omega
        · have e2 : decide (c = lessL 2 l) = false := decide_eq_false (fun h => e h.symm)
          refine AW.of hΓ mixed [] _ _ _ rfl ?_
          simp only [go_sem, sToldE, sFewE, sToE, sRightE, sRefRightE, sSideE, sApplyE, sSameS, sBackE, sFromE, sRefBackE, sSameE, st_sz, s1, s2, hr, b1, b2, e, e2]
          and_intros <;> first | assumption | omega
  · refine AW.of hΓ mixed [] _ _ _ rfl ?_
    simp only [go_sem, sToldE, sFewE, sToE, sRightE, sRefRightE, sSideE, sApplyE, sSameS, sBackE, sFromE, sRefBackE, sSameE, st_sz]
    refine ⟨⟨hl0, hs0⟩, fun h => by simpa using h, fun h => ?_⟩
    simp only [Bool.or_eq_false_iff, Bool.not_eq_false', Bool.and_eq_true, decide_eq_true_eq, decide_eq_false_iff_not] at h
    exact absurd ⟨h.1.1, h.1.2, by omega⟩ hf
end Go.Proofs.Ytpbccamaipekjaa
