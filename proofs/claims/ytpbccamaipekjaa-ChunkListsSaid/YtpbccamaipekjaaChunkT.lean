/-
  chunk: the law's own example; classes.
-/
import Derived.Test.YtpbccamaipekjaaChunkU
set_option linter.unusedSimpArgs false
set_option linter.unusedVariables false
set_option maxRecDepth 100000
set_option maxHeartbeats 2000000
namespace Go.Proofs.Ytpbccamaipekjaa
open Go
attribute [local irreducible] AW AVle ASle RowLe
theorem k1Fit : fitK 2 2 2 [(1, 1)] [(1, 1)] = true := by decide
theorem k1Both : bothF [(1, 1)] [(1, 1)] = [(1, 1, 1)] := by simp [bothF]
theorem k1Of : ofK (2, 2, 2) [(1, 1, 1)] [] (0, 0, 0) = [(false, (0, 1), (0, 1), (0, 1)), (true, (1, 2), (1, 2), (1, 2))] := by decide
theorem k1A : classK (false, (0, 1), (0, 1), (0, 1)) [[97], [120]] [[97], [120]] [[98], [120]] = 2 := by decide
theorem k1B : classK (false, (0, 1), (0, 1), (0, 1)) [[97], [120]] [[98], [120]] [[98], [120]] = 3 := by decide
theorem k1C : classK (true, (1, 2), (1, 2), (1, 2)) [[97], [120]] [[98], [120]] [[98], [120]] = 0 := by decide
theorem k1L : lenS (0, 1) = 1 := by decide
def sToldK : Spec := Spec.f0 (kB.enc true)
theorem okToldK : SpecOK Try.prog 26 sToldK := by
  refine SpecOK.f0 Try.func26 rfl (by decide) Try.results26 Try.ntmps26 ?_
  have hΓ : GOK Try.prog (gam [(8, sLcsTo), (24, sOfK), (35, sClassK), (31, sLenK)]) := (.cons okLcsTo (.cons okOfK (.cons okClassK (.cons okLenK .nil))))
  refine AW.of hΓ mixed [] _ _ _ rfl ?_
  simp only [go_sem, sLcsTo, sOfK, sClassK, sLenK, k1Fit, k1Both, k1Of, k1A, k1B, k1C, k1L]
  exact .inr trivial
  done
abbrev eL3 : El (List (List UInt8) × List (List UInt8) × List (List UInt8)) := eP (eL eS) (eP (eL eS) (eL eS))
def okInt (n : Int) : Prop := -9223372036854775808 ≤ n ∧ n ≤ 9223372036854775807
def sChunkClasses : Spec := Spec.f3 (kA eCk) (kA eL3) (kA eSp) (fun c l s => okInt s.1 ∧ okInt s.2) (fun _ _ _ => kB.enc true)
theorem okChunkClasses : SpecOK Try.prog 6 sChunkClasses := by
  refine SpecOK.f3 Try.func6 rfl (by decide) Try.results6 Try.ntmps6 (by decide) fun c l s ⟨hs1, hs2⟩ => ?_
  have hΓ : GOK Try.prog (gam [(26, sToldK), (32, sToK), (33, sCutK), (34, sRefCutK), (16, sSameS), (31, sLenK), (35, sClassK), (30, sTurnedK), (36, sRefClassK)]) := (.cons okToldK (.cons okToK (.cons okCutK (.cons okRefCutK (.cons okSameS (.cons okLenK (.cons okClassK (.cons okTurnedK (.cons okRefClassK .nil)))))))))
  obtain ⟨st, ⟨b1, b2⟩, ⟨l1, l2⟩, r1, r2⟩ := c
  obtain ⟨x, y, z⟩ := l
  obtain ⟨f, t⟩ := s
  refine AW.of hΓ mixed [1, 99999] _ _ _ rfl ?_
  simp only [go_sem, sToldK, sToK, sCutK, sRefCutK, sSameS, sLenK, sClassK, sTurnedK, sRefClassK]
  refine ⟨by omega, by omega, by omega, ?_⟩
  obtain ⟨X, hX, lX⟩ := capped x 60
  obtain ⟨Y, hY, lY⟩ := capped y 60
  obtain ⟨Z, hZ, lZ⟩ := capped z 60
  refine AW.cut ⟨[(3, .pt 0 0 0), (5, .pt 2 2 0), (7, sL eS X), (8, sL eS Y), (9, sL eS Z)], [(0, .box 0 65 7 (eCk.enc (st, (b1, b2), (l1, l2), r1, r2))), (2, .box 2 63 2 (eSp.enc (f, t)))], 184, 3, 3, []⟩ ?_ ?_
  · simp only [go_sem]
    rw [← hX, ← hY, ← hZ]
    exact ⟨⟨cap_le eS x rfl rfl (by omega), cap_le eS y rfl rfl (by omega), cap_le eS z rfl rfl (by omega)⟩, RowLe.refl _, RowLe.refl _⟩
  clear hX hY hZ
  unfold okInt at hs1 hs2
  simp only at hs1 hs2
  have e1 : 0 ≤ f ∧ f ≤ t → lenS (f, t) = t - f := fun h => by
    unfold lenS
    simp only
    split
    · omega
    · rfl
  have e2 : t ≤ f → lenS (f, t) = 0 := fun h => by
    unfold lenS
    rw [if_pos h]
  have eX : (decide (0 ≤ f) && decide (f ≤ t) && decide ¬lenS (f, t) = t - f) = false := by
    cases hh : (decide (0 ≤ f) && decide (f ≤ t) && decide ¬lenS (f, t) = t - f) with
    | false => rfl
    | true =>
      simp only [Bool.and_eq_true, decide_eq_true_eq] at hh
      exact absurd (e1 ⟨hh.1.1, hh.1.2⟩) hh.2
  have eY : (decide (t ≤ f) && decide ¬lenS (f, t) = 0) = false := by
    cases hh : (decide (t ≤ f) && decide ¬lenS (f, t) = 0) with
    | false => rfl
    | true =>
      simp only [Bool.and_eq_true, decide_eq_true_eq] at hh
      exact absurd (e2 hh.1) hh.2
  have g0 := cutS_le (f, t) X
  refine AW.of hΓ mixed [5, 8, 99999] _ _ _ rfl ?_
  simp only [go_sem, sToldK, sToK, sCutK, sRefCutK, sSameS, sLenK, sClassK, sTurnedK, sRefClassK, eX, eY]
  refine ⟨by omega, by omega, by omega, fun h => by omega, fun h => by omega, fun h => .inl h, ?_⟩
  refine AW.to (fun n : { n : Nat // (0 ≤ b1 ∧ b1 ≤ b2) ∧ (0 ≤ l1 ∧ l1 ≤ l2) ∧ 0 ≤ r1 ∧ r1 ≤ r2 } => Sh.st ⟨[(3, .pt 0 0 0), (7, sL eS X), (8, sL eS Y), (9, sL eS Z), (10, .pt 3 3 0)], [(0, .box 0 65 7 (eCk.enc (st, (b1, b2), (l1, l2), r1, r2))), (3, .box 3 62 7 (eCk.enc (st, (b1, b2), (l1, l2), r1, r2)))], 184, 4, n.1, []⟩) ?_ ?_
  · refine AW.block (AW.round (α := { n : Nat × Nat // n.1 ≤ 3 ∧ ∀ k, k < n.1 → 0 ≤ (([(b1, b2), (l1, l2), (r1, r2)] : List Sp).getD k (0, 0)).1 ∧ (([(b1, b2), (l1, l2), (r1, r2)] : List Sp).getD k (0, 0)).1 ≤ (([(b1, b2), (l1, l2), (r1, r2)] : List Sp).getD k (0, 0)).2 })
      (fun n => ⟨[(3, .pt 0 0 0), (7, sL eS X), (8, sL eS Y), (9, sL eS Z), (10, .pt 3 3 0), (95, sL eSp [(b1, b2), (l1, l2), (r1, r2)]), (96, .val (.int .i64 3)), (97, .val (.int .i64 n.1.1))],
        [(0, .box 0 65 7 (eCk.enc (st, (b1, b2), (l1, l2), r1, r2))), (3, .box 3 62 7 (eCk.enc (st, (b1, b2), (l1, l2), r1, r2)))], 184, 4, n.1.2, []⟩) (fun n => 3 - n.1.1) ⟨(0, 5), by decide, fun k hk => absurd hk (Nat.not_lt_zero _)⟩ ?_ ?_)
    · simp only [go_sem, sToldK, sToK, sCutK, sRefCutK, sSameS, sLenK, sClassK, sTurnedK, sRefClassK]
      refine ⟨AVle.sn fun i hi j hj => ?_, RowLe.refl _, RowLe.box fun j hj => ?_⟩
      · match i, hi, j, hj with
        | 0, _, 0, _ => exact AVle.refl _
        | 0, _, 1, _ => exact AVle.refl _
        | 1, _, 0, _ => exact AVle.refl _
        | 1, _, 1, _ => exact AVle.refl _
        | 2, _, 0, _ => exact AVle.refl _
        | 2, _, 1, _ => exact AVle.refl _
      · rw [stC_in (Nat.zero_le _) (by omega)]
        exact AVle.refl _
    · rintro ⟨⟨i, nx⟩, hi, hk⟩
      simp only at hi hk
      refine AW.of hΓ mixed [99999] _ _ _ rfl ?_
      simp only [go_sem, sToldK, sToK, sCutK, sRefCutK, sSameS, sLenK, sClassK, sTurnedK, sRefClassK]
      refine ⟨fun hlt => ⟨by omega, fun h => by rw [decide_eq_false h]; rfl, fun h => ⟨by omega, ⟨(i + 1, nx + 1), by dsimp only; omega, fun k hk' => ?_⟩, ⟨Nat.le_refl _, by dsimp only; omega, RowLe.refl _, RowLe.refl _⟩, by dsimp only; omega⟩⟩, fun hge => ?_⟩
      · dsimp only at hk'
        rcases Nat.lt_or_ge k i with h' | h'
        · exact hk k h'
        · obtain rfl : k = i := by omega
          simp only [Bool.or_eq_false_iff, decide_eq_false_iff_not] at h
          have h2 : ¬ (([(b1, b2), (l1, l2), (r1, r2)] : List Sp).getD k (0, 0)).1 < 0 ∧ ¬ (([(b1, b2), (l1, l2), (r1, r2)] : List Sp).getD k (0, 0)).2 < (([(b1, b2), (l1, l2), (r1, r2)] : List Sp).getD k (0, 0)).1 := h
          omega
      · obtain rfl : i = 3 := by omega
        refine ⟨⟨nx, hk 0 (by decide), hk 1 (by decide), hk 2 (by decide)⟩, toFits ?_⟩
        simp only [go_sem, sToldK, sToK, sCutK, sRefCutK, sSameS, sLenK, sClassK, sTurnedK, sRefClassK]
        exact ⟨RowLe.refl _, RowLe.refl _⟩
  · rintro ⟨n, ⟨q1, q2⟩, ⟨q3, q4⟩, q5, q6⟩
    have ht : turnC (st, (b1, b2), (l1, l2), r1, r2) = (st, (b1, b2), (r1, r2), l1, l2) := rfl
    have g1 := cutS_le (b1, b2) X
    have g2 := cutS_le (l1, l2) Y
    have g3 := cutS_le (r1, r2) Z
    cases st with
    | true =>
      have k1 : classK (true, (b1, b2), (l1, l2), r1, r2) X Y Z = 0 := by simp [classK]
      have k2 : classK (true, (b1, b2), (r1, r2), l1, l2) X Z Y = 0 := by simp [classK]
      simp only [go_sem, sToldK, sToK, sCutK, sRefCutK, sSameS, sLenK, sClassK, sTurnedK, sRefClassK, ht, k1, k2]
      refine ⟨fun h => by rw [decide_eq_false h]; rfl, fun h => by rw [h]; rfl, fun _ => ?_⟩
      and_intros <;> first | omega | (intros; omega)
    | false =>
      by_cases hBL : cutS (l1, l2) Y = cutS (b1, b2) X
      · by_cases hBR : cutS (r1, r2) Z = cutS (b1, b2) X
        · have k1 : classK (false, (b1, b2), (l1, l2), r1, r2) X Y Z = 2 := by simp [classK, hBL]
          have k2 : classK (false, (b1, b2), (r1, r2), l1, l2) X Z Y = 2 := by simp [classK, hBR]
          simp only [go_sem, sToldK, sToK, sCutK, sRefCutK, sSameS, sLenK, sClassK, sTurnedK, sRefClassK, ht, k1, k2, hBL, hBR]
          refine ⟨fun h => by rw [decide_eq_false h]; rfl, fun h => by rw [h]; rfl, fun _ => ?_⟩
          and_intros <;> first | omega | (intros; omega)
        · have hBR2 : (cutS (b1, b2) X = cutS (r1, r2) Z) = False := eq_false (fun e => hBR e.symm)
          have k1 : classK (false, (b1, b2), (l1, l2), r1, r2) X Y Z = 2 := by simp [classK, hBL]
          have k2 : classK (false, (b1, b2), (r1, r2), l1, l2) X Z Y = 1 := by simp [classK, hBL, hBR]
          simp only [go_sem, sToldK, sToK, sCutK, sRefCutK, sSameS, sLenK, sClassK, sTurnedK, sRefClassK, ht, k1, k2, hBL, hBR2]
          refine ⟨fun h => by rw [decide_eq_false h]; rfl, fun h => by rw [h]; rfl, fun _ => ?_⟩
          and_intros <;> first | omega | (intros; omega)
      · have hBL2 : (cutS (b1, b2) X = cutS (l1, l2) Y) = False := eq_false (fun e => hBL e.symm)
        by_cases hBR : cutS (r1, r2) Z = cutS (b1, b2) X
        · have k1 : classK (false, (b1, b2), (l1, l2), r1, r2) X Y Z = 1 := by simp [classK, hBL, hBR]
          have k2 : classK (false, (b1, b2), (r1, r2), l1, l2) X Z Y = 2 := by simp [classK, hBR]
          simp only [go_sem, sToldK, sToK, sCutK, sRefCutK, sSameS, sLenK, sClassK, sTurnedK, sRefClassK, ht, k1, k2, hBL2, hBR]
          refine ⟨fun h => by rw [decide_eq_false h]; rfl, fun h => by rw [h]; rfl, fun _ => ?_⟩
          and_intros <;> first | omega | (intros; omega)
        · have hBR2 : (cutS (b1, b2) X = cutS (r1, r2) Z) = False := eq_false (fun e => hBR e.symm)
          by_cases hLR : cutS (l1, l2) Y = cutS (r1, r2) Z
          · have k1 : classK (false, (b1, b2), (l1, l2), r1, r2) X Y Z = 3 := by unfold classK; dsimp only; rw [if_neg (by decide), if_neg hBL, if_neg hBR, if_pos hLR]
            have k2 : classK (false, (b1, b2), (r1, r2), l1, l2) X Z Y = 3 := by unfold classK; dsimp only; rw [if_neg (by decide), if_neg hBR, if_neg hBL, if_pos hLR.symm]
            simp only [go_sem, sToldK, sToK, sCutK, sRefCutK, sSameS, sLenK, sClassK, sTurnedK, sRefClassK, ht, k1, k2, hBL2, hBR2]
            refine ⟨fun h => by rw [decide_eq_false h]; rfl, fun h => by rw [h]; rfl, fun _ => ?_⟩
            and_intros <;> first | omega | (intros; omega)
          · have k1 : classK (false, (b1, b2), (l1, l2), r1, r2) X Y Z = 4 := by unfold classK; dsimp only; rw [if_neg (by decide), if_neg hBL, if_neg hBR, if_neg hLR]
            have k2 : classK (false, (b1, b2), (r1, r2), l1, l2) X Z Y = 4 := by unfold classK; dsimp only; rw [if_neg (by decide), if_neg hBR, if_neg hBL, if_neg (fun e => hLR e.symm)]
            simp only [go_sem, sToldK, sToK, sCutK, sRefCutK, sSameS, sLenK, sClassK, sTurnedK, sRefClassK, ht, k1, k2, hBL2, hBR2]
            refine ⟨fun h => by rw [decide_eq_false h]; rfl, fun h => by rw [h]; rfl, fun _ => ?_⟩
            and_intros <;> first | omega | (intros; omega)
end Go.Proofs.Ytpbccamaipekjaa
