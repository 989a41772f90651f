/-
  chunk: pairs that rise, places that are matched.
-/
import Derived.Test.YtpbccamaipekjaaChunkW
set_option linter.unusedSimpArgs false
set_option linter.unusedVariables false
set_option maxRecDepth 100000
set_option maxHeartbeats 2000000
namespace Go.Proofs.Ytpbccamaipekjaa
open Go
attribute [local irreducible] AW AVle ASle RowLe
/-- Do pairs rise, behind these, and are all within? -/
def riseB (a b : Int) : Int → Int → List (Int × Int) → Bool
  | _, _, [] => true
  | u, v, p :: l => decide (u < p.1 ∧ v < p.2 ∧ p.1 < a ∧ p.2 < b) && riseB a b p.1 p.2 l
def sRises : Spec := Spec.f3 (kL (eP eI eI)) kI kI (fun l a b => l.length < 100000000) (fun l a b => kB.enc (riseB a b (-1) (-1) l))
theorem okRises : SpecOK Try.prog 46 sRises := by
  refine SpecOK.f3 Try.func46 rfl (by decide) Try.results46 Try.ntmps46 (by decide) fun l a b hl => ?_
  have hΓ : GOK Try.prog (gam []) := GOK.nil
  refine AW.of hΓ mixed [] _ _ _ rfl ?_
  simp only [go_sem, pp_sz]
  refine AW.round (α := { x : Nat × Int × Int × Nat // x.1 ≤ l.length ∧ riseB a b (-1) (-1) l = riseB a b x.2.1 x.2.2.1 (l.drop x.1) ∧ -1 ≤ x.2.1 ∧ -1 ≤ x.2.2.1 })
    (fun x => ⟨[(1, .val (.int .i64 a)), (2, .val (.int .i64 b)), (7, .pt 0 0 0), (11, sL (eP eI eI) l), (12, .val (.int .i64 l.length)), (13, .val (.int .i64 x.1.1))], [(0, .box 0 83 2 fun j => if j = 0 then .val (.int .i64 x.1.2.1) else .val (.int .i64 x.1.2.2.1))], 43, 1, x.1.2.2.2, []⟩) (fun x => l.length - x.1.1) ⟨(0, -1, -1, 1), Nat.zero_le _, rfl, Int.le_refl _, Int.le_refl _⟩ ?_ ?_
  · simp only [go_sem]
    refine RowLe.box fun j hj => AVle.of_eq ?_
    match j, hj with
    | 0, _ => rfl
    | 1, _ => rfl
  · rintro ⟨⟨i, u, v, nx⟩, hi, hr, hu, hv⟩
    simp only at hi hr hu hv
    refine AW.of hΓ mixed [4, 99999] _ _ _ rfl ?_
    simp only [go_sem, pp_sz]
    refine ⟨fun hlt => ?_, fun hge => ?_⟩
    · obtain ⟨x, y, hxy⟩ : ∃ x y, l.getD i (0, 0) = (x, y) := ⟨_, _, rfl⟩
      have hd : l.drop i = (x, y) :: l.drop (i + 1) := by
        rw [List.drop_eq_getElem_cons (by omega), ← gd_lt l (0, 0) (by omega), hxy]
      rw [hd, riseB] at hr
      dsimp only at hr
      refine ⟨by omega, ?_⟩
      refine AW.cut ⟨[(1, .val (.int .i64 a)), (2, .val (.int .i64 b)), (7, .pt 0 0 0), (9, .pt 1 nx 0), (11, sL (eP eI eI) l), (12, .val (.int .i64 l.length)), (13, .val (.int .i64 i))], [(0, .box 0 83 2 fun j => if j = 0 then .val (.int .i64 u) else .val (.int .i64 v)), (1, .box nx 83 2 fun j => if j = 0 then .val (.int .i64 x) else .val (.int .i64 y))], 43, 2, nx + 1, []⟩ ?_ ?_
      · simp only [go_sem]
        refine ⟨RowLe.refl _, RowLe.box fun j hj => AVle.of_eq ?_⟩
        match j, hj with
        | 0, _ => show (eP eI eI).enc (l.getD i (0, 0)) 0 = _; rw [hxy]; rfl
        | 1, _ => show (eP eI eI).enc (l.getD i (0, 0)) 1 = _; rw [hxy]; rfl
      · refine AW.of hΓ mixed [99999] _ _ _ rfl ?_
        simp only [go_sem]
        refine ⟨fun h => by simp [h], fun h => by rw [h]; rfl, fun h => by rw [h]; rfl, fun h => ?_, fun h => ?_⟩
        · simp only [Bool.or_eq_true, decide_eq_true_eq] at h
          rw [hr, decide_eq_false (by omega), Bool.false_and]
        · simp only [Bool.or_eq_false_iff, decide_eq_false_iff_not] at h
          rw [decide_eq_true (by omega), Bool.true_and] at hr
          exact ⟨by omega, ⟨(i + 1, x, y, nx + 1), by dsimp only; omega, hr, by dsimp only; omega, by dsimp only; omega⟩, ⟨Nat.le_refl _, by dsimp only; omega, box_st⟩, by dsimp only; omega⟩
    · obtain rfl : i = l.length := by omega
      rw [List.drop_length] at hr
      exact hr.symm
def sRefRises : Spec := Spec.f3 kI kI (kL (eP eI eI)) (fun a b l => l.length < 100000000) (fun a b l => kB.enc (riseB a b (-1) (-1) l))
theorem okRefRises : SpecOK Try.prog 51 sRefRises := by
  refine SpecOK.f3 Try.func51 rfl (by decide) Try.results51 Try.ntmps51 (by decide) fun a b l hl => ?_
  have hΓ : GOK Try.prog (gam []) := GOK.nil
  refine AW.of hΓ mixed [] _ _ _ rfl ?_
  simp only [go_sem, pp_sz]
  refine AW.round (α := { x : Nat × Nat // x.1 ≤ l.length ∧ riseB a b (-1) (-1) l = riseB a b (lastP l x.1).1 (lastP l x.1).2 (l.drop x.1) ∧ -1 ≤ (lastP l x.1).1 ∧ -1 ≤ (lastP l x.1).2 })
    (fun x => ⟨[(0, .val (.int .i64 a)), (1, .val (.int .i64 b)), (2, sL (eP eI eI) l), (7, .val (.int .i64 x.1.1))], [], 65, 0, x.1.2, []⟩) (fun x => l.length - x.1.1) ⟨(0, 0), Nat.zero_le _, rfl, Int.le_refl _, Int.le_refl _⟩ ?_ ?_
  · simp only [go_sem]
  · rintro ⟨⟨i, nx⟩, hi, hr, hu, hv⟩
    simp only at hi hr hu hv
    obtain ⟨u, v, huv⟩ : ∃ u v, lastP l i = (u, v) := ⟨_, _, rfl⟩
    rw [huv] at hr hu hv
    dsimp only at hr hu hv
    refine AW.of hΓ mixed [4, 99999] _ _ _ rfl ?_
    simp only [go_sem, pp_sz]
    refine ⟨fun hlt => ?_, fun hge => ?_⟩
    · obtain ⟨x, y, hxy⟩ : ∃ x y, l.getD i (0, 0) = (x, y) := ⟨_, _, rfl⟩
      have hd : l.drop i = (x, y) :: l.drop (i + 1) := by
        rw [List.drop_eq_getElem_cons (by omega), ← gd_lt l (0, 0) (by omega), hxy]
      rw [hd, riseB] at hr
      dsimp only at hr
      refine ⟨by omega, ?_⟩
      refine AW.cut ⟨[(0, .val (.int .i64 a)), (1, .val (.int .i64 b)), (2, sL (eP eI eI) l), (7, .val (.int .i64 i)), (8, .pt 0 nx 0)], [(0, .box nx 85 2 fun j => if j = 0 then .val (.int .i64 x) else .val (.int .i64 y))], 65, 1, nx + 1, []⟩ ?_ ?_
      · simp only [go_sem]
        refine RowLe.box fun j hj => AVle.of_eq ?_
        match j, hj with
        | 0, _ => show (eP eI eI).enc (l.getD i (0, 0)) 0 = _; rw [hxy]; rfl
        | 1, _ => show (eP eI eI).enc (l.getD i (0, 0)) 1 = _; rw [hxy]; rfl
      · by_cases c : 0 ≤ x ∧ x < a ∧ 0 ≤ y ∧ y < b
        · obtain ⟨c1, c2, c3, c4⟩ := c
          have c5 : ¬ a ≤ x := by omega
          have c6 : ¬ b ≤ y := by omega
          have c7 : ¬ x < 0 := by omega
          have c8 : ¬ y < 0 := by omega
          obtain ⟨g1, g2, hg⟩ : ∃ g1 g2, l.getD ((i : Int) - 1).toNat (0, 0) = (g1, g2) := ⟨_, _, rfl⟩
          have hk : 0 < i → g1 = u ∧ g2 = v := fun h0 => by
            cases i with
            | zero => omega
            | succ i =>
              have h1 : l.getD i (0, 0) = (u, v) := huv
              rw [show ((i + 1 : Nat) : Int) - 1 = (i : Nat) by omega, Int.toNat_natCast, h1] at hg
              exact ⟨(Prod.mk.inj hg).1.symm, (Prod.mk.inj hg).2.symm⟩
          have hz : i = 0 → u = -1 ∧ v = -1 := fun h0 => by
            subst h0
            exact ⟨(Prod.mk.inj huv).1.symm, (Prod.mk.inj huv).2.symm⟩
          refine AW.of hΓ mixed [99999] _ _ _ rfl ?_
          simp only [go_sem, c1, c2, c3, c4, c5, c6, c7, c8, decide_true, decide_false, Bool.or_false, Bool.not_false, Bool.false_or, true_and, forall_const, pp0, pp1, pp_sz, pp_d, hg]
          have hl1 : lastP l (i + 1) = (x, y) := hxy
          refine ⟨fun _ => by omega, fun _ => by omega, fun _ => by omega, fun _ => by omega, fun h0 h1 => by rw [decide_eq_true h0, decide_eq_false h1]; rfl, fun ⟨h0, h1⟩ => ?_, fun h1 => ⟨by omega, ⟨(i + 1, nx + 1), by dsimp only; omega, ?_, by dsimp only; rw [hl1]; dsimp only; omega, by dsimp only; rw [hl1]; dsimp only; omega⟩, ⟨Nat.le_refl _, by dsimp only; omega⟩, by dsimp only; omega⟩⟩
          · simp only [Bool.or_eq_true, decide_eq_true_eq] at h1
            have := hk (by omega)
            rw [hr, decide_eq_false (by omega), Bool.false_and]
          · simp only [Bool.or_eq_false_iff, decide_eq_false_iff_not] at h1
            dsimp only
            rw [hl1, hr, decide_eq_true, Bool.true_and]
            rcases Nat.eq_zero_or_pos i with h0 | h0
            · have := hz h0; omega
            · have := hk h0; have := h1 (by omega); omega
        · have d : (decide (x < 0) || decide (a ≤ x) || decide (y < 0) || decide (b ≤ y)) = true := by
            cases h : (decide (x < 0) || decide (a ≤ x) || decide (y < 0) || decide (b ≤ y)) with
            | true => rfl
            | false =>
              simp only [Bool.or_eq_false_iff, decide_eq_false_iff_not] at h
              omega
          have hr2 : riseB a b (-1) (-1) l = false := by
            rw [hr, decide_eq_false (fun h => c ⟨by omega, h.2.2.1, by omega, h.2.2.2⟩), Bool.false_and]
          refine AW.of hΓ mixed [6, 99999] _ _ _ rfl ?_
          simp only [go_sem]
          refine ⟨fun h => by simp [h], fun h => by rw [h]; rfl, fun h => by rw [h]; rfl, fun h => by rw [d] at h; exact absurd h.1 (by decide), fun h => by rw [d] at h; exact absurd h.1 (by decide), fun h => by rw [d] at h; exact absurd h.1.1 (by decide), fun h => by rw [d] at h; exact absurd h.1.1 (by decide),
            fun h => by rw [d] at h; exact absurd h.1 (by decide), fun h => by rw [d] at h; exact absurd h (by decide), fun h => by rw [d] at h; exact absurd h (by decide), fun _ => ?_, fun h => by rw [d, Bool.true_or] at h; exact absurd h (by decide)⟩
          refine AW.of hΓ mixed [] _ _ _ rfl ?_
          simp only [go_sem]
          exact hr2.symm
    · obtain rfl : i = l.length := by omega
      rw [List.drop_length] at hr
      exact hr.symm
/-- What a place is matched with. -/
def atL : List (Int × Int) → Int → Int
  | [], _ => -1
  | p :: l, x => if p.1 = x then p.2 else atL l x
def sAtL : Spec := Spec.f2 (kL (eP eI eI)) kI (fun l x => l.length < 100000000) (fun l x => kI.enc (atL l x))
theorem okAtL : SpecOK Try.prog 52 sAtL := by
  refine SpecOK.f2 Try.func52 rfl (by decide) Try.results52 Try.ntmps52 (by decide) fun l x hl => ?_
  have hΓ : GOK Try.prog (gam []) := GOK.nil
  refine AW.of hΓ mixed [] _ _ _ rfl ?_
  simp only [go_sem, pp_sz]
  refine AW.round (α := { y : Nat × Nat // y.1 ≤ l.length ∧ atL l x = atL (l.drop y.1) x })
    (fun y => ⟨[(0, sL (eP eI eI) l), (1, .val (.int .i64 x)), (5, .val (.int .i64 y.1.1))], [], 24, 0, y.1.2, []⟩) (fun y => l.length - y.1.1) ⟨(0, 0), Nat.zero_le _, rfl⟩ ?_ ?_
  · simp only [go_sem]
  · rintro ⟨⟨i, nx⟩, hi, hr⟩
    simp only at hi hr
    refine AW.of hΓ mixed [99999] _ _ _ rfl ?_
    simp only [go_sem, pp_sz, pp_d, pp0, pp1]
    refine ⟨fun hlt => ?_, fun hge => ?_⟩
    · have hd : l.drop i = l.getD i (0, 0) :: l.drop (i + 1) := by
        rw [List.drop_eq_getElem_cons (by omega), ← gd_lt l (0, 0) (by omega)]
      rw [hd, atL] at hr
      refine ⟨by omega, fun h => ⟨by omega, ?_⟩, fun h => ⟨by omega, ⟨(i + 1, nx), by dsimp only; omega, ?_⟩, ⟨Nat.le_refl _, by dsimp only; omega⟩, by dsimp only; omega⟩⟩
      · rw [hr, if_pos h]
      · rw [if_neg h] at hr
        exact hr
    · obtain rfl : i = l.length := by omega
      rw [List.drop_length] at hr
      exact hr.symm
end Go.Proofs.Ytpbccamaipekjaa
