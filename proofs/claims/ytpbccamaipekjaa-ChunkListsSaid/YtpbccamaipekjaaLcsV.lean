/-
  lcs: what lies beside the walks: pairs handed on, and whether they are a matching.
-/
import Derived.Test.YtpbccamaipekjaaLcsI
import Derived.Test.YtpbccamaipekjaaAxn
import Derived.Test.YtpbccamaipekjaaAxt
import Derived.Test.YtpbccamaipekjaaSameW
set_option linter.unusedSimpArgs false
set_option linter.unusedVariables false
set_option maxRecDepth 100000
set_option maxHeartbeats 2000000
namespace Go.Proofs.Ytpbccamaipekjaa
open Go
attribute [local irreducible] AW AVle ASle RowLe
theorem pp_sz : (eP eI eI).sz = 2 := rfl
theorem pp0 (p : Int × Int) : (eP eI eI).enc p 0 = .val (.int .i64 p.1) := rfl
theorem pp1 (p : Int × Int) : (eP eI eI).enc p 1 = .val (.int .i64 p.2) := rfl
theorem take_snocG {α : Type} (l : List α) (d : α) {i : Nat} (h : i < l.length) : l.take (i + 1) = l.take i ++ [l.getD i d] := by
  rw [List.take_succ_eq_append_getElem h, gd_lt l d h]
theorem cap_le {α : Type} (E : El α) (l : List α) {d : α} {m n : Nat} {s : Nat} (hs : s = E.sz) (hd : d = E.dflt) (hn : n = min l.length m) : AVle (.sn n s fun i => E.enc (l.getD i d)) (sL E (l.take m)) := by
  subst hs hd hn
  exact vw_row rfl rfl (by rw [List.take_eq_take_iff]; omega) (by omega)
theorem capped {α : Type} (l : List α) (m : Nat) : ∃ L, l.take m = L ∧ L.length ≤ m := ⟨_, rfl, by rw [List.length_take]; omega⟩
theorem zC_10 : zC [Value.int .i64 0, Value.int .i64 0] 0 = .val (.int .i64 0) := rfl
theorem zC_11 : zC [Value.int .i64 0, Value.int .i64 0] 1 = .val (.int .i64 0) := rfl
def sLcsTo : Spec := Spec.f1 (kL (eP eI eI)) (fun l => l.length < 100000000) (fun l => sL (eP eI eI) l)
theorem okLcsTo : SpecOK Try.prog 8 sLcsTo := by
  refine SpecOK.f1 Try.func8 rfl (by decide) Try.results8 Try.ntmps8 (by decide) fun l hl => ?_
  have hΓ : GOK Try.prog (gam []) := GOK.nil
  refine AW.of hΓ mixed [] _ _ _ rfl ?_
  simp only [go_sem]
  refine AW.adopt 3 83 2 (fun i => (eP eI eI).enc (([] : List (Int × Int)).getD i (0, 0))) rfl ?_
  refine AW.round (α := { x : Nat × Nat × Nat // x.1 ≤ l.length })
    (fun x => ⟨[(0, sL (eP eI eI) l), (3, .ow 0 x.1.2.1 x.1.1), (4, .val (.int .i64 x.1.1))], [(0, rowL x.1.2.1 83 (eP eI eI) (l.take x.1.1))], 26, 1, x.1.2.2, []⟩) (fun x => l.length - x.1.1) ⟨(0, 0, 1), Nat.zero_le _⟩ ?_ ?_
  · simp only [go_sem]
    exact RowLe.refl _
  · rintro ⟨⟨i, v, nx⟩, hi⟩
    simp only at hi
    refine AW.of hΓ mixed [99999] _ _ _ rfl ?_
    simp only [go_sem, pp_sz, pp0, pp1]
    refine ⟨fun hlt => ⟨by omega, by omega, ⟨by omega, by omega⟩, by omega, ⟨(i + 1, nx, nx + 1), by dsimp only; omega⟩, ⟨Nat.le_refl _, ⟨⟨rfl, rfl⟩, rfl⟩, ?_⟩, by dsimp only; omega⟩, fun hge => ?_⟩
    · refine row_app1 (E := eP eI eI) (l := l.take i) (x := l.getD i (0, 0)) rfl (take_snocG l (0, 0) (by omega)) (by simp; omega) rfl (by simp) fun j hj => ?_
      match j, hj with
      | 0, _ => exact AVle.refl _
      | 1, _ => exact AVle.refl _
    · obtain rfl : i = l.length := by omega
      rw [List.take_length]
      refine ⟨?_, vw_all (E := eP eI eI) rfl rfl rfl⟩
      first | omega | exact ⟨by omega, fun i hi => ⟨rfl, rfl⟩⟩
def sLcsFrom : Spec := Spec.f1 (kL (eP eI eI)) (fun l => l.length < 100000000) (fun l => sL (eP eI eI) l)
def sLcsRight : Spec := Spec.f3 (kL eI) (kL eI) (kL (eP eI eI)) (fun a b l => a.length < 100000000 ∧ b.length < 100000000 ∧ l.length < 100000000) (fun a b l => kB.enc (rgt a b (-1) (-1) l))
theorem okLcsRight : SpecOK Try.prog 38 sLcsRight := by
  refine SpecOK.f3 Try.func38 rfl (by decide) Try.results38 Try.ntmps38 (by decide) fun a b l ⟨ha, hb, hl⟩ => ?_
  have hΓ : GOK Try.prog (gam []) := GOK.nil
  refine AW.of hΓ mixed [] _ _ _ rfl ?_
  simp only [go_sem, pp_sz]
  refine AW.round (α := { x : Nat × Int × Int × Nat // x.1 ≤ l.length ∧ rgt a b (-1) (-1) l = rgt a b x.2.1 x.2.2.1 (l.drop x.1) ∧ -1 ≤ x.2.1 ∧ -1 ≤ x.2.2.1 })
    (fun x => ⟨[(0, sL eI a), (1, sL eI b), (7, .pt 0 0 0), (12, sL (eP eI eI) l), (13, .val (.int .i64 l.length)), (14, .val (.int .i64 x.1.1))], [(0, .box 0 83 2 fun j => if j = 0 then .val (.int .i64 x.1.2.1) else .val (.int .i64 x.1.2.2.1))], 61, 1, x.1.2.2.2, []⟩) (fun x => l.length - x.1.1) ⟨(0, -1, -1, 1), Nat.zero_le _, rfl, Int.le_refl _, Int.le_refl _⟩ ?_ ?_
  · simp only [go_sem]
    refine RowLe.box fun j hj => AVle.of_eq ?_
    match j, hj with
    | 0, _ => rfl
    | 1, _ => rfl
  · rintro ⟨⟨i, u, v, nx⟩, hi, hr, hu, hv⟩
    simp only at hi hr hu hv
    refine AW.of hΓ mixed [4, 99999] _ _ _ rfl ?_
    simp only [go_sem, pp_sz]
    refine ⟨fun hlt => ?_, fun hge => ?_⟩
    · obtain ⟨x, y, hxy⟩ : ∃ x y, l.getD i (0, 0) = (x, y) := ⟨_, _, rfl⟩
      have hd : l.drop i = (x, y) :: l.drop (i + 1) := by
        rw [List.drop_eq_getElem_cons (by omega), ← gd_lt l (0, 0) (by omega), hxy]
      rw [hd, rgt] at hr
      dsimp only at hr
      refine ⟨by omega, ?_⟩
      refine AW.cut ⟨[(0, sL eI a), (1, sL eI b), (7, .pt 0 0 0), (9, .pt 1 nx 0), (12, sL (eP eI eI) l), (13, .val (.int .i64 l.length)), (14, .val (.int .i64 i))], [(0, .box 0 83 2 fun j => if j = 0 then .val (.int .i64 u) else .val (.int .i64 v)), (1, .box nx 83 2 fun j => if j = 0 then .val (.int .i64 x) else .val (.int .i64 y))], 61, 2, nx + 1, []⟩ ?_ ?_
      · simp only [go_sem]
        refine ⟨RowLe.refl _, RowLe.box fun j hj => AVle.of_eq ?_⟩
        match j, hj with
        | 0, _ => show (eP eI eI).enc (l.getD i (0, 0)) 0 = _; rw [hxy]; rfl
        | 1, _ => show (eP eI eI).enc (l.getD i (0, 0)) 1 = _; rw [hxy]; rfl
      · refine AW.of hΓ mixed [99999] _ _ _ rfl ?_
        simp only [go_sem]
        by_cases c : u < x ∧ v < y ∧ x < a.length ∧ y < b.length
        · obtain ⟨c1, c2, c3, c4⟩ := c
          have c5 : ¬ (a.length : Int) ≤ x := by omega
          have c6 : ¬ (b.length : Int) ≤ y := by omega
          simp only [c1, c2, c3, c4, c5, c6, decide_true, decide_false, Bool.and_true, Bool.not_true, Bool.or_false, Bool.not_false, true_and, false_implies, forall_const] at hr ⊢
          simp only [Bool.false_or, decide_eq_true_eq, decide_eq_false_iff_not, Decidable.not_not]
          refine ⟨⟨by omega, trivial⟩, ⟨by omega, trivial⟩, fun h => ?_, fun h => ⟨by omega, ⟨(i + 1, x, y, nx + 1), by dsimp only; omega, ?_, by dsimp only; omega, by dsimp only; omega⟩, ⟨Nat.le_refl _, rfl, box_st⟩, by dsimp only; omega⟩⟩
          · rw [hr, decide_eq_false h, Bool.false_and]
          · rw [hr, decide_eq_true h, Bool.true_and]
        · have d : (!(decide (u < x) && decide (v < y)) || decide ((a.length : Int) ≤ x) || decide ((b.length : Int) ≤ y)) = true := by
            cases h : (!(decide (u < x) && decide (v < y)) || decide ((a.length : Int) ≤ x) || decide ((b.length : Int) ≤ y)) with
            | true => rfl
            | false =>
              simp only [Bool.or_eq_false_iff, Bool.not_eq_false', Bool.and_eq_true, decide_eq_true_eq, decide_eq_false_iff_not] at h
              omega
          have hr2 : rgt a b (-1) (-1) l = false := by
            rw [hr, decide_eq_false (fun h => c ⟨h.1, h.2.1, h.2.2.1, h.2.2.2.1⟩), Bool.false_and]
          refine ⟨fun h => by rw [h]; rfl, fun h => by rw [h]; rfl, fun h => by rw [d] at h; exact absurd h (by decide), fun h => by rw [d] at h; exact absurd h (by decide), fun h => by rw [d] at h; exact absurd h (by decide), fun _ => hr2.symm, fun h => by rw [d, Bool.true_or] at h; exact absurd h (by decide)⟩
    · obtain rfl : i = l.length := by omega
      rw [List.drop_length] at hr
      exact hr.symm
theorem pp_d : (eP eI eI).dflt = ((0 : Int), (0 : Int)) := rfl
def lastP (l : List (Int × Int)) : Nat → Int × Int
  | 0 => (-1, -1)
  | i + 1 => l.getD i (0, 0)
def sLcsRefRight : Spec := Spec.f3 (kL eI) (kL eI) (kL (eP eI eI)) (fun a b l => a.length < 100000000 ∧ b.length < 100000000 ∧ l.length < 100000000) (fun a b l => kB.enc (rgt a b (-1) (-1) l))
theorem okLcsRefRight : SpecOK Try.prog 41 sLcsRefRight := by
  refine SpecOK.f3 Try.func41 rfl (by decide) Try.results41 Try.ntmps41 (by decide) fun a b l ⟨ha, hb, hl⟩ => ?_
  have hΓ : GOK Try.prog (gam []) := GOK.nil
  refine AW.of hΓ mixed [] _ _ _ rfl ?_
  simp only [go_sem, pp_sz]
  refine AW.round (α := { x : Nat × Nat // x.1 ≤ l.length ∧ rgt a b (-1) (-1) l = rgt a b (lastP l x.1).1 (lastP l x.1).2 (l.drop x.1) ∧ -1 ≤ (lastP l x.1).1 ∧ -1 ≤ (lastP l x.1).2 })
    (fun x => ⟨[(0, sL eI a), (1, sL eI b), (2, sL (eP eI eI) l), (7, .val (.int .i64 x.1.1))], [], 78, 0, x.1.2, []⟩) (fun x => l.length - x.1.1) ⟨(0, 0), Nat.zero_le _, rfl, Int.le_refl _, Int.le_refl _⟩ ?_ ?_
  · simp only [go_sem]
  · rintro ⟨⟨i, nx⟩, hi, hr, hu, hv⟩
    simp only at hi hr hu hv
    obtain ⟨u, v, huv⟩ : ∃ u v, lastP l i = (u, v) := ⟨_, _, rfl⟩
    rw [huv] at hr hu hv
    dsimp only at hr hu hv
    refine AW.of hΓ mixed [4, 99999] _ _ _ rfl ?_
    simp only [go_sem, pp_sz]
    refine ⟨fun hlt => ?_, fun hge => ?_⟩
    · obtain ⟨x, y, hxy⟩ : ∃ x y, l.getD i (0, 0) = (x, y) := ⟨_, _, rfl⟩
      have hd : l.drop i = (x, y) :: l.drop (i + 1) := by
        rw [List.drop_eq_getElem_cons (by omega), ← gd_lt l (0, 0) (by omega), hxy]
      rw [hd, rgt] at hr
      dsimp only at hr
      refine ⟨by omega, ?_⟩
      refine AW.cut ⟨[(0, sL eI a), (1, sL eI b), (2, sL (eP eI eI) l), (7, .val (.int .i64 i)), (8, .pt 0 nx 0)], [(0, .box nx 85 2 fun j => if j = 0 then .val (.int .i64 x) else .val (.int .i64 y))], 78, 1, nx + 1, []⟩ ?_ ?_
      · simp only [go_sem]
        refine RowLe.box fun j hj => AVle.of_eq ?_
        match j, hj with
        | 0, _ => show (eP eI eI).enc (l.getD i (0, 0)) 0 = _; rw [hxy]; rfl
        | 1, _ => show (eP eI eI).enc (l.getD i (0, 0)) 1 = _; rw [hxy]; rfl
      · by_cases c : 0 ≤ x ∧ x < a.length ∧ 0 ≤ y ∧ y < b.length
        · obtain ⟨c1, c2, c3, c4⟩ := c
          have c5 : ¬ (a.length : Int) ≤ x := by omega
          have c6 : ¬ (b.length : Int) ≤ y := by omega
          have c7 : ¬ x < 0 := by omega
          have c8 : ¬ y < 0 := by omega
          obtain ⟨g1, g2, hg⟩ : ∃ g1 g2, l.getD ((i : Int) - 1).toNat (0, 0) = (g1, g2) := ⟨_, _, rfl⟩
          have hk : 0 < i → g1 = u ∧ g2 = v := fun h0 => by
            cases i with
            | zero => omega
            | succ i =>
              have h1 : l.getD i (0, 0) = (u, v) := huv
              rw [show ((i + 1 : Nat) : Int) - 1 = (i : Nat) by omega, Int.toNat_natCast, h1] at hg
              exact ⟨(Prod.mk.inj hg).1.symm, (Prod.mk.inj hg).2.symm⟩
          have hz : i = 0 → u = -1 ∧ v = -1 := fun h0 => by
            subst h0
            exact ⟨(Prod.mk.inj huv).1.symm, (Prod.mk.inj huv).2.symm⟩
          refine AW.of hΓ mixed [99999] _ _ _ rfl ?_
          simp only [go_sem, c1, c2, c3, c4, c5, c6, c7, c8, decide_true, decide_false, Bool.or_false, Bool.not_false, Bool.false_or, true_and, forall_const, pp0, pp1, pp_sz, pp_d, hg]
          simp only [Bool.or_eq_true, decide_eq_true_eq, Bool.or_eq_false_iff, decide_eq_false_iff_not, Bool.not_eq_true', Decidable.not_not]
          have hl1 : lastP l (i + 1) = (x, y) := hxy
          refine ⟨fun h => ?_, fun h => ⟨fun _ => by omega, fun _ => by omega, fun _ => by omega, fun _ => by omega, fun h0 h1 => .inr (by rw [decide_eq_true h0, decide_eq_false h1]; rfl), fun ⟨h0, h1⟩ => ?_, fun h1 => ⟨by omega, ⟨(i + 1, nx + 1), by dsimp only; omega, ?_, by dsimp only; rw [hl1]; dsimp only; omega, by dsimp only; rw [hl1]; dsimp only; omega⟩, ⟨Nat.le_refl _, rfl⟩, by dsimp only; omega⟩⟩⟩
          · rw [hr, decide_eq_false (fun hh => h hh.2.2.2.2), Bool.false_and]
          · have := hk (by omega)
            rw [hr, decide_eq_false (fun hh => by omega), Bool.false_and]
          · dsimp only
            rw [hl1, hr, decide_eq_true, Bool.true_and]
            refine ⟨?_, ?_, c2, c4, h⟩
            · rcases Nat.eq_zero_or_pos i with h0 | h0
              · have := hz h0; omega
              · have := hk h0; have := h1 (by omega); omega
            · rcases Nat.eq_zero_or_pos i with h0 | h0
              · have := hz h0; omega
              · have := hk h0; have := h1 (by omega); omega
        · have d : (decide (x < 0) || decide ((a.length : Int) ≤ x) || decide (y < 0) || decide ((b.length : Int) ≤ y)) = true := by
            cases h : (decide (x < 0) || decide ((a.length : Int) ≤ x) || decide (y < 0) || decide ((b.length : Int) ≤ y)) with
            | true => rfl
            | false =>
              simp only [Bool.or_eq_false_iff, decide_eq_false_iff_not] at h
              omega
          have hr2 : rgt a b (-1) (-1) l = false := by
            rw [hr, decide_eq_false (fun h => c ⟨by omega, h.2.2.1, by omega, h.2.2.2.1⟩), Bool.false_and]
          refine AW.of hΓ mixed [6, 99999] _ _ _ rfl ?_
          simp only [go_sem]
          refine ⟨fun h => by simp [h], fun h => by rw [h]; rfl, fun h => by rw [h]; rfl, fun h => by rw [d] at h; exact absurd h (by decide), fun h => by rw [d] at h; exact absurd h (by decide), fun h => by rw [d] at h; exact absurd h (by decide), fun _ => ?_, fun h => by rw [d, Bool.true_or] at h; exact absurd h (by decide)⟩
          refine AW.of hΓ mixed [] _ _ _ rfl ?_
          simp only [go_sem]
          exact hr2.symm
    · obtain rfl : i = l.length := by omega
      rw [List.drop_length] at hr
      exact hr.symm
end Go.Proofs.Ytpbccamaipekjaa
