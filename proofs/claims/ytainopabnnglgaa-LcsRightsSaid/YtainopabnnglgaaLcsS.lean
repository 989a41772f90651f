/-
  lcs: the document's answers, and what the laws ask for.
-/
import Derived.Test.YtainopabnnglgaaLcsR
set_option linter.unusedSimpArgs false
set_option linter.unusedVariables false
set_option maxRecDepth 100000
set_option maxHeartbeats 2000000
namespace Go.Proofs.Ytainopabnnglgaa
open Go
attribute [local irreducible] AW AVle ASle RowLe
theorem take_snocG {α : Type} (l : List α) (d : α) {i : Nat} (h : i < l.length) : l.take (i + 1) = l.take i ++ [l.getD i d] := by
  rw [List.take_succ_eq_append_getElem h, gd_lt l d h]
def sLcsTo : Spec := Spec.f1 (kL (eP eI eI)) (fun l => l.length < 100000000) (fun l => sL (eP eI eI) l)
theorem okLcsTo : SpecOK Try.prog 24 sLcsTo := by
  refine SpecOK.f1 Try.func24 rfl (by decide) Try.results24 Try.ntmps24 (by decide) fun l hl => ?_
  have hΓ : GOK Try.prog (gam []) := GOK.nil
  refine AW.of hΓ mixed [] _ _ _ rfl ?_
  simp only [go_sem]
  refine AW.adopt 3 41 2 (fun i => (eP eI eI).enc (([] : List (Int × Int)).getD i (0, 0))) rfl ?_
  refine AW.round (α := { x : Nat × Nat × Nat // x.1 ≤ l.length })
    (fun x => ⟨[(0, sL (eP eI eI) l), (3, .ow 0 x.1.2.1 x.1.1), (4, .val (.int .i64 x.1.1))], [(0, rowL x.1.2.1 41 (eP eI eI) (l.take x.1.1))], 26, 1, x.1.2.2, []⟩) (fun x => l.length - x.1.1) ⟨(0, 0, 1), Nat.zero_le _⟩ ?_ ?_
  · simp only [go_sem]
    exact RowLe.refl _
  · rintro ⟨⟨i, v, nx⟩, hi⟩
    simp only at hi
    refine AW.of hΓ mixed [99999] _ _ _ rfl ?_
    simp only [go_sem, pp_sz, pp0, pp1]
    refine ⟨fun hlt => ⟨by omega, by omega, ⟨by omega, by omega⟩, by omega, ⟨(i + 1, nx, nx + 1), by dsimp only; omega⟩, ⟨Nat.le_refl _, ⟨⟨rfl, rfl⟩, rfl⟩, ?_⟩, by dsimp only; omega⟩, fun hge => ?_⟩
    · refine row_app1 (E := eP eI eI) (l := l.take i) (x := l.getD i (0, 0)) rfl (take_snocG l (0, 0) (by omega)) (by simp; omega) rfl (by simp) fun j hj => ?_
      match j, hj with
      | 0, _ => exact AVle.refl _
      | 1, _ => exact AVle.refl _
    · obtain rfl : i = l.length := by omega
      rw [List.take_length]
      refine ⟨?_, vw_all (E := eP eI eI) rfl rfl rfl⟩
      first | omega | exact ⟨by omega, fun i hi => ⟨rfl, rfl⟩⟩
def sLcsFrom : Spec := Spec.f1 (kL (eP eI eI)) (fun l => l.length < 100000000) (fun l => sL (eP eI eI) l)
theorem okLcsFrom : SpecOK Try.prog 18 sLcsFrom := by
  refine SpecOK.f1 Try.func18 rfl (by decide) Try.results18 Try.ntmps18 (by decide) fun l hl => ?_
  have hΓ : GOK Try.prog (gam []) := GOK.nil
  refine AW.of hΓ mixed [] _ _ _ rfl ?_
  simp only [go_sem]
  refine AW.adopt 3 37 2 (fun i => (eP eI eI).enc (([] : List (Int × Int)).getD i (0, 0))) rfl ?_
  refine AW.round (α := { x : Nat × Nat × Nat // x.1 ≤ l.length })
    (fun x => ⟨[(0, sL (eP eI eI) l), (3, .ow 0 x.1.2.1 x.1.1), (4, .val (.int .i64 x.1.1))], [(0, rowL x.1.2.1 37 (eP eI eI) (l.take x.1.1))], 26, 1, x.1.2.2, []⟩) (fun x => l.length - x.1.1) ⟨(0, 0, 1), Nat.zero_le _⟩ ?_ ?_
  · simp only [go_sem]
    exact RowLe.refl _
  · rintro ⟨⟨i, v, nx⟩, hi⟩
    simp only at hi
    refine AW.of hΓ mixed [99999] _ _ _ rfl ?_
    simp only [go_sem, pp_sz, pp0, pp1]
    refine ⟨fun hlt => ⟨by omega, by omega, ⟨by omega, by omega⟩, by omega, ⟨(i + 1, nx, nx + 1), by dsimp only; omega⟩, ⟨Nat.le_refl _, ⟨⟨rfl, rfl⟩, rfl⟩, ?_⟩, by dsimp only; omega⟩, fun hge => ?_⟩
    · refine row_app1 (E := eP eI eI) (l := l.take i) (x := l.getD i (0, 0)) rfl (take_snocG l (0, 0) (by omega)) (by simp; omega) rfl (by simp) fun j hj => ?_
      match j, hj with
      | 0, _ => exact AVle.refl _
      | 1, _ => exact AVle.refl _
    · obtain rfl : i = l.length := by omega
      rw [List.take_length]
      refine ⟨?_, vw_all (E := eP eI eI) rfl rfl rfl⟩
      first | omega | exact ⟨by omega, fun i hi => ⟨rfl, rfl⟩⟩
def sLcsRight : Spec := Spec.f3 (kL eI) (kL eI) (kL (eP eI eI)) (fun a b l => a.length < 100000000 ∧ b.length < 100000000 ∧ l.length < 100000000) (fun a b l => kB.enc (rgt a b (-1) (-1) l))
theorem okLcsRight : SpecOK Try.prog 23 sLcsRight := by
  refine SpecOK.f3 Try.func23 rfl (by decide) Try.results23 Try.ntmps23 (by decide) fun a b l ⟨ha, hb, hl⟩ => ?_
  have hΓ : GOK Try.prog (gam []) := GOK.nil
  refine AW.of hΓ mixed [] _ _ _ rfl ?_
  simp only [go_sem, pp_sz]
  refine AW.round (α := { x : Nat × Int × Int × Nat // x.1 ≤ l.length ∧ rgt a b (-1) (-1) l = rgt a b x.2.1 x.2.2.1 (l.drop x.1) ∧ -1 ≤ x.2.1 ∧ -1 ≤ x.2.2.1 })
    (fun x => ⟨[(0, sL eI a), (1, sL eI b), (7, .pt 0 0 0), (12, sL (eP eI eI) l), (13, .val (.int .i64 l.length)), (14, .val (.int .i64 x.1.1))], [(0, .box 0 41 2 fun j => if j = 0 then .val (.int .i64 x.1.2.1) else .val (.int .i64 x.1.2.2.1))], 61, 1, x.1.2.2.2, []⟩) (fun x => l.length - x.1.1) ⟨(0, -1, -1, 1), Nat.zero_le _, rfl, Int.le_refl _, Int.le_refl _⟩ ?_ ?_
  · simp only [go_sem]
    refine RowLe.box fun j hj => AVle.of_eq ?_
    match j, hj with
    | 0, _ => rfl
    | 1, _ => rfl
  · rintro ⟨⟨i, u, v, nx⟩, hi, hr, hu, hv⟩
    simp only at hi hr hu hv
    refine AW.of hΓ mixed [4, 99999] _ _ _ rfl ?_
    simp only [go_sem, pp_sz]
    refine ⟨fun hlt => ?_, fun hge => ?_⟩
    · obtain ⟨x, y, hxy⟩ : ∃ x y, l.getD i (0, 0) = (x, y) := ⟨_, _, rfl⟩
      have hd : l.drop i = (x, y) :: l.drop (i + 1) := by
        rw [List.drop_eq_getElem_cons (by omega), ← gd_lt l (0, 0) (by omega), hxy]
      rw [hd, rgt] at hr
      dsimp only at hr
      refine ⟨by omega, ?_⟩
      refine AW.cut ⟨[(0, sL eI a), (1, sL eI b), (7, .pt 0 0 0), (9, .pt 1 nx 0), (12, sL (eP eI eI) l), (13, .val (.int .i64 l.length)), (14, .val (.int .i64 i))], [(0, .box 0 41 2 fun j => if j = 0 then .val (.int .i64 u) else .val (.int .i64 v)), (1, .box nx 41 2 fun j => if j = 0 then .val (.int .i64 x) else .val (.int .i64 y))], 61, 2, nx + 1, []⟩ ?_ ?_
      · simp only [go_sem]
        refine ⟨RowLe.refl _, RowLe.box fun j hj => AVle.of_eq ?_⟩
        match j, hj with
        | 0, _ => show (eP eI eI).enc (l.getD i (0, 0)) 0 = _; rw [hxy]; rfl
        | 1, _ => show (eP eI eI).enc (l.getD i (0, 0)) 1 = _; rw [hxy]; rfl
      · refine AW.of hΓ mixed [99999] _ _ _ rfl ?_
        simp only [go_sem]
        by_cases c : u < x ∧ v < y ∧ x < a.length ∧ y < b.length
        · obtain ⟨c1, c2, c3, c4⟩ := c
          have c5 : ¬ (a.length : Int) ≤ x := by omega
          have c6 : ¬ (b.length : Int) ≤ y := by omega
          simp only [c1, c2, c3, c4, c5, c6, decide_true, decide_false, Bool.and_true, Bool.not_true, Bool.or_false, Bool.not_false, true_and, false_implies, forall_const] at hr ⊢
          simp only [Bool.false_or, decide_eq_true_eq, decide_eq_false_iff_not, Decidable.not_not]
          refine ⟨⟨by omega, trivial⟩, ⟨by omega, trivial⟩, fun h => ?_, fun h => ⟨by omega, ⟨(i + 1, x, y, nx + 1), by dsimp only; omega, ?_, by dsimp only; omega, by dsimp only; omega⟩, ⟨Nat.le_refl _, rfl, box_st⟩, by dsimp only; omega⟩⟩
          · rw [hr, decide_eq_false h, Bool.false_and]
          · rw [hr, decide_eq_true h, Bool.true_and]
        · have d : (!(decide (u < x) && decide (v < y)) || decide ((a.length : Int) ≤ x) || decide ((b.length : Int) ≤ y)) = true := by
            cases h : (!(decide (u < x) && decide (v < y)) || decide ((a.length : Int) ≤ x) || decide ((b.length : Int) ≤ y)) with
            | true => rfl
            | false =>
              simp only [Bool.or_eq_false_iff, Bool.not_eq_false', Bool.and_eq_true, decide_eq_true_eq, decide_eq_false_iff_not] at h
              omega
          have hr2 : rgt a b (-1) (-1) l = false := by
            rw [hr, decide_eq_false (fun h => c ⟨h.1, h.2.1, h.2.2.1, h.2.2.2.1⟩), Bool.false_and]
          refine ⟨fun h => by rw [h]; rfl, fun h => by rw [h]; rfl, fun h => by rw [d] at h; exact absurd h (by decide), fun h => by rw [d] at h; exact absurd h (by decide), fun h => by rw [d] at h; exact absurd h (by decide), fun _ => hr2.symm, fun h => by rw [d, Bool.true_or] at h; exact absurd h (by decide)⟩
    · obtain rfl : i = l.length := by omega
      rw [List.drop_length] at hr
      exact hr.symm
theorem pp_d : (eP eI eI).dflt = ((0 : Int), (0 : Int)) := rfl
def lastP (l : List (Int × Int)) : Nat → Int × Int
  | 0 => (-1, -1)
  | i + 1 => l.getD i (0, 0)
def sLcsRefRight : Spec := Spec.f3 (kL eI) (kL eI) (kL (eP eI eI)) (fun a b l => a.length < 100000000 ∧ b.length < 100000000 ∧ l.length < 100000000) (fun a b l => kB.enc (rgt a b (-1) (-1) l))
theorem okLcsRefRight : SpecOK Try.prog 25 sLcsRefRight := by
  refine SpecOK.f3 Try.func25 rfl (by decide) Try.results25 Try.ntmps25 (by decide) fun a b l ⟨ha, hb, hl⟩ => ?_
  have hΓ : GOK Try.prog (gam []) := GOK.nil
  refine AW.of hΓ mixed [] _ _ _ rfl ?_
  simp only [go_sem, pp_sz]
  refine AW.round (α := { x : Nat × Nat // x.1 ≤ l.length ∧ rgt a b (-1) (-1) l = rgt a b (lastP l x.1).1 (lastP l x.1).2 (l.drop x.1) ∧ -1 ≤ (lastP l x.1).1 ∧ -1 ≤ (lastP l x.1).2 })
    (fun x => ⟨[(0, sL eI a), (1, sL eI b), (2, sL (eP eI eI) l), (7, .val (.int .i64 x.1.1))], [], 78, 0, x.1.2, []⟩) (fun x => l.length - x.1.1) ⟨(0, 0), Nat.zero_le _, rfl, Int.le_refl _, Int.le_refl _⟩ ?_ ?_
  · simp only [go_sem]
  · rintro ⟨⟨i, nx⟩, hi, hr, hu, hv⟩
    simp only at hi hr hu hv
    obtain ⟨u, v, huv⟩ : ∃ u v, lastP l i = (u, v) := ⟨_, _, rfl⟩
    rw [huv] at hr hu hv
    dsimp only at hr hu hv
    refine AW.of hΓ mixed [4, 99999] _ _ _ rfl ?_
    simp only [go_sem, pp_sz]
    refine ⟨fun hlt => ?_, fun hge => ?_⟩
    · obtain ⟨x, y, hxy⟩ : ∃ x y, l.getD i (0, 0) = (x, y) := ⟨_, _, rfl⟩
      have hd : l.drop i = (x, y) :: l.drop (i + 1) := by
        rw [List.drop_eq_getElem_cons (by omega), ← gd_lt l (0, 0) (by omega), hxy]
      rw [hd, rgt] at hr
      dsimp only at hr
      refine ⟨by omega, ?_⟩
      refine AW.cut ⟨[(0, sL eI a), (1, sL eI b), (2, sL (eP eI eI) l), (7, .val (.int .i64 i)), (8, .pt 0 nx 0)], [(0, .box nx 37 2 fun j => if j = 0 then .val (.int .i64 x) else .val (.int .i64 y))], 78, 1, nx + 1, []⟩ ?_ ?_
      · simp only [go_sem]
        refine RowLe.box fun j hj => AVle.of_eq ?_
        match j, hj with
        | 0, _ => show (eP eI eI).enc (l.getD i (0, 0)) 0 = _; rw [hxy]; rfl
        | 1, _ => show (eP eI eI).enc (l.getD i (0, 0)) 1 = _; rw [hxy]; rfl
      · by_cases c : 0 ≤ x ∧ x < a.length ∧ 0 ≤ y ∧ y < b.length
        · obtain ⟨c1, c2, c3, c4⟩ := c
          have c5 : ¬ (a.length : Int) ≤ x := by omega
          have c6 : ¬ (b.length : Int) ≤ y := by omega
          have c7 : ¬ x < 0 := by omega
          have c8 : ¬ y < 0 := by omega
          obtain ⟨g1, g2, hg⟩ : ∃ g1 g2, l.getD ((i : Int) - 1).toNat (0, 0) = (g1, g2) := ⟨_, _, rfl⟩
          have hk : 0 < i → g1 = u ∧ g2 = v := fun h0 => by
            cases i with
            | zero => omega
            | succ i =>
              have h1 : l.getD i (0, 0) = (u, v) := huv
              rw [show ((i + 1 : Nat) : Int) - 1 = (i : Nat) by omega, Int.toNat_natCast, h1] at hg
              exact ⟨(Prod.mk.inj hg).1.symm, (Prod.mk.inj hg).2.symm⟩
          have hz : i = 0 → u = -1 ∧ v = -1 := fun h0 => by
            subst h0
            exact ⟨(Prod.mk.inj huv).1.symm, (Prod.mk.inj huv).2.symm⟩
          refine AW.of hΓ mixed [99999] _ _ _ rfl ?_
          simp only [go_sem, c1, c2, c3, c4, c5, c6, c7, c8, decide_true, decide_false, Bool.or_false, Bool.not_false, Bool.false_or, true_and, forall_const, pp0, pp1, pp_sz, pp_d, hg]
          simp only [Bool.or_eq_true, decide_eq_true_eq, Bool.or_eq_false_iff, decide_eq_false_iff_not, Bool.not_eq_true', Decidable.not_not]
          have hl1 : lastP l (i + 1) = (x, y) := hxy
          refine ⟨fun h => ?_, fun h => ⟨fun _ => by omega, fun _ => by omega, fun _ => by omega, fun _ => by omega, fun h0 h1 => .inr (by rw [decide_eq_true h0, decide_eq_false h1]; rfl), fun ⟨h0, h1⟩ => ?_, fun h1 => ⟨by omega, ⟨(i + 1, nx + 1), by dsimp only; omega, ?_, by dsimp only; rw [hl1]; dsimp only; omega, by dsimp only; rw [hl1]; dsimp only; omega⟩, ⟨Nat.le_refl _, rfl⟩, by dsimp only; omega⟩⟩⟩
          · rw [hr, decide_eq_false (fun hh => h hh.2.2.2.2), Bool.false_and]
          · have := hk (by omega)
            rw [hr, decide_eq_false (fun hh => by omega), Bool.false_and]
          · dsimp only
            rw [hl1, hr, decide_eq_true, Bool.true_and]
            refine ⟨?_, ?_, c2, c4, h⟩
            · rcases Nat.eq_zero_or_pos i with h0 | h0
              · have := hz h0; omega
              · have := hk h0; have := h1 (by omega); omega
            · rcases Nat.eq_zero_or_pos i with h0 | h0
              · have := hz h0; omega
              · have := hk h0; have := h1 (by omega); omega
        · have d : (decide (x < 0) || decide ((a.length : Int) ≤ x) || decide (y < 0) || decide ((b.length : Int) ≤ y)) = true := by
            cases h : (decide (x < 0) || decide ((a.length : Int) ≤ x) || decide (y < 0) || decide ((b.length : Int) ≤ y)) with
            | true => rfl
            | false =>
              simp only [Bool.or_eq_false_iff, decide_eq_false_iff_not] at h
              omega
          have hr2 : rgt a b (-1) (-1) l = false := by
            rw [hr, decide_eq_false (fun h => c ⟨by omega, h.2.2.1, by omega, h.2.2.2.1⟩), Bool.false_and]
          refine AW.of hΓ mixed [6, 99999] _ _ _ rfl ?_
          simp only [go_sem]
          refine ⟨fun h => by simp [h], fun h => by rw [h]; rfl, fun h => by rw [h]; rfl, fun h => by rw [d] at h; exact absurd h (by decide), fun h => by rw [d] at h; exact absurd h (by decide), fun h => by rw [d] at h; exact absurd h (by decide), fun _ => ?_, fun h => by rw [d, Bool.true_or] at h; exact absurd h (by decide)⟩
          refine AW.of hΓ mixed [] _ _ _ rfl ?_
          simp only [go_sem]
          exact hr2.symm
    · obtain rfl : i = l.length := by omega
      rw [List.drop_length] at hr
      exact hr.symm
def sLcsLength : Spec := Spec.f2 (kL eI) (kL eI) (fun a b => a.length < 100000000 ∧ b.length < 100000000) (fun a b => kI.enc (lcsN a b))
def rowN (n : Nat) (f : Nat → Nat) : List Int := (List.range n).map fun k => (f k : Int)
theorem rowN_len (n : Nat) (f : Nat → Nat) : (rowN n f).length = n := by simp [rowN]
theorem rowN_at {n : Nat} (f : Nat → Nat) {k : Nat} (h : k < n) : (rowN n f).getD k 0 = f k := by simp [rowN, List.getD, h]
theorem rowN_set {n k : Nat} {f g : Nat → Nat} {w : Int} (hw : w = g k) (h : ∀ t, t < n → t ≠ k → f t = g t) : (rowN n f).set k w = rowN n g := by
  refine list_ext_getD 0 (by simp [rowN]) fun t ht => ?_
  simp only [List.length_set, rowN_len] at ht
  rw [rowN_at _ ht]
  by_cases e : t = k
  · subst e
    simp [List.getD, rowN_len, ht, hw]
  · have e2 : ((rowN n f).set k w).getD t 0 = (rowN n f).getD t 0 := by simp only [List.getD]; rw [List.getElem?_set_ne (by omega)]
    rw [e2, rowN_at _ ht, h t ht e]
theorem okLcsLength : SpecOK Try.prog 32 sLcsLength := by
  refine SpecOK.f2 Try.func32 rfl (by decide) Try.results32 Try.ntmps32 (by decide) fun a b ⟨ha, hb⟩ => ?_
  have hΓ : GOK Try.prog (gam []) := GOK.nil
  refine AW.of hΓ mixed [] _ _ _ rfl ?_
  simp only [go_sem]
  refine ⟨by omega, by omega, ?_⟩
  refine AW.round (α := { x : Nat × Nat × Nat // x.1 ≤ a.length })
    (fun x => ⟨[(0, sL eI a), (1, sL eI b), (5, .ow 0 x.1.2.1 (b.length + 1)), (6, .val (.int .i64 x.1.1))], [(0, rowL x.1.2.1 3 eI (rowN (b.length + 1) (tabL a b x.1.1)))], 67, 1, x.1.2.2, []⟩) (fun x => a.length - x.1.1) ⟨(0, 0, 1), Nat.zero_le _⟩ ?_ ?_
  · simp only [go_sem]
    refine RowLe.sl (rowN_len _ _) fun k hk j hj => AVle.of_eq ?_
    match j, hj with
    | 0, _ =>
      rw [rowN_at _ hk]
      rfl
  · rintro ⟨⟨i, v, nx⟩, hi⟩
    simp only at hi
    refine AW.of hΓ mixed [5, 99999] _ _ _ rfl ?_
    simp only [go_sem]
    refine ⟨fun hlt => ?_, fun hge => ?_⟩
    · refine ⟨by omega, by omega, ?_⟩
      refine AW.seqTo (fun n3 : Nat => Sh.st ⟨[(0, sL eI a), (1, sL eI b), (6, .val (.int .i64 i)), (7, .ow 0 nx (b.length + 1))], [(0, rowL nx 3 eI (rowN (b.length + 1) (tabL a b (i + 1))))], 67, 1, n3, []⟩) ?_ ?_
      · refine AW.of hΓ mixed [] _ _ _ rfl ?_
        simp only [go_sem]
        refine AW.round (α := { x : Nat × Nat // x.1 ≤ b.length })
          (fun x => ⟨[(0, sL eI a), (1, sL eI b), (5, .ow 0 v (b.length + 1)), (6, .val (.int .i64 i)), (7, .ow 1 nx (b.length + 1)), (8, .val (.int .i64 x.1.1))],
            [(0, rowL v 3 eI (rowN (b.length + 1) (tabL a b i))), (1, rowL nx 3 eI (rowN (b.length + 1) fun t => if t ≤ x.1.1 then tabL a b (i + 1) t else 0))], 67, 2, x.1.2, []⟩) (fun x => b.length - x.1.1) ⟨(0, nx + 1), Nat.zero_le _⟩ ?_ ?_
        · simp only [go_sem]
          refine ⟨RowLe.refl _, RowLe.sl (rowN_len _ _) fun k hk j hj => AVle.of_eq ?_⟩
          match j, hj with
          | 0, _ =>
            rw [rowN_at _ hk]
            by_cases h0 : k ≤ 0
            · obtain rfl : k = 0 := by omega
              rw [if_pos (Nat.le_refl _), tabL_i0]
              rfl
            · rw [if_neg h0]
              rfl
        · rintro ⟨⟨k, n2⟩, hk⟩
          simp only at hk
          refine AW.of hΓ mixed [9, 99999] _ _ _ rfl ?_
          simp only [go_sem]
          refine ⟨fun hlt2 => ?_, fun hge2 => ?_⟩
          · have k1 : k < b.length := by omega
            have g1 := rowN_at (n := b.length + 1) (tabL a b i) (k := k + 1) (by omega)
            have g2 := rowN_at (n := b.length + 1) (fun t => if t ≤ k then tabL a b (i + 1) t else 0) (k := k) (by omega)
            rw [if_pos (Nat.le_refl _)] at g2
            have g3 := rowN_at (n := b.length + 1) (tabL a b i) (k := k) (by omega)
            have g4 := (tabL_le (a := a) (b := b) i k)
            refine ⟨by omega, by omega, by omega, by rw [rowN_len]; omega, by omega, by rw [rowN_len]; omega, by omega, by rw [rowN_len]; omega, ?_⟩
            refine AW.cut ⟨[(0, sL eI a), (1, sL eI b), (5, .ow 0 v (b.length + 1)), (6, .val (.int .i64 i)), (7, .ow 1 nx (b.length + 1)), (8, .val (.int .i64 k))],
              [(0, rowL v 3 eI (rowN (b.length + 1) (tabL a b i))), (1, rowL nx 3 eI ((rowN (b.length + 1) fun t => if t ≤ k then tabL a b (i + 1) t else 0).set (k + 1) (max (tabL a b i (k + 1) : Int) (tabL a b (i + 1) k))))], 67, 2, n2, []⟩ ?_ ?_
            · simp only [go_sem]
              refine ⟨RowLe.refl _, row_set (E := eI) rfl rfl rfl (by simp) fun j hj => AVle.of_eq ?_⟩
              rw [g1, g2]
              rfl
            · by_cases he : a.getD i 0 = b.getD k 0
              · refine AW.of hΓ mixed [99999] _ _ _ rfl ?_
                simp only [go_sem, he, g3]
                have hset : rowN (b.length + 1) (fun t => if t ≤ k + 1 then tabL a b (i + 1) t else 0) = (((rowN (b.length + 1) fun t => if t ≤ k then tabL a b (i + 1) t else 0).set (k + 1) (max (tabL a b i (k + 1) : Int) (tabL a b (i + 1) k))).set (k + 1) ((tabL a b i k : Int) + 1)) := by
                  rw [List.set_set]
                  refine (rowN_set ?_ fun t ht hne => ?_).symm
                  · rw [if_pos (Nat.le_refl _), tabL_eq he]
                    omega
                  · by_cases h1 : t ≤ k
                    · rw [if_pos h1, if_pos (by omega)]
                    · rw [if_neg h1, if_neg (by omega)]
                refine ⟨by omega, by omega, by omega, by omega, by rw [rowN_len]; omega, by omega, by omega, by rw [rowN_len]; omega, by omega, ⟨(k + 1, n2), by dsimp only; omega⟩, ⟨Nat.le_refl _, rfl, RowLe.refl _, ?_⟩, by dsimp only; omega⟩
                exact row_set (E := eI) rfl hset (by simp) (by simp) (fun j hj => AVle.refl _)
              · refine AW.of hΓ mixed [99999] _ _ _ rfl ?_
                simp only [go_sem, he]
                have hset : (rowN (b.length + 1) fun t => if t ≤ k then tabL a b (i + 1) t else 0).set (k + 1) (max (tabL a b i (k + 1) : Int) (tabL a b (i + 1) k)) = rowN (b.length + 1) fun t => if t ≤ k + 1 then tabL a b (i + 1) t else 0 := by
                  refine rowN_set ?_ fun t ht hne => ?_
                  · rw [if_pos (Nat.le_refl _), tabL_ne he]
                    omega
                  · by_cases h1 : t ≤ k
                    · rw [if_pos h1, if_pos (by omega)]
                    · rw [if_neg h1, if_neg (by omega)]
                refine ⟨by omega, by omega, by omega, ⟨(k + 1, n2), by dsimp only; omega⟩, ⟨Nat.le_refl _, rfl, RowLe.refl _, ?_⟩, by dsimp only; omega⟩
                rw [hset, rowN_len, rowN_len]
                exact RowLe.refl _
          · obtain rfl : k = b.length := by omega
            refine ⟨n2, toFitsV (fun _ => 1) ?_⟩
            simp only [go_sem]
            have hall : (rowN (b.length + 1) fun t => if t ≤ b.length then tabL a b (i + 1) t else 0) = rowN (b.length + 1) (tabL a b (i + 1)) := by
              unfold rowN
              refine List.map_congr_left fun t ht => ?_
              dsimp only
              rw [if_pos (by have := List.mem_range.1 ht; omega)]
            rw [hall]
            exact RowLe.refl _
      · intro n3
        refine AW.of hΓ mixed [] _ _ _ rfl ?_
        simp only [go_sem]
        exact ⟨by omega, ⟨(i + 1, nx, n3), by dsimp only; omega⟩, ⟨Nat.le_refl _, ⟨rfl, rfl⟩, RowLe.refl _⟩, by dsimp only; omega⟩
    · obtain rfl : i = a.length := by omega
      have e := rowN_at (n := b.length + 1) (tabL a b a.length) (k := b.length) (by omega)
      exact ⟨by omega, by rw [rowN_len]; omega, e⟩
def i64V : AV → Option Int
  | .val (.int .i64 n) => some n
  | _ => none
theorem eqLeaf_int {P : Program} {t : TypeId} {k : IntKind} (hu : P.underlying t = some (.int k)) (a : Int) (y : AV) : eqLeaf P t (.val (.int .i64 a)) y = (i64V y).map fun u => decide (a = u) := by
  unfold eqLeaf i64V
  rw [hu]
  cases y with
  | val v => cases v with
    | int k n => cases k <;> rfl
    | _ => rfl
  | _ => rfl
theorem i64V_int (n : Int) : i64V (.val (.int .i64 n)) = some n := rfl
theorem aEq_pair {P : Program} {t ti : TypeId} {k : IntKind} (hp : eqParts P t = some [(0, ti), (1, ti)]) (hi : eqParts P ti = none) (hu : P.underlying ti = some (.int k)) (hc : P.cellsOf ti = 1) (p : Int × Int) (c : Nat → AV) :
    aEq P 12 t 2 ((eP eI eI).enc p) c = match i64V (c 0), i64V (c 1) with
      | some u, some v => some (decide (p.1 = u) && (decide (p.2 = v) && true))
      | _, _ => none := by
  simp only [aEq, hp, eqAll, hi, hc]
  simp only [pp0, pp1, eqLeaf_int hu, Nat.add_zero, Nat.zero_add, Nat.lt_irrefl, Nat.zero_lt_one, true_and, Nat.le_refl, if_true, (by decide : (1 : Nat) ≤ 2), (by decide : (1 + 1 : Nat) ≤ 2)]
  cases i64V (c 0) <;> cases i64V (c 1) <;> rfl
theorem eqL (p : Int × Int) (c : Nat → AV) : aEq Try.prog 12 41 2 ((eP eI eI).enc p) c = match i64V (c 0), i64V (c 1) with
      | some u, some v => some (decide (p.1 = u) && (decide (p.2 = v) && true))
      | _, _ => none := aEq_pair (ti := 3) (by kernel_rfl) (by kernel_rfl) Try.underlying3 cells3 p c
theorem eqLR (p : Int × Int) (c : Nat → AV) : aEq Try.prog 12 37 2 ((eP eI eI).enc p) c = match i64V (c 0), i64V (c 1) with
      | some u, some v => some (decide (p.1 = u) && (decide (p.2 = v) && true))
      | _, _ => none := aEq_pair (ti := 3) (by kernel_rfl) (by kernel_rfl) Try.underlying3 cells3 p c
theorem zC_10 : zC [Value.int .i64 0, Value.int .i64 0] 0 = .val (.int .i64 0) := rfl
theorem zC_11 : zC [Value.int .i64 0, Value.int .i64 0] 1 = .val (.int .i64 0) := rfl
def sLcsTold : Spec := Spec.f0 (kB.enc true)
theorem okLcsTold : SpecOK Try.prog 20 sLcsTold := by
  refine SpecOK.f0 Try.func20 rfl (by decide) Try.results20 Try.ntmps20 ?_
  have hΓ : GOK Try.prog (gam [(19, sMatch), (22, sDistance)]) := (.cons okMatch (.cons okDistance .nil))
  have m1 : matchF [1, 2, 3] [2, 3, 4] = [(1, 0), (2, 1)] := by decide +kernel
  have d1 : distF [1, 2, 3] [2, 3, 4] = 2 := by decide +kernel
  refine AW.of hΓ mixed [] _ _ _ rfl ?_
  simp only [go_sem, sMatch, sDistance, pp_sz, m1, d1, eqL, i64V_int, List.getD_cons_zero, List.getD_cons_succ, zC_10, zC_11]
def sLcsLongest : Spec := Spec.f3 (kL eI) (kL eI) (kL (eP eI eI)) (fun a b l => a.length < 100000000 ∧ b.length < 100000000 ∧ l.length < 100000000) (fun a b l => kB.enc (rgt a b (-1) (-1) l && decide (l.length = lcsN a b)))
theorem okLcsLongest : SpecOK Try.prog 21 sLcsLongest := by
  refine SpecOK.f3 Try.func21 rfl (by decide) Try.results21 Try.ntmps21 (by decide) fun a b l ⟨ha, hb, hl⟩ => ?_
  have hΓ : GOK Try.prog (gam [(25, sLcsRefRight), (32, sLcsLength)]) := (.cons okLcsRefRight (.cons okLcsLength .nil))
  refine AW.of hΓ mixed [] _ _ _ rfl ?_
  simp only [go_sem, sLcsRefRight, sLcsLength, pp_sz]
  exact ⟨⟨ha, hb, hl⟩, fun _ => ⟨ha, hb⟩, by congr 1; exact decide_eq_decide.2 (by omega)⟩
end Go.Proofs.Ytainopabnnglgaa
