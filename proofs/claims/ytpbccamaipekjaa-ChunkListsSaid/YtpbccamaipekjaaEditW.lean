/-
  edit: what its functions come to.
-/
import Derived.Test.YtpbccamaipekjaaEditA
import Derived.Test.YtpbccamaipekjaaAxt
import Derived.Test.YtpbccamaipekjaaAxn
set_option linter.unusedSimpArgs false
set_option linter.unusedVariables false
set_option maxRecDepth 100000
set_option maxHeartbeats 2000000
namespace Go.Proofs.Ytpbccamaipekjaa
open Go
attribute [local irreducible] AW AVle ASle RowLe
theorem st_sz : (eP eI (eL eS)).sz = 2 := rfl
theorem st_d : (eP eI (eL eS)).dflt = ((0 : Int), ([] : List (List UInt8))) := rfl
theorem sp0 (s : Int × List (List UInt8)) : (eP eI (eL eS)).enc s 0 = .val (.int .i64 s.1) := rfl
theorem sp1 (s : Int × List (List UInt8)) : (eP eI (eL eS)).enc s 1 = sL eS s.2 := rfl
theorem stC20 (c d : Nat → AV) : stC c 0 2 d 0 = d 0 := rfl
theorem stC21 (c d : Nat → AV) : stC c 0 2 d 1 = d 1 := rfl
def sFollows : Spec := Spec.f2 kI kI (fun _ _ => True) (fun x y => kB.enc (followsB x y))
theorem okFollows : SpecOK Try.prog 45 sFollows := by
  refine SpecOK.f2 Try.func45 rfl (by decide) Try.results45 Try.ntmps45 (by decide) fun x y _ => ?_
  have hΓ : GOK Try.prog (gam []) := GOK.nil
  refine AW.of hΓ mixed [] _ _ _ rfl ?_
  simp only [go_sem]
  refine ⟨fun h1 h2 => by simp [h1, h2], rfl⟩
theorem countL_snoc (k : Int) (l : List (Int × List (List UInt8))) (s : Int × List (List UInt8)) : countL k (l ++ [s]) = countL k l + if s.1 = k then s.2.length else 0 := by
  unfold countL
  rw [List.flatMap_append, List.length_append]
  by_cases h : s.1 = k <;> simp [h]
theorem countL_le {l : List (Int × List (List UInt8))} {m : Nat} (h : ∀ s ∈ l, s.2.length ≤ m) (k : Int) : countL k l ≤ l.length * m := by
  induction l with
  | nil => simp [countL]
  | cons s l ih =>
    have h1 := h s (List.mem_cons_self ..)
    have h2 := ih fun t ht => h t (List.mem_cons_of_mem _ ht)
    have e : countL k (s :: l) = (if s.1 = k then s.2.length else 0) + countL k l := by
      unfold countL
      rw [List.flatMap_cons, List.length_append]
      by_cases h : s.1 = k <;> simp [h]
    rw [e, List.length_cons, Nat.succ_mul]
    split <;> omega
theorem take_snocE {α : Type} (l : List α) (d : α) {i : Nat} (h : i < l.length) : l.take (i + 1) = l.take i ++ [l.getD i d] := by
  rw [List.take_succ_eq_append_getElem h, gd_lt l d h]
def sCountsE : Spec := Spec.f1 (kL (eP eI (eL eS))) (fun l => l.length < 10000 ∧ ∀ s ∈ l, s.2.length ≤ 10000) (fun l => tu3 (kI.enc (countL 0 l)) (kI.enc (countL 1 l)) (kI.enc (countL 2 l)))
theorem okCountsE : SpecOK Try.prog 15 sCountsE := by
  refine SpecOK.f1 Try.func15 rfl (by decide) Try.results15 Try.ntmps15 (by decide) fun l ⟨hl, hs⟩ => ?_
  have hΓ : GOK Try.prog (gam []) := GOK.nil
  refine AW.of hΓ mixed [] _ _ _ rfl ?_
  simp only [go_sem, st_sz]
  refine AW.round (α := { x : Nat × Nat // x.1 ≤ l.length })
    (fun x => ⟨[(5, .val (.int .i64 (countL 0 (l.take x.1.1)))), (6, .val (.int .i64 (countL 1 (l.take x.1.1)))), (7, .val (.int .i64 (countL 2 (l.take x.1.1)))), (10, sL (eP eI (eL eS)) l), (11, .val (.int .i64 l.length)), (12, .val (.int .i64 x.1.1))], [], 43, 0, x.1.2, []⟩) (fun x => l.length - x.1.1) ⟨(0, 0), Nat.zero_le _⟩ ?_ ?_
  · simp only [go_sem]
    simp [countL]
  · rintro ⟨⟨i, nx⟩, hi⟩
    simp only at hi
    have hb : ∀ k, countL k (l.take i) ≤ 10000 * 10000 := fun k => Nat.le_trans (countL_le (fun s h => hs s (List.mem_of_mem_take h)) k) (Nat.mul_le_mul_right _ (by simp; omega))
    have hb0 := hb 0
    have hb1 := hb 1
    have hb2 := hb 2
    refine AW.of hΓ mixed [99999] _ _ _ rfl ?_
    simp only [go_sem, st_sz, stC20, stC21, sp0, sp1, st_d]
    have e : ∀ k, i < l.length → countL k (l.take (i + 1)) = countL k (l.take i) + if (l.getD i (0, [])).1 = k then (l.getD i (0, [])).2.length else 0 := fun k h => by rw [take_snocE l (0, []) h, countL_snoc]
    have hg : i < l.length → (l.getD i (0, [])).2.length ≤ 10000 := fun h => by
      rw [gd_lt l _ h]
      exact hs _ (List.getElem_mem _)
    generalize l.getD i (0, []) = g at *
    refine ⟨fun hlt => ?_, fun hge => ?_⟩
    · have hlt' : i < l.length := by omega
      have e0 := e 0 hlt'
      have e1 := e 1 hlt'
      have e2 := e 2 hlt'
      have hg' := hg hlt'
      refine ⟨by omega, fun h => ?_, fun h => ⟨fun h1 => ?_, fun h1 => ⟨fun h2 => ?_, fun h2 => ?_⟩⟩⟩
      · rw [if_pos h] at e0
        rw [if_neg (by omega)] at e1 e2
        exact ⟨by omega, by omega, ⟨(i + 1, nx + 1), by dsimp only; omega⟩, ⟨Nat.le_refl _, by dsimp only; omega, by dsimp only; omega, by dsimp only; omega, by dsimp only; omega⟩, by dsimp only; omega⟩
      · rw [if_pos h1] at e1
        rw [if_neg (by omega)] at e0 e2
        exact ⟨by omega, by omega, ⟨(i + 1, nx + 1), by dsimp only; omega⟩, ⟨Nat.le_refl _, by dsimp only; omega, by dsimp only; omega, by dsimp only; omega, by dsimp only; omega⟩, by dsimp only; omega⟩
      · rw [if_pos h2] at e2
        rw [if_neg (by omega)] at e0 e1
        exact ⟨by omega, by omega, ⟨(i + 1, nx + 1), by dsimp only; omega⟩, ⟨Nat.le_refl _, by dsimp only; omega, by dsimp only; omega, by dsimp only; omega, by dsimp only; omega⟩, by dsimp only; omega⟩
      · rw [if_neg (by omega)] at e0 e1 e2
        exact ⟨by omega, ⟨(i + 1, nx + 1), by dsimp only; omega⟩, ⟨Nat.le_refl _, by dsimp only; omega, by dsimp only; omega, by dsimp only; omega, by dsimp only; omega⟩, by dsimp only; omega⟩
    · obtain rfl : i = l.length := by omega
      rw [List.take_length]
      exact ⟨rfl, rfl, rfl⟩
def sEqualS : Spec := Spec.f2 (kL eS) (kL eS) (fun a b => a.length < 1000000000 ∧ b.length < 1000000000) (fun a b => kB.enc (decide (a = b)))
theorem okEqualS : SpecOK Try.prog 43 sEqualS := by
  refine SpecOK.f2 Try.func43 rfl (by decide) Try.results43 Try.ntmps43 (by decide) fun a b ⟨ha, hb⟩ => ?_
  have hΓ : GOK Try.prog (gam []) := GOK.nil
  refine AW.of hΓ mixed [] _ _ _ rfl ?_
  simp only [go_sem]
  refine ⟨fun h => ?_, fun h => ?_⟩
  · exact fun e => h (by rw [e])
  refine AW.round (α := { x : Nat × Nat // x.1 ≤ a.length ∧ ∀ k, k < x.1 → a.getD k [] = b.getD k [] })
    (fun x => ⟨[(0, sL eS a), (1, sL eS b), (12, .val (.int .i64 a.length)), (13, .val (.int .i64 x.1.1))], [], 26, 0, x.1.2, []⟩) (fun x => a.length - x.1.1) ⟨(0, 0), Nat.zero_le _, fun k hk => absurd hk (Nat.not_lt_zero _)⟩ ?_ ?_
  · simp only [go_sem]
  · rintro ⟨⟨i, nx⟩, hi, hk⟩
    simp only at hi hk
    refine AW.of hΓ mixed [99999] _ _ _ rfl ?_
    simp only [go_sem]
    refine ⟨fun hlt => ⟨by omega, by omega, fun hne e => hne (by rw [e]), fun he => ⟨by omega, ⟨(i + 1, nx), by dsimp only; omega, fun k hk' => ?_⟩, ⟨Nat.le_refl _, rfl⟩, by dsimp only; omega⟩⟩, fun hge => list_ext_getD [] (by omega) fun k hk' => hk k (by omega)⟩
    rcases Nat.lt_or_ge k i with g | g
    · exact hk k g
    · dsimp only at hk'
      obtain rfl : k = i := by omega
      exact Decidable.not_not.1 he
def sCloneS : MSpec := fun args hp top nx K => ∃ x l, args = [x] ∧ AVle x (sL eS l) ∧ l.length < 1000000000 ∧ ∀ ver nx', nx ≤ ver → ver < nx' → K (.ow top ver l.length) (updR hp top (rowL ver 9 eS l)) (top + 1) nx'
theorem okCloneS : MethOK Try.prog 54 sCloneS := by
  refine MethOK.mk Try.func54 rfl (by decide) Try.results54 Try.ntmps54 ?_
  rintro args hp top nx K ⟨x, l, rfl, hx, hl, hK⟩
  have hΓ : GOK Try.prog (gam []) := GOK.nil
  refine ⟨Nat.le_of_ble_eq_true rfl, ?_⟩
  refine AW.le (stM_le (.cons hx .nil)) ?_
  refine AW.of hΓ mixed [2, 99999] _ _ _ rfl ?_
  simp only [go_sem]
  refine ⟨fun h0 => ?_, ?_⟩
  · refine AW.adopt 2 9 1 (fun i => eS.enc (l.getD i [])) rfl ?_
    refine AW.of hΓ mixed [] _ _ _ rfl ?_
    simp only [go_sem]
    obtain rfl := List.length_eq_zero_iff.1 h0
    exact hK nx (nx + 1) (Nat.le_refl _) (Nat.lt_succ_self _)
  · exact ⟨by omega, hK nx (nx + 1) (Nat.le_refl _) (Nat.lt_succ_self _)⟩
def sRightE : Spec := Spec.f1 (kL (eP eI (eL eS))) (fun l => l.length < 10000 ∧ ∀ s ∈ l, s.2.length ≤ 10000) (fun l => kB.enc (rightE (-1) l))
def lastK (l : List (Int × List (List UInt8))) : Nat → Int
  | 0 => -1
  | i + 1 => (l.getD i (0, [])).1
theorem okRightE : SpecOK Try.prog 19 sRightE := by
  refine SpecOK.f1 Try.func19 rfl (by decide) Try.results19 Try.ntmps19 (by decide) fun l ⟨hl, hs⟩ => ?_
  have hΓ : GOK Try.prog (gam [(45, sFollows)]) := (.cons okFollows .nil)
  refine AW.of hΓ mixed [] _ _ _ rfl ?_
  simp only [go_sem, sFollows, st_sz]
  refine AW.round (α := { x : Nat × Nat // x.1 ≤ l.length ∧ rightE (-1) l = rightE (lastK l x.1) (l.drop x.1) })
    (fun x => ⟨[(0, sL (eP eI (eL eS)) l), (5, sL (eP eI (eL eS)) l), (6, .val (.int .i64 l.length)), (7, .val (.int .i64 x.1.1))], [], 41, 0, x.1.2, []⟩) (fun x => l.length - x.1.1) ⟨(0, 0), Nat.zero_le _, rfl⟩ ?_ ?_
  · simp only [go_sem, sFollows]
  · rintro ⟨⟨i, nx⟩, hi, hr⟩
    simp only at hi hr
    refine AW.of hΓ mixed [99999] _ _ _ rfl ?_
    simp only [go_sem, sFollows, st_sz, stC20, stC21, sp0, sp1, st_d]
    obtain ⟨k, ts, hg⟩ : ∃ k ts, l.getD i (0, []) = (k, ts) := ⟨_, _, rfl⟩
    have hd : i < l.length → l.drop i = (k, ts) :: l.drop (i + 1) := fun h => by
      rw [List.drop_eq_getElem_cons h, ← gd_lt l (0, []) h, hg]
    have hbad : (decide (k < 0) || decide (2 < k) || decide ((ts.length : Int) = 0)) = !stepOK (k, ts) := by
      rw [Bool.eq_iff_iff]
      simp only [stepOK, Bool.or_eq_true, decide_eq_true_eq, Bool.not_eq_true', decide_eq_false_iff_not]
      omega
    have hp : 0 < i → (l.getD ((i : Int) - 1).toNat (0, [])).1 = lastK l i := fun h => by
      cases i with
      | zero => omega
      | succ i => rw [show ((i + 1 : Nat) : Int) - 1 = (i : Nat) by omega, Int.toNat_natCast]; rfl
    rw [hg]
    dsimp only
    rw [hbad]
    refine ⟨fun hlt => ?_, fun hge => ?_⟩
    · rw [hd (by omega), rightE] at hr
      dsimp only at hr
      refine ⟨by omega, fun h => by rw [decide_eq_false h]; rfl, fun h => by rw [h]; rfl, fun h => ?_, fun h => ⟨fun _ => by omega, fun _ => by omega, fun ⟨h0, h1⟩ => ?_, fun h1 => ⟨by omega, ⟨(i + 1, nx + 1), by dsimp only; omega, ?_⟩, ⟨Nat.le_refl _, rfl⟩, by dsimp only; omega⟩⟩⟩
      · rw [Bool.not_eq_true'] at h
        rw [hr, h, Bool.false_and]
      · rw [hp (by omega), Bool.not_eq_true'] at h1
        rw [hr, h1, Bool.false_and, Bool.and_false]
      · rw [Bool.not_eq_false'] at h
        have hfo : followsB (lastK l i) k = true := by
          rcases Nat.eq_zero_or_pos i with h0 | h0
          · subst h0
            simp only [stepOK, decide_eq_true_eq] at h
            have e : lastK l 0 = -1 := rfl
            rw [e, followsB, decide_eq_true (show (-1 : Int) ≠ k by omega)]
            rfl
          · have := h1 (by omega)
            rw [hp h0, Bool.not_eq_false'] at this
            exact this
        rw [hr, h, hfo, Bool.true_and, Bool.true_and]
        show _ = rightE (l.getD i (0, [])).1 _
        rw [hg]
    · obtain rfl : i = l.length := by omega
      rw [hr, List.drop_length]
      rfl
theorem lessL_snoc (k : Int) (l : List (Int × List (List UInt8))) (s : Int × List (List UInt8)) : lessL k (l ++ [s]) = lessL k l ++ if s.1 = k then [] else s.2 := by
  unfold lessL
  rw [List.flatMap_append]
  by_cases h : s.1 = k <;> simp [h]
theorem lessL_le {l : List (Int × List (List UInt8))} {m : Nat} (h : ∀ s ∈ l, s.2.length ≤ m) (k : Int) : (lessL k l).length ≤ l.length * m := by
  induction l with
  | nil => simp [lessL]
  | cons s l ih =>
    have h1 := h s (List.mem_cons_self ..)
    have h2 := ih fun t ht => h t (List.mem_cons_of_mem _ ht)
    have e : lessL k (s :: l) = (if s.1 = k then [] else s.2) ++ lessL k l := by
      unfold lessL
      rw [List.flatMap_cons]
    rw [e, List.length_append, List.length_cons, Nat.succ_mul]
    by_cases hk : s.1 = k
    · rw [if_pos hk, List.length_nil]; omega
    · rw [if_neg hk]; omega
def sApplyE : Spec := Spec.f2 (kL (eP eI (eL eS))) (kL eS) (fun l a => l.length < 10000 ∧ (∀ s ∈ l, s.2.length ≤ 10000) ∧ a.length < 1000000000) (fun l a => if lessL 2 l = a then tu2 (sL eS (lessL 1 l)) (kI.enc 0) else tu2 .em (kI.enc 12))
theorem okApplyE : SpecOK Try.prog 13 sApplyE := by
  refine SpecOK.f2 Try.func13 rfl (by decide) Try.results13 Try.ntmps13 (by decide) fun l a ⟨hl, hs, ha⟩ => ?_
  have hΓ : GOK Try.prog (gam [(43, sEqualS)]) := (.cons okEqualS .nil)
  refine AW.of hΓ mixed [1, 99999] _ _ _ rfl ?_
  simp only [go_sem, sEqualS, st_sz]
  refine AW.adopt 6 9 1 (fun i => eS.enc (([] : List (List UInt8)).getD i [])) rfl ?_
  refine AW.adopt 7 9 1 (fun i => eS.enc (([] : List (List UInt8)).getD i [])) rfl ?_
  refine AW.of hΓ mixed [2, 99999] _ _ _ rfl ?_
  simp only [go_sem, sEqualS, st_sz]
  refine AW.to (fun n : Nat => Sh.st ⟨[(1, sL eS a), (6, sL eS (lessL 2 l)), (7, sL eS (lessL 1 l))], [], 36, 2, n, []⟩) ?_ ?_
  · refine AW.block (AW.round (α := { x : Nat × Nat × Nat × Nat // x.1 ≤ l.length })
      (fun x => ⟨[(1, sL eS a), (6, .ow 0 x.1.2.1 (lessL 2 (l.take x.1.1)).length), (7, .ow 1 x.1.2.2.1 (lessL 1 (l.take x.1.1)).length), (10, sL (eP eI (eL eS)) l), (11, .val (.int .i64 l.length)), (12, .val (.int .i64 x.1.1))],
        [(0, rowL x.1.2.1 9 eS (lessL 2 (l.take x.1.1))), (1, rowL x.1.2.2.1 9 eS (lessL 1 (l.take x.1.1)))], 36, 2, x.1.2.2.2, []⟩) (fun x => l.length - x.1.1) ⟨(0, 0, 1, 2), Nat.zero_le _⟩ ?_ ?_)
    · simp only [go_sem, sEqualS]
      exact ⟨⟨rfl, rfl⟩, RowLe.refl _, RowLe.refl _⟩
    · rintro ⟨⟨i, v, u, nx⟩, hi⟩
      simp only at hi
      have e : ∀ k, i < l.length → lessL k (l.take (i + 1)) = lessL k (l.take i) ++ if (l.getD i (0, [])).1 = k then [] else (l.getD i (0, [])).2 := fun k h => by rw [take_snocE l (0, []) h, lessL_snoc]
      have hg : i < l.length → (l.getD i (0, [])).2.length ≤ 10000 := fun h => by
        rw [gd_lt l _ h]
        exact hs _ (List.getElem_mem _)
      have hb : ∀ k, (lessL k (l.take i)).length ≤ 10000 * 10000 := fun k => Nat.le_trans (lessL_le (fun s h => hs s (List.mem_of_mem_take h)) k) (Nat.mul_le_mul_right _ (by simp; omega))
      have hb1 := hb 1
      have hb2 := hb 2
      refine AW.of hΓ mixed [99999] _ _ _ rfl ?_
      simp only [go_sem, sEqualS, st_sz, stC20, stC21, sp0, sp1, st_d]
      generalize l.getD i (0, []) = g at *
      refine ⟨fun hlt => ?_, fun hge => ?_⟩
      · have hlt' : i < l.length := by omega
        have e1 := e 1 hlt'
        have e2 := e 2 hlt'
        have hg' := hg hlt'
        refine ⟨by omega, fun h => ⟨by omega, fun h1 => ?_, fun h1 => ?_⟩, fun h => ⟨fun h1 => ?_, fun h1 => ?_⟩⟩
        · rw [if_neg h] at e2
          rw [if_neg h1] at e1
          refine ⟨by omega, by omega, ⟨(i + 1, nx + 1, nx + 1 + 1, nx + 1 + 1 + 1), by dsimp only; omega⟩, ⟨Nat.le_refl _, ⟨⟨rfl, by dsimp only; rw [e2]; simp⟩, ⟨rfl, by dsimp only; rw [e1]; simp⟩, rfl⟩, ?_, ?_⟩, by dsimp only; omega⟩
          · exact row_app (E := eS) rfl e2 rfl rfl rfl (fun _ _ _ _ => AVle.refl _)
          · exact row_app (E := eS) rfl e1 rfl rfl rfl (fun _ _ _ _ => AVle.refl _)
        · rw [if_neg h] at e2
          rw [if_pos (Decidable.not_not.1 h1), List.append_nil] at e1
          refine ⟨by omega, ⟨(i + 1, nx + 1, u, nx + 1 + 1), by dsimp only; omega⟩, ⟨Nat.le_refl _, ⟨⟨rfl, by dsimp only; rw [e2]; simp⟩, ⟨rfl, by dsimp only; rw [e1]⟩, rfl⟩, ?_, by dsimp only; rw [e1]; exact RowLe.refl _⟩, by dsimp only; omega⟩
          exact row_app (E := eS) rfl e2 rfl rfl rfl (fun _ _ _ _ => AVle.refl _)
        · rw [if_pos (Decidable.not_not.1 h), List.append_nil] at e2
          rw [if_neg h1] at e1
          refine ⟨by omega, by omega, ⟨(i + 1, v, nx + 1, nx + 1 + 1), by dsimp only; omega⟩, ⟨Nat.le_refl _, ⟨⟨rfl, by dsimp only; rw [e2]⟩, ⟨rfl, by dsimp only; rw [e1]; simp⟩, rfl⟩, by dsimp only; rw [e2]; exact RowLe.refl _, ?_⟩, by dsimp only; omega⟩
          exact row_app (E := eS) rfl e1 rfl rfl rfl (fun _ _ _ _ => AVle.refl _)
        · rw [if_pos (Decidable.not_not.1 h)] at e2
          rw [if_pos (Decidable.not_not.1 h1)] at e1
          exfalso
          omega
      · obtain rfl : i = l.length := by omega
        rw [List.take_length]
        refine ⟨nx, ASle.trans (ASle.freeze 0 v 9 1 (lessL 2 l).length (fun i => eS.enc ((lessL 2 l).getD i [])) rfl (fun _ _ _ _ => rfl)) (ASle.trans (ASle.freeze 1 u 9 1 (lessL 1 l).length (fun i => eS.enc ((lessL 1 l).getD i [])) rfl (fun _ _ _ _ => rfl)) (toFits ?_))⟩
        simp only [go_sem, sEqualS]
        exact ⟨AVle.refl _, AVle.refl _⟩
  · intro n
    have hb : (lessL 2 l).length ≤ 10000 * 10000 := Nat.le_trans (lessL_le hs 2) (Nat.mul_le_mul_right _ (by omega))
    by_cases he : lessL 2 l = a
    · have hd : decide (lessL 2 l = a) = true := decide_eq_true he
      rw [if_pos he]
      simp only [go_sem, sEqualS, hd]
      exact ⟨by omega, ha⟩
    · have hd : decide (lessL 2 l = a) = false := decide_eq_false he
      rw [if_neg he]
      simp only [go_sem, sEqualS, hd]
      exact ⟨by omega, ha⟩
def sRefRightE : Spec := Spec.f1 (kL (eP eI (eL eS))) (fun l => l.length < 10000 ∧ ∀ s ∈ l, s.2.length ≤ 10000) (fun l => kB.enc (rightE (-1) l))
theorem okRefRightE : SpecOK Try.prog 20 sRefRightE := by
  refine SpecOK.f1 Try.func20 rfl (by decide) Try.results20 Try.ntmps20 (by decide) fun l ⟨hl, hs⟩ => ?_
  have hΓ : GOK Try.prog (gam []) := GOK.nil
  refine AW.of hΓ mixed [] _ _ _ rfl ?_
  simp only [go_sem, st_sz]
  refine AW.round (α := { x : Nat × Nat // x.1 ≤ l.length ∧ rightE (-1) l = rightE (lastK l x.1) (l.drop x.1) })
    (fun x => ⟨[(0, sL (eP eI (eL eS)) l), (3, .val (.int .i64 x.1.1))], [], 66, 0, x.1.2, []⟩) (fun x => l.length - x.1.1) ⟨(0, 0), Nat.zero_le _, rfl⟩ ?_ ?_
  · simp only [go_sem]
  · rintro ⟨⟨i, nx⟩, hi, hr⟩
    simp only at hi hr
    refine AW.of hΓ mixed [99999] _ _ _ rfl ?_
    simp only [go_sem, st_sz, stC20, stC21, sp0, sp1, st_d]
    obtain ⟨k, ts, hg⟩ : ∃ k ts, l.getD i (0, []) = (k, ts) := ⟨_, _, rfl⟩
    have hd : i < l.length → l.drop i = (k, ts) :: l.drop (i + 1) := fun h => by
      rw [List.drop_eq_getElem_cons h, ← gd_lt l (0, []) h, hg]
    have hbad : (decide (k < 0) || decide (2 < k) || decide ((ts.length : Int) = 0)) = !stepOK (k, ts) := by
      rw [Bool.eq_iff_iff]
      simp only [stepOK, Bool.or_eq_true, decide_eq_true_eq, Bool.not_eq_true', decide_eq_false_iff_not]
      omega
    have hp : 0 < i → (l.getD ((i : Int) - 1).toNat (0, [])).1 = lastK l i := fun h => by
      cases i with
      | zero => omega
      | succ i => rw [show ((i + 1 : Nat) : Int) - 1 = (i : Nat) by omega, Int.toNat_natCast]; rfl
    rw [hg]
    dsimp only
    rw [hbad]
    have hfo : ∀ q : Int, (decide (q = k) || decide (q = 2) && decide (k = 1)) = !followsB q k := fun q => by
      unfold followsB
      by_cases h1 : q = k
      · rw [decide_eq_true h1, decide_eq_false (fun h : q ≠ k => h h1)]; rfl
      · rw [decide_eq_false h1, decide_eq_true (show q ≠ k from h1)]; simp
    generalize hq : (l.getD ((i : Int) - 1).toNat (0, [])).1 = q at *
    rw [hfo]
    refine ⟨fun hlt => ?_, fun hge => ?_⟩
    · rw [hd (by omega), rightE] at hr
      dsimp only at hr
      refine ⟨by omega, fun _ => by omega, fun h => by rw [decide_eq_false h]; rfl, fun _ => by omega, fun h => by rw [h]; rfl, fun h => ?_, fun h => ⟨fun _ => by omega, fun _ => by omega, fun _ => by omega, fun h => by omega, fun h => by omega, fun h => by omega, fun h0 h1 => by rw [decide_eq_true h0.1, h0.2, decide_eq_true h1]; rfl,
        fun h0 h1 => by rw [decide_eq_true h0, decide_eq_false h1]; rfl, fun ⟨h0, h1⟩ => ?_, fun h1 => ⟨by omega, ⟨(i + 1, nx), by dsimp only; omega, ?_⟩, ⟨Nat.le_refl _, rfl⟩, by dsimp only; omega⟩⟩⟩
      · rw [Bool.not_eq_true'] at h
        rw [hr, h, Bool.false_and]
      · rw [hp (by omega), Bool.not_eq_true'] at h1
        rw [hr, h1, Bool.false_and, Bool.and_false]
      · rw [Bool.not_eq_false'] at h
        have hfo : followsB (lastK l i) k = true := by
          rcases Nat.eq_zero_or_pos i with h0 | h0
          · subst h0
            simp only [stepOK, decide_eq_true_eq] at h
            have e : lastK l 0 = -1 := rfl
            rw [e, followsB, decide_eq_true (show (-1 : Int) ≠ k by omega)]
            rfl
          · have := h1 (by omega)
            rw [hp h0, Bool.not_eq_false'] at this
            exact this
        rw [hr, h, hfo, Bool.true_and, Bool.true_and]
        show _ = rightE (l.getD i (0, [])).1 _
        rw [hg]
    · obtain rfl : i = l.length := by omega
      rw [hr, List.drop_length]
      rfl
theorem cells_ag (m : Nat) (c : Nat → AV) : cellsAV (.ag m c) = some (m, c) := rfl
theorem kA_st (s : Int × List (List UInt8)) : (kA (eP eI (eL eS))).enc s = .ag 2 ((eP eI (eL eS)).enc s) := rfl
def sTurnedE : Spec := Spec.f1 (kA (eP eI (eL eS))) (fun s => s.2.length ≤ 10000) (fun s => (kA (eP eI (eL eS))).enc (turnS s))
theorem okTurnedE : SpecOK Try.prog 44 sTurnedE := by
  refine SpecOK.f1 Try.func44 rfl (by decide) Try.results44 Try.ntmps44 (by decide) fun s hs => ?_
  have hΓ : GOK Try.prog (gam [(54, sCloneS)]) := (.cons okCloneS .nil)
  obtain ⟨k, ts⟩ := s
  simp only at hs
  have hk : turnS (k, ts) = (turnK k, ts) := rfl
  rw [hk]
  refine AW.of hΓ mixed [99999] _ _ _ rfl ?_
  simp only [go_sem, sCloneS, st_sz, stC20, stC21, sp0, sp1, st_d, kA_st, cells_ag]
  refine ⟨fun h => ⟨_, ts, rfl, AVle.refl _, by omega, fun ver nx' _ _ => AVle.ag fun j hj => ?_⟩, fun h => ⟨fun h2 => ⟨_, ts, rfl, AVle.refl _, by omega, fun ver nx' _ _ => AVle.ag fun j hj => ?_⟩, fun h2 => ⟨_, ts, rfl, AVle.refl _, by omega, fun ver nx' _ _ => AVle.ag fun j hj => ?_⟩⟩⟩
  · rw [turnK, if_pos h]
    match j, hj with
    | 0, _ => exact AVle.refl _
    | 1, _ => exact AVle.refl _
  · rw [turnK, if_neg h, if_pos h2]
    match j, hj with
    | 0, _ => exact AVle.refl _
    | 1, _ => exact AVle.refl _
  · rw [turnK, if_neg h, if_neg h2]
    match j, hj with
    | 0, _ => exact AVle.refl _
    | 1, _ => exact AVle.refl _
end Go.Proofs.Ytpbccamaipekjaa
