/-
  lcs: the laws.
-/
import Derived.Test.YtainopabnnglgaaLcsS
set_option linter.unusedSimpArgs false
set_option linter.unusedVariables false
set_option maxRecDepth 100000
set_option maxHeartbeats 2000000
namespace Go.Proofs.Ytainopabnnglgaa
open Go
attribute [local irreducible] AW AVle ASle RowLe
theorem cap_le {α : Type} (E : El α) (l : List α) {d : α} {m n : Nat} {s : Nat} (hs : s = E.sz) (hd : d = E.dflt) (hn : n = min l.length m) : AVle (.sn n s fun i => E.enc (l.getD i d)) (sL E (l.take m)) := by
  subst hs hd hn
  exact vw_row rfl rfl (by rw [List.take_eq_take_iff]; omega) (by omega)
theorem capped {α : Type} (l : List α) (m : Nat) : ∃ L, l.take m = L ∧ L.length ≤ m := ⟨_, rfl, by rw [List.length_take]; omega⟩
def sLcsRights : Spec := Spec.f3 (kL eI) (kL eI) (kL (eP eI eI)) (fun _ _ _ => True) (fun _ _ _ => kB.enc true)
theorem okLcsRights : SpecOK Try.prog 6 sLcsRights := by
  refine SpecOK.f3 Try.func6 rfl (by decide) Try.results6 Try.ntmps6 (by decide) fun a b l _ => ?_
  have hΓ : GOK Try.prog (gam [(20, sLcsTold), (24, sLcsTo), (23, sLcsRight), (25, sLcsRefRight)]) := (.cons okLcsTold (.cons okLcsTo (.cons okLcsRight (.cons okLcsRefRight .nil))))
  refine AW.of hΓ mixed [1, 99999] _ _ _ rfl ?_
  simp only [go_sem, sLcsTold, sLcsTo, sLcsRight, sLcsRefRight, pp_sz]
  refine ⟨by omega, by omega, by omega, ?_⟩
  refine AW.cut ⟨[(0, sL eI (a.take 200)), (1, sL eI (b.take 200)), (2, sL (eP eI eI) (l.take 200))], [], 35, 0, 0, []⟩ ?_ ?_
  · simp only [go_sem]
    exact ⟨cap_le eI a rfl rfl (by omega), cap_le eI b rfl rfl (by omega), cap_le (eP eI eI) l rfl rfl (by omega)⟩
  obtain ⟨A, hA, lA⟩ := capped a 200
  obtain ⟨B, hB, lB⟩ := capped b 200
  obtain ⟨C, hC, lC⟩ := capped l 200
  rw [hA, hB, hC]
  refine AW.of hΓ mixed [] _ _ _ rfl ?_
  simp only [go_sem, sLcsTold, sLcsTo, sLcsRight, sLcsRefRight]
  exact ⟨by omega, by omega, by omega, by omega⟩
def sLcsTurns : Spec := Spec.f3 (kL eI) (kL eI) (kL eI) (fun _ _ _ => True) (fun _ _ _ => kB.enc true)
theorem okLcsTurns : SpecOK Try.prog 8 sLcsTurns := by
  refine SpecOK.f3 Try.func8 rfl (by decide) Try.results8 Try.ntmps8 (by decide) fun a b c _ => ?_
  have hΓ : GOK Try.prog (gam [(20, sLcsTold), (19, sMatch), (22, sDistance), (13, sSameI)]) := (.cons okLcsTold (.cons okMatch (.cons okDistance (.cons okSameI .nil))))
  refine AW.of hΓ mixed [1, 99999] _ _ _ rfl ?_
  simp only [go_sem, sLcsTold, sMatch, sDistance, sSameI, pp_sz]
  refine ⟨by omega, by omega, by omega, ?_⟩
  refine AW.cut ⟨[(0, sL eI (a.take 100)), (1, sL eI (b.take 100)), (2, sL eI (c.take 100))], [], 57, 0, 0, []⟩ ?_ ?_
  · simp only [go_sem]
    exact ⟨cap_le eI a rfl rfl (by omega), cap_le eI b rfl rfl (by omega), cap_le eI c rfl rfl (by omega)⟩
  obtain ⟨A, hA, lA⟩ := capped a 100
  obtain ⟨B, hB, lB⟩ := capped b 100
  obtain ⟨C, hC, lC⟩ := capped c 100
  rw [hA, hB, hC]
  have h1 := match_len_comm A B
  have h2 := dist_via A B C
  have h3 := dist_0 A B
  have h4 := distF_eq A B
  have h5 := distF_eq B C
  have h6 := distF_eq A C
  have h7 := lcsN_le A B
  have h8 := lcsN_le B C
  have h9 := lcsN_le A C
  refine AW.of hΓ mixed [] _ _ _ rfl ?_
  simp only [go_sem, sLcsTold, sMatch, sDistance, sSameI, pp_sz]
  exact ⟨by omega, by omega, fun _ => by omega, fun _ => by omega, fun _ => by omega, fun _ => by omega, fun _ => by omega, fun _ => by omega, ⟨by omega, by omega⟩, decide_eq_decide.2 h3⟩
def sLcsMatches : Spec := Spec.f2 (kL eI) (kL eI) (fun _ _ => True) (fun _ _ => kB.enc true)
theorem okLcsMatches : SpecOK Try.prog 5 sLcsMatches := by
  refine SpecOK.f2 Try.func5 rfl (by decide) Try.results5 Try.ntmps5 (by decide) fun a b _ => ?_
  have hΓ : GOK Try.prog (gam [(20, sLcsTold), (19, sMatch), (18, sLcsFrom), (22, sDistance), (13, sSameI), (21, sLcsLongest)]) := (.cons okLcsTold (.cons okMatch (.cons okLcsFrom (.cons okDistance (.cons okSameI (.cons okLcsLongest .nil))))))
  refine AW.of hΓ mixed [1, 99999] _ _ _ rfl ?_
  simp only [go_sem, sLcsTold, sMatch, sLcsFrom, sDistance, sSameI, sLcsLongest, pp_sz]
  refine ⟨by omega, by omega, ?_⟩
  refine AW.cut ⟨[(0, sL eI (a.take 200)), (1, sL eI (b.take 200))], [], 92, 0, 0, []⟩ ?_ ?_
  · simp only [go_sem]
    exact ⟨cap_le eI a rfl rfl (by omega), cap_le eI b rfl rfl (by omega)⟩
  obtain ⟨A, hA, lA⟩ := capped a 200
  obtain ⟨B, hB, lB⟩ := capped b 200
  rw [hA, hB]
  refine AW.cut ⟨[(0, .sn A.length 1 fun i => eI.enc (A.getD i 0)), (1, .sn B.length 1 fun i => eI.enc (B.getD i 0))], [], 92, 0, 0, []⟩ ?_ ?_
  · simp only [go_sem]
    exact ⟨AVle.refl _, AVle.refl _⟩
  refine AW.of hΓ mixed [2, 99999] _ _ _ rfl ?_
  simp only [go_sem, sLcsTold, sMatch, sLcsFrom, sDistance, sSameI, sLcsLongest, pp_sz]
  refine ⟨by omega, by omega, ?_⟩
  refine AW.freeze 0 0 3 1 A.length (fun i => eI.enc (A.getD i 0)) rfl (fun _ _ _ _ => rfl) ?_
  refine AW.freeze 1 1 3 1 B.length (fun i => eI.enc (B.getD i 0)) rfl (fun _ _ _ _ => rfl) ?_
  refine AW.cut ⟨[(0, sL eI A), (1, sL eI B), (5, sL eI A), (6, sL eI B)], [], 92, 0, 2, []⟩ ?_ ?_
  · simp only [go_sem]
    exact ⟨AVle.refl _, AVle.refl _, AVle.refl _, AVle.refl _⟩
  have h1 := (match_spec A B).2
  have h2 := lcsN_le A B
  have h3 : distF A B = A.length + B.length - 2 * (matchF A B).length := rfl
  have h4 := rgt_match A B
  have h5 : decide ((matchF A B).length = lcsN A B) = true := decide_eq_true h1
  have h6 : decide (¬ distF A B = A.length + B.length - 2 * (matchF A B).length) = false := decide_eq_false fun h => h h3
  refine AW.of hΓ mixed [7, 99999] _ _ _ rfl ?_
  simp only [go_sem, sLcsTold, sMatch, sLcsFrom, sDistance, sSameI, sLcsLongest, pp_sz, h4, h5, h6, Bool.not_true, Bool.or_false, Bool.not_false, Bool.and_true]
  obtain ⟨M, hM⟩ : ∃ M, matchF A B = M := ⟨_, rfl⟩
  have lM := h1
  rw [hM] at lM ⊢
  refine ⟨⟨by omega, by omega⟩, by omega, ⟨by omega, by omega⟩, by omega, ⟨by omega, by omega, by omega⟩, ⟨by omega, by omega⟩, by omega, by omega, by omega, by omega, by omega, ?_⟩
  refine AW.cut ⟨[(7, sL (eP eI eI) M), (8, sL (eP eI eI) M), (9, .val (.int .i64 0))], [], 92, 0, 2, []⟩ ?_ ?_
  · simp only [go_sem]
  refine AW.of hΓ mixed [] _ _ _ rfl ?_
  simp only [go_sem, sLcsTold, sMatch, sLcsFrom, sDistance, sSameI, sLcsLongest]
  refine AW.round (α := { x : Nat × Nat // x.1 ≤ M.length })
    (fun x => ⟨[(7, sL (eP eI eI) M), (8, sL (eP eI eI) M), (9, .val (.int .i64 x.1.1))], [], 92, 0, x.1.2, []⟩) (fun x => M.length - x.1.1) ⟨(0, 2), Nat.zero_le _⟩ ?_ ?_
  · simp only [go_sem, sLcsTold, sMatch, sLcsFrom, sDistance, sSameI, sLcsLongest]
  · rintro ⟨⟨i, nx⟩, hi⟩
    simp only at hi
    refine AW.of hΓ mixed [99999] _ _ _ rfl ?_
    simp only [go_sem, sLcsTold, sMatch, sLcsFrom, sDistance, sSameI, sLcsLongest, pp_sz, eqLR, pp0, pp1, i64V_int]
    exact fun hlt => ⟨by omega, by omega, by omega, ⟨(i + 1, nx), by dsimp only; omega⟩, ⟨Nat.le_refl _, rfl⟩, by dsimp only; omega⟩
/-- What is left of a list, where some places are left out. -/
def leftL (out : List Bool) : Nat → List Int → List Int
  | _, [] => []
  | i, x :: l => if i < out.length ∧ out.getD i false = true then leftL out (i + 1) l else x :: leftL out (i + 1) l
theorem leftL_sub (out : List Bool) : ∀ (l : List Int) (i : Nat), (leftL out i l).Sublist l
  | [], _ => .slnil
  | x :: l, i => by
    unfold leftL
    split
    · exact (leftL_sub out l (i + 1)).cons _
    · exact (leftL_sub out l (i + 1)).cons_cons _
theorem leftL_snoc (out : List Bool) (x : Int) : ∀ (l : List Int) (i : Nat), leftL out i (l ++ [x]) = leftL out i l ++ if i + l.length < out.length ∧ out.getD (i + l.length) false = true then [] else [x]
  | [], i => by
    simp only [List.nil_append, leftL, List.length_nil, Nat.add_zero]
  | y :: l, i => by
    have := leftL_snoc out x l (i + 1)
    simp only [List.cons_append, leftL, List.length_cons]
    simp only [show i + (l.length + 1) = i + 1 + l.length by omega, this]
    by_cases c : i < out.length ∧ out.getD i false = true
    · rw [if_pos c, if_pos c]
    · rw [if_neg c, if_neg c]; rfl
def sLcsAlls : Spec := Spec.f2 (kL eI) (kL eB) (fun _ _ => True) (fun _ _ => kB.enc true)
theorem okLcsAlls : SpecOK Try.prog 7 sLcsAlls := by
  refine SpecOK.f2 Try.func7 rfl (by decide) Try.results7 Try.ntmps7 (by decide) fun a out _ => ?_
  have hΓ : GOK Try.prog (gam [(20, sLcsTold), (19, sMatch), (22, sDistance)]) := (.cons okLcsTold (.cons okMatch (.cons okDistance .nil)))
  refine AW.of hΓ mixed [1, 99999] _ _ _ rfl ?_
  simp only [go_sem, sLcsTold, sMatch, sDistance, pp_sz]
  refine ⟨by omega, ?_⟩
  refine AW.cut ⟨[(0, sL eI (a.take 200)), (1, sL eB out)], [], 96, 0, 0, []⟩ ?_ ?_
  · simp only [go_sem]
    exact cap_le eI a rfl rfl (by omega)
  obtain ⟨A, hA, lA⟩ := capped a 200
  rw [hA]
  refine AW.of hΓ mixed [2, 99999] _ _ _ rfl ?_
  simp only [go_sem, sLcsTold, sMatch, sDistance]
  refine AW.adopt 5 3 1 (fun i => eI.enc (([] : List Int).getD i 0)) rfl ?_
  refine AW.of hΓ mixed [3, 99999] _ _ _ rfl ?_
  simp only [go_sem, sLcsTold, sMatch, sDistance]
  refine AW.to (fun n : Nat => Sh.st ⟨[(0, sL eI A), (5, sL eI (leftL out 0 A))], [], 96, 1, n, []⟩) ?_ ?_
  · refine AW.block (AW.round (α := { x : Nat × Nat × Nat // x.1 ≤ A.length })
      (fun x => ⟨[(0, sL eI A), (1, sL eB out), (5, .ow 0 x.1.2.1 (leftL out 0 (A.take x.1.1)).length), (6, .val (.int .i64 x.1.1))], [(0, rowL x.1.2.1 3 eI (leftL out 0 (A.take x.1.1)))], 96, 1, x.1.2.2, []⟩) (fun x => A.length - x.1.1) ⟨(0, 0, 1), Nat.zero_le _⟩ ?_ ?_)
    · simp only [go_sem, sLcsTold, sMatch, sDistance]
      exact ⟨rfl, RowLe.refl _⟩
    · rintro ⟨⟨i, v, nx⟩, hi⟩
      simp only at hi
      have hsub := (leftL_sub out (A.take i) 0).length_le
      have htl : (A.take i).length = i := by simp; omega
      have hs : i < A.length → leftL out 0 (A.take (i + 1)) = leftL out 0 (A.take i) ++ if i < out.length ∧ out.getD i false = true then [] else [A.getD i 0] := fun hlt => by
        rw [take_snoc' hlt, leftL_snoc, htl, Nat.zero_add]
      refine AW.of hΓ mixed [99999] _ _ _ rfl ?_
      simp only [go_sem, sLcsTold, sMatch, sDistance]
      refine ⟨fun hlt => ⟨fun h => ?_, fun h => by rw [decide_eq_false h]; rfl, fun h => ?_, fun h => ?_⟩, fun hge => ?_⟩
      · simp only [Bool.not_eq_true', decide_eq_false_iff_not] at h
        omega
      · have e1 := hs (by omega)
        rw [if_neg (fun hc => by
          rw [hc.2, decide_eq_false (by omega)] at h
          exact absurd h (by decide))] at e1
        refine ⟨by omega, by omega, by omega, ⟨(i + 1, nx, nx + 1), by dsimp only; omega⟩, ⟨Nat.le_refl _, ⟨⟨rfl, by dsimp only; rw [e1]; simp⟩, rfl⟩, ?_⟩, by dsimp only; omega⟩
        exact row_app1 (E := eI) rfl e1 rfl rfl rfl (fun _ _ => AVle.refl _)
      · have e1 := hs (by omega)
        simp only [Bool.or_eq_false_iff, decide_eq_false_iff_not, Bool.not_eq_false'] at h
        rw [if_pos ⟨by omega, h.2⟩, List.append_nil] at e1
        refine ⟨by omega, ⟨(i + 1, v, nx), by dsimp only; omega⟩, ⟨Nat.le_refl _, ⟨⟨rfl, by dsimp only; rw [e1]⟩, rfl⟩, by dsimp only; rw [e1]; exact RowLe.refl _⟩, by dsimp only; omega⟩
      · obtain rfl : i = A.length := by omega
        rw [List.take_length]
        refine ⟨nx, ASle.trans (ASle.freeze 0 v 3 1 (leftL out 0 A).length (fun i => eI.enc ((leftL out 0 A).getD i 0)) rfl (fun _ _ _ _ => rfl)) (toFits ?_)⟩
        simp only [go_sem, sLcsTold, sMatch, sDistance]
        exact AVle.refl _
  · intro n
    have hL := leftL_sub out A 0
    obtain ⟨L, hl⟩ : ∃ L, leftL out 0 A = L := ⟨_, rfl⟩
    rw [hl] at hL ⊢
    have lL := hL.length_le
    have q0 := match_self A
    have q1 : (matchF A A).length = A.length := by rw [q0, prs_len]
    have q2 : distF A A = 0 := (dist_0 A A).2 rfl
    have q3 : (matchF A L).length = L.length := by rw [(match_spec A L).2, lcsN_sub hL]
    have q4 : (matchF L A).length = L.length := by rw [(match_spec L A).2, lcsN_comm, lcsN_sub hL]
    have w1 : decide (¬ ((matchF A A).length : Int) = A.length) = false := decide_eq_false (by omega)
    have w2 : decide (¬ distF A A = 0) = false := decide_eq_false (by omega)
    have w3 : decide (¬ ((matchF A L).length : Int) = L.length) = false := decide_eq_false (by omega)
    have w4 : decide (¬ ((matchF L A).length : Int) = L.length) = false := decide_eq_false (by omega)
    simp only [go_sem, sLcsTold, sMatch, sDistance, w1, w2, w3, w4, Bool.or_false, Bool.not_false, Bool.not_true]
    refine ⟨by omega, by omega, ⟨by omega, by omega⟩, ⟨by omega, by omega⟩, ?_⟩
    refine AW.round (α := { x : Nat × Nat // x.1 ≤ A.length })
      (fun x => ⟨[(7, sL (eP eI eI) (prs 0 0 A.length)), (8, .val (.int .i64 x.1.1))], [], 96, 0, x.1.2, []⟩) (fun x => A.length - x.1.1) ⟨(0, n), Nat.zero_le _⟩ ?_ ?_
    · simp only [go_sem, sLcsTold, sMatch, sDistance, q0]
    · rintro ⟨⟨i, nx⟩, hi⟩
      simp only at hi
      refine AW.of hΓ mixed [99999] _ _ _ rfl ?_
      simp only [go_sem, sLcsTold, sMatch, sDistance, pp_sz, pp0, pp1, prs_len]
      intro hlt
      have g : (prs 0 0 A.length).getD i (0, 0) = ((i : Int), (i : Int)) := by
        simp [prs, List.getD, show i < A.length by omega]
      have e : decide (¬ ((i : Int) = (i : Int))) = false := decide_eq_false fun h => h rfl
      rw [pp_d, g]
      dsimp only
      rw [e]
      refine ⟨by omega, fun _ => by omega, fun _ => rfl, fun h => absurd h (by decide), fun _ => ⟨by omega, ⟨(i + 1, nx), by dsimp only; omega⟩, ⟨Nat.le_refl _, rfl⟩, by dsimp only; omega⟩⟩
end Go.Proofs.Ytainopabnnglgaa
