/-
  chunk: places that have both pairs; chunks compared and copied.
-/
import Derived.Test.YtpbccamaipekjaaChunkX
set_option linter.unusedSimpArgs false
set_option linter.unusedVariables false
set_option maxRecDepth 100000
set_option maxHeartbeats 2000000
namespace Go.Proofs.Ytpbccamaipekjaa
open Go
attribute [local irreducible] AW AVle ASle RowLe
def bothF : List (Int × Int) → List (Int × Int) → List Pl
  | [], _ => []
  | _ :: _, [] => []
  | p :: l, q :: r => if p.1 < q.1 then bothF l (q :: r) else if q.1 < p.1 then bothF (p :: l) r else (p.1, p.2, q.2) :: bothF l r
  termination_by l r => l.length + r.length
theorem both_nil (l : List (Int × Int)) : bothF l [] = [] := by cases l <;> simp [bothF]
theorem both_nil' (r : List (Int × Int)) : bothF [] r = [] := by simp [bothF]
def sBoth : Spec := Spec.f2 (kL (eP eI eI)) (kL (eP eI eI)) (fun l r => l.length < 100000000 ∧ r.length < 100000000) (fun l r => sL ePl (bothF l r))
theorem okBoth : SpecOK Try.prog 47 sBoth := by
  refine SpecOK.f2 Try.func47 rfl (by decide) Try.results47 Try.ntmps47 (by decide) fun l r ⟨hl, hr⟩ => ?_
  have hΓ : GOK Try.prog (gam []) := GOK.nil
  refine AW.of hΓ mixed [200004] _ _ _ rfl ?_
  simp only [go_sem, pp_sz]
  refine AW.adopt 5 97 3 (fun i => ePl.enc (([] : List Pl).getD i (0, 0, 0))) rfl ?_
  refine AW.round (α := { x : Nat × Nat × List Pl × Nat × Nat // x.1 ≤ l.length ∧ x.2.1 ≤ r.length ∧ x.2.2.1.length ≤ x.1 ∧ bothF l r = x.2.2.1 ++ bothF (l.drop x.1) (r.drop x.2.1) })
    (fun x => ⟨[(0, sL (eP eI eI) l), (1, sL (eP eI eI) r), (5, .ow 0 x.1.2.2.2.1 x.1.2.2.1.length), (6, .val (.int .i64 x.1.1)), (7, .val (.int .i64 x.1.2.1))], [(0, rowL x.1.2.2.2.1 97 ePl x.1.2.2.1)], 70, 1, x.1.2.2.2.2, []⟩) (fun x => l.length + r.length - x.1.1 - x.1.2.1) ⟨(0, 0, [], 0, 1), Nat.zero_le _, Nat.zero_le _, Nat.le_refl _, rfl⟩ ?_ ?_
  · simp only [go_sem, pp_sz]
    exact RowLe.refl _
  · rintro ⟨⟨i, j, out, v, nx⟩, hi, hj, ho, hb⟩
    simp only at hi hj ho hb
    refine AW.of hΓ mixed [200004, 99999] _ _ _ rfl ?_
    simp only [go_sem, pp_sz, pp_d, pp0, pp1]
    refine ⟨fun ⟨h1, h2⟩ => ?_, fun h => ?_⟩
    · have hdl : l.drop i = l.getD i (0, 0) :: l.drop (i + 1) := by
        rw [List.drop_eq_getElem_cons (by omega), ← gd_lt l (0, 0) (by omega)]
      have hdr : r.drop j = r.getD j (0, 0) :: r.drop (j + 1) := by
        rw [List.drop_eq_getElem_cons (by omega), ← gd_lt r (0, 0) (by omega)]
      refine ⟨by omega, by omega, fun c => ?_, fun c => ⟨by omega, by omega, fun c2 => ?_, fun c2 => ?_⟩⟩
      · rw [hdl, hdr, bothF, if_pos c, ← hdr] at hb
        exact ⟨by omega, ⟨(i + 1, j, out, v, nx), by dsimp only; omega, by dsimp only; omega, by dsimp only; omega, hb⟩, ⟨Nat.le_refl _, ⟨⟨rfl, rfl⟩, by dsimp only; omega, rfl⟩, RowLe.refl _⟩, by dsimp only; omega⟩
      · rw [hdl, hdr, bothF, if_neg c, if_pos c2, ← hdl] at hb
        exact ⟨by omega, ⟨(i, j + 1, out, v, nx), by dsimp only; omega, by dsimp only; omega, by dsimp only; omega, hb⟩, ⟨Nat.le_refl _, ⟨⟨rfl, rfl⟩, rfl, by dsimp only; omega⟩, RowLe.refl _⟩, by dsimp only; omega⟩
      · rw [hdl, hdr, bothF, if_neg c, if_neg c2] at hb
        refine AW.drawT hΓ mixed 18 [] (by decide +kernel) ?_
        simp only [go_sem, pp_sz, pp_d, pp0, pp1]
        refine ⟨by omega, by omega, by omega, by omega, by omega, by omega, ⟨(i + 1, j + 1, out ++ [((l.getD i (0, 0)).1, (l.getD i (0, 0)).2, (r.getD j (0, 0)).2)], nx, nx + 1), by dsimp only; omega, by dsimp only; omega, by simp; omega, by dsimp only; rw [hb, List.append_assoc]; rfl⟩, ⟨Nat.le_refl _, ⟨⟨rfl, by simp⟩, by dsimp only; omega, by dsimp only; omega⟩, ?_⟩, by dsimp only; omega⟩
        refine row_app1 (E := ePl) rfl rfl rfl rfl (by simp) fun k hk => ?_
        match k, hk with
        | 0, _ => exact AVle.refl _
        | 1, _ => exact AVle.refl _
        | 2, _ => exact AVle.refl _
    · have e : bothF (l.drop i) (r.drop j) = [] := by
        rcases Nat.lt_or_ge i l.length with c | c
        · rw [show r.drop j = [] from List.drop_eq_nil_of_le (by omega)]
          exact both_nil _
        · rw [show l.drop i = [] from List.drop_eq_nil_of_le (by omega)]
          exact both_nil' _
      rw [e, List.append_nil] at hb
      rw [hb]
      exact vw_all (E := ePl) rfl rfl rfl
theorem ckEq (x y : Ck) : (decide (x.1 = y.1) && (decide (x.2.1.1 = y.2.1.1) && decide (x.2.1.2 = y.2.1.2) && (decide (x.2.2.1.1 = y.2.2.1.1) && decide (x.2.2.1.2 = y.2.2.1.2) && (decide (x.2.2.2.1 = y.2.2.2.1) && decide (x.2.2.2.2 = y.2.2.2.2))))) = decide (x = y) := by
  obtain ⟨s, ⟨b1, b2⟩, ⟨l1, l2⟩, r1, r2⟩ := x
  obtain ⟨s', ⟨b1', b2'⟩, ⟨l1', l2'⟩, r1', r2'⟩ := y
  rw [Bool.eq_iff_iff]
  simp only [Bool.and_eq_true, decide_eq_true_eq, Prod.mk.injEq]
def sSameK : Spec := Spec.f2 (kL eCk) (kL eCk) (fun a b => a.length < 1000000000 ∧ b.length < 1000000000) (fun a b => kB.enc (decide (a = b)))
theorem okSameK : SpecOK Try.prog 27 sSameK := by
  refine SpecOK.f2 Try.func27 rfl (by decide) Try.results27 Try.ntmps27 (by decide) fun a b ⟨ha, hb⟩ => ?_
  have hΓ : GOK Try.prog (gam []) := GOK.nil
  refine AW.of hΓ mixed [] _ _ _ rfl ?_
  simp only [go_sem]
  refine ⟨fun h e => h (by rw [e]), fun h => ?_⟩
  have hab : a.length = b.length := by omega
  refine AW.round (α := { x : Nat × Nat // x.1 ≤ a.length ∧ ∀ k, k < x.1 → a.getD k eCk.dflt = b.getD k eCk.dflt })
    (fun x => ⟨[(0, sL eCk a), (1, sL eCk b), (5, .val (.int .i64 x.1.1))], [], 26, 0, x.1.2, []⟩) (fun x => a.length - x.1.1) ⟨(0, 0), Nat.zero_le _, fun k hk => absurd hk (Nat.not_lt_zero _)⟩ ?_ ?_
  · simp only [go_sem]
  · rintro ⟨⟨i, nx⟩, hi, he⟩
    simp only at hi he
    refine AW.of hΓ mixed [99999] _ _ _ rfl ?_
    simp only [go_sem]
    rw [ckEq]
    refine ⟨fun hlt => ⟨by omega, by omega, fun hn e => ?_, fun hn => ⟨by omega, ⟨(i + 1, nx), by dsimp only; omega, fun k hk => ?_⟩, ⟨Nat.le_refl _, by dsimp only; omega⟩, by dsimp only; omega⟩⟩, fun hge => ?_⟩
    · rw [e, decide_eq_true rfl] at hn
      cases hn
    · dsimp only at hk
      rcases Nat.lt_or_ge k i with h' | h'
      · exact he k h'
      · obtain rfl : k = i := by omega
        simpa using hn
    · exact list_ext_getD eCk.dflt hab fun k hk => he k (by omega)
def sFromK : Spec := Spec.f1 (kL eCk) (fun l => l.length < 100000000) (fun l => sL eCk l)
theorem okFromK : SpecOK Try.prog 28 sFromK := by
  refine SpecOK.f1 Try.func28 rfl (by decide) Try.results28 Try.ntmps28 (by decide) fun l hl => ?_
  have hΓ : GOK Try.prog (gam [(29, sOneK)]) := (.cons okOneK .nil)
  refine AW.of hΓ mixed [] _ _ _ rfl ?_
  simp only [go_sem, sOneK]
  refine AW.adopt 3 65 7 (fun i => eCk.enc (([] : List Ck).getD i eCk.dflt)) rfl ?_
  refine AW.round (α := { x : Nat × Nat × Nat // x.1 ≤ l.length })
    (fun x => ⟨[(0, sL eCk l), (3, .ow 0 x.1.2.1 x.1.1), (4, .val (.int .i64 x.1.1))], [(0, rowL x.1.2.1 65 eCk (l.take x.1.1))], 20, 1, x.1.2.2, []⟩) (fun x => l.length - x.1.1) ⟨(0, 0, 1), Nat.zero_le _⟩ ?_ ?_
  · simp only [go_sem, sOneK]
    exact RowLe.refl _
  · rintro ⟨⟨i, v, nx⟩, hi⟩
    simp only at hi
    refine AW.of hΓ mixed [99999] _ _ _ rfl ?_
    simp only [go_sem, sOneK]
    refine ⟨fun hlt => ⟨by omega, by omega, by omega, ⟨(i + 1, nx, nx + 1), by dsimp only; omega⟩, ⟨Nat.le_refl _, ⟨⟨rfl, rfl⟩, by dsimp only; omega⟩, ?_⟩, by dsimp only; omega⟩, fun hge => ?_⟩
    · refine row_app1 (E := eCk) (x := l.getD i eCk.dflt) rfl (take_snocG l eCk.dflt (by omega)) (by simp; omega) rfl (by simp) fun j hj => AVle.refl _
    · obtain rfl : i = l.length := by omega
      rw [List.take_length]
      exact ⟨by simp, vw_all (E := eCk) rfl rfl rfl⟩
end Go.Proofs.Ytpbccamaipekjaa
