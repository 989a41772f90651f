/-
  edit: the way back.
-/
import Derived.Test.YtpbccamaipekjaaEditX
set_option linter.unusedSimpArgs false
set_option linter.unusedVariables false
set_option maxRecDepth 100000
set_option maxHeartbeats 2000000
namespace Go.Proofs.Ytpbccamaipekjaa
open Go
attribute [local irreducible] AW AVle ASle RowLe
theorem backL_two {l : List (Int × List (List UInt8))} {i : Nat} (h : i + 1 < l.length) (h1 : (l.getD i (0, [])).1 = 1) (h2 : (l.getD (i + 1) (0, [])).1 = 2) :
    backL (l.drop i) = [turnS (l.getD (i + 1) (0, [])), turnS (l.getD i (0, []))] ++ backL (l.drop (i + 2)) := by
  rw [List.drop_eq_getElem_cons (show i < l.length by omega), List.drop_eq_getElem_cons h, ← gd_lt l (0, []) (show i < l.length by omega), ← gd_lt l (0, []) h, backL, if_pos ⟨h1, h2⟩]
  rfl
theorem backL_one {l : List (Int × List (List UInt8))} {i : Nat} (h : i < l.length) (h1 : ¬ (i + 1 < l.length ∧ (l.getD i (0, [])).1 = 1 ∧ (l.getD (i + 1) (0, [])).1 = 2)) :
    backL (l.drop i) = [turnS (l.getD i (0, []))] ++ backL (l.drop (i + 1)) := by
  rw [List.drop_eq_getElem_cons h, ← gd_lt l (0, []) h]
  by_cases h2 : i + 1 < l.length
  · rw [List.drop_eq_getElem_cons h2, ← gd_lt l (0, []) h2, backL, if_neg (fun hh => h1 ⟨h2, hh⟩)]
    rfl
  · rw [List.drop_eq_nil_of_le (by omega)]
    rfl
theorem vwO_sp (s : Int × List (List UInt8)) : vwO (.ag 2 ((eP eI (eL eS)).enc s)) = false := rfl
theorem dec_st (hp : Nat → Row) (s : Int × List (List UInt8)) : (kA (eP eI (eL eS))).dec (.ag 2 fun j => if j < 2 then vw0 hp ((eP eI (eL eS)).enc s j) else .any) = s := by
  show (s.1, gL eS (sL eS s.2)) = s
  rw [gL_sL]
theorem ok_st (hp : Nat → Row) (s : Int × List (List UInt8)) : (kA (eP eI (eL eS))).ok (.ag 2 fun j => if j < 2 then vw0 hp ((eP eI (eL eS)).enc s j) else .any) = True := by
  refine eq_true ?_
  unfold Kd.ok
  rw [dec_st]
  refine AVle.ag fun j hj => ?_
  match j, hj with
  | 0, _ => exact AVle.refl _
  | 1, _ => exact AVle.refl _
def sBackE : Spec := Spec.f1 (kL (eP eI (eL eS))) (fun l => l.length < 10000 ∧ (∀ s ∈ l, s.2.length ≤ 10000)) (fun l => sL (eP eI (eL eS)) (backL l))
theorem okBackE : SpecOK Try.prog 14 sBackE := by
  refine SpecOK.f1 Try.func14 rfl (by decide) Try.results14 Try.ntmps14 (by decide) fun l ⟨hl, hs⟩ => ?_
  have hΓ : GOK Try.prog (gam [(44, sTurnedE)]) := (.cons okTurnedE .nil)
  refine AW.of hΓ mixed [] _ _ _ rfl ?_
  simp only [go_sem, sTurnedE]
  refine AW.adopt 3 91 2 (fun i => (eP eI (eL eS)).enc (([] : List (Int × List (List UInt8))).getD i (0, []))) rfl ?_
  refine AW.round (α := { x : Nat × List (Int × List (List UInt8)) × Nat × Nat // x.1 ≤ l.length ∧ x.2.1.length ≤ x.1 ∧ backL l = x.2.1 ++ backL (l.drop x.1) })
    (fun x => ⟨[(0, sL (eP eI (eL eS)) l), (3, .ow 0 x.1.2.2.1 x.1.2.1.length), (4, .val (.int .i64 x.1.1))], [(0, rowL x.1.2.2.1 91 (eP eI (eL eS)) x.1.2.1)], 58, 1, x.1.2.2.2, []⟩) (fun x => l.length - x.1.1) ⟨(0, [], 0, 1), Nat.zero_le _, Nat.le_refl _, rfl⟩ ?_ ?_
  · simp only [go_sem, sTurnedE, st_sz]
    exact RowLe.refl _
  · rintro ⟨⟨i, d, v, nx⟩, hi, hdl, hb⟩
    simp only at hi hdl hb
    have hg : ∀ k, k < l.length → (l.getD k (0, [])).2.length ≤ 10000 := fun k h => by
      rw [gd_lt l _ h]
      exact hs _ (List.getElem_mem _)
    refine AW.of hΓ mixed [99999] _ _ _ rfl ?_
    simp only [go_sem, sTurnedE, st_sz, sp0, sp1, st_d, kA_st, vwO_sp, dec_st, ok_st]
    refine ⟨fun hlt => ⟨by omega, fun _ => by omega, fun _ => by omega, fun _ => by omega, fun h => ?_, fun h => ?_⟩, fun hge => ?_⟩
    · obtain ⟨⟨h1, h2⟩, h3⟩ := h
      have e := backL_two (l := l) (i := i) (by omega) h2 h3
      have g1 := hg i (by omega)
      have g2 := hg (i + 1) (by omega)
      refine ⟨by omega, by omega, g2, by omega, g1, by omega, by omega, by omega,
        ⟨(i + 2, d ++ [turnS (l.getD (i + 1) (0, [])), turnS (l.getD i (0, []))], nx, nx + 1), by dsimp only; omega, by simp; omega, by dsimp only; rw [hb, e, List.append_assoc]⟩, ⟨Nat.le_refl _, ⟨⟨rfl, by simp⟩, by dsimp only; omega⟩, ?_⟩, by dsimp only; omega⟩
      refine row_app (E := eP eI (eL eS)) rfl rfl rfl rfl (by simp) fun i' hi' j hj => ?_
      match i', hi' with
      | 0, _ => exact AVle.refl _
      | 1, _ => exact AVle.refl _
    · have e := backL_one (l := l) (i := i) (by omega) (fun hh => h ⟨by omega, hh.2.1⟩ hh.2.2)
      have g1 := hg i (by omega)
      refine ⟨by omega, g1, by omega, by omega,
        ⟨(i + 1, d ++ [turnS (l.getD i (0, []))], nx, nx + 1), by dsimp only; omega, by simp; omega, by dsimp only; rw [hb, e, List.append_assoc]⟩, ⟨Nat.le_refl _, ⟨⟨rfl, by simp⟩, by dsimp only; omega⟩, ?_⟩, by dsimp only; omega⟩
      refine row_app (E := eP eI (eL eS)) rfl rfl rfl rfl (by simp) fun i' hi' j hj => ?_
      match i', hi' with
      | 0, _ => exact AVle.refl _
    · obtain rfl : i = l.length := by omega
      rw [List.drop_length] at hb
      have e : backL l = d := by rw [hb]; exact List.append_nil _
      rw [e]
      exact AVle.refl _
end Go.Proofs.Ytpbccamaipekjaa
