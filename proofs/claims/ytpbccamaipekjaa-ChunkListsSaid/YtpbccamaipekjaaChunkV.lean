/-
  chunk: a chunk that takes a place in.
-/
import Derived.Test.YtpbccamaipekjaaChunkY
import Derived.Test.YtpbccamaipekjaaAxr
set_option linter.unusedSimpArgs false
set_option linter.unusedVariables false
set_option maxRecDepth 100000
set_option maxHeartbeats 2000000
namespace Go.Proofs.Ytpbccamaipekjaa
open Go
attribute [local irreducible] AW AVle ASle RowLe
/-- The chunks up to behind a place. -/
def stretchF (l : List Ck) (p : Pl) : List Ck :=
  match l.getLast? with
  | some c => if c.1 = true then l.dropLast ++ [(true, (c.2.1.1, p.1 + 1), (c.2.2.1.1, p.2.1 + 1), (c.2.2.2.1, p.2.2 + 1))] else l ++ [(true, (p.1, p.1 + 1), (p.2.1, p.2.1 + 1), (p.2.2, p.2.2 + 1))]
  | none => l ++ [(true, (p.1, p.1 + 1), (p.2.1, p.2.1 + 1), (p.2.2, p.2.2 + 1))]
theorem stretch_snoc (m : List Ck) (c : Ck) (p : Pl) : stretchF (m ++ [c]) p = if c.1 = true then m ++ [(true, (c.2.1.1, p.1 + 1), (c.2.2.1.1, p.2.1 + 1), (c.2.2.2.1, p.2.2 + 1))] else m ++ [c] ++ [(true, (p.1, p.1 + 1), (p.2.1, p.2.1 + 1), (p.2.2, p.2.2 + 1))] := by
  simp [stretchF]
theorem stretch_nil (p : Pl) : stretchF [] p = [(true, (p.1, p.1 + 1), (p.2.1, p.2.1 + 1), (p.2.2, p.2.2 + 1))] := rfl
theorem snocD {α : Type} (m : List α) (c d : α) : (m ++ [c]).getD m.length d = c := by simp [List.getD]
def sStretch0 : MSpec := fun args hp top nx K => ∃ (l : List Ck) (v : Nat) (p : Pl), args = [.ow 0 v l.length, (kA ePl).enc p] ∧ hp = rws [(0, rowL v 62 eCk l)] ∧ top = 1 ∧ l.length < 100000000 ∧ okPl p ∧
  ∀ v' nx', (v' = v ∨ nx ≤ v') → nx ≤ nx' → K (.ow 0 v' (stretchF l p).length) (rws [(0, rowL v' 62 eCk (stretchF l p))]) 1 nx'
theorem okStretch0 : MethOK Try.prog 49 sStretch0 := by
  refine MethOK.mk Try.func49 rfl (by decide) Try.results49 Try.ntmps49 ?_
  rintro args hp top nx K ⟨l, v, p, rfl, rfl, rfl, hl, hp, hK⟩
  have hΓ : GOK Try.prog (gam [(50, sNextP), (48, sBetween)]) := (.cons okNextP (.cons okBetween .nil))
  refine ⟨Nat.le_of_ble_eq_true rfl, AW.late ?_⟩
  have hp' := hp
  obtain ⟨p1, p2, p3⟩ := p
  obtain ⟨q1, q2, q3⟩ := hp'
  simp only at q1 q2 q3
  have hn : nextP (p1, p2, p3) = (p1 + 1, p2 + 1, p3 + 1) := rfl
  have hb : btw (p1, p2, p3) (p1 + 1, p2 + 1, p3 + 1) = (false, (p1, p1 + 1), (p2, p2 + 1), (p3, p3 + 1)) := rfl
  rcases l.eq_nil_or_concat with rfl | ⟨m, c, hms⟩
  · refine AW.of hΓ mixed [200005, 99999] _ _ _ rfl ?_
    simp only [go_sem, sNextP, sBetween, hn, hb]
    refine ⟨hp, _, toFitsV (fun p => p) (l := [(4, .ow 0 (nx + 1 + 1 + 1) 1)]) (r := [(0, rowL (nx + 1 + 1 + 1) 62 eCk (stretchF [] (p1, p2, p3)))]) (sz := 53) (top := 1) (nx := nx + 1 + 1 + 1 + 1) (df := []) ?_, ?_⟩
    · simp only [go_sem, sNextP, sBetween]
      rw [stretch_nil]
      refine row_app1 (E := eCk) (l := []) rfl rfl rfl rfl rfl fun j hj => ?_
      match j, hj with
      | 0, _ => exact AVle.refl _
      | 1, _ => exact AVle.refl _
      | 2, _ => exact AVle.refl _
      | 3, _ => exact AVle.refl _
      | 4, _ => exact AVle.refl _
      | 5, _ => exact AVle.refl _
      | 6, _ => exact AVle.refl _
    · simp only [go_sem, sNextP, sBetween]
      exact hK (nx + 1 + 1 + 1) (nx + 1 + 1 + 1 + 1) (.inr (by omega)) (by omega)
  · rw [List.concat_eq_append] at hms
    subst hms
    have e1 : (((m.length + 1 : Nat) : Int) - 1) = (m.length : Int) := by omega
    have e2 : (0 ≤ (m.length : Int)) = True := eq_true (by omega)
    have hlm : m.length + 1 < 100000000 := by simpa using hl
    obtain ⟨s, ⟨b1, b2⟩, ⟨l1, l2⟩, r1, r2⟩ := c
    cases s with
    | true =>
      refine AW.of hΓ mixed [200005, 99999] _ _ _ rfl ?_
      simp only [go_sem, sNextP, sBetween, hn, hb, snocD, e1, e2]
      refine ⟨hp, by omega, by omega, by omega, by omega, ?_⟩
      refine AW.still 5 2 (nx + 1) 97 3 _ rfl rfl (fun j hj => match j, hj with | 0, _ => rfl | 1, _ => rfl | 2, _ => rfl) ?_
      refine AW.drawZ hΓ mixed 12 [13, 14, 15, 17, 18, 19] [3, 4, 5, 6, 7, 8, 13, 14, 15, 17, 18, 19] [] (by decide +kernel) ?_
      simp only [go_sem, sNextP, sBetween, hn, hb, snocD, e1, e2]
      refine ⟨by omega, by omega, by omega, _, toFitsV (fun p => p) (l := [(4, .ow 0 v (m.length + 1))]) (r := [(0, rowL v 62 eCk (stretchF (m ++ [(true, (b1, b2), (l1, l2), r1, r2)]) (p1, p2, p3)))]) (sz := 53) (top := 1) (nx := nx + 1 + 1) (df := []) ?_, ?_⟩
      · simp only [go_sem, sNextP, sBetween]
        rw [stretch_snoc, if_pos rfl]
        refine RowLe.sl (by simp) fun i hi j hj => ?_
        simp only [stE]
        by_cases e : i = m.length
        · subst e
          rw [snocD, snocD]
          match j, hj with
          | 0, _ => simp; exact AVle.refl _
          | 1, _ => simp; exact AVle.refl _
          | 2, _ => simp; exact AVle.refl _
          | 3, _ => simp; exact AVle.refl _
          | 4, _ => simp; exact AVle.refl _
          | 5, _ => simp; exact AVle.refl _
          | 6, _ => simp; exact AVle.refl _
        · rw [if_neg (fun h => e h.1), if_neg (fun h => e h.1), if_neg (fun h => e h.1)]
          have e3 : ∀ c : Ck, (m ++ [c]).getD i eCk.dflt = m.getD i eCk.dflt := fun c => by simp [List.getD, List.getElem?_append_left (show i < m.length by omega)]
          rw [e3, e3]
          exact AVle.refl _
      · simp only [go_sem, sNextP, sBetween]
        have := hK v (nx + 1 + 1) (.inl rfl) (by omega)
        rwa [show (stretchF (m ++ [(true, (b1, b2), (l1, l2), r1, r2)]) (p1, p2, p3)).length = m.length + 1 by rw [stretch_snoc, if_pos rfl]; simp] at this
    | false =>
      refine AW.of hΓ mixed [200005, 99999] _ _ _ rfl ?_
      simp only [go_sem, sNextP, sBetween, hn, hb, snocD, e1, e2]
      refine ⟨hp, by omega, by omega, by omega, by omega, _, toFitsV (fun p => p) (l := [(4, .ow 0 (nx + 1 + 1 + 1) (m.length + 1 + 1))]) (r := [(0, rowL (nx + 1 + 1 + 1) 62 eCk (stretchF (m ++ [(false, (b1, b2), (l1, l2), r1, r2)]) (p1, p2, p3)))]) (sz := 53) (top := 1) (nx := nx + 1 + 1 + 1 + 1) (df := []) ?_, ?_⟩
      · simp only [go_sem, sNextP, sBetween]
        rw [stretch_snoc, if_neg (fun h => by cases h)]
        refine row_app1 (E := eCk) rfl rfl (by simp) rfl (by simp) fun j hj => ?_
        match j, hj with
        | 0, _ => exact AVle.refl _
        | 1, _ => exact AVle.refl _
        | 2, _ => exact AVle.refl _
        | 3, _ => exact AVle.refl _
        | 4, _ => exact AVle.refl _
        | 5, _ => exact AVle.refl _
        | 6, _ => exact AVle.refl _
      · simp only [go_sem, sNextP, sBetween]
        have := hK (nx + 1 + 1 + 1) (nx + 1 + 1 + 1 + 1) (.inr (by omega)) (by omega)
        rwa [show (stretchF (m ++ [(false, (b1, b2), (l1, l2), r1, r2)]) (p1, p2, p3)).length = m.length + 1 + 1 by rw [stretch_snoc, if_neg (fun h => by cases h)]; simp] at this
end Go.Proofs.Ytpbccamaipekjaa
