/-
  The document's own way to print a Doc; what is printed is the same.
-/
import Derived.Test.YtljgfacjefebaaaDoorMarkT
set_option linter.unusedSimpArgs false
set_option linter.unusedVariables false
set_option maxRecDepth 100000
set_option maxHeartbeats 2000000
namespace Go.Proofs.YtljgfacjefebaaaDoor
open Go
attribute [local irreducible] AW AVle ASle RowLe
def oneR (p : Pt) : Bool := if hkP p = true then decide (p.2.2.2.2.1 = []) && (p.2.2.2.2.2.2.2.2 || (decide (p.2.2.2.2.2.2.1 = []) && decide (p.2.1 = []))) else isTextD p
def okRef (l : List Pt) (i : Nat) : Bool := (oneR (l.getD i ePt.dflt) && plainD (l.getD i ePt.dflt)) && (hkP (l.getD i ePt.dflt) || !(decide (txP (l.getD i ePt.dflt) = []) || (decide (0 < i) && !hkP (l.getD (i - 1) ePt.dflt)) || (decide (i + 1 < l.length) && !endsL (txP (l.getD i ePt.dflt)))))
theorem okAt_ref (l : List Pt) (i : Nat) : okAt l i = okRef l i := by
  unfold okAt okRef
  generalize l.getD i ePt.dflt = p
  generalize hkP (l.getD (i - 1) ePt.dflt) = q
  obtain ⟨ll, bl, rl, h, t, lf, b, r, hb⟩ := p
  have e0 : (decide (0 < i)) = !(decide (i = 0)) := by
    by_cases c : i = 0
    · simp [c]
    · simp [c]; omega
  rw [e0]
  generalize decide (i = 0) = z
  generalize decide (i + 1 < l.length) = an
  cases h with
  | true =>
    have e1 : aheadD (ll, bl, rl, true, t, lf, b, r, hb) an = false := by
      unfold aheadD
      rw [show isTextD (ll, bl, rl, true, t, lf, b, r, hb) = false by
        cases c : isTextD (ll, bl, rl, true, t, lf, b, r, hb) with
        | false => rfl
        | true => have := (isText_iff ll bl rl true t lf b r hb).1 c; simp at this]
      rfl
    have e2 : oneR (ll, bl, rl, true, t, lf, b, r, hb) = (decide (t = []) && (hb || (decide (b = []) && decide (bl = [])))) := rfl
    have e3 : confD (ll, bl, rl, true, t, lf, b, r, hb) = (decide (t = []) && ((hb || (decide (b = []) && decide (bl = []))) && plainD (ll, bl, rl, true, t, lf, b, r, hb))) := rfl
    rw [e1, e2, e3]
    simp [hkP, Bool.and_assoc]
  | false =>
    have e3 : confD (ll, bl, rl, false, t, lf, b, r, hb) = false := rfl
    have e2 : oneR (ll, bl, rl, false, t, lf, b, r, hb) = isTextD (ll, bl, rl, false, t, lf, b, r, hb) := rfl
    rw [e2, e3]
    unfold aheadD
    simp only [hkP, txP]
    cases c : isTextD (ll, bl, rl, false, t, lf, b, r, hb) with
    | false => simp
    | true =>
      obtain ⟨rfl, rfl, rfl, _⟩ := (isText_iff ll bl rl false t lf b r hb).1 c
      have e4 : plainD ([], [], [], false, t, lf, b, r, hb) = true := rfl
      rw [e4]
      by_cases ht : t = []
      · simp [ht]
      · generalize endsL t = e
        simp only [ht]
        cases z <;> cases q <;> cases an <;> cases e <;> simp [ht]
theorem right_ref (l : List Pt) : rightD l = decide (∀ i, i < l.length → okRef l i = true) := by
  unfold rightD
  simp only [okAt_ref]
def sRefOne : Spec := Spec.f1 (kA ePt) (fun _ => True) (fun p => kB.enc (oneR p))
theorem okRefOne : SpecOK Tryd.prog 77 sRefOne := by
  refine SpecOK.f1 Tryd.func77 rfl (by decide) Tryd.results77 Tryd.ntmps77 (by decide) fun p _ => ?_
  have hΓ : GOK Tryd.prog (gam []) := GOK.nil
  obtain ⟨ll, bl, rl, h, t, lf, b, r, hb⟩ := p
  cases h with
  | true =>
    have e2 : oneR (ll, bl, rl, true, t, lf, b, r, hb) = (decide (t = []) && (hb || (decide (b = []) && decide (bl = [])))) := rfl
    rw [e2]
    refine AW.of hΓ mixed [] _ _ _ rfl ?_
    simp only [go_sem]
    exact ⟨fun ⟨h1, h2⟩ h3 => by rw [decide_eq_true h1, h2, h3]; rfl, fun h1 h2 => by rw [decide_eq_true h1, h2]; rfl⟩
  | false =>
    have e2 : oneR (ll, bl, rl, false, t, lf, b, r, hb) = isTextD (ll, bl, rl, false, t, lf, b, r, hb) := rfl
    rw [e2]
    refine AW.of hΓ mixed [] _ _ _ rfl ?_
    simp only [go_sem]
    rw [Bool.eq_iff_iff, isText_iff]
    simp only [Bool.and_eq_true, decide_eq_true_eq, true_and]
def sRefRight : Spec := Spec.f1 (kL ePt) (fun l => l.length < 100000000 ∧ ∀ p ∈ l, (p.1.length ≤ 100000000 ∧ p.2.1.length ≤ 100000000 ∧ p.2.2.1.length ≤ 100000000) ∧ (txP p).length ≤ 100000000) (fun l => kB.enc (rightD l))
theorem okRefRight : SpecOK Tryd.prog 57 sRefRight := by
  refine SpecOK.f1 Tryd.func57 rfl (by decide) Tryd.results57 Tryd.ntmps57 (by decide) fun l ⟨hl, hp⟩ => ?_
  have hΓ : GOK Tryd.prog (gam [(77, sRefOne), (70, sRefPlain), (78, sRefEnds)]) := (.cons okRefOne (.cons okRefPlain (.cons okRefEnds .nil)))
  rw [right_ref]
  refine AW.of hΓ mixed [] _ _ _ rfl ?_
  simp only [go_sem, sRefOne, sRefPlain, sRefEnds]
  refine AW.round (α := { x : Nat × Nat × Nat // x.1 ≤ l.length ∧ ∀ k, k < x.1 → okRef l k = true })
    (fun x => ⟨[(0, sL ePt l), (3, .val (.int .i64 x.1.1))], [], 57, 0, x.1.2.1, []⟩) (fun x => l.length - x.1.1) ⟨(0, 0, 0), Nat.zero_le _, fun k hk => absurd hk (Nat.not_lt_zero _)⟩ ?_ ?_
  · simp only [go_sem, sRefOne, sRefPlain, sRefEnds]
  · rintro ⟨⟨i, nx, tp⟩, hi, hk⟩
    simp only at hi hk
    refine AW.of hΓ mixed [4, 99999] _ _ _ rfl ?_
    simp only [go_sem, sRefOne, sRefPlain, sRefEnds]
    refine ⟨fun hlt => ⟨by omega, ?_⟩, fun hge => ?_⟩
    · have hlt' : i < l.length := by omega
      have hpi : (((l.getD i ePt.dflt).1.length ≤ 100000000 ∧ (l.getD i ePt.dflt).2.1.length ≤ 100000000 ∧ (l.getD i ePt.dflt).2.2.1.length ≤ 100000000) ∧ (txP (l.getD i ePt.dflt)).length ≤ 100000000) := by
        rw [gd_lt l _ hlt']
        exact hp _ (List.getElem_mem _)
      have hok : okRef l i = ((oneR (l.getD i ePt.dflt) && plainD (l.getD i ePt.dflt)) && (hkP (l.getD i ePt.dflt) || !(decide (txP (l.getD i ePt.dflt) = []) || (decide (0 < i) && !hkP (l.getD (i - 1) ePt.dflt)) || (decide (i + 1 < l.length) && !endsL (txP (l.getD i ePt.dflt)))))) := rfl
      have e1 : ((i : Int) - 1).toNat = i - 1 := by omega
      have e2 : ((i : Int) + 1 < (l.length : Nat)) = (i + 1 < l.length) := propext (by omega)
      have e3 : (0 < (i : Int)) = (0 < i) := propext (by omega)
      generalize hpe : l.getD i ePt.dflt = p at *
      refine AW.cut ⟨[(0, sL ePt l), (3, .val (.int .i64 i)), (4, .pt 0 nx 0)], [(0, .box nx 62 9 (ePt.enc p))], 57, 1, nx + 1, []⟩ ?_ ?_
      · simp only [go_sem, sRefOne, sRefPlain, sRefEnds]
        exact RowLe.box fun j hj => AVle.of_eq (stC_in (Nat.zero_le _) (by omega))
      refine AW.still 4 0 nx 62 9 _ rfl rfl (fun j hj => match j, hj with | 0, _ => rfl | 1, _ => rfl | 2, _ => rfl | 3, _ => rfl | 4, _ => rfl | 5, _ => rfl | 6, _ => rfl | 7, _ => rfl | 8, _ => rfl) ?_
      refine AW.of hΓ mixed [99999] _ _ _ rfl ?_
      simp only [go_sem, sRefOne, sRefPlain, sRefEnds, pt_eta, e1, e2, e3]
      have hp2 := hpi.2
      have hp1 := hpi.1
      have hok : okRef l i = ((oneR p && plainD p) && (p.2.2.2.1 || !(decide (p.2.2.2.2.1 = []) || (decide (0 < i) && !(l.getD (i - 1) ePt.dflt).2.2.2.1) || (decide (i + 1 < l.length) && !endsL p.2.2.2.2.1)))) := hok
      generalize endsL p.2.2.2.2.1 = en at *
      generalize (l.getD (i - 1) ePt.dflt).2.2.2.1 = q at *
      generalize oneR p = o at *
      generalize plainD p = pl at *
      have hp2 : p.2.2.2.2.1.length ≤ 100000000 := hp2
      generalize ht0 : decide (p.2.2.2.2.1 = []) = t0 at *
      generalize p.2.2.2.1 = h at *
      refine ⟨fun _ => hp1, fun g => by rw [g]; rfl, fun g hh => ?_, fun g => ⟨fun _ => by omega, fun g => by omega, fun ⟨g1, g2⟩ g3 => by rw [g1, g2, decide_eq_true g3]; rfl, fun g1 g2 => by rw [g1, ← ht0, decide_eq_false g2]; rfl, fun _ => by omega, fun _ => by omega, fun ⟨g1, g2⟩ g3 => by rw [g1, g2, decide_eq_true g3]; rfl, fun g1 g2 => by rw [g1, g2]; rfl, fun ⟨g1, g2⟩ hh => ?_, fun g2 => ⟨by omega, ⟨(i + 1, nx + 1, 0), by dsimp only; omega, fun k hk' => ?_⟩, ⟨Nat.le_refl _, by dsimp only; omega⟩, by dsimp only; omega⟩⟩⟩
      · have := hh i hlt'
        rw [hok] at this
        cases o <;> cases pl <;> simp_all
      · have := hh i hlt'
        rw [hok, g2] at this
        have g1 : h = false := by simpa using g1
        rw [g1] at this
        simp at this
      · dsimp only at hk'
        rcases Nat.lt_or_ge k i with h' | h'
        · exact hk k h'
        · obtain rfl : k = i := by omega
          rw [hok]
          simp only [Bool.or_eq_false_iff, Bool.not_eq_false'] at g
          rw [g.1, g.2]
          cases h with
          | true => rfl
          | false => rw [g2 rfl]; rfl
    · exact fun k hk' => hk k (by omega)
def sRefFits : Spec := Spec.f2 (kL ePt) kI (fun l _ => l.length < 100000000 ∧ ∀ p ∈ l, ∀ s ∈ fourP p, s.length ≤ 100000000) (fun l w => kB.enc (fitsD l w))
theorem okRefFits : SpecOK Tryd.prog 58 sRefFits := by
  refine SpecOK.f2 Tryd.func58 rfl (by decide) Tryd.results58 Tryd.ntmps58 (by decide) fun l w ⟨hl, hp⟩ => ?_
  have hΓ : GOK Tryd.prog (gam [(19, sRefRunT)]) := (.cons okRefRunT .nil)
  refine AW.of hΓ mixed [] _ _ _ rfl ?_
  simp only [go_sem, sRefRunT]
  refine ⟨fun h => (by unfold fitsD; rw [decide_eq_false (by omega)]; rfl), fun h => ?_⟩
  refine AW.round (α := { x : Nat × Nat × Nat // x.1 ≤ l.length ∧ ∀ k, k < x.1 → (longT (fourP (l.getD k ePt.dflt)) : Int) < w })
    (fun x => ⟨[(0, sL ePt l), (1, .val (.int .i64 w)), (5, .val (.int .i64 x.1.1))], [], 45, 0, x.1.2.1, []⟩) (fun x => l.length - x.1.1) ⟨(0, 0, 0), Nat.zero_le _, fun k hk => absurd hk (Nat.not_lt_zero _)⟩ ?_ ?_
  · simp only [go_sem, sRefRunT]
  · rintro ⟨⟨i, nx, tp⟩, hi, hk⟩
    simp only at hi hk
    refine AW.of hΓ mixed [6, 99999] _ _ _ rfl ?_
    simp only [go_sem, sRefRunT]
    refine ⟨fun hlt => ⟨by omega, ?_⟩, fun hge => ?_⟩
    · have hlt' : i < l.length := by omega
      have hpi : ∀ s ∈ fourP (l.getD i ePt.dflt), s.length ≤ 100000000 := by
        rw [gd_lt l _ hlt']
        exact hp _ (List.getElem_mem _)
      have hm : l.getD i ePt.dflt ∈ l := by
        rw [gd_lt l _ hlt']
        exact List.getElem_mem _
      generalize hpe : l.getD i ePt.dflt = p at *
      refine AW.cut ⟨[(0, sL ePt l), (1, .val (.int .i64 w)), (5, .val (.int .i64 i)), (6, .pt 0 nx 0)], [(0, .box nx 62 9 (ePt.enc p))], 45, 1, nx + 1, []⟩ ?_ ?_
      · simp only [go_sem, sRefRunT]
        exact RowLe.box fun j hj => AVle.of_eq (stC_in (Nat.zero_le _) (by omega))
      refine AW.still 6 0 nx 62 9 _ rfl rfl (fun j hj => match j, hj with | 0, _ => rfl | 1, _ => rfl | 2, _ => rfl | 3, _ => rfl | 4, _ => rfl | 5, _ => rfl | 6, _ => rfl | 7, _ => rfl | 8, _ => rfl) ?_
      refine AW.of hΓ mixed [99999] _ _ _ rfl ?_
      simp only [go_sem, sRefRunT, pt_eta]
      have h1 : p.2.2.2.2.1.length ≤ 100000000 := hpi _ (by simp [fourP])
      have h2 : p.2.2.2.2.2.1.length ≤ 100000000 := hpi _ (by simp [fourP])
      have h3 : p.2.2.2.2.2.2.1.length ≤ 100000000 := hpi _ (by simp [fourP])
      have h4 : p.2.2.2.2.2.2.2.1.length ≤ 100000000 := hpi _ (by simp [fourP])
      have h5 : longT (fourP p) = max (max (max (longL (splitL p.2.2.2.2.1)) (longL (splitL p.2.2.2.2.2.1))) (longL (splitL p.2.2.2.2.2.2.1))) (longL (splitL p.2.2.2.2.2.2.2.1)) := by
        unfold longT fourP
        simp
      generalize longL (splitL p.2.2.2.2.1) = a at *
      generalize longL (splitL p.2.2.2.2.2.1) = b at *
      generalize longL (splitL p.2.2.2.2.2.2.1) = c at *
      generalize longL (splitL p.2.2.2.2.2.2.2.1) = e at *
      refine ⟨h1, fun _ => h2, fun g => by rw [decide_eq_false g]; rfl, fun _ => h3, fun g => by rw [g]; rfl, fun _ => h4, fun g => by rw [g]; rfl, fun g => ?_, fun g => ⟨by omega, ⟨(i + 1, nx + 1, 0), by dsimp only; omega, fun k hk' => ?_⟩, ⟨Nat.le_refl _, by dsimp only; omega⟩, by dsimp only; omega⟩⟩
      · simp only [Bool.or_eq_true, decide_eq_true_eq] at g
        unfold fitsD
        rw [decide_eq_false (p := ∀ p ∈ l, _) (fun hh => by have := hh _ hm; omega), Bool.and_false]
      · simp only [Bool.or_eq_false_iff, decide_eq_false_iff_not] at g
        dsimp only at hk'
        rcases Nat.lt_or_ge k i with h' | h'
        · exact hk k h'
        · obtain rfl : k = i := by omega
          rw [hpe]
          omega
    · unfold fitsD
      rw [decide_eq_true (by omega), decide_eq_true (p := ∀ p ∈ l, _) fun p hp' => ?_]
      · rfl
      · obtain ⟨k, hk', rfl⟩ := List.getElem_of_mem hp'
        have := hk k (by omega)
        rwa [gd_lt l _ hk'] at this
def sRefSide : Spec := Spec.f1 kS (fun s => s.length ≤ 1000000000) (fun s => tu2 (kS.enc (sideM s)) (kB.enc (lackM s)))
theorem okRefSide : SpecOK Tryd.prog 59 sRefSide := by
  refine SpecOK.f1 Tryd.func59 rfl (by decide) Tryd.results59 Tryd.ntmps59 (by decide) fun s hs => ?_
  have hΓ : GOK Tryd.prog (gam [(78, sRefEnds)]) := (.cons okRefEnds .nil)
  refine AW.of hΓ mixed [] _ _ _ rfl ?_
  simp only [go_sem, sRefEnds]
  have hlk : (decide ¬s = [] && !endsL s) = lackM s := rfl
  refine ⟨fun _ => by omega, fun hc => ?_, fun hc => ?_⟩
  · have hk : lackM s = true := by
      rw [← hlk, decide_eq_true hc.1, hc.2]
      rfl
    exact ⟨by omega, (if_pos hk).symm, hk.symm⟩
  · have hk : lackM s = false := by
      rw [← hlk]
      by_cases h0 : s = []
      · rw [decide_eq_false (by simpa using h0), Bool.false_and]
      · rw [hc h0, Bool.and_false]
    exact ⟨(if_neg (by rw [hk]; simp)).symm, hk.symm⟩
theorem conf_text {d : List Pt} {i : Nat} (h : rightD d = true) (hi : i < d.length) (hh : hkP (d.getD i ePt.dflt) = true) : (d.getD i ePt.dflt).2.2.2.2.1 = [] := by
  have h1 := of_decide_eq_true h i hi
  rw [okAt_ref] at h1
  unfold okRef at h1
  simp only [Bool.and_eq_true] at h1
  have h2 := h1.1.1
  unfold oneR at h2
  rw [if_pos hh] at h2
  simp only [Bool.and_eq_true, decide_eq_true_eq] at h2
  exact h2.1
def okPs (p : Pt) : Prop := (p.1.length ≤ 100000000 ∧ p.2.1.length ≤ 100000000 ∧ p.2.2.1.length ≤ 100000000) ∧ (txP p).length ≤ 100000000 ∧ p.2.2.2.2.2.1.length ≤ 100000000 ∧ p.2.2.2.2.2.2.1.length ≤ 100000000 ∧ p.2.2.2.2.2.2.2.1.length ≤ 100000000
def sRefPrint : Spec := Spec.f2 (kL ePt) kI (fun d w => (d.length < 100000000 ∧ ∀ p ∈ d, okPs p) ∧ (wideM w = true → (printL w d).length ≤ 90000000000)) (fun d w => tu2 (kS.enc (printR d w).1) (kI.enc (printR d w).2))
theorem okRefPrint : SpecOK Tryd.prog 29 sRefPrint := by
  refine SpecOK.f2 Tryd.func29 rfl (by decide) Tryd.results29 Tryd.ntmps29 (by decide) fun d w ⟨⟨hd1, hd2⟩, hd3⟩ => ?_
  have hΓ : GOK Tryd.prog (gam [(48, sRefWide), (57, sRefRight), (58, sRefFits), (59, sRefSide), (50, sRefLineI)]) := (.cons okRefWide (.cons okRefRight (.cons okRefFits (.cons okRefSide (.cons okRefLineI .nil)))))
  have hR : ∀ p ∈ d, (p.1.length ≤ 100000000 ∧ p.2.1.length ≤ 100000000 ∧ p.2.2.1.length ≤ 100000000) ∧ (txP p).length ≤ 100000000 := fun p hp => ⟨(hd2 p hp).1, (hd2 p hp).2.1⟩
  have hF : ∀ p ∈ d, ∀ s ∈ fourP p, s.length ≤ 100000000 := fun p hp s hs => by
    obtain ⟨_, h1, h2, h3, h4⟩ := hd2 p hp
    simp only [fourP, List.mem_cons, List.not_mem_nil, or_false] at hs
    rcases hs with rfl | rfl | rfl | rfl
    · exact h1
    · exact h2
    · exact h3
    · exact h4
  unfold printR
  by_cases hw : wideM w = false
  · refine AW.of hΓ mixed [] _ _ _ rfl ?_
    simp only [go_sem, sRefWide, sRefRight, sRefFits, sRefSide, sRefLineI, hw]
  have hw' : wideM w = true := by simpa using hw
  have hw2 := wide_iff.1 hw'
  rw [if_neg hw]
  by_cases hr : rightD d = false
  · refine AW.of hΓ mixed [] _ _ _ rfl ?_
    simp only [go_sem, sRefWide, sRefRight, sRefFits, sRefSide, sRefLineI, hw', hr]
    exact ⟨hd1, hR⟩
  have hr' : rightD d = true := by simpa using hr
  rw [if_neg hr]
  by_cases hf : fitsD d w = false
  · refine AW.of hΓ mixed [] _ _ _ rfl ?_
    simp only [go_sem, sRefWide, sRefRight, sRefFits, sRefSide, sRefLineI, hw', hr', hf]
    exact ⟨⟨hd1, hR⟩, ⟨hd1, hF⟩⟩
  have hf' : fitsD d w = true := by simpa using hf
  rw [if_neg hf]
  refine AW.of hΓ mixed [] _ _ _ rfl ?_
  simp only [go_sem, sRefWide, sRefRight, sRefFits, sRefSide, sRefLineI, hw', hr', hf']
  refine ⟨⟨hd1, hR⟩, ⟨hd1, hF⟩, ?_⟩
  have hd3 := hd3 hw'
  refine AW.round (α := { x : Nat × Nat × Nat // x.1 ≤ d.length })
    (fun x => ⟨[(0, sL ePt d), (1, .val (.int .i64 w)), (6, .st (printL w (d.take x.1.1))), (7, .val (.int .i64 x.1.1))], [], 98, 0, x.1.2.1, []⟩) (fun x => d.length - x.1.1) ⟨(0, 0, 0), Nat.zero_le _⟩ ?_ ?_
  · simp only [go_sem, sRefWide, sRefRight, sRefFits, sRefSide, sRefLineI]
    rfl
  · rintro ⟨⟨i, nx, tp⟩, hi⟩
    simp only at hi
    refine AW.of hΓ mixed [11, 99999] _ _ _ rfl ?_
    simp only [go_sem, sRefWide, sRefRight, sRefFits, sRefSide, sRefLineI]
    refine ⟨fun hlt => ⟨by omega, ?_⟩, fun hge => ?_⟩
    · have hlt' : i < d.length := by omega
      have hpi : okPs (d.getD i ePt.dflt) := by
        rw [gd_lt d _ hlt']
        exact hd2 _ (List.getElem_mem _)
      have hcf := conf_text (i := i) hr' hlt'
      have hsn := printL_snoc w (d.take i) (d.getD i ePt.dflt)
      rw [← take_snoc d ePt.dflt hlt'] at hsn
      have htl := printL_take w d (i + 1)
      rw [hsn, List.length_append] at htl
      generalize hpe : d.getD i ePt.dflt = p at *
      refine AW.cut ⟨[(0, sL ePt d), (1, .val (.int .i64 w)), (6, .st (printL w (d.take i))), (7, .val (.int .i64 i)), (8, .pt 0 nx 0)], [(0, .box nx 62 9 (ePt.enc p))], 98, 1, nx + 1, []⟩ ?_ ?_
      · simp only [go_sem, sRefWide, sRefRight, sRefFits, sRefSide, sRefLineI]
        exact RowLe.box fun j hj => AVle.of_eq (stC_in (Nat.zero_le _) (by omega))
      refine AW.still 8 0 nx 62 9 _ rfl rfl (fun j hj => match j, hj with | 0, _ => rfl | 1, _ => rfl | 2, _ => rfl | 3, _ => rfl | 4, _ => rfl | 5, _ => rfl | 6, _ => rfl | 7, _ => rfl | 8, _ => rfl) ?_
      generalize hte : printL w (d.take i) = t at *
      obtain ⟨ll, bl, rl, h, x, lf, b, r, hb⟩ := p
      obtain ⟨⟨p1, p2, p3⟩, p4, p5, p6, p7⟩ := hpi
      simp only [txP] at p1 p2 p3 p4 p5 p6 p7
      cases h with
      | false =>
        have e : printP w (ll, bl, rl, false, x, lf, b, r, hb) = x := rfl
        rw [e] at hsn htl
        refine AW.of hΓ mixed [99999] _ _ _ rfl ?_
        simp only [go_sem, sRefWide, sRefRight, sRefFits, sRefSide, sRefLineI]
        exact ⟨by omega, by omega, ⟨(i + 1, nx + 1, 0), by dsimp only; omega⟩, ⟨Nat.le_refl _, hsn.symm, by dsimp only; omega⟩, by dsimp only; omega⟩
      | true =>
        have hx : x = [] := hcf rfl
        subst hx
        unfold printP at hsn htl
        rw [if_pos rfl] at hsn htl
        simp only at hsn htl
        cases hb with
        | true =>
          rw [if_pos rfl] at hsn htl
          simp only [List.length_append] at htl
          refine AW.of hΓ mixed [99999] _ _ _ rfl ?_
          simp only [go_sem, sRefWide, sRefRight, sRefFits, sRefSide, sRefLineI]
          refine ⟨by omega, by omega, by omega, by omega, ⟨by omega, by omega⟩, by omega, by omega, ⟨by omega, by omega⟩, by omega, by omega, by omega, by omega, by omega, ⟨by omega, by omega⟩, by omega, by omega, ⟨(i + 1, nx + 1, 0), by dsimp only; omega⟩, ⟨Nat.le_refl _, ?_, by dsimp only; omega⟩, by dsimp only; omega⟩
          dsimp only
          rw [hsn]
          simp only [List.append_nil, List.append_assoc]
        | false =>
          rw [if_neg (by simp)] at hsn htl
          simp only [List.length_append] at htl
          refine AW.of hΓ mixed [99999] _ _ _ rfl ?_
          simp only [go_sem, sRefWide, sRefRight, sRefFits, sRefSide, sRefLineI]
          refine ⟨by omega, by omega, by omega, by omega, ⟨by omega, by omega⟩, by omega, by omega, by omega, by omega, by omega, ⟨by omega, by omega⟩, by omega, by omega, ⟨(i + 1, nx + 1, 0), by dsimp only; omega⟩, ⟨Nat.le_refl _, ?_, by dsimp only; omega⟩, by dsimp only; omega⟩
          dsimp only
          rw [hsn]
          simp only [List.append_nil, List.append_assoc]
    · obtain rfl : i = d.length := by omega
      rw [List.take_length]
theorem printP_len (w : Int) (p : Pt) : (printP w p).length ≤ 4 * w.toNat + lenP p + 15 := by
  obtain ⟨ll, bl, rl, h, x, lf, b, r, hb⟩ := p
  unfold printP lenP
  simp only [hkP, txP]
  have h1 := lineM_len (60, false, ll) w
  have h2 := lineM_len (124, lackM lf, bl) w
  have h3 := lineM_len (61, lackM b, []) w
  have h4 := lineM_len (62, lackM r, rl) w
  have h5 := lineM_len (61, lackM lf, []) w
  have h6 := sideM_len lf
  have h7 := sideM_len b
  have h8 := sideM_len r
  simp only at h1 h2 h3 h4 h5
  simp only [List.length_nil] at h3 h5
  by_cases hh : h = true
  · rw [if_pos hh]
    by_cases hh2 : hb = true
    · rw [if_pos hh2]
      simp only [List.length_append]
      omega
    · rw [if_neg hh2]
      simp only [List.length_append]
      omega
  · rw [if_neg hh]
    omega
theorem printL_len (w : Int) : ∀ (d : List Pt), (printL w d).length ≤ d.length * (4 * w.toNat + 15) + sumP d
  | [] => by simp [printL]
  | p :: d => by
    have h1 := printL_len w d
    have h2 := printP_len w p
    have e : sumP (p :: d) = lenP p + sumP d := by simp [sumP]
    have e2 : printL w (p :: d) = printP w p ++ printL w d := by simp [printL]
    rw [e2, List.length_append, e, List.length_cons, Nat.succ_mul]
    omega
theorem few_ok {d : List Pt} (h : fewD d = true) : ∀ p ∈ d, lenP p ≤ 3000 := fun p hp => Nat.le_trans (sumP_mem hp) (few_le h).2.1
theorem lenP_ok {p : Pt} (h : lenP p ≤ 3000) : okPs p ∧ okPt p := by
  unfold lenP at h
  refine ⟨⟨⟨by omega, by omega, by omega⟩, ?_, by omega, by omega, by omega⟩, ⟨by omega, by omega, by omega⟩, ?_, by omega, by omega, by omega⟩
  · unfold txP; omega
  · unfold txP; omega
theorem few_print {d : List Pt} {w : Int} (h : fewD d = true) (hw : wideM (narrW w) = true) : (printL (narrW w) d).length ≤ 75900 := by
  have h1 := printL_len (narrW w) d
  have h2 := few_le h
  have h3 := narr_wide hw
  have h4 : d.length * (4 * (narrW w).toNat + 15) ≤ 60 * (4 * 300 + 15) := Nat.mul_le_mul h2.1 (by omega)
  omega
def sMarkPrints : Spec := Spec.f2 (kL ePt) kI (fun d _ => d.length ≤ 140737488351232 ∧ ∀ p ∈ d, rchP 140737488351232 p) (fun _ _ => kB.enc true)
theorem okMarkPrints : SpecOK Tryd.prog 7 sMarkPrints := by
  refine SpecOK.f2 Tryd.func7 rfl (by decide) Tryd.results7 Tryd.ntmps7 (by decide) fun d w ⟨hd1, hd2⟩ => ?_
  have hΓ : GOK Tryd.prog (gam [(10, sFewD), (24, sToldM), (20, sNarrow), (12, sToD), (28, sPrintM), (29, sRefPrint), (15, sFromD), (14, sSameD)]) := (.cons okFewD (.cons okToldM (.cons okNarrow (.cons okToD (.cons okPrintM (.cons okRefPrint (.cons okFromD (.cons okSameD .nil))))))))
  refine AW.of hΓ mixed [] _ _ _ rfl ?_
  simp only [go_sem, sFewD, sToldM, sNarrow, sToD, sPrintM, sRefPrint, sFromD, sSameD]
  refine ⟨⟨hd1, hd2⟩, fun h => ?_⟩
  have h : fewD d = true := by simpa using h
  have h2 := few_le h
  have h3 := few_ok h
  exact ⟨by omega, ⟨⟨by omega, fun p hp => (lenP_ok (h3 p hp)).2⟩, fun hw => by have := few_print h hw; omega⟩, ⟨⟨by omega, fun p hp => (lenP_ok (h3 p hp)).1⟩, fun hw => by have := few_print h hw; omega⟩, by omega, by omega⟩
end Go.Proofs.YtljgfacjefebaaaDoor
