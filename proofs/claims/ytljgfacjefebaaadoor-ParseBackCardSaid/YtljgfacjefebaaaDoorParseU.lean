/-
  parse.Text; what is told; the law.
-/
import Derived.Test.YtljgfacjefebaaaDoorParseT
set_option linter.unusedSimpArgs false
set_option linter.unusedVariables false
set_option maxRecDepth 100000
set_option maxHeartbeats 2000000
namespace Go.Proofs.YtljgfacjefebaaaDoor
open Go
attribute [local irreducible] AW AVle ASle RowLe
theorem read_em (w : Int) : readM [] w = (mk0, false, if wideM w = false then 4 else 0) := by
  unfold readM
  by_cases h : wideM w = false
  · rw [if_pos h, if_pos h]
  · rw [if_neg h, if_neg h, if_pos]
    have h2 := (wide_iff.1 (by simpa using h)).1
    show ((0 : Nat) : Int) < w
    omega
def sTextP : Spec := Spec.f2 kS kI (fun s _ => s.length ≤ 10000000) (fun s w => tu3 (sL ePt (textR s w).1) (kI.enc (textR s w).2.1) (kI.enc (textR s w).2.2))
theorem okTextP : SpecOK Tryd.prog 32 sTextP := by
  refine SpecOK.f2 Tryd.func32 rfl (by decide) Tryd.results32 Tryd.ntmps32 (by decide) fun s w hs => ?_
  have hΓ : GOK Tryd.prog (gam [(25, sReadM), (61, sSplit), (62, sTake), (63, sPutT), (13, sOfD)]) := (.cons okReadM (.cons okSplit (.cons okTake (.cons okPutT (.cons okOfD .nil)))))
  have hem := read_em w
  unfold textR
  by_cases hw : wideM w = false
  · rw [if_pos hw] at hem ⊢
    refine AW.of hΓ mixed [] _ _ _ rfl ?_
    simp only [go_sem, sReadM, sSplit, sTake, sPutT, sOfD, hem]
    exact em_sL ePt
  rw [if_neg hw] at hem ⊢
  have hw' : wideM w = true := by simpa using hw
  refine AW.of hΓ mixed [4] _ _ _ rfl ?_
  simp only [go_sem, sReadM, sSplit, sTake, sPutT, sOfD, hem]
  refine AW.cut ⟨[(0, .st s), (1, .val (.int .i64 w)), (10, .pt 1 1 0)], [(1, .box 1 96 14 fun j => if j = 13 then .em else rdC (s, 0, 0, 0, ePt.dflt, []) 2 2 j)], 70, 2, 2, []⟩ ?_ ?_
  · simp only [go_sem, sReadM, sSplit, sTake, sPutT, sOfD]
    refine RowLe.box fun j hj => AVle.of_eq ?_
    match j, hj with
    | 0, _ => rfl
    | 1, _ => rfl
    | 2, _ => rfl
    | 3, _ => rfl
    | 4, _ => rfl
    | 5, _ => rfl
    | 6, _ => rfl
    | 7, _ => rfl
    | 8, _ => rfl
    | 9, _ => rfl
    | 10, _ => rfl
    | 11, _ => rfl
    | 12, _ => rfl
    | 13, _ => rfl
  refine AW.adoptB (q := 1) 13 66 9 (fun i => ePt.enc (([] : List Pt).getD i ePt.dflt)) rfl rfl ?_
  refine AW.cut ⟨[(0, .st s), (1, .val (.int .i64 w)), (10, .pt 1 1 0)], [(1, .box 1 96 14 (rdC (s, 0, 0, 0, ePt.dflt, []) 2 2)), (2, rowL 2 66 ePt [])], 70, 3, 3, []⟩ ?_ ?_
  · simp only [go_sem, sReadM, sSplit, sTake, sPutT, sOfD]
    exact ⟨rd_row rfl rfl rfl rfl rfl rfl rfl rfl rfl rfl rfl rfl rfl rfl, RowLe.refl _⟩
  refine AW.of hΓ mixed [18] _ _ _ rfl ?_
  simp only [go_sem, sReadM, sSplit, sTake, sPutT, sOfD]
  have hsp := okLs_split (s := s) (by omega)
  have hsl := splitL_len s
  have hI0 : InvT s w 0 0 0 0 ePt.dflt [] := ⟨Nat.zero_le _, rfl, Nat.zero_le _, Nat.le_refl _, rfl, Nat.zero_le _, Nat.zero_le _, rfl⟩
  generalize hT : runR w (splitL s) 0 [] ePt.dflt [] 0 = T at *
  refine ⟨by omega, ?_⟩
  refine AW.round (α := { x : Nat × Nat × Nat × Int × Pt × List Pt × Nat × Nat // InvT s w x.1 x.2.1 x.2.2.1 x.2.2.2.1 x.2.2.2.2.1 x.2.2.2.2.2.1 })
    (fun x => ⟨[(1, .val (.int .i64 w)), (10, .pt 1 1 0), (11, sL eS (splitL s)), (30, sL eS (splitL s)), (31, .val (.int .i64 (splitL s).length)), (32, .val (.int .i64 x.1.1))],
      [(1, .box 1 96 14 (rdC (s, x.1.2.1, x.1.2.2.1, x.1.2.2.2.1, x.1.2.2.2.2.1, x.1.2.2.2.2.2.1) 2 x.1.2.2.2.2.2.2.1)), (2, rowL x.1.2.2.2.2.2.2.1 66 ePt x.1.2.2.2.2.2.1)], 70, 3, x.1.2.2.2.2.2.2.2, []⟩) (fun x => (splitL s).length - x.1.1) ⟨(0, 0, 0, 0, ePt.dflt, [], 2, 3), hI0⟩ ?_ ?_
  · simp only [go_sem, sReadM, sSplit, sTake, sPutT, sOfD]
    exact ⟨RowLe.refl _, RowLe.refl _⟩
  · rintro ⟨⟨i, fr, at_, af, c, ps, u, nx⟩, hI⟩
    simp only at hI
    refine AW.of hΓ mixed [9, 99999] _ _ _ rfl ?_
    simp only [go_sem, sReadM, sSplit, sTake, sPutT, sOfD]
    refine ⟨fun hlt => ?_, fun hge => ?_⟩
    · have hi : i < (splitL s).length := by omega
      have hll : ((splitL s).getD i []).length ≤ 10000000 := by
        rw [gd_lt _ _ hi]
        have := split_mem (List.getElem_mem hi)
        omega
      have t1 := inv_text hI hi
      have t2 := inv_mark hI hi
      have t3 := err_text hI hi
      have t4 := err_mark hI hi
      rw [hT] at t3 t4
      generalize hle : (splitL s).getD i [] = l at *
      have hpl := take_now hI.2.1 hI.2.2.1 hi
      rw [hle] at hpl
      have hI' := hI
      obtain ⟨_, _, i3, i4, i5, i6, i7, _⟩ := hI'
      refine ⟨by omega, by omega, ?_⟩
      refine AW.cut ⟨[(1, .val (.int .i64 w)), (10, .pt 1 1 0), (11, sL eS (splitL s)), (12, .val (.int .i64 i)), (13, .st l), (14, .pt 3 nx 0), (15, .val (.bool (readM l w).2.1)), (16, .val (.int .i64 (readM l w).2.2)), (30, sL eS (splitL s)), (31, .val (.int .i64 (splitL s).length)), (32, .val (.int .i64 i))],
        [(1, .box 1 96 14 (rdC (s, fr, at_, af, c, ps) 2 u)), (2, rowL u 66 ePt ps), (3, .box nx 42 3 (eMk.enc (readM l w).1))], 70, 4, nx + 1, []⟩ ?_ ?_
      · simp only [go_sem, sReadM, sSplit, sTake, sPutT, sOfD]
        exact ⟨RowLe.refl _, RowLe.refl _, RowLe.box fun j hj => AVle.of_eq (stC_in (Nat.zero_le _) (by omega))⟩
      refine AW.still 14 3 nx 42 3 _ rfl rfl (fun j hj => match j, hj with | 0, _ => rfl | 1, _ => rfl | 2, _ => rfl) ?_
      cases hm : (readM l w).2.1 with
      | false =>
        refine AW.fork ?_
        refine AW.of hΓ mixed [99999] _ _ _ rfl ?_
        simp only [go_sem, sReadM, sSplit, sTake, sPutT, sOfD]
        refine AW.of hΓ mixed [99999] _ _ _ rfl ?_
        simp only [go_sem, sReadM, sSplit, sTake, sPutT, sOfD]
        refine ⟨fun h => ?_, fun h => ⟨by omega, by omega, ⟨(i + 1, fr, at_ + l.length, af, c, ps, u, nx + 1), t1 hm (Decidable.not_not.1 h)⟩, ⟨Nat.le_refl _, by dsimp only; omega, rd_row rfl rfl rfl rfl rfl rfl rfl rfl rfl rfl rfl rfl rfl rfl, RowLe.refl _⟩, by dsimp only; omega⟩⟩
        rw [t3 hm h]
        exact ⟨by omega, em_sL ePt, rfl, rfl⟩
      | true =>
        have hsg : signI (readM l w).1.1 := by
          have he : readM l w = ((readM l w).1, true, (readM l w).2.2) := by rw [← hm]
          exact may_sign (line_read he).2.1
        refine AW.fork ?_
        refine AW.of hΓ mixed [99999] _ _ _ rfl ?_
        simp only [go_sem, sReadM, sSplit, sTake, sPutT, sOfD]
        refine rd_go (a := (s, fr, at_, af, c, ps)) ⟨(readM l w).1, l, rfl, rfl, ⟨i4, i3, by dsimp only; omega, by dsimp only; omega⟩, hsg, by omega, rfl⟩ (by decide) (RowLe.refl _) (RowLe.refl _) (by decide) fun u1 n1 q1 h1 => ?_
        have t2 := t2 hm
        have t4 := t4 hm
        dsimp only at t2 t4 ⊢
        have htb : (takeR af (nowR (s, fr, at_, af, c, ps)) c ps (readM l w).1).1 = 0 → takeB (s, fr, at_, af, c, ps) (readM l w).1 l = (s, at_ + l.length, at_, (takeR af (nowR (s, fr, at_, af, c, ps)) c ps (readM l w).1).2.1, (takeR af (nowR (s, fr, at_, af, c, ps)) c ps (readM l w).1).2.2.1, (takeR af (nowR (s, fr, at_, af, c, ps)) c ps (readM l w).1).2.2.2) := fun h => if_pos h
        generalize takeR af (nowR (s, fr, at_, af, c, ps)) c ps (readM l w).1 = t at *
        simp only [go_sem, sReadM, sSplit, sTake, sPutT, sOfD]
        by_cases he : t.1 = 0
        · rw [htb he]
          have he2 : (decide ¬ t.1 = 0) = false := by simp [he]
          refine AW.of hΓ mixed [99999] _ _ _ rfl ?_
          simp only [go_sem, sReadM, sSplit, sTake, sPutT, sOfD, he]
          exact ⟨by omega, by omega, ⟨(i + 1, at_ + l.length, at_ + l.length, t.2.1, t.2.2.1, t.2.2.2, u1, n1), t2 he⟩, ⟨Nat.le_refl _, by dsimp only; omega, rd_row rfl rfl rfl rfl rfl rfl rfl rfl rfl rfl rfl rfl rfl rfl, RowLe.refl _⟩, by dsimp only; omega⟩
        · have he2 : (decide ¬ t.1 = 0) = true := by simp [he]
          refine AW.of hΓ mixed [99999] _ _ _ rfl ?_
          simp only [go_sem, sReadM, sSplit, sTake, sPutT, sOfD, he]
          rw [t4 he]
          exact ⟨by omega, em_sL ePt, rfl, rfl⟩
    · obtain ⟨i1, _, i3, i4, i5, i6, i7, i8⟩ := hI
      obtain rfl : i = (splitL s).length := by omega
      rw [List.drop_length, runR, hT] at i8
      refine ⟨fun h => ?_, fun h => ?_⟩
      · rw [if_pos h] at i8
        rw [i8]
        exact ⟨by omega, em_sL ePt, rfl, rfl⟩
      · rw [if_neg h] at i8
        have hnl : (nowR (s, fr, at_, af, c, ps)).length = at_ - fr := by
          unfold nowR
          simp only [List.length_drop, List.length_take]
          omega
        refine rd_go (a := (s, fr, at_, af, c, ps)) ⟨rfl, rfl, ⟨i4, i3, by dsimp only; omega, by dsimp only; omega⟩, rfl⟩ (by decide) (RowLe.refl _) (RowLe.refl _) (by decide) fun u1 n1 q1 h1 => ?_
        have hsm : sumT (ps ++ [textP (nowR (s, fr, at_, af, c, ps))]) ≤ at_ := by
          rw [sumT_app, sumT_one]
          show sumT ps + (nowR (s, fr, at_, af, c, ps)).length ≤ at_
          omega
        dsimp only
        generalize nowR (s, fr, at_, af, c, ps) = now at *
        simp only [go_sem, sReadM, sSplit, sTake, sPutT, sOfD]
        refine AW.freeze 2 u1 66 9 (ps ++ [textP now]).length (fun i => ePt.enc ((ps ++ [textP now]).getD i ePt.dflt)) rfl (fun i _ j hj => match j, hj with | 0, _ => rfl | 1, _ => rfl | 2, _ => rfl | 3, _ => rfl | 4, _ => rfl | 5, _ => rfl | 6, _ => rfl | 7, _ => rfl | 8, _ => rfl) ?_
        refine AW.cut ⟨[(10, .pt 1 1 0)], [(1, .box 1 96 14 (fun j => if j = 13 then sL ePt (ps ++ [textP now]) else .any))], 70, 2, n1, []⟩ ?_ ?_
        · simp only [go_sem, sReadM, sSplit, sTake, sPutT, sOfD]
          refine RowLe.box fun j hj => ?_
          by_cases e : j = 13
          · subst e
            rw [if_pos rfl]
            have : fz 2 u1 (ps.length + 1) 9 (fun i => ePt.enc ((ps ++ [textP now]).getD i ePt.dflt)) (rdC (withPs (s, fr, at_, af, c, ps) (ps ++ [textP now])) 2 u1 13) = sL ePt (ps ++ [textP now]) := if_pos ⟨rfl, rfl, by simp [withPs]⟩
            rw [this]
            exact AVle.refl _
          · rw [if_neg e]
            exact AVle.any _
        refine AW.of hΓ mixed [] _ _ _ rfl ?_
        simp only [go_sem, sReadM, sSplit, sTake, sPutT, sOfD]
        rw [i8]
        exact ⟨⟨by omega, by omega⟩, AVle.refl _, rfl, rfl⟩
def bestR (s : BS) (least : Int) : Int × Bool := if (longL (splitL s) : Int) < least then (0, false) else if (textR s (longL (splitL s))).2.1 ≠ 0 ∨ conflD (textR s (longL (splitL s))).1 = 0 then (0, false) else ((longL (splitL s) : Int), true)
def sBest : Spec := Spec.f2 kS kI (fun s _ => s.length ≤ 10000000 ∧ (textR s (longL (splitL s))).1.length < 100000000) (fun s n => tu2 (kI.enc (bestR s n).1) (kB.enc (bestR s n).2))
theorem okBest : SpecOK Tryd.prog 60 sBest := by
  refine SpecOK.f2 Tryd.func60 rfl (by decide) Tryd.results60 Tryd.ntmps60 (by decide) fun s n ⟨hs, hc⟩ => ?_
  have hΓ : GOK Tryd.prog (gam [(61, sSplit), (67, sLongest), (32, sTextP), (33, sConflD)]) := (.cons okSplit (.cons okLongest (.cons okTextP (.cons okConflD .nil))))
  unfold bestR
  have hsp := okLs_split (s := s) (by omega)
  have e0 : longL [splitL s].flatten = longL (splitL s) := by simp
  refine AW.of hΓ mixed [] _ _ _ rfl ?_
  simp only [go_sem, sSplit, sLongest, sTextP, sConflD]
  rw [e0]
  generalize longL (splitL s) = m at *
  refine ⟨by omega, hsp, fun h => by rw [if_pos h]; exact ⟨rfl, rfl⟩, fun h => ?_⟩
  rw [if_neg h]
  refine ⟨hs, fun _ => hc, fun h => by rw [decide_eq_false h]; rfl, fun h => ?_, fun h => ?_⟩
  · rw [if_pos (by simpa using h)]
    exact ⟨rfl, rfl⟩
  · rw [if_neg (by simpa using h)]
    exact ⟨rfl, rfl⟩
def sToldP : Spec := Spec.f0 (kB.enc true)
theorem okToldP : SpecOK Tryd.prog 30 sToldP := by
  refine SpecOK.f0 Tryd.func30 rfl (by decide) Tryd.results30 Tryd.ntmps30 ?_
  have hΓ : GOK Tryd.prog (gam [(32, sTextP), (60, sBest)]) := (.cons okTextP (.cons okBest .nil))
  have e1 : textR [60, 60, 60, 60, 60, 60, 60, 10, 97, 10, 61, 61, 61, 61, 61, 61, 61, 10, 62, 62, 62, 62, 62, 62, 62, 10] 7 = ([([], [], [], true, [], [97, 10], [], [], false)], 0, 0) := by decide
  have e2 : textR [60, 60, 60, 60, 60, 60, 60, 10, 97, 10, 62, 62, 62, 62, 62, 62, 62, 10] 7 = ([], 8, 3) := by decide
  have e3 : bestR [60, 60, 60, 60, 60, 60, 60, 10, 97, 10, 61, 61, 61, 61, 61, 61, 61, 10, 62, 62, 62, 62, 62, 62, 62, 10] 3 = (7, true) := by decide
  have e4 : (longL (splitL [60, 60, 60, 60, 60, 60, 60, 10, 97, 10, 61, 61, 61, 61, 61, 61, 61, 10, 62, 62, 62, 62, 62, 62, 62, 10]) : Int) = 7 := by decide
  refine AW.of hΓ mixed [] _ _ _ rfl ?_
  simp only [go_sem, sTextP, sBest, e1, e2, e3, e4]
def sNarrow9 : Spec := Spec.f1 kI (fun _ => True) (fun w => kI.enc (narrW w))
theorem okNarrow9 : SpecOK Tryd.prog 31 sNarrow9 := by
  refine SpecOK.f1 Tryd.func31 rfl (by decide) Tryd.results31 Tryd.ntmps31 (by decide) fun w _ => ?_
  have hΓ : GOK Tryd.prog (gam []) := GOK.nil
  unfold narrW
  refine AW.of hΓ mixed [] _ _ _ rfl ?_
  simp only [go_sem]
  refine ⟨fun h => ?_, fun h => ?_⟩
  · rw [if_pos h]
    refine ⟨?_, rfl⟩
    rw [Int.tmod_eq_emod_of_nonneg (by omega)]
    omega
  · rw [if_neg fun hh => h hh.1 hh.2]
theorem printR_0 {d : List Pt} {w : Int} (h : (printR d w).2 = 0) : wideM w = true ∧ rightD d = true ∧ fitsD d w = true ∧ printR d w = (printL w d, 0) := by
  unfold printR at *
  by_cases h1 : wideM w = false
  · rw [if_pos h1] at h; simp at h
  · by_cases h2 : rightD d = false
    · rw [if_neg h1, if_pos h2] at h; simp at h
    · by_cases h3 : fitsD d w = false
      · rw [if_neg h1, if_neg h2, if_pos h3] at h; simp at h
      · rw [if_neg h1, if_neg h2, if_neg h3]
        exact ⟨by simpa using h1, by simpa using h2, by simpa using h3, rfl⟩
def sParseBack : Spec := Spec.f2 (kL ePt) kI (fun d _ => d.length ≤ 140737488351232 ∧ ∀ p ∈ d, rchP 140737488351232 p) (fun _ _ => kB.enc true)
theorem okParseBack : SpecOK Tryd.prog 9 sParseBack := by
  refine SpecOK.f2 Tryd.func9 rfl (by decide) Tryd.results9 Tryd.ntmps9 (by decide) fun d w ⟨hd1, hd2⟩ => ?_
  have hΓ : GOK Tryd.prog (gam [(10, sFewD), (30, sToldP), (31, sNarrow9), (29, sRefPrint), (32, sTextP), (15, sFromD), (14, sSameD), (33, sConflD)]) := (.cons okFewD (.cons okToldP (.cons okNarrow9 (.cons okRefPrint (.cons okTextP (.cons okFromD (.cons okSameD (.cons okConflD .nil))))))))
  refine AW.of hΓ mixed [] _ _ _ rfl ?_
  simp only [go_sem, sFewD, sToldP, sNarrow9, sRefPrint, sTextP, sFromD, sSameD, sConflD]
  refine ⟨⟨hd1, hd2⟩, fun h => ?_⟩
  have h : fewD d = true := by simpa using h
  have h2 := few_le h
  have h3 := few_ok h
  refine ⟨⟨⟨by omega, fun p hp => (lenP_ok (h3 p hp)).1⟩, fun hw => by have := few_print h hw; omega⟩, fun h0 => ?_⟩
  obtain ⟨hw, hr, hf, hP⟩ := printR_0 (Decidable.not_not.1 h0)
  have hn := narr_wide hw
  have hl := few_print h hw
  have hT := text_back hw hr hf
  obtain ⟨hU1, hU2⟩ := text_wider hw (by omega) hr hf
  rw [hP]
  dsimp only
  rw [hT]
  generalize textR (printL (narrW w) d) (narrW w + 1) = U at *
  refine ⟨by omega, by omega, by omega, ?_⟩
  have hdd : decide (d = d) = true := decide_eq_true rfl
  refine ⟨fun _ => rfl, fun _ => by dsimp only; omega, fun _ => by dsimp only; omega, fun h => by rw [h]; rfl, fun h => ?_, fun _ => ⟨fun h => by rw [decide_eq_false h]; rfl, fun _ => by omega, fun h => by rw [h]; rfl, ?_⟩⟩
  · dsimp only at h
    rw [hdd] at h
    simp at h
  · rw [hU1]
    simp
end Go.Proofs.YtljgfacjefebaaaDoor
