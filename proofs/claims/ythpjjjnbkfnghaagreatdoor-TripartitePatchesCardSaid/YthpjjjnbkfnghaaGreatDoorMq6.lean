/-
  Part 6 of what the proof rests on: values that are told, code that is walked, what comes out.
-/
import Derived.Test.YthpjjjnbkfnghaaGreatDoorMq5
import Derived.LaidLaws
import Derived.LaidHandle
import Derived.Handed
import Derived.HandedShaped
import Derived.Lib.LaidTab
import Derived.Lay
import Derived.MakeChecks
set_option linter.unusedSimpArgs false
set_option linter.unusedVariables false
set_option maxRecDepth 100000
set_option maxHeartbeats 2000000
namespace Go.Proofs.YthpjjjnbkfnghaaGreatDoor
open Go
attribute [local irreducible] AW AVle ASle RowLe
def sMatch : Spec := Spec.f2 (kL eI) (kL eI) (fun a b => a.length < 100000000 ∧ b.length < 100000000) (fun a b => sL (eP eI eI) (matchF a b))
theorem okMatch : SpecOK Tryz.prog 30 sMatch := by
  refine SpecOK.f2 Tryz.func30 rfl (by decide) Tryz.results30 Tryz.ntmps30 (by decide) fun a b ⟨ha, hb⟩ => ?_
  have hΓ : GOK Tryz.prog (gam [(83, sShared), (84, sSearch)]) := (.cons okShared (.cons okSearch .nil))
  have hA := plc_len (fun y => b.contains y) 0 a
  have hB := plc_len (fun y => a.contains y) 0 b
  have hsp := (find_spec ((shI a b).length + (shI b a).length + 1) (shI a b) (shI b a) (by omega)).1
  have hm : matchF a b = mapM (shQ a b) (shQ b a) (findG (shI a b) (shI b a)) := rfl
  have lA : (shI a b).length ≤ a.length := List.length_filter_le _ _
  have lB : (shI b a).length ≤ b.length := List.length_filter_le _ _
  have lG := findG_len (shI a b) (shI b a)
  have lG2 := lcsN_le (shI a b) (shI b a)
  refine AW.of hΓ mixed [3, 99999] _ _ _ rfl ?_
  simp only [go_sem, sShared, sSearch]
  refine ⟨⟨ha, hb⟩, ⟨hb, ha⟩, _, _, shI a b, shI b a, rfl, AVle.refl _, AVle.refl _, rfl, by omega, by omega, fun ver hp' nx' h1 h2 h3 h4 => ?_⟩
  have eA : (shQ a b).length = (shI a b).length := hA
  have eB : (shQ b a).length = (shI b a).length := hB
  change isM (shI a b) (shI b a) (findG (shI a b) (shI b a)) at hsp
  generalize hG : findG (shI a b) (shI b a) = G at *
  refine AW.cut ⟨[(6, sL eI (shQ a b)), (8, sL eI (shQ b a)), (9, .ow 3 ver G.length)], [(3, rowL ver 129 (eP eI eI) G)], 50, 4, nx', []⟩ ?_ ?_
  · simp only [go_sem, h1]
    exact RowLe.refl _
  generalize hqa : shQ a b = qa at *
  generalize hqb : shQ b a = qb at *
  refine AW.of hΓ mixed [] _ _ _ rfl ?_
  simp only [go_sem, sShared, sSearch]
  refine AW.round (α := { x : Nat × Nat // x.1 ≤ G.length })
    (fun x => ⟨[(6, sL eI qa), (8, sL eI qb), (9, .ow 3 ver G.length), (27, .ow 3 ver G.length), (28, .val (.int .i64 G.length)), (29, .val (.int .i64 x.1.1))], [(3, rowL ver 129 (eP eI eI) (mapM qa qb (G.take x.1.1) ++ G.drop x.1.1))], 50, 4, x.1.2, []⟩) (fun x => G.length - x.1.1) ⟨(0, nx'), Nat.zero_le _⟩ ?_ ?_
  · simp only [go_sem, sShared, sSearch]
    exact RowLe.of_eq (by simp [mapM])
  · rintro ⟨⟨i, nx⟩, hi⟩
    simp only at hi
    have hmap : (mapM qa qb (G.take i)).length = i := by simp only [mapM, List.length_map, List.length_take]; omega
    refine AW.of hΓ mixed [6, 99999] _ _ _ rfl ?_
    simp only [go_sem, sShared, sSearch, pp_sz]
    refine ⟨fun hlt => ?_, fun hge => ?_⟩
    · have hel : (mapM qa qb (G.take i) ++ G.drop i).getD i (0, 0) = G.getD i (0, 0) := by
        simp only [List.getD]
        rw [List.getElem?_append_right (by omega), List.getElem?_drop, hmap]
        congr 2
        omega
      obtain ⟨u, v, huv⟩ : ∃ u v, G.getD i (0, 0) = (u, v) := ⟨_, _, rfl⟩
      have hin := hsp.2 (G.getD i (0, 0)) (by rw [gd_lt _ _ (by omega)]; exact List.getElem_mem _)
      rw [huv] at hin
      unfold inM at hin
      simp only at hin
      refine ⟨by omega, by omega, ?_⟩
      refine AW.cut ⟨[(6, sL eI qa), (8, sL eI qb), (9, .ow 3 ver G.length), (10, .val (.int .i64 i)), (11, .pt 4 nx 0), (27, .ow 3 ver G.length), (28, .val (.int .i64 G.length)), (29, .val (.int .i64 i))],
        [(3, rowL ver 129 (eP eI eI) (mapM qa qb (G.take i) ++ G.drop i)), (4, .box nx 129 2 fun j => if j = 0 then .val (.int .i64 u) else .val (.int .i64 v))], 50, 5, nx + 1, []⟩ ?_ ?_
      · simp only [go_sem]
        refine ⟨RowLe.refl _, RowLe.box fun j hj => AVle.of_eq ?_⟩
        match j, hj with
        | 0, _ => show (eP eI eI).enc ((mapM qa qb (G.take i) ++ G.drop i).getD i (0, 0)) 0 = _; rw [hel, huv]; rfl
        | 1, _ => show (eP eI eI).enc ((mapM qa qb (G.take i) ++ G.drop i).getD i (0, 0)) 1 = _; rw [hel, huv]; rfl
      · refine AW.of hΓ mixed [] _ _ _ rfl ?_
        simp only [go_sem, sShared, sSearch, pp_sz]
        have hset : mapM qa qb (G.take (i + 1)) ++ G.drop (i + 1) = (mapM qa qb (G.take i) ++ G.drop i).set i (qa.getD u.toNat 0, qb.getD v.toNat 0) := by
          have hi' : i < G.length := by omega
          have hgi : G[i] = (u, v) := by rw [← huv, gd_lt _ _ hi']
          rw [List.set_append_right _ _ (by omega), hmap, Nat.sub_self, List.drop_eq_getElem_cons hi', List.set_cons_zero, List.take_succ_eq_append_getElem hi', hgi]
          simp only [mapM, List.map_append, List.map_cons, List.map_nil, List.append_assoc, List.singleton_append]
        refine ⟨by omega, by omega, by omega, by omega, by omega, ⟨(i + 1, nx + 1), by dsimp only; omega⟩, ⟨Nat.le_refl _, rfl, ?_⟩, by dsimp only; omega⟩
        refine row_set (E := eP eI eI) rfl hset (by simp) (by simp) fun j hj => ?_
        match j, hj with
        | 0, _ => exact AVle.refl _
        | 1, _ => exact AVle.refl _
    · obtain rfl : i = G.length := by omega
      rw [List.take_length, List.drop_length, List.append_nil, hm]
      first
        | exact ⟨⟨by simp [mapM], fun i hi => ⟨rfl, rfl⟩⟩, vw_all (E := eP eI eI) rfl rfl (by simp [mapM])⟩
        | exact ⟨by simp [mapM], vw_all (E := eP eI eI) rfl rfl (by simp [mapM])⟩
def sDistance : Spec := Spec.f2 (kL eI) (kL eI) (fun a b => a.length < 100000000 ∧ b.length < 100000000) (fun a b => kI.enc (distF a b))
theorem okDistance : SpecOK Tryz.prog 34 sDistance := by
  refine SpecOK.f2 Tryz.func34 rfl (by decide) Tryz.results34 Tryz.ntmps34 (by decide) fun a b ⟨ha, hb⟩ => ?_
  have hΓ : GOK Tryz.prog (gam [(30, sMatch)]) := (.cons okMatch .nil)
  have h := (match_spec a b).2
  have h2 := lcsN_le a b
  refine AW.of hΓ mixed [] _ _ _ rfl ?_
  simp only [go_sem, sMatch]
  exact ⟨by omega, ⟨ha, hb⟩, by omega, by omega, rfl⟩
end Go.Proofs.YthpjjjnbkfnghaaGreatDoor
set_option linter.unusedSimpArgs false
set_option linter.unusedVariables false
namespace Go.Proofs.YthpjjjnbkfnghaaGreatDoor
open Go
theorem AVle.ps {m : Nat} {c d : Nat → AV} (h : ∀ j, j < m → AVle (c j) (d j)) : AVle (.ps m c) (.ps m d) := by
  rintro w η L v ⟨g, o, hv, hl, hc⟩
  refine ⟨g, o, hv, hl, fun j hj => ?_⟩
  obtain ⟨u, hu, h1, hr⟩ := hc j hj
  exact ⟨u, hu, h1, h j hj _ _ _ _ hr⟩
end Go.Proofs.YthpjjjnbkfnghaaGreatDoor
set_option linter.unusedSimpArgs false
set_option linter.unusedVariables false
set_option maxRecDepth 100000
set_option maxHeartbeats 4000000
namespace Go.Proofs.YthpjjjnbkfnghaaGreatDoor
open Go
attribute [local irreducible] AW AVle ASle RowLe
@[go_sem] theorem kCell_nil : kCell (.slice none 0 0) = .em := rfl
def sMatchM : Spec := Spec.f2 (kL eS) (kL eS) (fun a b => a.length ≤ 10000000 ∧ b.length ≤ 10000000) (fun a b => sL (eP eI eI) (prsF a b))
theorem okMatchM : SpecOK Tryz.prog 97 sMatchM := by
  refine SpecOK.f2 Tryz.func97 rfl (by decide) Tryz.results97 Tryz.ntmps97 (by decide) fun a b ⟨ha, hb⟩ => ?_
  have hΓ : GOK Tryz.prog (gam [(27, sNumber), (30, sMatch)]) := (.cons okNumber (.cons okMatch .nil))
  have n0 := numA_len a b
  have n1 := numB_len a b
  have n2 : (numF [] [a, b]).length = 2 := rfl
  unfold prsF
  unfold numA numB at *
  refine AW.of hΓ mixed [] _ _ _ rfl ?_
  simp only [go_sem, sNumber, sMatch]
  exact ⟨⟨by omega, by omega⟩, by omega, by omega, by omega, by omega⟩
abbrev Op := (BS × BS × BS) × Int × Int × Int
abbrev eOp : El Op := eP eLb (eP eI (eP eI eI))
def wrgM (o : Op) : Int := if plainLb o.1 = false then 3 else if o.2.2.1 < 7 ∨ 64 < o.2.2.1 then 4 else if (styOK o.2.1 && favOK o.2.2.2) = false then 5 else 0
def sCheckM : Spec := Spec.f1 (kA eOp) (fun o => lbN o.1 ≤ 3000) (fun o => kI.enc (wrgM o))
theorem okCheckM : SpecOK Tryz.prog 96 sCheckM := by
  refine SpecOK.f1 Tryz.func96 rfl (by decide) Tryz.results96 Tryz.ntmps96 (by decide) fun o ho => ?_
  have hΓ : GOK Tryz.prog (gam [(150, sPlainL), (100, sDocB)]) := (.cons okPlainL (.cons okDocB .nil))
  obtain ⟨⟨l1, l2, l3⟩, st, w, v⟩ := o
  unfold lbN at ho
  dsimp only at ho
  refine AW.of hΓ mixed [0] _ _ _ rfl ?_
  simp only [go_sem, sPlainL, sDocB]
  refine AW.still 1 0 0 75 6 _ rfl rfl (fun j hj => match j, hj with | 0, _ => rfl | 1, _ => rfl | 2, _ => rfl | 3, _ => rfl | 4, _ => rfl | 5, _ => rfl) ?_
  cases hp : plainLb (l1, l2, l3) with
  | false =>
    have e : wrgM ((l1, l2, l3), st, w, v) = 3 := by unfold wrgM; rw [if_pos hp]
    unfold plainLb at hp
    dsimp only at hp
    rw [e]
    refine AW.of hΓ mixed [99999] _ _ _ rfl ?_
    simp only [go_sem, sPlainL, sDocB, hp]
    exact ⟨by omega, by omega, by omega⟩
  | true =>
    have hd : docF ([], [], []) [] st (l1, l2, l3) v = ([], if (styOK st && favOK v) = false then 5 else 0) := by
      unfold docF
      by_cases h : (styOK st && favOK v) = false
      · rw [if_pos h, if_pos h]
      · rw [if_neg h, if_neg h, if_neg (by rw [hp]; simp)]
        rfl
    have e : wrgM ((l1, l2, l3), st, w, v) = if w < 7 ∨ 64 < w then 4 else if (styOK st && favOK v) = false then 5 else 0 := by unfold wrgM; rw [if_neg (by rw [hp]; simp)]
    rw [e]
    unfold plainLb at hp
    dsimp only at hp
    refine AW.of hΓ mixed [99999] _ _ _ rfl ?_
    simp only [go_sem, sPlainL, sDocB, hp, hd]
    refine ⟨⟨by omega, by omega, by omega⟩, fun h => by simp [h], fun h => ?_, fun h => ⟨⟨⟨by unfold okFl; simp, by simp [sumT]⟩, by unfold okLb; dsimp only; omega⟩, ?_⟩⟩
    · simp only [Bool.or_eq_true, decide_eq_true_eq] at h
      rw [if_pos h]
    · simp only [Bool.or_eq_false_iff, decide_eq_false_iff_not] at h
      rw [if_neg (show ¬ (w < 7 ∨ 64 < w) by omega)]
def lb3 (o : Op) : BS × BS × BS := o.1
abbrev Rt := List Pt × List (Int × Int) × List (Int × Int) × List Ck × BS × Int × Int
abbrev eRt : El Rt := eP (eL ePt) (eP (eL (eP eI eI)) (eP (eL (eP eI eI)) (eP (eL eCk) (eP eS (eP eI eI)))))
def rt0 : Rt := ([], [], [], [], [], 0, 0)
def mrgT (a b c : BS) (w st : Int) (lb : BS × BS × BS) (v : Int) : Rt :=
  (mrgD a b c st lb v, prsF (splitL a) (splitL b), prsF (splitL a) (splitL c), mrgK (filesF a b c), printL (mrgW w a b c) (mrgD a b c st lb v), mrgW w a b c, (cntF (filesF a b c) (mrgK (filesF a b c)) : Int))
def mrgO (a b c : BS) (o : Op) : Rt := if wrgM o = 0 then mrgT a b c o.2.2.1 o.2.1 o.1 o.2.2.2 else rt0
def sTexts : Spec := Spec.f4 kS kS kS (kA eOp) (fun a b c o => okM a b c ∧ lbN o.1 ≤ 3000) (fun a b c o => tu2 ((kA eRt).enc (mrgO a b c o)) (kI.enc (wrgM o)))
theorem wrg_0 {o : Op} (h : wrgM o = 0) : plainLb o.1 = true ∧ (7 ≤ o.2.2.1 ∧ o.2.2.1 ≤ 64) ∧ (styOK o.2.1 && favOK o.2.2.2) = true := by
  unfold wrgM at h
  split at h
  · omega
  · rename_i h1
    split at h
    · omega
    · rename_i h2
      split at h
      · omega
      · rename_i h3
        exact ⟨by simpa using h1, by omega, by simpa using h3⟩
theorem rt_le {c : Nat → AV} {d : List Pt} {l r : List (Int × Int)} {k : List Ck} {t : BS} {w n : Int} (h0 : AVle (c 0) (sL ePt d)) (h1 : AVle (c 1) (sL (eP eI eI) l)) (h2 : AVle (c 2) (sL (eP eI eI) r)) (h3 : AVle (c 3) (sL eCk k)) (h4 : c 4 = .st t) (h5 : c 5 = .val (.int .i64 w)) (h6 : c 6 = .val (.int .i64 n)) : AVle (.ag 7 c) (.ag 7 (eRt.enc (d, l, r, k, t, w, n))) :=
  AVle.ag fun j hj => match j, hj with
    | 0, _ => h0
    | 1, _ => h1
    | 2, _ => h2
    | 3, _ => h3
    | 4, _ => AVle.of_eq h4
    | 5, _ => AVle.of_eq h5
    | 6, _ => AVle.of_eq h6
theorem rt_box {ver ety : Nat} {c : Nat → AV} {d : List Pt} {l r : List (Int × Int)} {k : List Ck} {t : BS} {w n : Int} (h0 : AVle (c 0) (sL ePt d)) (h1 : AVle (c 1) (sL (eP eI eI) l)) (h2 : AVle (c 2) (sL (eP eI eI) r)) (h3 : AVle (c 3) (sL eCk k)) (h4 : c 4 = .st t) (h5 : c 5 = .val (.int .i64 w)) (h6 : c 6 = .val (.int .i64 n)) : RowLe (.box ver ety 7 c) (.box ver ety 7 (eRt.enc (d, l, r, k, t, w, n))) :=
  RowLe.box fun j hj => match j, hj with
    | 0, _ => h0
    | 1, _ => h1
    | 2, _ => h2
    | 3, _ => h3
    | 4, _ => AVle.of_eq h4
    | 5, _ => AVle.of_eq h5
    | 6, _ => AVle.of_eq h6
theorem okTexts : SpecOK Tryz.prog 40 sTexts := by
  refine SpecOK.f4 Tryz.func40 rfl (by decide) Tryz.results40 Tryz.ntmps40 (by decide) fun a b c o ⟨hM, hl⟩ => ?_
  have hΓ : GOK Tryz.prog (gam [(96, sCheckM), (26, sSplit), (97, sMatchM), (98, sWidthD), (99, sOfK), (100, sDocB), (75, sPrintM), (101, sCountB)]) := (.cons okCheckM (.cons okSplit (.cons okMatchM (.cons okWidthD (.cons okOfK (.cons okDocB (.cons okPrintM (.cons okCountB .nil))))))))
  obtain ⟨h1, h2, h3⟩ := okM_len hM
  by_cases he : wrgM o = 0
  · obtain ⟨p1, p2, p3⟩ := wrg_0 he
    have e : mrgO a b c o = mrgT a b c o.2.2.1 o.2.1 o.1 o.2.2.2 := by unfold mrgO; rw [if_pos he]
    have hF := mrg_facts (a := a) (b := b) (c := c) hM p2 o.2.1 hl p1 o.2.2.2
    rw [e, he]
    obtain ⟨⟨l1, l2, l3⟩, st, w, v⟩ := o
    dsimp only at p1 p2 p3 hF hl
    refine AW.of hΓ mixed [0, 200007] _ _ _ rfl ?_
    simp only [go_sem, sCheckM, sSplit, sMatchM, sWidthD, sOfK, sDocB, sPrintM, sCountB]
    refine AW.still 7 0 0 75 6 _ rfl rfl (fun j hj => match j, hj with | 0, _ => rfl | 1, _ => rfl | 2, _ => rfl | 3, _ => rfl | 4, _ => rfl | 5, _ => rfl) ?_
    refine AW.of hΓ mixed [6, 200007] _ _ _ rfl ?_
    simp only [go_sem, sCheckM, sSplit, sMatchM, sWidthD, sOfK, sDocB, sPrintM, sCountB, he]
    refine ⟨⟨by omega, by omega⟩, ⟨by omega, by omega⟩, fun h => absurd h (by omega), fun _ => ⟨hl, by omega, by omega, by omega, ?_⟩⟩
    refine AW.still 11 2 2 150 3 _ rfl rfl (fun j hj => match j, hj with | 0, _ => rfl | 1, _ => rfl | 2, _ => rfl) ?_
    refine AW.fork ?_
    refine AW.drawZ hΓ mixed 19 [] [] [] (by kernel_rfl) ?_
    simp only [go_sem, sCheckM, sSplit, sMatchM, sWidthD, sOfK, sDocB, sPrintM, sCountB, keeps_sL]
    have la := splitL_len a
    have lb := splitL_len b
    have lc := splitL_len c
    refine ⟨⟨by omega, by omega⟩, ⟨by omega, by omega⟩, ⟨by omega, by omega, by omega⟩, ?_⟩
    refine AW.cut ⟨[(7, .ps 6 (eOp.enc ((l1, l2, l3), st, w, v))), (8, .pt 1 1 0), (11, .ps 3 (eFl.enc (splitL a, splitL b, splitL c))), (12, .pt 3 3 0)], [(1, .box 1 48 7 (eRt.enc rt0)), (3, .box 3 48 7 (eRt.enc ([], prsF (splitL a) (splitL b), prsF (splitL a) (splitL c), [], [], mrgW w a b c, 0)))], 114, 4, 4, []⟩ ?_ ?_
    · simp only [go_sem, sCheckM, sSplit, sMatchM, sWidthD, sOfK, sDocB, sPrintM, sCountB]
      exact ⟨AVle.ps fun j hj => AVle.of_eq (match j, hj with | 0, _ => rfl | 1, _ => rfl | 2, _ => rfl), rt_box (em_sL _) (em_sL _) (em_sL _) (em_sL _) rfl rfl rfl, rt_box (em_sL _) (AVle.refl _) (AVle.refl _) (em_sL _) rfl rfl rfl⟩
    have hfit : fitK (splitL a).length (splitL b).length (splitL c).length (prsF (splitL a) (splitL b)) (prsF (splitL a) (splitL c)) = true := mtch_fit (prs_three (filesF a b c)).1
    have hK : ofK (((splitL a).length : Int), ((splitL b).length : Int), ((splitL c).length : Int)) (bothF (prsF (splitL a) (splitL b)) (prsF (splitL a) (splitL c))) [] (0, 0, 0) = mrgK (filesF a b c) := rfl
    have hdoc : docF (splitL a, splitL b, splitL c) (mrgK (filesF a b c)) st (l1, l2, l3) v = (mrgD a b c st (l1, l2, l3) v, 0) := doc_mrg p3 p1
    have hpr := mrg_text hF
    have hok := hF.ok
    have hlen := hF.len
    have hsum := hF.sum
    have hdl := hF.dlen
    have hpL := hF.pr
    have hps := sum_okPt (Nat.le_trans hF.sump (by decide))
    have hcn := cnt_le (filesF a b c) (mrgK (filesF a b c))
    have p1 := prsF_len (splitL a) (splitL b)
    have p2 := prsF_len (splitL a) (splitL c)
    unfold mrgT
    unfold filesF at *
    generalize mrgD a b c st (l1, l2, l3) v = D at *
    generalize mrgW w a b c = W at *
    generalize hKe : mrgK (splitL a, splitL b, splitL c) = K at *
    generalize prsF (splitL a) (splitL b) = lp at *
    generalize prsF (splitL a) (splitL c) = rp at *
    generalize splitL a = x at *
    generalize splitL b = y at *
    generalize splitL c = z at *
    refine AW.of hΓ mixed [99999] _ _ _ rfl ?_
    simp only [go_sem, sCheckM, sSplit, sMatchM, sWidthD, sOfK, sDocB, sPrintM, sCountB, hfit, hK, hdoc, hpr]
    unfold lbN at hl
    exact ⟨⟨by omega, by omega, by omega, by omega, by omega⟩, ⟨⟨hok, by omega, hsum⟩, by unfold okLb; dsimp only at *; omega⟩, ⟨⟨by omega, hps⟩, fun _ => hpL⟩, ⟨hok, by omega⟩, rt_le (AVle.refl _) (AVle.refl _) (AVle.refl _) (AVle.refl _) rfl rfl rfl⟩
  · have e : mrgO a b c o = rt0 := by unfold mrgO; rw [if_neg he]
    rw [e]
    obtain ⟨⟨l1, l2, l3⟩, st, w, v⟩ := o
    refine AW.of hΓ mixed [0] _ _ _ rfl ?_
    simp only [go_sem, sCheckM, sSplit, sMatchM, sWidthD, sOfK, sDocB, sPrintM, sCountB]
    refine AW.still 7 0 0 75 6 _ rfl rfl (fun j hj => match j, hj with | 0, _ => rfl | 1, _ => rfl | 2, _ => rfl | 3, _ => rfl | 4, _ => rfl | 5, _ => rfl) ?_
    refine AW.of hΓ mixed [99999] _ _ _ rfl ?_
    simp only [go_sem, sCheckM, sSplit, sMatchM, sWidthD, sOfK, sDocB, sPrintM, sCountB, he]
    exact ⟨⟨by omega, by omega⟩, ⟨by omega, by omega⟩, fun h => absurd h (by omega), fun _ => ⟨hl, rt_le (em_sL _) (em_sL _) (em_sL _) (em_sL _) rfl rfl rfl⟩⟩
end Go.Proofs.YthpjjjnbkfnghaaGreatDoor
set_option linter.unusedSimpArgs false
set_option linter.unusedVariables false
set_option maxRecDepth 100000
set_option maxHeartbeats 4000000
namespace Go.Proofs.YthpjjjnbkfnghaaGreatDoor
open Go
attribute [local irreducible] AW AVle ASle RowLe
def sShortM : Spec := Spec.f1 kS (fun _ => True) (fun s => kS.enc (s.take 250))
theorem okShortM : SpecOK Tryz.prog 25 sShortM := by
  refine SpecOK.f1 Tryz.func25 rfl (by decide) Tryz.results25 Tryz.ntmps25 (by decide) fun s _ => ?_
  have hΓ : GOK Tryz.prog (gam []) := GOK.nil
  refine AW.of hΓ mixed [] _ _ _ rfl ?_
  simp only [go_sem]
  have e : (min (s.length : Int) 250).toNat = min s.length 250 := by omega
  refine ⟨⟨by omega, by omega⟩, ?_⟩
  rw [e, List.take_eq_take_iff]
  omega
theorem op_le {c : Nat → AV} {l1 l2 l3 : BS} {a b d : Int} (h0 : c 0 = .st l1) (h1 : c 1 = .st l2) (h2 : c 2 = .st l3) (h3 : c 3 = .val (.int .i64 a)) (h4 : c 4 = .val (.int .i64 b)) (h5 : c 5 = .val (.int .i64 d)) : AVle (.ag 6 c) (.ag 6 (eOp.enc ((l1, l2, l3), a, b, d))) :=
  AVle.ag fun j hj => AVle.of_eq (match j, hj with
    | 0, _ => h0
    | 1, _ => h1
    | 2, _ => h2
    | 3, _ => h3
    | 4, _ => h4
    | 5, _ => h5)
def sDefaultM : Spec := Spec.f0 ((kA eOp).enc (([], [], []), 0, 7, 0))
theorem okDefaultM : SpecOK Tryz.prog 54 sDefaultM := by
  refine SpecOK.f0 Tryz.func54 rfl (by decide) Tryz.results54 Tryz.ntmps54 ?_
  have hΓ : GOK Tryz.prog (gam []) := GOK.nil
  refine AW.of hΓ mixed [] _ _ _ rfl ?_
  simp only [go_sem]
  exact op_le rfl rfl rfl rfl rfl rfl
end Go.Proofs.YthpjjjnbkfnghaaGreatDoor
set_option linter.unusedSimpArgs false
set_option linter.unusedVariables false
set_option maxRecDepth 100000
set_option maxHeartbeats 2000000
namespace Go.Proofs.YthpjjjnbkfnghaaGreatDoor
open Go
abbrev Rs := BS × Nat × Nat × Int × Pt × List Pt
attribute [local irreducible] AW AVle ASle RowLe
end Go.Proofs.YthpjjjnbkfnghaaGreatDoor
set_option linter.unusedSimpArgs false
set_option linter.unusedVariables false
set_option maxRecDepth 100000
set_option maxHeartbeats 8000000
namespace Go.Proofs.YthpjjjnbkfnghaaGreatDoor
open Go
attribute [local irreducible] AW AVle ASle RowLe
theorem alive_prs : prsF (splitL [97, 10]) (splitL [98, 10]) = [] ∧ prsF (splitL [97, 10]) (splitL [99, 10]) = [] := by decide +kernel
theorem alive_K : mrgK (filesF [97, 10] [98, 10] [99, 10]) = [(false, (0, 1), (0, 1), (0, 1))] := by
  have h := alive_prs
  unfold mrgK cksF filesF
  dsimp only
  rw [h.1, h.2, both_nil]
  decide
theorem alive_D : mrgD [97, 10] [98, 10] [99, 10] 0 ([], [], []) 0 = [([], [], [], true, [], [98, 10], [], [99, 10], false)] := by
  unfold mrgD
  rw [alive_K]
  decide +kernel
theorem alive_O : mrgO [97, 10] [98, 10] [99, 10] (([], [], []), 0, 7, 0) = ([([], [], [], true, [], [98, 10], [], [99, 10], false)], [], [], [(false, (0, 1), (0, 1), (0, 1))],
    [60, 60, 60, 60, 60, 60, 60, 10, 98, 10, 61, 61, 61, 61, 61, 61, 61, 10, 99, 10, 62, 62, 62, 62, 62, 62, 62, 10], 7, 1) := by
  have h := alive_prs
  unfold mrgO
  rw [if_pos (by decide)]
  unfold mrgT
  dsimp only
  rw [alive_D, alive_K, h.1, h.2]
  have e1 : mrgW 7 [97, 10] [98, 10] [99, 10] = 7 := by decide +kernel
  have e2 : printL 7 [([], [], [], true, [], [98, 10], [], [99, 10], false)] = [60, 60, 60, 60, 60, 60, 60, 10, 98, 10, 61, 61, 61, 61, 61, 61, 61, 10, 99, 10, 62, 62, 62, 62, 62, 62, 62, 10] := by decide +kernel
  have e3 : cntF (filesF [97, 10] [98, 10] [99, 10]) [(false, (0, 1), (0, 1), (0, 1))] = 1 := by decide +kernel
  rw [e1, e2, e3]
  rfl
def sAlive : Spec := Spec.f0 (kB.enc true)
theorem okAlive : SpecOK Tryz.prog 28 sAlive := by
  refine SpecOK.f0 Tryz.func28 rfl (by decide) Tryz.results28 Tryz.ntmps28 ?_
  have hΓ : GOK Tryz.prog (gam [(54, sDefaultM), (40, sTexts)]) := (.cons okDefaultM (.cons okTexts .nil))
  have ht := alive_O
  have hw : wrgM (([], [], []), 0, 7, 0) = 0 := by decide
  have hok : okM [97, 10] [98, 10] [99, 10] := by unfold okM; decide
  refine AW.of hΓ mixed [99999] _ _ _ rfl ?_
  simp only [go_sem, sDefaultM, sTexts, ht, hw]
  exact ⟨hok, by unfold lbN; decide⟩
end Go.Proofs.YthpjjjnbkfnghaaGreatDoor
set_option linter.unusedSimpArgs false
set_option linter.unusedVariables false
set_option maxRecDepth 100000
set_option maxHeartbeats 8000000
namespace Go.Proofs.YthpjjjnbkfnghaaGreatDoor
open Go
def scrM (x y : List (List UInt8)) : List StE := ofG x y (matchF (numA x y) (numB x y)) 0 0 []
structure ScmOK (a b : List UInt8) (n : Nat) : Prop where
  len : (scrM (splitL a) (splitL b)).length < 10000
  each : ∀ s ∈ scrM (splitL a) (splitL b), s.2.length ≤ 10000
  right : rightE (-1) (scrM (splitL a) (splitL b)) = true
  blen : (backL (scrM (splitL a) (splitL b))).length < 10000
  beach : ∀ s ∈ backL (scrM (splitL a) (splitL b)), s.2.length ≤ 10000
  bright : rightE (-1) (backL (scrM (splitL a) (splitL b))) = true
  good : pGood (ofP (scrM (splitL a) (splitL b)) n)
  bgood : pGood (ofP (backL (scrM (splitL a) (splitL b))) n)
  new : (newH (ofP (scrM (splitL a) (splitL b)) n)).length ≤ 50000000 ∧ (newH (ofP (scrM (splitL a) (splitL b)) n)).flatten.length ≤ 10000000000
  bnew : (newH (ofP (backL (scrM (splitL a) (splitL b))) n)).length ≤ 50000000 ∧ (newH (ofP (backL (scrM (splitL a) (splitL b))) n)).flatten.length ≤ 10000000000
  app : appA (ofP (scrM (splitL a) (splitL b)) n) a = (b, 0, -1)
  bapp : appA (ofP (backL (scrM (splitL a) (splitL b))) n) b = (a, 0, -1)
theorem scm_ok {a b : List UInt8} (hl : (splitL a).length + (splitL b).length < 10000) (hb : a.length + b.length ≤ 1000000) (n : Nat) : ScmOK a b n := by
  have wa := wholeL_splitL _ a (Nat.le_refl _)
  have wb := wholeL_splitL _ b (Nat.le_refl _)
  have hg := rgt_match (numA (splitL a) (splitL b)) (numB (splitL a) (splitL b))
  have h1 : rightE (-1) (scrM (splitL a) (splitL b)) = true := ofG_right _ 0 0 [] (Nat.zero_le _) hg rfl (.inl rfl)
  obtain ⟨h2, h3, _⟩ := of_all hg
  have h2 : lessL 2 (scrM (splitL a) (splitL b)) = splitL a := h2
  have h3 : lessL 1 (scrM (splitL a) (splitL b)) = splitL b := h3
  obtain ⟨h4, h5, _⟩ := ofP_all h1 h2 h3 wa wb (by omega) n
  have b1 := (back_all h1).1
  obtain ⟨h6, h7, _⟩ := ofP_all b1 ((back_l2 _).trans h3) ((back_l1 _).trans h2) wb wa (by omega) n
  have fa := splitL_flat a
  have fb := splitL_flat b
  obtain ⟨⟨s1, s2⟩, s3, s4, s5, s6, s7⟩ := of_sizes h1 h2 h3 wa wb hl (by rw [fa, fb]; exact hb) n
  obtain ⟨⟨t1, t2⟩, t3, t4, t5, t6, t7⟩ := of_sizes b1 ((back_l2 _).trans h3) ((back_l1 _).trans h2) wb wa (by omega) (by rw [fa, fb]; omega) n
  refine ⟨s1, s2, h1, t1, t2, b1, ⟨h4, s7, s3, s5, by omega⟩, ⟨h6, t7, t3, t5, by omega⟩, s4, t4, ?_, ?_⟩
  · unfold appA
    rw [if_pos h4, h5, fb]
  · unfold appA
    rw [if_pos h6, h7, fa]
attribute [local irreducible] AW AVle ASle RowLe
def sTripartitePatches : Spec := Spec.f3 kS kS kI (fun _ _ _ => True) (fun _ _ _ => kB.enc true)
theorem okTripartitePatches : SpecOK Tryz.prog 7 sTripartitePatches := by
  refine SpecOK.f3 Tryz.func7 rfl (by decide) Tryz.results7 Tryz.ntmps7 (by decide) fun a b k _ => ?_
  have hΓ : GOK Tryz.prog (gam [(25, sShortM), (26, sSplit), (27, sNumber), (28, sAlive), (29, sOfE), (30, sMatch), (10, sOfP), (32, sTextPt), (31, sParseP), (14, sApplyP), (33, sBackE), (34, sDistance), (35, sLcsLength)]) := (.cons okShortM (.cons okSplit (.cons okNumber (.cons okAlive (.cons okOfE (.cons okMatch (.cons okOfP (.cons okTextPt (.cons okParseP (.cons okApplyP (.cons okBackE (.cons okDistance (.cons okLcsLength .nil)))))))))))))
  have la := splitL_len (a.take 250)
  have lb := splitL_len (b.take 250)
  have l1 : (a.take 250).length ≤ 250 := by rw [List.length_take]; omega
  have l2 : (b.take 250).length ≤ 250 := by rw [List.length_take]; omega
  obtain ⟨k1, k2⟩ := u64_modP k 101 (by decide)
  have k3 : (0 ≤ (IntKind.u64.wrap k).tmod 101) = True := eq_true k1
  have k4 : ((IntKind.u64.wrap k).tmod 101 ≤ 100) = True := eq_true (by omega)
  have hs := scm_ok (a := a.take 250) (b := b.take 250) (by omega) (by omega) ((IntKind.u64.wrap k).tmod 101).toNat
  have n0 : ((numF [] [splitL (a.take 250), splitL (b.take 250)]).getD 0 []).length = (splitL (a.take 250)).length := by simp [numF, numL_len]
  have n1 : ((numF [] [splitL (a.take 250), splitL (b.take 250)]).getD 1 []).length = (splitL (b.take 250)).length := by simp [numF, numL_len]
  have n3 : (numF [] [splitL (a.take 250), splitL (b.take 250)]).length = 2 := by rw [numF_len]; rfl
  have hr2 : rgt (numA (splitL (a.take 250)) (splitL (b.take 250))) (numB (splitL (a.take 250)) (splitL (b.take 250))) (-1) (-1) (matchF ((numF [] [splitL (a.take 250), splitL (b.take 250)]).getD 0 []) ((numF [] [splitL (a.take 250), splitL (b.take 250)]).getD 1 [])) = true := rgt_match _ _
  have e0 : ofG (splitL (a.take 250)) (splitL (b.take 250)) (matchF ((numF [] [splitL (a.take 250), splitL (b.take 250)]).getD 0 []) ((numF [] [splitL (a.take 250), splitL (b.take 250)]).getD 1 [])) 0 0 [] = scrM (splitL (a.take 250)) (splitL (b.take 250)) := rfl
  have hm := match_spec ((numF [] [splitL (a.take 250), splitL (b.take 250)]).getD 0 []) ((numF [] [splitL (a.take 250), splitL (b.take 250)]).getD 1 [])
  obtain ⟨p1, p2, p3, p4, p5⟩ := hs.good
  obtain ⟨q1, q2, q3, q4, q5⟩ := hs.bgood
  have e1 := hs.right
  have e2 := hs.bright
  have e3 := hs.app
  have e4 := hs.bapp
  have e5 := parse_txt p1 p2
  have e6 := parse_txt q1 q2
  have x1 : txtH (ofP (scrM (splitL (a.take 250)) (splitL (b.take 250))) ((IntKind.u64.wrap k).tmod 101).toNat) = textP0 (ofP (scrM (splitL (a.take 250)) (splitL (b.take 250))) ((IntKind.u64.wrap k).tmod 101).toNat) := by unfold textP0; rw [if_pos p1]
  have x2 : txtH (ofP (backL (scrM (splitL (a.take 250)) (splitL (b.take 250)))) ((IntKind.u64.wrap k).tmod 101).toNat) = textP0 (ofP (backL (scrM (splitL (a.take 250)) (splitL (b.take 250)))) ((IntKind.u64.wrap k).tmod 101).toNat) := by unfold textP0; rw [if_pos q1]
  refine AW.of hΓ mixed [99999] _ _ _ rfl ?_
  simp only [go_sem, sShortM, sSplit, sNumber, sAlive, sOfE, sMatch, sOfP, sTextPt, sParseP, sApplyP, sBackE, sDistance, sLcsLength, k3, k4, hr2, e0, e1, e2, e3, e4, e5, e6, n3]
  have c1 := lcsN_le ((numF [] [splitL (a.take 250), splitL (b.take 250)]).getD 0 []) ((numF [] [splitL (a.take 250), splitL (b.take 250)]).getD 1 [])
  have c2 := distF_eq ((numF [] [splitL (a.take 250), splitL (b.take 250)]).getD 0 []) ((numF [] [splitL (a.take 250), splitL (b.take 250)]).getD 1 [])
  have c3 := hm.2
  refine ⟨by omega, by omega, ⟨by omega, by omega⟩, by omega, ⟨by omega, by omega⟩, ⟨by omega, by omega, by omega⟩, ⟨hs.len, hs.each⟩, ⟨p3, p4, by omega⟩, ⟨_, hs.good, x1.symm⟩, ⟨p3, by omega, hs.new⟩, ⟨hs.len, hs.each⟩, ⟨hs.blen, hs.beach⟩, ⟨q3, q4, by omega⟩, ⟨_, hs.bgood, x2.symm⟩, ⟨q3, by omega, hs.bnew⟩, ⟨by omega, by omega⟩, by omega, ⟨by omega, by omega⟩, by omega, by omega, ?_⟩
  omega
end Go.Proofs.YthpjjjnbkfnghaaGreatDoor
set_option linter.unusedSimpArgs false
namespace Go.Proofs.YthpjjjnbkfnghaaGreatDoor
open Go Go.ChangeShapes Go.WideShapes Go.ChangeAt Go.RowKit
theorem returns_laid {H : Type} {enc : TypeId × Value → H} {a : Assume} {C : Checked} {os : Go.Os} {f : FuncId} {fn : Func} {s : ChangeSpec} {conds : List PathCond} {apart fresh handsOn again : Bool} {X : World → Array Value → Prop}
    (hX : ∀ (w w' : World) (args : Array Value), w.heap = w'.heap → X w args → X w' args)
    (own : ownKnob C.prog.godebug = none) (started : os.Started) (noInit : C.prog.inits.idxOf? f = none) (hfn : C.prog.funcs[f]? = some fn)
    (witness : ∃ (w : World) (tape : Tape) (i : Input), w.os = os ∧ (w.forCall tape i).Shaped C.prog ∧ i.vars = [] ∧ Input.okWide C.prog (w.forCall tape i) .any w.heap.size f i ∧
      ((s.pre enc C.prog fn conds apart (w.forCall tape i).memory i.args ∧ X (w.forCall tape i).memory i.args) ∧ sizedMet enc C.prog fn (OpenSpec.ofChange s) apart (w.forCall tape i).memory i.args) ∧ a.holds C.prog (lone (Frame.enter C.prog f i.args .normal) [] (w.forCall tape i)))
    (contract : ∀ (W : World) (base : Nat) (args : Array Value) (ds gs : List (DataW H)) (before : List MemPlace),
      (∀ (j : Nat) t v, fn.params[j]? = some t → args[j]? = some v → Value.okWide C.prog W .any base t v) →
      DataW.Whole enc C.prog fn.params.toList s.vars apart W args.toList ds gs before →
      conds.all (PathCond.test C.prog ⟨fn.params.toList, ds, s.plain.varTypes C.prog, gs⟩) = true →
      (DataW.weightsEach C.prog (fn.params.toList ++ s.plain.varTypes C.prog) (ds ++ gs)).all (· ≤ reachBytes) = true → X W args → W.ShapedOpen C.prog →
      a.holds C.prog (lone (Frame.enter C.prog f args .normal) [] W) →
      Calls C.prog f args W fun e W' => ∃ v, e = .returned v ∧ s.post enc C.prog fn apart fresh handsOn again W args v W') :
    ReturnsInHanded a C os f .any (fun w args => (s.pre enc C.prog fn conds apart w args ∧ X w args) ∧ sizedMet enc C.prog fn (OpenSpec.ofChange s) apart w args) (s.post enc C.prog fn apart fresh handsOn again) := by
  refine returnsInHanded_of_calls own started noInit witness ?_
  intro w tape i _ hsh _ hok hpre hholds
  obtain ⟨_, _, _, fn', hfn', _, _, _, _, hval⟩ := hok
  have e : fn' = fn := Option.some.inj (hfn'.symm.trans hfn)
  subst e
  obtain ⟨⟨⟨ds, gs, before, hw, hc⟩, hx⟩, hz⟩ := hpre
  have hw' := DataW.Whole.of_heap (w' := w.forCall tape i) (by rfl) hw
  refine (contract (w.forCall tape i) w.heap.size i.args ds gs before hval hw' hc (hz.weights hw) (hX _ _ _ (by rfl) hx) hsh hholds).mono fun e W' ⟨v, he, hp⟩ => ?_
  subst he
  exact ChangeSpec.post_blind hp
theorem len_shaped {P : Program} {w : World} {g : Nat} {t : TypeId} {zero : Array Value} (h : w.ShapedOpen P) (hg : g < P.globals.size)
    (h0 : ((begin P (fun _ _ => 0) default).world.heap[g]?).bind Obj.row? = some (zero, t)) (hz : zero.size = 1) (hb : P.buildable t = true) (hc : P.cellTypes P.depth t = some [t]) (hu : P.underlying t = some (.int .i64)) :
    ∃ o, w.heap[g]? = some o ∧ ∃ m t' f, o = .cells #[.int .i64 m] t' f := by
  obtain ⟨cs, hh, hs, hr⟩ := h.1 g zero t hg h0
  obtain ⟨ts, hts, _, hall⟩ := hr hb
  rw [hc] at hts
  cases hts
  have h1 : 0 < cs.size := by omega
  obtain ⟨u, hu', hok⟩ := hall 0 cs[0] (by simp [h1])
  have : u = t := by simpa using hu'.symm
  subst this
  unfold Cell.ok at hok
  rw [hu] at hok
  have hcs : cs = #[cs[0]] := by
    apply Array.ext
    · simp; omega
    · intro i h2 h3
      have : i = 0 := by omega
      subst this
      rfl
  cases hv : cs[0] <;> rw [hv] at hok <;> simp at hok
  case int k' n =>
    rw [hok.1] at hv
    rw [hv] at hcs
    exact ⟨_, hh, n, _, _, by rw [hcs]⟩
theorem tab_laid {P : Program} {w : World} {name : String} {k : IntKind} {zs : List Int} {g : Nat} (h : Lib.TabIs P w name k zs) (hg : P.globalNamed name = some g) : ∃ o, w.heap[g]? = some o ∧ ∃ t f, o = .cells (zs.map fun z => Value.int k z).toArray t f := by
  unfold Lib.TabIs World.var? at h
  rw [hg] at h
  simp only [Option.bind_some] at h
  split at h
  · rename_i cs t f hh
    exact ⟨_, hh, t, f, by rw [Option.some.inj h]⟩
  · cases h
theorem tab_vars {P : Program} {W : World} {name : String} {k : IntKind} {zs : List Int} {g : Nat} {t e : TypeId} {n : Nat}
    (hg : P.globalNamed name = some g) (hty : (P.globals[g]?).map (·.type) = some t) (ht : P.underlying t = some (.array n e)) (he : P.underlying e = some (.int k)) (hce : P.cellsOf e = 1) (hct : P.cellsOf t = n) :
    ∀ (l : List (String × DataW Unit)) (ps : List MemPlace), (name, Lib.tabData k zs) ∈ l → DataW.LaidVars P W l ps → Lib.TabIs P W name k zs
  | [], _, hm, _ => by cases hm
  | (m, d) :: r, ps, hm, ⟨g', t', cs, fuel, p, q, hg', ht', hvar, hd, hs, _⟩ => by
    rcases List.mem_cons.1 hm with e' | hm
    · obtain ⟨rfl, rfl⟩ := Prod.mk.inj e'
      obtain rfl := Option.some.inj (hg.symm.trans hg')
      obtain rfl := Option.some.inj (hty.symm.trans ht')
      unfold Lib.TabIs
      rw [hvar, ← Lib.cells_of_tab ht he hce hct hd]
    · exact tab_vars hg hty ht he hce hct r q hm hs
theorem tab_met {P : Program} {W : World} {name : String} {k : IntKind} {zs : List Int} {g : Nat} {t e : TypeId} {n : Nat} {l : List (String × DataW Unit)}
    (hg : P.globalNamed name = some g) (hty : (P.globals[g]?).map (·.type) = some t) (ht : P.underlying t = some (.array n e)) (he : P.underlying e = some (.int k)) (hce : P.cellsOf e = 1) (hct : P.cellsOf t = n)
    (hp : (l.all fun x => x.2.handleName?.isNone) = true) (hm : (name, Lib.tabData k zs) ∈ l) (h : laidMetH P l W) : ∃ o, W.heap[g]? = some o ∧ ∃ t f, o = .cells (zs.map fun z => Value.int k z).toArray t f := by
  rw [MakeChecks.laidMetH_plain _ _ _ hp] at h
  obtain ⟨ps, h, _⟩ := h
  exact tab_laid (tab_vars hg hty ht he hce hct l ps hm h) hg
theorem witness_zip {H : Type} {enc : TypeId × Value → H} {C : Checked} {os : Go.Os} {f : FuncId} {fn : Func} {s : ChangeSpec} {conds : List PathCond} {apart : Bool} {X : World → Array Value → Prop} (modest : Bool) (w0 : World) (args : Array Value) (fuel : Nat) (hos : w0.os = os)
    (hv : (w0.forCall (fun _ _ => 0) ⟨#[], args, []⟩).variablesZipB C.prog = true)
    (hr : ((w0.forCall (fun _ _ => 0) ⟨#[], args, []⟩).heap.toList.drop C.prog.globals.size).take ((begin C.prog (fun _ _ => 0) default).world.heap.size - C.prog.globals.size) =
      (begin C.prog (fun _ _ => 0) default).world.heap.toList.drop C.prog.globals.size)
    (hok : Input.okWideB C.prog (w0.forCall (fun _ _ => 0) ⟨#[], args, []⟩) f ⟨#[], args, []⟩ = true)
    (hpre : s.preB enc C.prog fn conds apart (w0.forCall (fun _ _ => 0) ⟨#[], args, []⟩).memory args fuel = true)
    (hsz : s.sizedB enc C.prog fn apart (w0.forCall (fun _ _ => 0) ⟨#[], args, []⟩).memory args fuel = true)
    (hx : X (w0.forCall (fun _ _ => 0) ⟨#[], args, []⟩).memory args) :
    ∃ (w : World) (tape : Tape) (i : Input), w.os = os ∧ (w.forCall tape i).Shaped C.prog ∧ i.vars = [] ∧ Input.okWide C.prog (w.forCall tape i) .any w.heap.size f i ∧
      ((s.pre enc C.prog fn conds apart (w.forCall tape i).memory i.args ∧ X (w.forCall tape i).memory i.args) ∧ sizedMet enc C.prog fn (OpenSpec.ofChange s) apart (w.forCall tape i).memory i.args) ∧ ({ modest := modest } : Assume).holds C.prog (lone (Frame.enter C.prog f i.args .normal) [] (w.forCall tape i)) :=
  ⟨w0, fun _ _ => 0, ⟨#[], args, []⟩, hos, World.shaped_of_ZipB hv hr, (Input.okWide_of_okWideB (base := 0) hok).1, (Input.okWide_of_okWideB hok).2, ⟨⟨ChangeSpec.pre_of_preB hpre, hx⟩, sizedMet_of_sizedB hsz⟩, by
    simp only [Assume.holds]
    exact ⟨by simp, by simp, fun _ => Modest.zero, by simp, by simp⟩⟩
theorem met_laid {P : Program} {os : Go.Os} {laid : List (String × DataW Unit)} (args : Array Value) (hp : (laid.all fun x => x.2.handleName?.isNone) = true)
    (hf : (World.holding P os ⟨#[], #[], []⟩).layFits P laid [] = true)
    (hi : (World.holding P os ⟨#[], #[], []⟩).layIfaces P laid (World.laidAll P os laid) = true) :
    laidMetH P laid ((World.laidAll P os laid).forCall (fun _ _ => 0) ⟨#[], args, []⟩).memory := by
  rw [MakeChecks.laidMetH_plain _ _ _ hp]
  exact laidMet_laidAll args hf hi
end Go.Proofs.YthpjjjnbkfnghaaGreatDoor
