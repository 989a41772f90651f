/-
  Part 5 of what the proof rests on: values that are told, code that is walked, what comes out.
-/
import Derived.Test.YtjfmigpahglajaaGreatDoorMh4
set_option linter.unusedSimpArgs false
set_option linter.unusedVariables false
set_option maxRecDepth 100000
set_option maxHeartbeats 2000000
namespace Go.Proofs.YtjfmigpahglajaaGreatDoor
open Go
attribute [local irreducible] AW AVle ASle RowLe
def sMatch : Spec := Spec.f2 (kL eI) (kL eI) (fun a b => a.length < 100000000 ∧ b.length < 100000000) (fun a b => sL (eP eI eI) (matchF a b))
theorem okMatch : SpecOK Tryz.prog 97 sMatch := by
  refine SpecOK.f2 Tryz.func97 rfl (by decide) Tryz.results97 Tryz.ntmps97 (by decide) fun a b ⟨ha, hb⟩ => ?_
  have hΓ : GOK Tryz.prog (gam [(137, sShared), (138, sSearch)]) := (.cons okShared (.cons okSearch .nil))
  have hA := plc_len (fun y => b.contains y) 0 a
  have hB := plc_len (fun y => a.contains y) 0 b
  have hsp := (find_spec ((shI a b).length + (shI b a).length + 1) (shI a b) (shI b a) (by omega)).1
  have hm : matchF a b = mapM (shQ a b) (shQ b a) (findG (shI a b) (shI b a)) := rfl
  have lA : (shI a b).length ≤ a.length := List.length_filter_le _ _
  have lB : (shI b a).length ≤ b.length := List.length_filter_le _ _
  have lG := findG_len (shI a b) (shI b a)
  have lG2 := lcsN_le (shI a b) (shI b a)
  refine AW.of hΓ mixed [3, 99999] _ _ _ rfl ?_
  simp only [go_sem, sShared, sSearch]
  refine ⟨⟨ha, hb⟩, ⟨hb, ha⟩, _, _, shI a b, shI b a, rfl, AVle.refl _, AVle.refl _, rfl, by omega, by omega, fun ver hp' nx' h1 h2 h3 h4 => ?_⟩
  have eA : (shQ a b).length = (shI a b).length := hA
  have eB : (shQ b a).length = (shI b a).length := hB
  change isM (shI a b) (shI b a) (findG (shI a b) (shI b a)) at hsp
  generalize hG : findG (shI a b) (shI b a) = G at *
  refine AW.cut ⟨[(6, sL eI (shQ a b)), (8, sL eI (shQ b a)), (9, .ow 3 ver G.length)], [(3, rowL ver 108 (eP eI eI) G)], 50, 4, nx', []⟩ ?_ ?_
  · simp only [go_sem, h1]
    exact RowLe.refl _
  generalize hqa : shQ a b = qa at *
  generalize hqb : shQ b a = qb at *
  refine AW.of hΓ mixed [] _ _ _ rfl ?_
  simp only [go_sem, sShared, sSearch]
  refine AW.round (α := { x : Nat × Nat // x.1 ≤ G.length })
    (fun x => ⟨[(6, sL eI qa), (8, sL eI qb), (9, .ow 3 ver G.length), (27, .ow 3 ver G.length), (28, .val (.int .i64 G.length)), (29, .val (.int .i64 x.1.1))], [(3, rowL ver 108 (eP eI eI) (mapM qa qb (G.take x.1.1) ++ G.drop x.1.1))], 50, 4, x.1.2, []⟩) (fun x => G.length - x.1.1) ⟨(0, nx'), Nat.zero_le _⟩ ?_ ?_
  · simp only [go_sem, sShared, sSearch]
    exact RowLe.of_eq (by simp [mapM])
  · rintro ⟨⟨i, nx⟩, hi⟩
    simp only at hi
    have hmap : (mapM qa qb (G.take i)).length = i := by simp only [mapM, List.length_map, List.length_take]; omega
    refine AW.of hΓ mixed [6, 99999] _ _ _ rfl ?_
    simp only [go_sem, sShared, sSearch, pp_sz]
    refine ⟨fun hlt => ?_, fun hge => ?_⟩
    · have hel : (mapM qa qb (G.take i) ++ G.drop i).getD i (0, 0) = G.getD i (0, 0) := by
        simp only [List.getD]
        rw [List.getElem?_append_right (by omega), List.getElem?_drop, hmap]
        congr 2
        omega
      obtain ⟨u, v, huv⟩ : ∃ u v, G.getD i (0, 0) = (u, v) := ⟨_, _, rfl⟩
      have hin := hsp.2 (G.getD i (0, 0)) (by rw [gd_lt _ _ (by omega)]; exact List.getElem_mem _)
      rw [huv] at hin
      unfold inM at hin
      simp only at hin
      refine ⟨by omega, by omega, ?_⟩
      refine AW.cut ⟨[(6, sL eI qa), (8, sL eI qb), (9, .ow 3 ver G.length), (10, .val (.int .i64 i)), (11, .pt 4 nx 0), (27, .ow 3 ver G.length), (28, .val (.int .i64 G.length)), (29, .val (.int .i64 i))],
        [(3, rowL ver 108 (eP eI eI) (mapM qa qb (G.take i) ++ G.drop i)), (4, .box nx 108 2 fun j => if j = 0 then .val (.int .i64 u) else .val (.int .i64 v))], 50, 5, nx + 1, []⟩ ?_ ?_
      · simp only [go_sem]
        refine ⟨RowLe.refl _, RowLe.box fun j hj => AVle.of_eq ?_⟩
        match j, hj with
        | 0, _ => show (eP eI eI).enc ((mapM qa qb (G.take i) ++ G.drop i).getD i (0, 0)) 0 = _; rw [hel, huv]; rfl
        | 1, _ => show (eP eI eI).enc ((mapM qa qb (G.take i) ++ G.drop i).getD i (0, 0)) 1 = _; rw [hel, huv]; rfl
      · refine AW.of hΓ mixed [] _ _ _ rfl ?_
        simp only [go_sem, sShared, sSearch, pp_sz]
        have hset : mapM qa qb (G.take (i + 1)) ++ G.drop (i + 1) = (mapM qa qb (G.take i) ++ G.drop i).set i (qa.getD u.toNat 0, qb.getD v.toNat 0) := by
          have hi' : i < G.length := by omega
          have hgi : G[i] = (u, v) := by rw [← huv, gd_lt _ _ hi']
          rw [List.set_append_right _ _ (by omega), hmap, Nat.sub_self, List.drop_eq_getElem_cons hi', List.set_cons_zero, List.take_succ_eq_append_getElem hi', hgi]
          simp only [mapM, List.map_append, List.map_cons, List.map_nil, List.append_assoc, List.singleton_append]
        refine ⟨by omega, by omega, by omega, by omega, by omega, ⟨(i + 1, nx + 1), by dsimp only; omega⟩, ⟨Nat.le_refl _, rfl, ?_⟩, by dsimp only; omega⟩
        refine row_set (E := eP eI eI) rfl hset (by simp) (by simp) fun j hj => ?_
        match j, hj with
        | 0, _ => exact AVle.refl _
        | 1, _ => exact AVle.refl _
    · obtain rfl : i = G.length := by omega
      rw [List.take_length, List.drop_length, List.append_nil, hm]
      first
        | exact ⟨⟨by simp [mapM], fun i hi => ⟨rfl, rfl⟩⟩, vw_all (E := eP eI eI) rfl rfl (by simp [mapM])⟩
        | exact ⟨by simp [mapM], vw_all (E := eP eI eI) rfl rfl (by simp [mapM])⟩
end Go.Proofs.YtjfmigpahglajaaGreatDoor
set_option linter.unusedSimpArgs false
set_option linter.unusedVariables false
namespace Go.Proofs.YtjfmigpahglajaaGreatDoor
open Go
theorem AVle.ps {m : Nat} {c d : Nat → AV} (h : ∀ j, j < m → AVle (c j) (d j)) : AVle (.ps m c) (.ps m d) := by
  rintro w η L v ⟨g, o, hv, hl, hc⟩
  refine ⟨g, o, hv, hl, fun j hj => ?_⟩
  obtain ⟨u, hu, h1, hr⟩ := hc j hj
  exact ⟨u, hu, h1, h j hj _ _ _ _ hr⟩
end Go.Proofs.YtjfmigpahglajaaGreatDoor
set_option linter.unusedSimpArgs false
set_option linter.unusedVariables false
set_option maxRecDepth 100000
set_option maxHeartbeats 4000000
namespace Go.Proofs.YtjfmigpahglajaaGreatDoor
open Go
attribute [local irreducible] AW AVle ASle RowLe
@[go_sem] theorem kCell_nil : kCell (.slice none 0 0) = .em := rfl
def sMatchM : Spec := Spec.f2 (kL eS) (kL eS) (fun a b => a.length ≤ 10000000 ∧ b.length ≤ 10000000) (fun a b => sL (eP eI eI) (prsF a b))
theorem okMatchM : SpecOK Tryz.prog 51 sMatchM := by
  refine SpecOK.f2 Tryz.func51 rfl (by decide) Tryz.results51 Tryz.ntmps51 (by decide) fun a b ⟨ha, hb⟩ => ?_
  have hΓ : GOK Tryz.prog (gam [(96, sNumber), (97, sMatch)]) := (.cons okNumber (.cons okMatch .nil))
  have n0 := numA_len a b
  have n1 := numB_len a b
  have n2 : (numF [] [a, b]).length = 2 := rfl
  unfold prsF
  unfold numA numB at *
  refine AW.of hΓ mixed [] _ _ _ rfl ?_
  simp only [go_sem, sNumber, sMatch]
  exact ⟨⟨by omega, by omega⟩, by omega, by omega, by omega, by omega⟩
abbrev Op := (BS × BS × BS) × Int × Int × Int
abbrev eOp : El Op := eP eLb (eP eI (eP eI eI))
def wrgM (o : Op) : Int := if plainLb o.1 = false then 3 else if o.2.2.1 < 7 ∨ 64 < o.2.2.1 then 4 else if (styOK o.2.1 && favOK o.2.2.2) = false then 5 else 0
def sCheckM : Spec := Spec.f1 (kA eOp) (fun o => lbN o.1 ≤ 3000) (fun o => kI.enc (wrgM o))
theorem okCheckM : SpecOK Tryz.prog 50 sCheckM := by
  refine SpecOK.f1 Tryz.func50 rfl (by decide) Tryz.results50 Tryz.ntmps50 (by decide) fun o ho => ?_
  have hΓ : GOK Tryz.prog (gam [(95, sPlainL), (54, sDocB)]) := (.cons okPlainL (.cons okDocB .nil))
  obtain ⟨⟨l1, l2, l3⟩, st, w, v⟩ := o
  unfold lbN at ho
  dsimp only at ho
  refine AW.of hΓ mixed [0] _ _ _ rfl ?_
  simp only [go_sem, sPlainL, sDocB]
  refine AW.still 1 0 0 40 6 _ rfl rfl (fun j hj => match j, hj with | 0, _ => rfl | 1, _ => rfl | 2, _ => rfl | 3, _ => rfl | 4, _ => rfl | 5, _ => rfl) ?_
  cases hp : plainLb (l1, l2, l3) with
  | false =>
    have e : wrgM ((l1, l2, l3), st, w, v) = 3 := by unfold wrgM; rw [if_pos hp]
    unfold plainLb at hp
    dsimp only at hp
    rw [e]
    refine AW.of hΓ mixed [99999] _ _ _ rfl ?_
    simp only [go_sem, sPlainL, sDocB, hp]
    exact ⟨by omega, by omega, by omega⟩
  | true =>
    have hd : docF ([], [], []) [] st (l1, l2, l3) v = ([], if (styOK st && favOK v) = false then 5 else 0) := by
      unfold docF
      by_cases h : (styOK st && favOK v) = false
      · rw [if_pos h, if_pos h]
      · rw [if_neg h, if_neg h, if_neg (by rw [hp]; simp)]
        rfl
    have e : wrgM ((l1, l2, l3), st, w, v) = if w < 7 ∨ 64 < w then 4 else if (styOK st && favOK v) = false then 5 else 0 := by unfold wrgM; rw [if_neg (by rw [hp]; simp)]
    rw [e]
    unfold plainLb at hp
    dsimp only at hp
    refine AW.of hΓ mixed [99999] _ _ _ rfl ?_
    simp only [go_sem, sPlainL, sDocB, hp, hd]
    refine ⟨⟨by omega, by omega, by omega⟩, fun h => by simp [h], fun h => ?_, fun h => ⟨⟨⟨by unfold okFl; simp, by simp [sumT]⟩, by unfold okLb; dsimp only; omega⟩, ?_⟩⟩
    · simp only [Bool.or_eq_true, decide_eq_true_eq] at h
      rw [if_pos h]
    · simp only [Bool.or_eq_false_iff, decide_eq_false_iff_not] at h
      rw [if_neg (show ¬ (w < 7 ∨ 64 < w) by omega)]
def lb3 (o : Op) : BS × BS × BS := o.1
abbrev Rt := List Pt × List (Int × Int) × List (Int × Int) × List Ck × BS × Int × Int
abbrev eRt : El Rt := eP (eL ePt) (eP (eL (eP eI eI)) (eP (eL (eP eI eI)) (eP (eL eCk) (eP eS (eP eI eI)))))
def rt0 : Rt := ([], [], [], [], [], 0, 0)
def mrgT (a b c : BS) (w st : Int) (lb : BS × BS × BS) (v : Int) : Rt :=
  (mrgD a b c st lb v, prsF (splitL a) (splitL b), prsF (splitL a) (splitL c), mrgK (filesF a b c), printL (mrgW w a b c) (mrgD a b c st lb v), mrgW w a b c, (cntF (filesF a b c) (mrgK (filesF a b c)) : Int))
def mrgO (a b c : BS) (o : Op) : Rt := if wrgM o = 0 then mrgT a b c o.2.2.1 o.2.1 o.1 o.2.2.2 else rt0
def sTexts : Spec := Spec.f4 kS kS kS (kA eOp) (fun a b c o => okM a b c ∧ lbN o.1 ≤ 3000) (fun a b c o => tu2 ((kA eRt).enc (mrgO a b c o)) (kI.enc (wrgM o)))
theorem wrg_0 {o : Op} (h : wrgM o = 0) : plainLb o.1 = true ∧ (7 ≤ o.2.2.1 ∧ o.2.2.1 ≤ 64) ∧ (styOK o.2.1 && favOK o.2.2.2) = true := by
  unfold wrgM at h
  split at h
  · omega
  · rename_i h1
    split at h
    · omega
    · rename_i h2
      split at h
      · omega
      · rename_i h3
        exact ⟨by simpa using h1, by omega, by simpa using h3⟩
theorem rt_le {c : Nat → AV} {d : List Pt} {l r : List (Int × Int)} {k : List Ck} {t : BS} {w n : Int} (h0 : AVle (c 0) (sL ePt d)) (h1 : AVle (c 1) (sL (eP eI eI) l)) (h2 : AVle (c 2) (sL (eP eI eI) r)) (h3 : AVle (c 3) (sL eCk k)) (h4 : c 4 = .st t) (h5 : c 5 = .val (.int .i64 w)) (h6 : c 6 = .val (.int .i64 n)) : AVle (.ag 7 c) (.ag 7 (eRt.enc (d, l, r, k, t, w, n))) :=
  AVle.ag fun j hj => match j, hj with
    | 0, _ => h0
    | 1, _ => h1
    | 2, _ => h2
    | 3, _ => h3
    | 4, _ => AVle.of_eq h4
    | 5, _ => AVle.of_eq h5
    | 6, _ => AVle.of_eq h6
theorem rt_box {ver ety : Nat} {c : Nat → AV} {d : List Pt} {l r : List (Int × Int)} {k : List Ck} {t : BS} {w n : Int} (h0 : AVle (c 0) (sL ePt d)) (h1 : AVle (c 1) (sL (eP eI eI) l)) (h2 : AVle (c 2) (sL (eP eI eI) r)) (h3 : AVle (c 3) (sL eCk k)) (h4 : c 4 = .st t) (h5 : c 5 = .val (.int .i64 w)) (h6 : c 6 = .val (.int .i64 n)) : RowLe (.box ver ety 7 c) (.box ver ety 7 (eRt.enc (d, l, r, k, t, w, n))) :=
  RowLe.box fun j hj => match j, hj with
    | 0, _ => h0
    | 1, _ => h1
    | 2, _ => h2
    | 3, _ => h3
    | 4, _ => AVle.of_eq h4
    | 5, _ => AVle.of_eq h5
    | 6, _ => AVle.of_eq h6
theorem okTexts : SpecOK Tryz.prog 16 sTexts := by
  refine SpecOK.f4 Tryz.func16 rfl (by decide) Tryz.results16 Tryz.ntmps16 (by decide) fun a b c o ⟨hM, hl⟩ => ?_
  have hΓ : GOK Tryz.prog (gam [(50, sCheckM), (41, sSplit), (51, sMatchM), (52, sWidthD), (53, sOfK), (54, sDocB), (45, sPrintM), (55, sCountB)]) := (.cons okCheckM (.cons okSplit (.cons okMatchM (.cons okWidthD (.cons okOfK (.cons okDocB (.cons okPrintM (.cons okCountB .nil))))))))
  obtain ⟨h1, h2, h3, h4⟩ := hM
  by_cases he : wrgM o = 0
  · obtain ⟨p1, p2, p3⟩ := wrg_0 he
    have e : mrgO a b c o = mrgT a b c o.2.2.1 o.2.1 o.1 o.2.2.2 := by unfold mrgO; rw [if_pos he]
    have hF := mrg_facts (a := a) (b := b) (c := c) ⟨h1, h2, h3, h4⟩ p2 o.2.1 hl p1 o.2.2.2
    rw [e, he]
    obtain ⟨⟨l1, l2, l3⟩, st, w, v⟩ := o
    dsimp only at p1 p2 p3 hF hl
    refine AW.of hΓ mixed [0, 200007] _ _ _ rfl ?_
    simp only [go_sem, sCheckM, sSplit, sMatchM, sWidthD, sOfK, sDocB, sPrintM, sCountB]
    refine AW.still 7 0 0 40 6 _ rfl rfl (fun j hj => match j, hj with | 0, _ => rfl | 1, _ => rfl | 2, _ => rfl | 3, _ => rfl | 4, _ => rfl | 5, _ => rfl) ?_
    refine AW.of hΓ mixed [6, 200007] _ _ _ rfl ?_
    simp only [go_sem, sCheckM, sSplit, sMatchM, sWidthD, sOfK, sDocB, sPrintM, sCountB, he]
    refine ⟨⟨by omega, by omega⟩, ⟨by omega, by omega⟩, fun h => absurd h (by omega), fun _ => ⟨hl, by omega, by omega, by omega, ?_⟩⟩
    refine AW.still 11 2 2 95 3 _ rfl rfl (fun j hj => match j, hj with | 0, _ => rfl | 1, _ => rfl | 2, _ => rfl) ?_
    refine AW.fork ?_
    refine AW.drawZ hΓ mixed 19 [] [] [] (by kernel_rfl) ?_
    simp only [go_sem, sCheckM, sSplit, sMatchM, sWidthD, sOfK, sDocB, sPrintM, sCountB, keeps_sL]
    have la := splitL_len a
    have lb := splitL_len b
    have lc := splitL_len c
    refine ⟨⟨by omega, by omega⟩, ⟨by omega, by omega⟩, ⟨by omega, by omega, by omega⟩, ?_⟩
    refine AW.cut ⟨[(7, .ps 6 (eOp.enc ((l1, l2, l3), st, w, v))), (8, .pt 1 1 0), (11, .ps 3 (eFl.enc (splitL a, splitL b, splitL c))), (12, .pt 3 3 0)], [(1, .box 1 33 7 (eRt.enc rt0)), (3, .box 3 33 7 (eRt.enc ([], prsF (splitL a) (splitL b), prsF (splitL a) (splitL c), [], [], mrgW w a b c, 0)))], 114, 4, 4, []⟩ ?_ ?_
    · simp only [go_sem, sCheckM, sSplit, sMatchM, sWidthD, sOfK, sDocB, sPrintM, sCountB]
      exact ⟨AVle.ps fun j hj => AVle.of_eq (match j, hj with | 0, _ => rfl | 1, _ => rfl | 2, _ => rfl), rt_box (em_sL _) (em_sL _) (em_sL _) (em_sL _) rfl rfl rfl, rt_box (em_sL _) (AVle.refl _) (AVle.refl _) (em_sL _) rfl rfl rfl⟩
    have hfit : fitK (splitL a).length (splitL b).length (splitL c).length (prsF (splitL a) (splitL b)) (prsF (splitL a) (splitL c)) = true := mtch_fit (prs_three (filesF a b c)).1
    have hK : ofK (((splitL a).length : Int), ((splitL b).length : Int), ((splitL c).length : Int)) (bothF (prsF (splitL a) (splitL b)) (prsF (splitL a) (splitL c))) [] (0, 0, 0) = mrgK (filesF a b c) := rfl
    have hdoc : docF (splitL a, splitL b, splitL c) (mrgK (filesF a b c)) st (l1, l2, l3) v = (mrgD a b c st (l1, l2, l3) v, 0) := doc_mrg p3 p1
    have hpr := mrg_text hF
    have hok := hF.ok
    have hlen := hF.len
    have hsum := hF.sum
    have hdl := hF.dlen
    have hpL := hF.pr
    have hps := sum_okPt (Nat.le_trans hF.sump (by decide))
    have hcn := cnt_le (filesF a b c) (mrgK (filesF a b c))
    have p1 := prsF_len (splitL a) (splitL b)
    have p2 := prsF_len (splitL a) (splitL c)
    unfold mrgT
    unfold filesF at *
    generalize mrgD a b c st (l1, l2, l3) v = D at *
    generalize mrgW w a b c = W at *
    generalize hKe : mrgK (splitL a, splitL b, splitL c) = K at *
    generalize prsF (splitL a) (splitL b) = lp at *
    generalize prsF (splitL a) (splitL c) = rp at *
    generalize splitL a = x at *
    generalize splitL b = y at *
    generalize splitL c = z at *
    refine AW.of hΓ mixed [99999] _ _ _ rfl ?_
    simp only [go_sem, sCheckM, sSplit, sMatchM, sWidthD, sOfK, sDocB, sPrintM, sCountB, hfit, hK, hdoc, hpr]
    unfold lbN at hl
    exact ⟨⟨by omega, by omega, by omega, by omega, by omega⟩, ⟨⟨hok, by omega, hsum⟩, by unfold okLb; dsimp only at *; omega⟩, ⟨⟨by omega, hps⟩, fun _ => hpL⟩, ⟨hok, by omega⟩, rt_le (AVle.refl _) (AVle.refl _) (AVle.refl _) (AVle.refl _) rfl rfl rfl⟩
  · have e : mrgO a b c o = rt0 := by unfold mrgO; rw [if_neg he]
    rw [e]
    obtain ⟨⟨l1, l2, l3⟩, st, w, v⟩ := o
    refine AW.of hΓ mixed [0] _ _ _ rfl ?_
    simp only [go_sem, sCheckM, sSplit, sMatchM, sWidthD, sOfK, sDocB, sPrintM, sCountB]
    refine AW.still 7 0 0 40 6 _ rfl rfl (fun j hj => match j, hj with | 0, _ => rfl | 1, _ => rfl | 2, _ => rfl | 3, _ => rfl | 4, _ => rfl | 5, _ => rfl) ?_
    refine AW.of hΓ mixed [99999] _ _ _ rfl ?_
    simp only [go_sem, sCheckM, sSplit, sMatchM, sWidthD, sOfK, sDocB, sPrintM, sCountB, he]
    exact ⟨⟨by omega, by omega⟩, ⟨by omega, by omega⟩, fun h => absurd h (by omega), fun _ => ⟨hl, rt_le (em_sL _) (em_sL _) (em_sL _) (em_sL _) rfl rfl rfl⟩⟩
end Go.Proofs.YtjfmigpahglajaaGreatDoor
set_option linter.unusedSimpArgs false
set_option linter.unusedVariables false
set_option maxRecDepth 100000
namespace Go.Proofs.YtjfmigpahglajaaGreatDoor
open Go
theorem left_same (a b : BS) : cntF (filesF a a b) (mrgK (filesF a a b)) = 0 ∧ ∀ st lb v w, printL w (mrgD a a b st lb v) = b := by
  obtain ⟨h1, h2⟩ := left_clean (splitL a) (splitL b)
  exact ⟨none_cnt h1, fun st lb v w => by rw [mrg_clean h1]; rw [splitL_flat] at h2; exact h2⟩
theorem right_same (a b : BS) : cntF (filesF a b a) (mrgK (filesF a b a)) = 0 ∧ ∀ st lb v w, printL w (mrgD a b a st lb v) = b := by
  obtain ⟨h1, h2⟩ := right_clean (splitL a) (splitL b)
  exact ⟨none_cnt h1, fun st lb v w => by rw [mrg_clean h1]; rw [splitL_flat] at h2; exact h2⟩
theorem both_same (a b : BS) : cntF (filesF a b b) (mrgK (filesF a b b)) = 0 ∧ ∀ st lb v w, printL w (mrgD a b b st lb v) = b := by
  obtain ⟨h1, h2⟩ := both_clean (splitL a) (splitL b)
  exact ⟨none_cnt h1, fun st lb v w => by rw [mrg_clean h1]; rw [splitL_flat] at h2; exact h2⟩
theorem files_swap (a b c : BS) : filesF a c b = swapF (filesF a b c) := rfl
theorem mrg_swap (a b c : BS) : mrgK (filesF a c b) = (mrgK (filesF a b c)).map turnC ∧ cntF (filesF a c b) (mrgK (filesF a c b)) = cntF (filesF a b c) (mrgK (filesF a b c)) ∧
    (cntF (filesF a b c) (mrgK (filesF a b c)) = 0 → ∀ st lb v w st' lb' v' w', printL w' (mrgD a c b st' lb' v') = printL w (mrgD a b c st lb v)) := by
  have e := mrg_turn (filesF a b c)
  rw [← files_swap] at e
  have e2 : cntF (filesF a c b) (mrgK (filesF a c b)) = cntF (filesF a b c) (mrgK (filesF a b c)) := by
    rw [e, files_swap, cnt_turn]
  refine ⟨e, e2, fun h0 st lb v w st' lb' v' w' => ?_⟩
  rw [mrg_clean (cnt_none h0), mrg_clean (cnt_none (by rw [e2]; exact h0)), files_swap]
  exact fav_turn (cnt_none h0)
end Go.Proofs.YtjfmigpahglajaaGreatDoor
set_option linter.unusedSimpArgs false
set_option linter.unusedVariables false
set_option maxRecDepth 100000
set_option maxHeartbeats 4000000
namespace Go.Proofs.YtjfmigpahglajaaGreatDoor
open Go
attribute [local irreducible] AW AVle ASle RowLe
abbrev Hw := Int × Int × Int × BS × BS × BS
abbrev eHw : El Hw := eP eI (eP eI (eP eI (eP eS (eP eS eS))))
def rchH (h : Hw) : Prop := h.2.2.2.1.length ≤ 140737488351232 ∧ h.2.2.2.2.1.length ≤ 140737488351232 ∧ h.2.2.2.2.2.length ≤ 140737488351232
def fewH (h : Hw) : Bool := decide (h.2.2.2.1.length + h.2.2.2.2.1.length + h.2.2.2.2.2.length ≤ 500)
def sShortM : Spec := Spec.f1 kS (fun _ => True) (fun s => kS.enc (s.take 250))
theorem okShortM : SpecOK Tryz.prog 15 sShortM := by
  refine SpecOK.f1 Tryz.func15 rfl (by decide) Tryz.results15 Tryz.ntmps15 (by decide) fun s _ => ?_
  have hΓ : GOK Tryz.prog (gam []) := GOK.nil
  refine AW.of hΓ mixed [] _ _ _ rfl ?_
  simp only [go_sem]
  have e : (min (s.length : Int) 250).toNat = min s.length 250 := by omega
  refine ⟨⟨by omega, by omega⟩, ?_⟩
  rw [e, List.take_eq_take_iff]
  omega
def labH (h : Hw) : Pt := (h.2.2.2.1, h.2.2.2.2.1, h.2.2.2.2.2, false, [], [], [], [], false)
theorem op_le {c : Nat → AV} {l1 l2 l3 : BS} {a b d : Int} (h0 : c 0 = .st l1) (h1 : c 1 = .st l2) (h2 : c 2 = .st l3) (h3 : c 3 = .val (.int .i64 a)) (h4 : c 4 = .val (.int .i64 b)) (h5 : c 5 = .val (.int .i64 d)) : AVle (.ag 6 c) (.ag 6 (eOp.enc ((l1, l2, l3), a, b, d))) :=
  AVle.ag fun j hj => AVle.of_eq (match j, hj with
    | 0, _ => h0
    | 1, _ => h1
    | 2, _ => h2
    | 3, _ => h3
    | 4, _ => h4
    | 5, _ => h5)
def sLabM : Spec := Spec.f1 (kA eHw) (fun _ => True) (fun h => (kA ePt).enc (labH h))
theorem okLabM : SpecOK Tryz.prog 19 sLabM := by
  refine SpecOK.f1 Tryz.func19 rfl (by decide) Tryz.results19 Tryz.ntmps19 (by decide) fun h _ => ?_
  have hΓ : GOK Tryz.prog (gam []) := GOK.nil
  obtain ⟨st, w, v, l1, l2, l3⟩ := h
  refine AW.of hΓ mixed [] _ _ _ rfl ?_
  simp only [go_sem]
  exact pt_le rfl rfl rfl rfl rfl rfl rfl rfl rfl
def sCleanM : Spec := Spec.f1 (kA eRt) (fun _ => True) (fun r => kB.enc (decide (r.2.2.2.2.2.2 = 0)))
theorem okCleanM : SpecOK Tryz.prog 26 sCleanM := by
  refine SpecOK.f1 Tryz.func26 rfl (by decide) Tryz.results26 Tryz.ntmps26 (by decide) fun r _ => ?_
  have hΓ : GOK Tryz.prog (gam []) := GOK.nil
  obtain ⟨d, l, r, k, t, w, n⟩ := r
  refine AW.of hΓ mixed [] _ _ _ rfl ?_
  simp only [go_sem]
def sDefaultM : Spec := Spec.f0 ((kA eOp).enc (([], [], []), 0, 7, 0))
theorem okDefaultM : SpecOK Tryz.prog 49 sDefaultM := by
  refine SpecOK.f0 Tryz.func49 rfl (by decide) Tryz.results49 Tryz.ntmps49 ?_
  have hΓ : GOK Tryz.prog (gam []) := GOK.nil
  refine AW.of hΓ mixed [] _ _ _ rfl ?_
  simp only [go_sem]
  exact op_le rfl rfl rfl rfl rfl rfl
def bareB (s : BS) : BS := s.takeWhile fun c => !(c == 10)
theorem bare_at : ∀ (s : BS) (i : Nat), i ≤ s.length → (∀ k, k < i → s.getD k 0 ≠ 10) → (i < s.length → s.getD i 0 = 10) → bareB s = s.take i
  | [], i, h, _, _ => by simp [bareB]
  | c :: s, 0, _, _, h => by
    have h : c = 10 := by simpa using h (by simp)
    simp [bareB, h]
  | c :: s, i + 1, h, h1, h2 => by
    have h0 : c ≠ 10 := by simpa using h1 0 (by omega)
    have ih := bare_at s i (by simpa using h) (fun k hk => by simpa using h1 (k + 1) (by omega)) (fun hk => by simpa using h2 (by simpa using hk))
    unfold bareB at ih ⊢
    rw [List.takeWhile_cons, if_pos (by simpa using h0), ih, List.take_succ_cons]
theorem bare_plain (s : BS) : plainB (bareB s) = true := by
  unfold plainB bareB
  rw [decide_eq_true_eq]
  intro h
  have := List.all_eq_true.1 (List.all_takeWhile (p := fun c : UInt8 => !(c == 10)) (l := s)) 10 h
  simp at this
theorem bare_len (s : BS) : (bareB s).length ≤ s.length := by
  unfold bareB
  exact (List.takeWhile_sublist _).length_le
def sBareM : Spec := Spec.f1 kS (fun s => s.length ≤ 100000000000) (fun s => kS.enc (bareB s))
theorem okBareM : SpecOK Tryz.prog 63 sBareM := by
  refine SpecOK.f1 Tryz.func63 rfl (by decide) Tryz.results63 Tryz.ntmps63 (by decide) fun s hs => ?_
  have hΓ : GOK Tryz.prog (gam []) := GOK.nil
  refine AW.of hΓ mixed [] _ _ _ rfl ?_
  simp only [go_sem]
  refine AW.round (α := { i : Nat // i ≤ s.length ∧ ∀ k, k < i → s.getD k 0 ≠ 10 }) (fun x => ⟨[(0, .st s), (2, .st []), (3, .val (.int .i64 x.1))], [], 18, 0, 0, []⟩) (fun x => s.length - x.1) ⟨0, Nat.zero_le _, fun k hk => absurd hk (Nat.not_lt_zero _)⟩ ?_ ?_
  · simp only [go_sem]
  · rintro ⟨i, hi, hk⟩
    refine AW.of hΓ mixed [99999] _ _ _ rfl ?_
    simp only [go_sem]
    refine ⟨fun hlt => ⟨⟨by omega, by omega⟩, fun h => ⟨⟨by omega, by omega⟩, (bare_at s i hi hk fun _ => h).symm⟩, fun h => ⟨⟨by omega, by omega⟩, ⟨i + 1, by omega, fun k hk2 => ?_⟩, by dsimp only; omega, by dsimp only; omega⟩⟩, fun hge => ?_⟩
    · rcases Nat.lt_or_ge k i with g | g
      · exact hk k g
      · obtain rfl : k = i := by omega
        exact h
    · rw [bare_at s i hi hk (fun h => absurd h (by omega)), List.take_of_length_le (by omega)]
def u64r (n m : Int) : Int := (IntKind.u64.wrap n).tmod m
theorem u64r_in (n : Int) {m : Int} (h : 0 < m) : 0 ≤ u64r n m ∧ u64r n m < m := by
  unfold u64r
  have h1 : 0 ≤ IntKind.u64.wrap n := by rw [IntKind.wrap_u64]; omega
  rw [Int.tmod_eq_emod_of_nonneg h1]
  exact ⟨Int.emod_nonneg _ (by omega), Int.emod_lt_of_pos _ h⟩
def OptH (h : Hw) : Op := ((bareB h.2.2.2.1, bareB h.2.2.2.2.1, bareB h.2.2.2.2.2), u64r h.1 3, 7 + u64r h.2.1 58, 0)
def sOPTM : Spec := Spec.f1 (kA eHw) (fun h => h.2.2.2.1.length ≤ 100000000000 ∧ h.2.2.2.2.1.length ≤ 100000000000 ∧ h.2.2.2.2.2.length ≤ 100000000000) (fun h => (kA eOp).enc (OptH h))
theorem okOPTM : SpecOK Tryz.prog 27 sOPTM := by
  refine SpecOK.f1 Tryz.func27 rfl (by decide) Tryz.results27 Tryz.ntmps27 (by decide) fun h hh => ?_
  have hΓ : GOK Tryz.prog (gam [(19, sLabM), (63, sBareM)]) := (.cons okLabM (.cons okBareM .nil))
  obtain ⟨st, w, v, l1, l2, l3⟩ := h
  obtain ⟨h1, h2, h3⟩ := hh
  dsimp only at h1 h2 h3
  refine AW.of hΓ mixed [0, 200002] _ _ _ rfl ?_
  simp only [go_sem, sLabM, sBareM]
  refine AW.still 1 0 0 24 6 _ rfl rfl (fun j hj => match j, hj with | 0, _ => rfl | 1, _ => rfl | 2, _ => rfl | 3, _ => rfl | 4, _ => rfl | 5, _ => rfl) ?_
  refine AW.of hΓ mixed [1, 200002] _ _ _ rfl ?_
  simp only [go_sem, sLabM, sBareM]
  refine AW.fork ?_
  refine AW.drawZ hΓ mixed 9 [9, 11, 13] [9, 11, 13] [] (by decide +kernel) ?_
  simp only [go_sem, sLabM, sBareM, keeps_sL]
  refine ⟨h1, h2, h3, ?_⟩
  refine AW.cut ⟨[(1, .ps 6 (eHw.enc (st, w, v, l1, l2, l3))), (2, .pt 1 1 0), (3, .pt 2 2 0)], [(1, .box 1 40 6 (eOp.enc (([], [], []), 0, 0, 0))), (2, .box 2 44 9 (ePt.enc (bareB l1, bareB l2, bareB l3, false, [], [], [], [], false)))], 37, 3, 3, []⟩ ?_ ?_
  · simp only [go_sem, sLabM, sBareM]
    exact ⟨RowLe.box fun j hj => AVle.of_eq (match j, hj with | 0, _ => rfl | 1, _ => rfl | 2, _ => rfl | 3, _ => rfl | 4, _ => rfl | 5, _ => rfl), pt_box rfl rfl rfl rfl rfl rfl rfl rfl rfl⟩
  refine AW.of hΓ mixed [99999] _ _ _ rfl ?_
  simp only [go_sem, sLabM, sBareM]
  have g1 : 0 ≤ (IntKind.u64.wrap st).tmod 3 ∧ (IntKind.u64.wrap st).tmod 3 < 3 := u64r_in st (by decide)
  have g2 : 0 ≤ (IntKind.u64.wrap w).tmod 58 ∧ (IntKind.u64.wrap w).tmod 58 < 58 := u64r_in w (by decide)
  exact ⟨⟨by omega, by omega⟩, ⟨by omega, by omega⟩, ⟨by omega, by omega⟩, op_le rfl rfl rfl rfl rfl rfl⟩
theorem OptH_ok (h : Hw) (h1 : fewH h = true) : wrgM (OptH h) = 0 ∧ lbN (OptH h).1 ≤ 500 := by
  have g1 := u64r_in h.1 (m := 3) (by decide)
  have g2 := u64r_in h.2.1 (m := 58) (by decide)
  constructor
  · unfold wrgM OptH
    dsimp only
    rw [if_neg, if_neg (by omega), if_neg]
    · have e : styOK (u64r h.1 3) = true := by
        unfold styOK
        simp only [Bool.or_eq_true, decide_eq_true_eq]
        omega
      rw [e]
      decide
    · unfold plainLb
      rw [bare_plain, bare_plain, bare_plain]
      simp
  · unfold fewH at h1
    have h1 := of_decide_eq_true h1
    have b1 := bare_len h.2.2.2.1
    have b2 := bare_len h.2.2.2.2.1
    have b3 := bare_len h.2.2.2.2.2
    unfold lbN OptH
    dsimp only
    omega
end Go.Proofs.YtjfmigpahglajaaGreatDoor
set_option linter.unusedSimpArgs false
set_option linter.unusedVariables false
set_option maxRecDepth 100000
set_option maxHeartbeats 8000000
namespace Go.Proofs.YtjfmigpahglajaaGreatDoor
open Go
attribute [local irreducible] AW AVle ASle RowLe
theorem short_M {a b c : BS} (ha : a.length ≤ 250) (hb : b.length ≤ 250) (hc : c.length ≤ 250) : okM a b c := ⟨by omega, by omega, by omega, .inl (Nat.le_trans (splitL_len a) (by omega))⟩
end Go.Proofs.YtjfmigpahglajaaGreatDoor
set_option linter.unusedSimpArgs false
set_option linter.unusedVariables false
set_option maxRecDepth 100000
set_option maxHeartbeats 8000000
namespace Go.Proofs.YtjfmigpahglajaaGreatDoor
open Go
attribute [local irreducible] AW AVle ASle RowLe
theorem O_eq {a b c : BS} {o : Op} (he : wrgM o = 0) : mrgO a b c o = mrgT a b c o.2.2.1 o.2.1 o.1 o.2.2.2 := by unfold mrgO; rw [if_pos he]
theorem left_O (a b : BS) {o : Op} (he : wrgM o = 0) : ∃ D l r W, mrgO a a b o = (D, l, r, mrgK (filesF a a b), b, W, 0) := by
  rw [O_eq he]
  unfold mrgT
  obtain ⟨h1, h2⟩ := left_same a b
  rw [h1, h2]
  exact ⟨_, _, _, _, rfl⟩
theorem right_O (a b : BS) {o : Op} (he : wrgM o = 0) : ∃ D l r W, mrgO a b a o = (D, l, r, mrgK (filesF a b a), b, W, 0) := by
  rw [O_eq he]
  unfold mrgT
  obtain ⟨h1, h2⟩ := right_same a b
  rw [h1, h2]
  exact ⟨_, _, _, _, rfl⟩
theorem both_O (a b : BS) {o : Op} (he : wrgM o = 0) : ∃ D l r W, mrgO a b b o = (D, l, r, mrgK (filesF a b b), b, W, 0) := by
  rw [O_eq he]
  unfold mrgT
  obtain ⟨h1, h2⟩ := both_same a b
  rw [h1, h2]
  exact ⟨_, _, _, _, rfl⟩
theorem few_opt {h : Hw} (hf : fewH h = true) : ∃ m1 m2 m3 s u, OptH h = ((m1, m2, m3), s, u, 0) ∧ wrgM ((m1, m2, m3), s, u, 0) = 0 ∧ lbN (m1, m2, m3) ≤ 500 ∧ (h.2.2.2.1.length ≤ 100000000000 ∧ h.2.2.2.2.1.length ≤ 100000000000 ∧ h.2.2.2.2.2.length ≤ 100000000000) := by
  obtain ⟨h1, h2⟩ := OptH_ok h hf
  have hf := of_decide_eq_true hf
  exact ⟨_, _, _, _, _, rfl, h1, h2, by omega, by omega, by omega⟩
end Go.Proofs.YtjfmigpahglajaaGreatDoor
set_option linter.unusedSimpArgs false
set_option linter.unusedVariables false
set_option maxRecDepth 100000
set_option maxHeartbeats 2000000
namespace Go.Proofs.YtjfmigpahglajaaGreatDoor
open Go
abbrev Rs := BS × Nat × Nat × Int × Pt × List Pt
def rdC (x : Rs) (r u : Nat) : Nat → AV := fun j => if j = 0 then .st x.1 else if j = 1 then .val (.int .i64 x.2.1) else if j = 2 then .val (.int .i64 x.2.2.1) else if j = 3 then .val (.int .u8 x.2.2.2.1) else if j < 13 then ePt.enc x.2.2.2.2.1 (j - 4) else .ow r u x.2.2.2.2.2.length
section
variable (x : Rs) (r u : Nat)
@[go_sem] theorem rdC0 : rdC x r u 0 = .st x.1 := rfl
@[go_sem] theorem rdC1 : rdC x r u 1 = .val (.int .i64 x.2.1) := rfl
@[go_sem] theorem rdC2 : rdC x r u 2 = .val (.int .i64 x.2.2.1) := rfl
@[go_sem] theorem rdC3 : rdC x r u 3 = .val (.int .u8 x.2.2.2.1) := rfl
@[go_sem] theorem rdC13 : rdC x r u 13 = .ow r u x.2.2.2.2.2.length := rfl
@[go_sem] theorem rdC4 : rdC x r u 4 = .st x.2.2.2.2.1.1 := rfl
@[go_sem] theorem rdC5 : rdC x r u 5 = .st x.2.2.2.2.1.2.1 := rfl
@[go_sem] theorem rdC6 : rdC x r u 6 = .st x.2.2.2.2.1.2.2.1 := rfl
@[go_sem] theorem rdC7 : rdC x r u 7 = .val (.bool x.2.2.2.2.1.2.2.2.1) := rfl
@[go_sem] theorem rdC8 : rdC x r u 8 = .st x.2.2.2.2.1.2.2.2.2.1 := rfl
@[go_sem] theorem rdC9 : rdC x r u 9 = .st x.2.2.2.2.1.2.2.2.2.2.1 := rfl
@[go_sem] theorem rdC10 : rdC x r u 10 = .st x.2.2.2.2.1.2.2.2.2.2.2.1 := rfl
@[go_sem] theorem rdC11 : rdC x r u 11 = .st x.2.2.2.2.1.2.2.2.2.2.2.2.1 := rfl
@[go_sem] theorem rdC12 : rdC x r u 12 = .val (.bool x.2.2.2.2.1.2.2.2.2.2.2.2.2) := rfl
@[go_sem] theorem rdCc (j : Nat) (h : j < 9) : rdC x r u (4 + j) = ePt.enc x.2.2.2.2.1 j := by
  unfold rdC
  rw [if_neg (by omega), if_neg (by omega), if_neg (by omega), if_neg (by omega), if_pos (by omega), Nat.add_sub_cancel_left]
end
theorem rd_row {v : Nat} {t : TypeId} {c : Nat → AV} {x : Rs} {r u : Nat} (h0 : c 0 = rdC x r u 0) (h1 : c 1 = rdC x r u 1) (h2 : c 2 = rdC x r u 2) (h3 : c 3 = rdC x r u 3) (h4 : c 4 = rdC x r u 4) (h5 : c 5 = rdC x r u 5) (h6 : c 6 = rdC x r u 6) (h7 : c 7 = rdC x r u 7)
    (h8 : c 8 = rdC x r u 8) (h9 : c 9 = rdC x r u 9) (h10 : c 10 = rdC x r u 10) (h11 : c 11 = rdC x r u 11) (h12 : c 12 = rdC x r u 12) (h13 : c 13 = rdC x r u 13) : RowLe (.box v t 14 c) (.box v t 14 (rdC x r u)) := RowLe.box fun j hj => AVle.of_eq (match j, hj with
  | 0, _ => h0
  | 1, _ => h1
  | 2, _ => h2
  | 3, _ => h3
  | 4, _ => h4
  | 5, _ => h5
  | 6, _ => h6
  | 7, _ => h7
  | 8, _ => h8
  | 9, _ => h9
  | 10, _ => h10
  | 11, _ => h11
  | 12, _ => h12
  | 13, _ => h13)
theorem rowP_le {u n : Nat} {t : TypeId} {l : List Pt} (h : l.length = n) : RowLe (.sl u t 9 l.length fun i => ePt.enc (l.getD i ePt.dflt)) (.sl u t 9 n fun i => ePt.enc (l.getD i ePt.dflt)) := by
  subst h
  exact RowLe.refl _
theorem rd_le (x : Rs) (v r r' u : Nat) : RowLe (.box v 122 14 (rdC x r u)) (.box v 122 14 (rdC x r' u)) := RowLe.box fun j hj => by
  by_cases h : j < 13
  · refine AVle.of_eq ?_
    unfold rdC
    simp only [h, if_true]
  · obtain rfl : j = 13 := by omega
    exact AVle.ow
def sRd (R : List AV → Rs → AV → Rs → Prop) : MSpec := fun args hp top nx K => ∃ (v u : Nat) (xs : List AV) (a : Rs) (r : AV) (b : Rs), args = .pt 0 v 0 :: xs ∧ R xs a r b ∧
  hp = rws [(0, .box v 122 14 (rdC a 1 u)), (1, rowL u 112 ePt a.2.2.2.2.2)] ∧ top = 2 ∧
  ∀ u' nx', (u' = u ∨ nx ≤ u') → nx ≤ nx' → K r (rws [(0, .box v 122 14 (rdC b 1 u')), (1, rowL u' 112 ePt b.2.2.2.2.2)]) 2 nx'
theorem rd_go {R : List AV → Rs → AV → Rs → Prop} {xs : List AV} {a b : Rs} {z : AV} {p q v u : Nat} {hp : Nat → Row} {top nx : Nat} {K : AV → (Nat → Row) → Nat → Nat → Prop} (hd : R xs a z b) (hpq : p ≠ q)
    (hr : RowLe (hp p) (.box v 122 14 (rdC a q u))) (hr2 : RowLe (hp q) (rowL u 112 ePt a.2.2.2.2.2)) (ht : p < top ∧ q < top)
    (hK : ∀ u' nx', (u' = u ∨ nx ≤ u') → nx ≤ nx' → K z (updR (updR hp p (.box v 122 14 (rdC b q u'))) q (rowL u' 112 ePt b.2.2.2.2.2)) top nx') :
    framed (sRd R) (.pt p v 0 :: xs) hp top nx K := by
  have e1 : (hp p).ver = some v := hr.vers.symm
  have e2 : (hp q).ver = some u := hr2.vers.symm
  refine ⟨[p, q], .pt 0 v 0 :: xs, rws [(0, .box v 122 14 (rdC a 1 u)), (1, rowL u 112 ePt a.2.2.2.2.2)], by simp [hpq], by simp; omega, .cons AVle.pt (All2.same xs), rows_2 (hr.trans (rd_le a v q 1 u)) hr2, fun i hi => rws_top (top := 2) (by simp) i (by simpa using hi), v, u, xs, a, z, b, rfl, hd, rfl, rfl, fun u' nx' h1 h3 => ?_⟩
  refine ⟨_, _, AVle.refl _, fun i o ho => ?_, fun o ho => ?_, fun o ho w hv => ?_, hK u' nx' h1 h3⟩
  · match i with
    | 0 =>
      simp only [List.getElem?_cons_zero, Option.some.injEq] at ho
      subst ho
      rw [updR_ne _ _ hpq, updR_at]
      exact rd_le b v 1 q u'
    | 1 =>
      simp only [List.getElem?_cons_succ, List.getElem?_cons_zero, Option.some.injEq] at ho
      subst ho
      rw [updR_at]
      exact RowLe.refl _
    | i + 2 => simp at ho
  · simp only [List.mem_cons, List.not_mem_nil, or_false, not_or] at ho
    rw [updR_ne _ _ ho.2, updR_ne _ _ ho.1]
  · simp only [List.mem_cons, List.not_mem_nil, or_false] at ho
    rcases ho with rfl | rfl
    · rw [updR_ne _ _ hpq, updR_at] at hv
      have : some v = some w := hv
      obtain rfl := Option.some.inj this
      exact .inl e1
    · rw [updR_at] at hv
      have : some u' = some w := hv
      obtain rfl := Option.some.inj this
      rcases h1 with rfl | h1
      · exact .inl e2
      · exact .inr h1
attribute [local irreducible] AW AVle ASle RowLe
def sFollowsR : Spec := Spec.f2 kU kU (fun _ _ => True) (fun a k => kB.enc (followsI a k))
theorem okFollowsR : SpecOK Tryz.prog 115 sFollowsR := by
  refine SpecOK.f2 Tryz.func115 rfl (by decide) Tryz.results115 Tryz.ntmps115 (by decide) fun a k _ => ?_
  have hΓ : GOK Tryz.prog (gam []) := GOK.nil
  by_cases h1 : k = 60
  · subst h1
    refine AW.of hΓ mixed [] _ _ _ rfl ?_
    simp only [go_sem]
    rfl
  by_cases h2 : k = 124
  · subst h2
    refine AW.of hΓ mixed [] _ _ _ rfl ?_
    simp only [go_sem]
    rfl
  by_cases h3 : k = 61
  · subst h3
    refine AW.of hΓ mixed [] _ _ _ rfl ?_
    simp only [go_sem]
    exact ⟨fun h => by rw [decide_eq_false h]; rfl, rfl⟩
  · refine AW.of hΓ mixed [] _ _ _ rfl ?_
    simp only [go_sem, h1, h2, h3]
    simp [followsI, h1, h2, h3]
def sTrimL : Spec := Spec.f2 kS kS (fun a b => a.length ≤ 100000000000 ∧ b = [10]) (fun a _ => kS.enc (cutE a))
theorem okTrimL : SpecOK Tryz.prog 146 sTrimL := by
  refine SpecOK.f2 Tryz.func146 rfl (by decide) Tryz.results146 Tryz.ntmps146 (by decide) fun a b ⟨ha, h⟩ => ?_
  have hΓ : GOK Tryz.prog (gam [(147, sHasSufL)]) := (.cons okHasSufL .nil)
  subst h
  unfold cutE
  refine AW.of hΓ mixed [] _ _ _ rfl ?_
  simp only [go_sem, sHasSufL]
  have hp : endsL a = true → 0 < a.length := fun h => by
    cases a with
    | nil => cases h
    | cons _ _ => simp
  refine ⟨ha, fun h => ?_, fun h => ?_⟩
  · have := hp h
    refine ⟨by omega, by omega, ?_⟩
    rw [if_pos h]
    congr 1
    omega
  · rw [if_neg (by simp [h])]
def sTrimS : Spec := Spec.f2 kS kS (fun a b => a.length ≤ 100000000000 ∧ b = [10]) (fun a _ => kS.enc (cutE a))
theorem okTrimS : SpecOK Tryz.prog 116 sTrimS := by
  refine SpecOK.f2 Tryz.func116 rfl (by decide) Tryz.results116 Tryz.ntmps116 (by decide) fun a b ⟨ha, h⟩ => ?_
  have hΓ : GOK Tryz.prog (gam [(146, sTrimL)]) := (.cons okTrimL .nil)
  subst h
  refine AW.of hΓ mixed [] _ _ _ rfl ?_
  simp only [go_sem, sTrimL]
  exact ha
def nowR (a : Rs) : BS := (a.1.take a.2.2.1).drop a.2.1
def goodR (a : Rs) : Prop := a.2.1 ≤ a.2.2.1 ∧ a.2.2.1 ≤ a.1.length ∧ a.1.length ≤ 100000000 ∧ a.2.2.2.2.2.length < 1000000000
def withPs (a : Rs) (ps : List Pt) : Rs := (a.1, a.2.1, a.2.2.1, a.2.2.2.1, a.2.2.2.2.1, ps)
def sPutT0 : MSpec := sRd fun xs a r b => xs = [] ∧ r = .val (.tuple #[]) ∧ goodR a ∧ b = withPs a (a.2.2.2.2.2 ++ [textP (nowR a)])
theorem okPutT0 : MethOK Tryz.prog 66 sPutT0 := by
  refine MethOK.mk Tryz.func66 rfl (by decide) Tryz.results66 Tryz.ntmps66 ?_
  rintro args hp top nx K ⟨v, u, xs, a, r, b, rfl, ⟨rfl, rfl, ⟨g1, g2, g3, g4⟩, rfl⟩, rfl, rfl, hK⟩
  have hΓ : GOK Tryz.prog (gam []) := GOK.nil
  refine ⟨Nat.le_of_ble_eq_true rfl, AW.late ?_⟩
  refine AW.of hΓ mixed [200000] _ _ _ rfl ?_
  simp only [go_sem]
  refine AW.drawT hΓ mixed 20 [] (by decide +kernel) ?_
  simp only [go_sem]
  refine ⟨⟨by omega, by omega, by omega⟩, by omega, _, toFitsV (fun p => p) (l := []) (r := [(0, .box v 122 14 (rdC (withPs a (a.2.2.2.2.2 ++ [textP (nowR a)])) 1 nx)), (1, rowL nx 112 ePt (a.2.2.2.2.2 ++ [textP (nowR a)]))]) (sz := 25) (top := 2) (nx := nx + 1) (df := []) ?_, ?_⟩
  · simp only [go_sem]
    refine ⟨rd_row rfl rfl rfl rfl rfl rfl rfl rfl rfl rfl rfl rfl rfl ?_, ?_⟩
    · exact congrArg (AV.ow 1 nx) (by simp [withPs])
    · refine row_app1 (E := ePt) rfl rfl rfl rfl (by simp) fun j hj => ?_
      match j, hj with
      | 0, _ => exact AVle.refl _
      | 1, _ => exact AVle.refl _
      | 2, _ => exact AVle.refl _
      | 3, _ => exact AVle.refl _
      | 4, _ => exact AVle.refl _
      | 5, _ => exact AVle.refl _
      | 6, _ => exact AVle.refl _
      | 7, _ => exact AVle.refl _
      | 8, _ => exact AVle.refl _
  · exact ⟨rfl, hK nx (nx + 1) (.inr (Nat.le_refl _)) (by omega)⟩
def sPutT : MSpec := framed sPutT0
theorem okPutT : MethOK Tryz.prog 66 sPutT := okPutT0.frame
def sPutR0 : MSpec := sRd fun xs a r b => ∃ (m : Mk) (sd : BS), xs = [(kA eMk).enc m, .st sd] ∧ r = .val (.tuple #[]) ∧ goodR a ∧ signI m.1 ∧ b = (a.1, a.2.1, a.2.2.1, a.2.2.2.1, putC a.2.2.2.1 m sd a.2.2.2.2.1, putLs a.2.2.2.1 m (nowR a) sd a.2.2.2.2.1 a.2.2.2.2.2)
theorem okPutR0 : MethOK Tryz.prog 118 sPutR0 := by
  refine MethOK.mk Tryz.func118 rfl (by decide) Tryz.results118 Tryz.ntmps118 ?_
  rintro args hp top nx K ⟨v, u, xs, a, r, b, rfl, ⟨m, sd, rfl, rfl, ⟨g1, g2, g3, g4⟩, hsg, rfl⟩, rfl, rfl, hK⟩
  have hΓ : GOK Tryz.prog (gam [(66, sPutT)]) := (.cons okPutT .nil)
  refine ⟨Nat.le_of_ble_eq_true rfl, AW.late ?_⟩
  obtain ⟨s, fr, at_, af, c, ps⟩ := a
  obtain ⟨k, f, lab⟩ := m
  simp only at g1 g2 g3 g4 hsg hK
  refine AW.of hΓ mixed [0, 200014, 200017] _ _ _ rfl ?_
  simp only [go_sem, sPutT]
  refine AW.cut ⟨[(0, .pt 0 v 0), (2, .st sd), (4, .pt 2 nx 0)], [(0, .box v 122 14 (rdC (s, fr, at_, af, c, ps) 1 u)), (1, rowL u 112 ePt ps), (2, .box nx 118 3 (eMk.enc (k, f, lab)))], 83, 3, nx + 1, []⟩ ?_ ?_
  · simp only [go_sem, sPutT]
    exact ⟨RowLe.refl _, RowLe.refl _, RowLe.refl _⟩
  refine AW.still 4 2 nx 118 3 _ rfl rfl (fun j hj => match j, hj with | 0, _ => rfl | 1, _ => rfl | 2, _ => rfl) ?_
  refine AW.seqTo (fun _ : Unit => Sh.st ⟨[(0, .pt 0 v 0), (2, .st sd), (4, .ps 3 (eMk.enc (k, f, lab)))], [(0, .box v 122 14 (rdC (s, fr, at_, af, putS af sd c, ps) 1 u)), (1, rowL u 112 ePt ps)], 83, 3, nx + 1, []⟩) ?_ fun _ => ?_
  · by_cases h1 : af = 60
    · subst h1
      refine AW.of hΓ mixed [200014, 200017] _ _ _ rfl ?_
      simp only [go_sem, sPutT]
      refine ⟨(), toFitsV (fun p => p) ?_⟩
      simp only [go_sem, sPutT]
      exact ⟨rd_row rfl rfl rfl rfl rfl rfl rfl rfl rfl rfl rfl rfl rfl rfl, RowLe.refl _⟩
    by_cases h2 : af = 124
    · subst h2
      refine AW.of hΓ mixed [200014, 200017] _ _ _ rfl ?_
      simp only [go_sem, sPutT]
      refine ⟨(), toFitsV (fun p => p) ?_⟩
      simp only [go_sem, sPutT]
      exact ⟨rd_row rfl rfl rfl rfl rfl rfl rfl rfl rfl rfl rfl rfl rfl rfl, RowLe.refl _⟩
    by_cases h3 : af = 61
    · subst h3
      refine AW.of hΓ mixed [200014, 200017] _ _ _ rfl ?_
      simp only [go_sem, sPutT]
      refine ⟨(), toFitsV (fun p => p) ?_⟩
      simp only [go_sem, sPutT]
      exact ⟨rd_row rfl rfl rfl rfl rfl rfl rfl rfl rfl rfl rfl rfl rfl rfl, RowLe.refl _⟩
    · refine AW.of hΓ mixed [200014, 200017] _ _ _ rfl ?_
      simp only [go_sem, sPutT, h1, h2, h3]
      refine ⟨(), toFitsV (fun p => p) ?_⟩
      have e : putS af sd c = c := by
        unfold putS
        rw [if_neg h1, if_neg h2, if_neg h3]
      simp only [go_sem, sPutT, e]
      exact ⟨RowLe.refl _, RowLe.refl _⟩
  have hpc : putC af (k, f, lab) sd c = if k = 60 then (lab, [], [], true, [], [], [], [], false) else if k = 124 then setBL (putS af sd c) lab else if k = 62 then setRL (putS af sd c) lab else putS af sd c := rfl
  have hpl : putLs af (k, f, lab) (nowR (s, fr, at_, af, c, ps)) sd c ps = if k = 60 then ps ++ [textP ((s.take at_).drop fr)] else if k = 62 then ps ++ [putC af (k, f, lab) sd c] else ps := rfl
  rw [hpl, hpc] at hK
  generalize putS af sd c = d at *
  rcases hsg with rfl | rfl | rfl | rfl
  · rw [if_pos rfl, if_pos rfl] at hK
    refine AW.of hΓ mixed [200014, 200017] _ _ _ rfl ?_
    simp only [go_sem, sPutT]
    refine rd_go (a := (s, fr, at_, af, d, ps)) ⟨rfl, rfl, ⟨g1, g2, g3, g4⟩, rfl⟩ (by decide) (RowLe.refl _) (RowLe.refl _) (by decide) fun u1 n1 q1 h1 => ?_
    simp only [go_sem, sPutT]
    refine ⟨_, toFitsV (fun p => p) (l := []) (r := [(0, .box v 122 14 (rdC (s, fr, at_, af, (lab, [], [], true, [], [], [], [], false), ps ++ [textP ((s.take at_).drop fr)]) 1 u1)), (1, rowL u1 112 ePt (ps ++ [textP ((s.take at_).drop fr)]))]) (sz := 83) (top := 2) (nx := n1) (df := []) ?_, ?_⟩
    · simp only [go_sem, sPutT]
      exact ⟨rd_row rfl rfl rfl rfl rfl rfl rfl rfl rfl rfl rfl rfl rfl (congrArg (AV.ow 1 u1) (by simp [withPs])), rowP_le (by simp [withPs])⟩
    · exact ⟨rfl, hK u1 n1 (by omega) (by omega)⟩
  · rw [if_neg (by decide), if_pos rfl, if_neg (by decide), if_neg (by decide)] at hK
    refine AW.of hΓ mixed [200014, 200017] _ _ _ rfl ?_
    simp only [go_sem, sPutT]
    refine AW.drawZ hΓ mixed 7 [8, 9, 10, 11] [2, 3, 8, 9, 10, 11] [] (by decide +kernel) ?_
    simp only [go_sem, sPutT]
    refine ⟨_, toFitsV (fun p => p) (l := []) (r := [(0, .box v 122 14 (rdC (s, fr, at_, af, setBL d lab, ps) 1 u)), (1, rowL u 112 ePt (ps))]) (sz := 83) (top := 2) (nx := nx + 1) (df := []) ?_, ?_⟩
    · simp only [go_sem, sPutT]
      exact ⟨rd_row rfl rfl rfl rfl rfl rfl rfl rfl rfl rfl rfl rfl rfl rfl, RowLe.refl _⟩
    · exact ⟨rfl, hK u (nx + 1) (.inl rfl) (by omega)⟩
  · rw [if_neg (by decide), if_neg (by decide), if_neg (by decide), if_neg (by decide), if_neg (by decide)] at hK
    refine AW.of hΓ mixed [200014, 200017] _ _ _ rfl ?_
    simp only [go_sem, sPutT]
    refine ⟨_, toFitsV (fun p => p) (l := []) (r := [(0, .box v 122 14 (rdC (s, fr, at_, af, d, ps) 1 u)), (1, rowL u 112 ePt (ps))]) (sz := 83) (top := 2) (nx := nx + 1) (df := []) ?_, ?_⟩
    · simp only [go_sem, sPutT]
      exact ⟨RowLe.refl _, RowLe.refl _⟩
    · exact ⟨rfl, hK u (nx + 1) (.inl rfl) (by omega)⟩
  · rw [if_neg (by decide), if_neg (by decide), if_pos rfl, if_neg (by decide), if_pos rfl] at hK
    refine AW.of hΓ mixed [200014, 200017] _ _ _ rfl ?_
    simp only [go_sem, sPutT]
    refine AW.drawT hΓ mixed 10 [] (by decide +kernel) ?_
    simp only [go_sem, sPutT]
    refine ⟨by omega, _, toFitsV (fun p => p) (l := []) (r := [(0, .box v 122 14 (rdC (s, fr, at_, af, setRL d lab, ps ++ [setRL d lab]) 1 (nx + 1))), (1, rowL (nx + 1) 112 ePt (ps ++ [setRL d lab]))]) (sz := 83) (top := 2) (nx := nx + 2) (df := []) ?_, ?_⟩
    · simp only [go_sem, sPutT]
      refine ⟨rd_row rfl rfl rfl rfl rfl rfl rfl rfl rfl rfl rfl rfl rfl (congrArg (AV.ow 1 (nx + 1)) (by simp)), ?_⟩
      refine row_app1 (E := ePt) rfl rfl rfl rfl (by simp) fun j hj => ?_
      match j, hj with
      | 0, _ => exact AVle.refl _
      | 1, _ => exact AVle.refl _
      | 2, _ => exact AVle.refl _
      | 3, _ => exact AVle.refl _
      | 4, _ => exact AVle.refl _
      | 5, _ => exact AVle.refl _
      | 6, _ => exact AVle.refl _
      | 7, _ => exact AVle.refl _
      | 8, _ => exact AVle.refl _
    · exact ⟨rfl, hK (nx + 1) (nx + 2) (.inr (by omega)) (by omega)⟩
def sPutR : MSpec := framed sPutR0
theorem okPutR : MethOK Tryz.prog 118 sPutR := okPutR0.frame
def takeB (a : Rs) (m : Mk) (line : BS) : Rs := if (takeR a.2.2.2.1 (nowR a) a.2.2.2.2.1 a.2.2.2.2.2 m).1 = 0 then
    (a.1, a.2.2.1 + line.length, a.2.2.1, (takeR a.2.2.2.1 (nowR a) a.2.2.2.2.1 a.2.2.2.2.2 m).2.1, (takeR a.2.2.2.1 (nowR a) a.2.2.2.2.1 a.2.2.2.2.2 m).2.2.1, (takeR a.2.2.2.1 (nowR a) a.2.2.2.2.1 a.2.2.2.2.2 m).2.2.2) else a
def sTake0 : MSpec := sRd fun xs a r b => ∃ (m : Mk) (line : BS), xs = [(kA eMk).enc m, .st line] ∧ r = .val (.int .i64 (takeR a.2.2.2.1 (nowR a) a.2.2.2.2.1 a.2.2.2.2.2 m).1) ∧ goodR a ∧ signI m.1 ∧ line.length ≤ 100000000 ∧ b = takeB a m line
theorem okTake0 : MethOK Tryz.prog 65 sTake0 := by
  refine MethOK.mk Tryz.func65 rfl (by decide) Tryz.results65 Tryz.ntmps65 ?_
  rintro args hp top nx K ⟨v, u, xs, a, r, b, rfl, ⟨m, line, rfl, rfl, ⟨g1, g2, g3, g4⟩, hsg, hll, rfl⟩, rfl, rfl, hK⟩
  have hΓ : GOK Tryz.prog (gam [(115, sFollowsR), (116, sTrimS), (117, sHasSuf), (118, sPutR)]) := (.cons okFollowsR (.cons okTrimS (.cons okHasSuf (.cons okPutR .nil))))
  refine ⟨Nat.le_of_ble_eq_true rfl, AW.late ?_⟩
  obtain ⟨s, fr, at_, af, c, ps⟩ := a
  obtain ⟨k, f, lab⟩ := m
  simp only at g1 g2 g3 g4 hsg hK
  generalize hnow : nowR (s, fr, at_, af, c, ps) = now at *
  have hnow' : (s.take at_).drop fr = now := hnow
  have hnl : now.length ≤ 100000000 := by
    rw [← hnow', List.length_drop, List.length_take]
    omega
  unfold takeB at hK
  simp only [hnow] at hK
  refine AW.of hΓ mixed [0, 200012] _ _ _ rfl ?_
  simp only [go_sem, sFollowsR, sTrimS, sHasSuf, sPutR]
  refine AW.cut ⟨[(0, .pt 0 v 0), (2, .st line), (4, .pt 2 nx 0)], [(0, .box v 122 14 (rdC (s, fr, at_, af, c, ps) 1 u)), (1, rowL u 112 ePt ps), (2, .box nx 118 3 (eMk.enc (k, f, lab)))], 76, 3, nx + 1, []⟩ ?_ ?_
  · simp only [go_sem, sFollowsR, sTrimS, sHasSuf, sPutR]
    exact ⟨RowLe.refl _, RowLe.refl _, RowLe.refl _⟩
  refine AW.still 4 2 nx 118 3 _ rfl rfl (fun j hj => match j, hj with | 0, _ => rfl | 1, _ => rfl | 2, _ => rfl) ?_
  have fin : ∀ e : Int, (takeR af now c ps (k, f, lab)).1 = e → e ≠ 0 → K (.val (.int .i64 e)) (rws [(0, .box v 122 14 (rdC (s, fr, at_, af, c, ps) 1 u)), (1, rowL u 112 ePt ps)]) 2 (nx + 1) := fun e he h0 => by
    have := hK u (nx + 1) (.inl rfl) (by omega)
    rw [he, if_neg h0] at this
    exact this
  by_cases hn : k = 60 ∧ af ≠ 0
  · have ht : (takeR af now c ps (k, f, lab)).1 = 7 := by
      unfold takeR
      rw [if_pos hn]
    refine AW.of hΓ mixed [200012] _ _ _ rfl ?_
    simp only [go_sem, sFollowsR, sTrimS, sHasSuf, sPutR, hn.1, hn.2]
    refine ⟨_, toFitsV (fun p => p) (l := [(6, .val (.int .i64 7))]) (r := [(0, .box v 122 14 (rdC (s, fr, at_, af, c, ps) 1 u)), (1, rowL u 112 ePt ps)]) (sz := 76) (top := 2) (nx := nx + 1) (df := []) ?_, ?_⟩
    · simp only [go_sem, sFollowsR, sTrimS, sHasSuf, sPutR]
      exact ⟨RowLe.refl _, RowLe.refl _⟩
    · exact ⟨rfl, trivial, fin 7 ht (by decide)⟩
  have hn1 : (decide (k = 60) && decide (¬ af = 0)) = false := by
    by_cases h1 : k = 60
    · rw [decide_eq_false (p := ¬ af = 0) fun h => hn ⟨h1, h⟩, Bool.and_false]
    · rw [decide_eq_false h1, Bool.false_and]
  by_cases hf : followsI af k = false
  · have ht : (takeR af now c ps (k, f, lab)).1 = 8 := by
      unfold takeR
      rw [if_neg hn, if_pos hf]
    refine AW.of hΓ mixed [200012] _ _ _ rfl ?_
    simp only [go_sem, sFollowsR, sTrimS, sHasSuf, sPutR, hn1, hf]
    refine ⟨_, toFitsV (fun p => p) (l := [(6, .val (.int .i64 8))]) (r := [(0, .box v 122 14 (rdC (s, fr, at_, af, c, ps) 1 u)), (1, rowL u 112 ePt ps)]) (sz := 76) (top := 2) (nx := nx + 1) (df := []) ?_, ?_⟩
    · simp only [go_sem, sFollowsR, sTrimS, sHasSuf, sPutR]
      exact ⟨RowLe.refl _, RowLe.refl _⟩
    · exact ⟨rfl, trivial, fin 8 ht (by decide)⟩
  have hf' : followsI af k = true := by simpa using hf
  have htk : takeR af now c ps (k, f, lab) = (match sideQ (k, f, lab) now with
    | none => (9, af, c, ps)
    | some sd => (0, if k = 62 then 0 else k, putC af (k, f, lab) sd c, putLs af (k, f, lab) now sd c ps)) := by
    unfold takeR
    rw [if_neg hn, if_neg hf]
    rfl
  refine AW.of hΓ mixed [5, 200012] _ _ _ rfl ?_
  simp only [go_sem, sFollowsR, sTrimS, sHasSuf, sPutR, hn1, hf']
  refine ⟨⟨by omega, by omega, by omega⟩, ?_⟩
  refine AW.cut ⟨[(0, .pt 0 v 0), (2, .st line), (4, .ps 3 (eMk.enc (k, f, lab))), (7, .st now)], [(0, .box v 122 14 (rdC (s, fr, at_, af, c, ps) 1 u)), (1, rowL u 112 ePt ps)], 76, 3, nx + 1, []⟩ ?_ ?_
  · rw [hnow']
    simp only [go_sem, sFollowsR, sTrimS, sHasSuf, sPutR]
    exact ⟨RowLe.refl _, RowLe.refl _⟩
  by_cases hb : f = true ∧ (cutE now = [] ∨ endsL (cutE now) = true)
  · obtain ⟨rfl, hb⟩ := hb
    have ht : (takeR af now c ps (k, true, lab)).1 = 9 := by
      rw [htk]
      unfold sideQ
      rw [if_pos rfl, if_pos hb]
    have hb2 : (decide (cutE now = []) || endsL (cutE now)) = true := by simpa using hb
    have hcl := cutE_le now
    refine AW.fork ?_
    refine AW.of hΓ mixed [200012] _ _ _ rfl ?_
    simp only [go_sem, sFollowsR, sTrimS, sHasSuf, sPutR, hb2]
    refine ⟨by omega, fun _ => by omega, fun h => by rw [decide_eq_false h]; rfl, ?_⟩
    refine ⟨_, toFitsV (fun p => p) (l := [(6, .val (.int .i64 9))]) (r := [(0, .box v 122 14 (rdC (s, fr, at_, af, c, ps) 1 u)), (1, rowL u 112 ePt ps)]) (sz := 76) (top := 2) (nx := nx + 1) (df := []) ?_, ?_⟩
    · simp only [go_sem, sFollowsR, sTrimS, sHasSuf, sPutR]
      exact ⟨RowLe.refl _, RowLe.refl _⟩
    · exact ⟨rfl, trivial, fin 9 ht (by decide)⟩
  obtain ⟨sd, hsd⟩ : ∃ sd, sideQ (k, f, lab) now = some sd := by
    unfold sideQ
    cases f with
    | false => exact ⟨now, rfl⟩
    | true =>
      refine ⟨cutE now, ?_⟩
      rw [if_pos rfl, if_neg fun h => hb ⟨rfl, h⟩]
  rw [hsd] at htk
  dsimp only at htk
  rw [htk] at hK
  refine AW.seqTo (fun _ : Unit => Sh.st ⟨[(0, .pt 0 v 0), (2, .st line), (4, .ps 3 (eMk.enc (k, f, lab))), (7, .st sd)], [(0, .box v 122 14 (rdC (s, fr, at_, af, c, ps) 1 u)), (1, rowL u 112 ePt ps)], 76, 3, nx + 1, []⟩) ?_ fun _ => ?_
  · have hcl := cutE_le now
    cases f with
    | false =>
      have e : sd = now := by
        unfold sideQ at hsd
        rw [if_neg (by simp)] at hsd
        exact (Option.some.inj hsd).symm
      subst e
      refine AW.of hΓ mixed [200012] _ _ _ rfl ?_
      simp only [go_sem, sFollowsR, sTrimS, sHasSuf, sPutR]
      refine ⟨(), toFitsV (fun p => p) ?_⟩
      simp only [go_sem, sFollowsR, sTrimS, sHasSuf, sPutR]
      exact ⟨RowLe.refl _, RowLe.refl _⟩
    | true =>
      have hb3 : ¬ (cutE now = [] ∨ endsL (cutE now) = true) := fun h => hb ⟨rfl, h⟩
      have hb2 : (decide (cutE now = []) || endsL (cutE now)) = false := by
        rw [decide_eq_false fun h => hb3 (.inl h), Bool.false_or]
        cases h : endsL (cutE now) with
        | false => rfl
        | true => exact absurd (.inr h) hb3
      have e : sd = cutE now := by
        unfold sideQ at hsd
        rw [if_pos rfl, if_neg hb3] at hsd
        exact (Option.some.inj hsd).symm
      subst e
      refine AW.of hΓ mixed [200012] _ _ _ rfl ?_
      simp only [go_sem, sFollowsR, sTrimS, sHasSuf, sPutR, hb2]
      refine ⟨by omega, fun _ => by omega, fun h => by rw [decide_eq_false h]; rfl, (), toFitsV (fun p => p) ?_⟩
      simp only [go_sem, sFollowsR, sTrimS, sHasSuf, sPutR]
      exact ⟨RowLe.refl _, RowLe.refl _⟩
  refine AW.of hΓ mixed [200012] _ _ _ rfl ?_
  simp only [go_sem, sFollowsR, sTrimS, sHasSuf, sPutR]
  refine rd_go (a := (s, fr, at_, af, c, ps)) ⟨(k, f, lab), sd, rfl, rfl, ⟨g1, g2, g3, g4⟩, hsg, rfl⟩ (by decide) (RowLe.refl _) (RowLe.refl _) (by decide) fun u1 n1 q1 h1 => ?_
  rw [hnow]
  dsimp only
  generalize putC af (k, f, lab) sd c = c1 at *
  generalize putLs af (k, f, lab) now sd c ps = ps1 at *
  simp only [go_sem, sFollowsR, sTrimS, sHasSuf, sPutR]
  refine AW.drawZ hΓ mixed 13 [] [9, 10] [] (by decide +kernel) ?_
  simp only [go_sem, sFollowsR, sTrimS, sHasSuf, sPutR]
  refine ⟨by omega, ?_⟩
  have hK' : ∀ u' nx', (u' = u ∨ nx ≤ u') → nx ≤ nx' → K (.val (.int .i64 0)) (rws [(0, .box v 122 14 (rdC (s, at_ + line.length, at_, if k = 62 then 0 else k, c1, ps1) 1 u')), (1, rowL u' 112 ePt ps1)]) 2 nx' := hK
  refine AW.cut ⟨[(0, .pt 0 v 0), (4, .ps 3 (eMk.enc (k, f, lab)))], [(0, .box v 122 14 (rdC (s, at_ + line.length, at_, k, c1, ps1) 1 u1)), (1, rowL u1 112 ePt ps1)], 76, 3, n1, []⟩ ?_ ?_
  · simp only [go_sem, sFollowsR, sTrimS, sHasSuf, sPutR]
    exact ⟨rd_row rfl rfl rfl rfl rfl rfl rfl rfl rfl rfl rfl rfl rfl rfl, RowLe.refl _⟩
  by_cases hk : k = 62
  · subst hk
    refine AW.of hΓ mixed [] _ _ _ rfl ?_
    simp only [go_sem, sFollowsR, sTrimS, sHasSuf, sPutR]
    refine AW.fork ?_
    refine AW.of hΓ mixed [] _ _ _ rfl ?_
    simp only [go_sem, sFollowsR, sTrimS, sHasSuf, sPutR]
    refine AW.of hΓ mixed [] _ _ _ rfl ?_
    simp only [go_sem, sFollowsR, sTrimS, sHasSuf, sPutR]
    refine ⟨_, toFitsV (fun p => p) (l := [(6, .val (.int .i64 0))]) (r := [(0, .box v 122 14 (rdC (s, at_ + line.length, at_, 0, c1, ps1) 1 u1)), (1, rowL u1 112 ePt ps1)]) (sz := 76) (top := 2) (nx := n1) (df := []) ?_, ?_⟩
    · simp only [go_sem, sFollowsR, sTrimS, sHasSuf, sPutR]
      exact ⟨rd_row rfl rfl rfl rfl rfl rfl rfl rfl rfl rfl rfl rfl rfl rfl, RowLe.refl _⟩
    · exact ⟨rfl, trivial, hK' u1 n1 (by omega) (by omega)⟩
  · rw [if_neg hk] at hK'
    refine AW.of hΓ mixed [] _ _ _ rfl ?_
    simp only [go_sem, sFollowsR, sTrimS, sHasSuf, sPutR, hk]
    refine AW.fork ?_
    refine AW.of hΓ mixed [] _ _ _ rfl ?_
    simp only [go_sem, sFollowsR, sTrimS, sHasSuf, sPutR, hk]
    refine AW.of hΓ mixed [] _ _ _ rfl ?_
    simp only [go_sem, sFollowsR, sTrimS, sHasSuf, sPutR]
    refine ⟨_, toFitsV (fun p => p) (l := [(6, .val (.int .i64 0))]) (r := [(0, .box v 122 14 (rdC (s, at_ + line.length, at_, k, c1, ps1) 1 u1)), (1, rowL u1 112 ePt ps1)]) (sz := 76) (top := 2) (nx := n1) (df := []) ?_, ?_⟩
    · simp only [go_sem, sFollowsR, sTrimS, sHasSuf, sPutR]
      exact ⟨RowLe.refl _, RowLe.refl _⟩
    · exact ⟨rfl, trivial, hK' u1 n1 (by omega) (by omega)⟩
def sTake : MSpec := framed sTake0
theorem okTake : MethOK Tryz.prog 65 sTake := okTake0.frame
end Go.Proofs.YtjfmigpahglajaaGreatDoor
set_option linter.unusedSimpArgs false
set_option linter.unusedVariables false
set_option maxRecDepth 100000
set_option maxHeartbeats 2000000
namespace Go.Proofs.YtjfmigpahglajaaGreatDoor
open Go
attribute [local irreducible] AW AVle ASle RowLe
def InvT (s : BS) (w : Int) (i fr at_ : Nat) (af : Int) (c : Pt) (ps : List Pt) : Prop :=
  i ≤ (splitL s).length ∧ ((splitL s).take i).flatten = s.take at_ ∧ at_ ≤ s.length ∧ fr ≤ at_ ∧ txP c = [] ∧ sumT ps ≤ fr ∧ ps.length ≤ 2 * i ∧
  runR w (splitL s) 0 [] ePt.dflt [] 0 = runR w ((splitL s).drop i) af (nowR (s, fr, at_, af, c, ps)) c ps i
theorem txP_putC (a : Int) (m : Mk) (sd : BS) {c : Pt} (h : txP c = []) : txP (putC a m sd c) = [] := by
  have hp : txP (putS a sd c) = [] := by
    unfold putS
    split
    · exact h
    · split
      · exact h
      · split
        · exact h
        · exact h
  unfold putC
  split
  · rfl
  · split
    · exact hp
    · split
      · exact hp
      · exact hp
theorem take_now {s : BS} {i at_ : Nat} (h : ((splitL s).take i).flatten = s.take at_) (ha : at_ ≤ s.length) (hi : i < (splitL s).length) :
    at_ + ((splitL s).getD i []).length ≤ s.length ∧ s.take (at_ + ((splitL s).getD i []).length) = s.take at_ ++ (splitL s).getD i [] ∧ ((splitL s).take (i + 1)).flatten = s.take (at_ + ((splitL s).getD i []).length) := by
  have e1 : ((splitL s).take (i + 1)).flatten = s.take at_ ++ (splitL s).getD i [] := by
    rw [take_snoc _ [] hi, List.flatten_append, h]
    simp
  have e2 : s = ((splitL s).take (i + 1)).flatten ++ ((splitL s).drop (i + 1)).flatten := by
    rw [← List.flatten_append, List.take_append_drop, splitL_flat]
  rw [e1] at e2
  generalize (splitL s).getD i [] = l at *
  generalize ((splitL s).drop (i + 1)).flatten = r at *
  have hl : (s.take at_).length = at_ := by rw [List.length_take]; omega
  have e3 := congrArg List.length e2
  simp only [List.length_append, hl] at e3
  have e4 : s.take (at_ + l.length) = s.take at_ ++ l := by
    have h5 : (s.take at_ ++ l).length = at_ + l.length := by rw [List.length_append, hl]
    conv => lhs; rw [e2]
    rw [← h5, List.take_left]
  exact ⟨by omega, e4, by rw [e1, e4]⟩
theorem now_more {s : BS} {fr at_ n : Nat} {l : BS} (h : s.take n = s.take at_ ++ l) (hf : fr ≤ at_) (ha : at_ ≤ s.length) : (s.take n).drop fr = (s.take at_).drop fr ++ l := by
  rw [h, List.drop_append_of_le_length (by rw [List.length_take]; omega)]
theorem inv_text {s : BS} {w : Int} {i fr at_ : Nat} {af : Int} {c : Pt} {ps : List Pt} (h : InvT s w i fr at_ af c ps) (hi : i < (splitL s).length) (hr : (readM ((splitL s).getD i []) w).2.1 = false) (he : (readM ((splitL s).getD i []) w).2.2 = 0) :
    InvT s w (i + 1) fr (at_ + ((splitL s).getD i []).length) af c ps := by
  obtain ⟨h1, h2, h3, h4, h5, h6, h7, h8⟩ := h
  obtain ⟨t1, t2, t3⟩ := take_now h2 h3 hi
  refine ⟨hi, t3, t1, by omega, h5, h6, by omega, ?_⟩
  rw [h8, List.drop_eq_getElem_cons hi, ← gd_lt _ [] hi, runR, if_neg (by rw [hr]; simp), if_neg (by rw [he]; simp)]
  congr 1
  exact (now_more t2 h4 h3).symm
theorem inv_mark {s : BS} {w : Int} {i fr at_ : Nat} {af : Int} {c : Pt} {ps : List Pt} (h : InvT s w i fr at_ af c ps) (hi : i < (splitL s).length) (hr : (readM ((splitL s).getD i []) w).2.1 = true)
    (he : (takeR af (nowR (s, fr, at_, af, c, ps)) c ps (readM ((splitL s).getD i []) w).1).1 = 0) :
    InvT s w (i + 1) (at_ + ((splitL s).getD i []).length) (at_ + ((splitL s).getD i []).length) (takeR af (nowR (s, fr, at_, af, c, ps)) c ps (readM ((splitL s).getD i []) w).1).2.1
      (takeR af (nowR (s, fr, at_, af, c, ps)) c ps (readM ((splitL s).getD i []) w).1).2.2.1 (takeR af (nowR (s, fr, at_, af, c, ps)) c ps (readM ((splitL s).getD i []) w).1).2.2.2 := by
  obtain ⟨h1, h2, h3, h4, h5, h6, h7, h8⟩ := h
  obtain ⟨t1, t2, t3⟩ := take_now h2 h3 hi
  have hnl : (nowR (s, fr, at_, af, c, ps)).length = at_ - fr := by
    unfold nowR
    simp only [List.length_drop, List.length_take]
    omega
  have hk : txP (takeR af (nowR (s, fr, at_, af, c, ps)) c ps (readM ((splitL s).getD i []) w).1).2.2.1 = [] ∧ sumT (takeR af (nowR (s, fr, at_, af, c, ps)) c ps (readM ((splitL s).getD i []) w).1).2.2.2 ≤ at_ ∧ (takeR af (nowR (s, fr, at_, af, c, ps)) c ps (readM ((splitL s).getD i []) w).1).2.2.2.length ≤ ps.length + 1 := by
    generalize (readM ((splitL s).getD i []) w).1 = m
    generalize nowR (s, fr, at_, af, c, ps) = now at *
    have h0 : txP c = [] ∧ sumT ps ≤ at_ ∧ ps.length ≤ ps.length + 1 := ⟨h5, by omega, by omega⟩
    unfold takeR
    split
    · exact h0
    · split
      · exact h0
      · split
        · exact h0
        · rename_i sd _
          refine ⟨txP_putC _ _ _ h5, ?_, ?_⟩
          · dsimp only
            unfold putLs
            split
            · rw [sumT_app, sumT_one]
              show sumT ps + now.length ≤ at_
              omega
            · split
              · rw [sumT_app, sumT_one, txP_putC _ _ _ h5]
                simp
                omega
              · omega
          · dsimp only
            unfold putLs
            split
            · simp
            · split
              · simp
              · omega
  refine ⟨hi, t3, t1, Nat.le_refl _, hk.1, by omega, by omega, ?_⟩
  rw [h8, List.drop_eq_getElem_cons hi, ← gd_lt _ [] hi, runR, if_pos hr, if_neg (by rw [he]; simp)]
  congr 1
  unfold nowR
  simp only
  exact (List.drop_of_length_le (by rw [List.length_take]; omega)).symm
theorem err_text {s : BS} {w : Int} {i fr at_ : Nat} {af : Int} {c : Pt} {ps : List Pt} (h : InvT s w i fr at_ af c ps) (hi : i < (splitL s).length) (hr : (readM ((splitL s).getD i []) w).2.1 = false) (he : (readM ((splitL s).getD i []) w).2.2 ≠ 0) :
    runR w (splitL s) 0 [] ePt.dflt [] 0 = ([], (readM ((splitL s).getD i []) w).2.2, (i : Int) + 1) := by
  rw [h.2.2.2.2.2.2.2, List.drop_eq_getElem_cons hi, ← gd_lt _ [] hi, runR, if_neg (by rw [hr]; simp), if_pos he]
theorem err_mark {s : BS} {w : Int} {i fr at_ : Nat} {af : Int} {c : Pt} {ps : List Pt} (h : InvT s w i fr at_ af c ps) (hi : i < (splitL s).length) (hr : (readM ((splitL s).getD i []) w).2.1 = true)
    (he : (takeR af (nowR (s, fr, at_, af, c, ps)) c ps (readM ((splitL s).getD i []) w).1).1 ≠ 0) :
    runR w (splitL s) 0 [] ePt.dflt [] 0 = ([], (takeR af (nowR (s, fr, at_, af, c, ps)) c ps (readM ((splitL s).getD i []) w).1).1, (i : Int) + 1) := by
  rw [h.2.2.2.2.2.2.2, List.drop_eq_getElem_cons hi, ← gd_lt _ [] hi, runR, if_pos hr, if_pos he]
end Go.Proofs.YtjfmigpahglajaaGreatDoor
set_option linter.unusedSimpArgs false
set_option linter.unusedVariables false
set_option maxRecDepth 100000
set_option maxHeartbeats 2000000
namespace Go.Proofs.YtjfmigpahglajaaGreatDoor
open Go
attribute [local irreducible] AW AVle ASle RowLe
theorem read_em (w : Int) : readM [] w = (mk0, false, if wideM w = false then 4 else 0) := by
  unfold readM
  by_cases h : wideM w = false
  · rw [if_pos h, if_pos h]
  · rw [if_neg h, if_neg h, if_pos]
    have h2 := (wide_iff.1 (by simpa using h)).1
    show ((0 : Nat) : Int) < w
    omega
def sTextP : Spec := Spec.f2 kS kI (fun s _ => s.length ≤ 10000000) (fun s w => tu3 (sL ePt (textR s w).1) (kI.enc (textR s w).2.1) (kI.enc (textR s w).2.2))
theorem okTextP : SpecOK Tryz.prog 29 sTextP := by
  refine SpecOK.f2 Tryz.func29 rfl (by decide) Tryz.results29 Tryz.ntmps29 (by decide) fun s w hs => ?_
  have hΓ : GOK Tryz.prog (gam [(64, sReadM), (41, sSplit), (65, sTake), (66, sPutT), (67, sOfD)]) := (.cons okReadM (.cons okSplit (.cons okTake (.cons okPutT (.cons okOfD .nil)))))
  have hem := read_em w
  unfold textR
  by_cases hw : wideM w = false
  · rw [if_pos hw] at hem ⊢
    refine AW.of hΓ mixed [] _ _ _ rfl ?_
    simp only [go_sem, sReadM, sSplit, sTake, sPutT, sOfD, hem]
    exact em_sL ePt
  rw [if_neg hw] at hem ⊢
  have hw' : wideM w = true := by simpa using hw
  refine AW.of hΓ mixed [4] _ _ _ rfl ?_
  simp only [go_sem, sReadM, sSplit, sTake, sPutT, sOfD, hem]
  refine AW.cut ⟨[(0, .st s), (1, .val (.int .i64 w)), (10, .pt 1 1 0)], [(1, .box 1 122 14 fun j => if j = 13 then .em else rdC (s, 0, 0, 0, ePt.dflt, []) 2 2 j)], 70, 2, 2, []⟩ ?_ ?_
  · simp only [go_sem, sReadM, sSplit, sTake, sPutT, sOfD]
    refine RowLe.box fun j hj => AVle.of_eq ?_
    match j, hj with
    | 0, _ => rfl
    | 1, _ => rfl
    | 2, _ => rfl
    | 3, _ => rfl
    | 4, _ => rfl
    | 5, _ => rfl
    | 6, _ => rfl
    | 7, _ => rfl
    | 8, _ => rfl
    | 9, _ => rfl
    | 10, _ => rfl
    | 11, _ => rfl
    | 12, _ => rfl
    | 13, _ => rfl
  refine AW.adoptB (q := 1) 13 112 9 (fun i => ePt.enc (([] : List Pt).getD i ePt.dflt)) rfl rfl ?_
  refine AW.cut ⟨[(0, .st s), (1, .val (.int .i64 w)), (10, .pt 1 1 0)], [(1, .box 1 122 14 (rdC (s, 0, 0, 0, ePt.dflt, []) 2 2)), (2, rowL 2 112 ePt [])], 70, 3, 3, []⟩ ?_ ?_
  · simp only [go_sem, sReadM, sSplit, sTake, sPutT, sOfD]
    exact ⟨rd_row rfl rfl rfl rfl rfl rfl rfl rfl rfl rfl rfl rfl rfl rfl, RowLe.refl _⟩
  refine AW.of hΓ mixed [18] _ _ _ rfl ?_
  simp only [go_sem, sReadM, sSplit, sTake, sPutT, sOfD]
  have hsp := okLs_split (s := s) (by omega)
  have hsl := splitL_len s
  have hI0 : InvT s w 0 0 0 0 ePt.dflt [] := ⟨Nat.zero_le _, rfl, Nat.zero_le _, Nat.le_refl _, rfl, Nat.zero_le _, Nat.zero_le _, rfl⟩
  generalize hT : runR w (splitL s) 0 [] ePt.dflt [] 0 = T at *
  refine ⟨by omega, ?_⟩
  refine AW.round (α := { x : Nat × Nat × Nat × Int × Pt × List Pt × Nat × Nat // InvT s w x.1 x.2.1 x.2.2.1 x.2.2.2.1 x.2.2.2.2.1 x.2.2.2.2.2.1 })
    (fun x => ⟨[(1, .val (.int .i64 w)), (10, .pt 1 1 0), (11, sL eS (splitL s)), (30, sL eS (splitL s)), (31, .val (.int .i64 (splitL s).length)), (32, .val (.int .i64 x.1.1))],
      [(1, .box 1 122 14 (rdC (s, x.1.2.1, x.1.2.2.1, x.1.2.2.2.1, x.1.2.2.2.2.1, x.1.2.2.2.2.2.1) 2 x.1.2.2.2.2.2.2.1)), (2, rowL x.1.2.2.2.2.2.2.1 112 ePt x.1.2.2.2.2.2.1)], 70, 3, x.1.2.2.2.2.2.2.2, []⟩) (fun x => (splitL s).length - x.1.1) ⟨(0, 0, 0, 0, ePt.dflt, [], 2, 3), hI0⟩ ?_ ?_
  · simp only [go_sem, sReadM, sSplit, sTake, sPutT, sOfD]
    exact ⟨RowLe.refl _, RowLe.refl _⟩
  · rintro ⟨⟨i, fr, at_, af, c, ps, u, nx⟩, hI⟩
    simp only at hI
    refine AW.of hΓ mixed [9, 99999] _ _ _ rfl ?_
    simp only [go_sem, sReadM, sSplit, sTake, sPutT, sOfD]
    refine ⟨fun hlt => ?_, fun hge => ?_⟩
    · have hi : i < (splitL s).length := by omega
      have hll : ((splitL s).getD i []).length ≤ 10000000 := by
        rw [gd_lt _ _ hi]
        have := split_mem (List.getElem_mem hi)
        omega
      have t1 := inv_text hI hi
      have t2 := inv_mark hI hi
      have t3 := err_text hI hi
      have t4 := err_mark hI hi
      rw [hT] at t3 t4
      generalize hle : (splitL s).getD i [] = l at *
      have hpl := take_now hI.2.1 hI.2.2.1 hi
      rw [hle] at hpl
      have hI' := hI
      obtain ⟨_, _, i3, i4, i5, i6, i7, _⟩ := hI'
      refine ⟨by omega, by omega, ?_⟩
      refine AW.cut ⟨[(1, .val (.int .i64 w)), (10, .pt 1 1 0), (11, sL eS (splitL s)), (12, .val (.int .i64 i)), (13, .st l), (14, .pt 3 nx 0), (15, .val (.bool (readM l w).2.1)), (16, .val (.int .i64 (readM l w).2.2)), (30, sL eS (splitL s)), (31, .val (.int .i64 (splitL s).length)), (32, .val (.int .i64 i))],
        [(1, .box 1 122 14 (rdC (s, fr, at_, af, c, ps) 2 u)), (2, rowL u 112 ePt ps), (3, .box nx 118 3 (eMk.enc (readM l w).1))], 70, 4, nx + 1, []⟩ ?_ ?_
      · simp only [go_sem, sReadM, sSplit, sTake, sPutT, sOfD]
        exact ⟨RowLe.refl _, RowLe.refl _, RowLe.box fun j hj => AVle.of_eq (stC_in (Nat.zero_le _) (by omega))⟩
      refine AW.still 14 3 nx 118 3 _ rfl rfl (fun j hj => match j, hj with | 0, _ => rfl | 1, _ => rfl | 2, _ => rfl) ?_
      cases hm : (readM l w).2.1 with
      | false =>
        refine AW.fork ?_
        refine AW.of hΓ mixed [99999] _ _ _ rfl ?_
        simp only [go_sem, sReadM, sSplit, sTake, sPutT, sOfD]
        refine AW.of hΓ mixed [99999] _ _ _ rfl ?_
        simp only [go_sem, sReadM, sSplit, sTake, sPutT, sOfD]
        refine ⟨fun h => ?_, fun h => ⟨by omega, by omega, ⟨(i + 1, fr, at_ + l.length, af, c, ps, u, nx + 1), t1 hm (Decidable.not_not.1 h)⟩, ⟨Nat.le_refl _, by dsimp only; omega, rd_row rfl rfl rfl rfl rfl rfl rfl rfl rfl rfl rfl rfl rfl rfl, RowLe.refl _⟩, by dsimp only; omega⟩⟩
        rw [t3 hm h]
        exact ⟨by omega, em_sL ePt, rfl, rfl⟩
      | true =>
        have hsg : signI (readM l w).1.1 := by
          have he : readM l w = ((readM l w).1, true, (readM l w).2.2) := by rw [← hm]
          exact may_sign (line_read he).2.1
        refine AW.fork ?_
        refine AW.of hΓ mixed [99999] _ _ _ rfl ?_
        simp only [go_sem, sReadM, sSplit, sTake, sPutT, sOfD]
        refine rd_go (a := (s, fr, at_, af, c, ps)) ⟨(readM l w).1, l, rfl, rfl, ⟨i4, i3, by dsimp only; omega, by dsimp only; omega⟩, hsg, by omega, rfl⟩ (by decide) (RowLe.refl _) (RowLe.refl _) (by decide) fun u1 n1 q1 h1 => ?_
        have t2 := t2 hm
        have t4 := t4 hm
        dsimp only at t2 t4 ⊢
        have htb : (takeR af (nowR (s, fr, at_, af, c, ps)) c ps (readM l w).1).1 = 0 → takeB (s, fr, at_, af, c, ps) (readM l w).1 l = (s, at_ + l.length, at_, (takeR af (nowR (s, fr, at_, af, c, ps)) c ps (readM l w).1).2.1, (takeR af (nowR (s, fr, at_, af, c, ps)) c ps (readM l w).1).2.2.1, (takeR af (nowR (s, fr, at_, af, c, ps)) c ps (readM l w).1).2.2.2) := fun h => if_pos h
        generalize takeR af (nowR (s, fr, at_, af, c, ps)) c ps (readM l w).1 = t at *
        simp only [go_sem, sReadM, sSplit, sTake, sPutT, sOfD]
        by_cases he : t.1 = 0
        · rw [htb he]
          have he2 : (decide ¬ t.1 = 0) = false := by simp [he]
          refine AW.of hΓ mixed [99999] _ _ _ rfl ?_
          simp only [go_sem, sReadM, sSplit, sTake, sPutT, sOfD, he]
          exact ⟨by omega, by omega, ⟨(i + 1, at_ + l.length, at_ + l.length, t.2.1, t.2.2.1, t.2.2.2, u1, n1), t2 he⟩, ⟨Nat.le_refl _, by dsimp only; omega, rd_row rfl rfl rfl rfl rfl rfl rfl rfl rfl rfl rfl rfl rfl rfl, RowLe.refl _⟩, by dsimp only; omega⟩
        · have he2 : (decide ¬ t.1 = 0) = true := by simp [he]
          refine AW.of hΓ mixed [99999] _ _ _ rfl ?_
          simp only [go_sem, sReadM, sSplit, sTake, sPutT, sOfD, he]
          rw [t4 he]
          exact ⟨by omega, em_sL ePt, rfl, rfl⟩
    · obtain ⟨i1, _, i3, i4, i5, i6, i7, i8⟩ := hI
      obtain rfl : i = (splitL s).length := by omega
      rw [List.drop_length, runR, hT] at i8
      refine ⟨fun h => ?_, fun h => ?_⟩
      · rw [if_pos h] at i8
        rw [i8]
        exact ⟨by omega, em_sL ePt, rfl, rfl⟩
      · rw [if_neg h] at i8
        have hnl : (nowR (s, fr, at_, af, c, ps)).length = at_ - fr := by
          unfold nowR
          simp only [List.length_drop, List.length_take]
          omega
        refine rd_go (a := (s, fr, at_, af, c, ps)) ⟨rfl, rfl, ⟨i4, i3, by dsimp only; omega, by dsimp only; omega⟩, rfl⟩ (by decide) (RowLe.refl _) (RowLe.refl _) (by decide) fun u1 n1 q1 h1 => ?_
        have hsm : sumT (ps ++ [textP (nowR (s, fr, at_, af, c, ps))]) ≤ at_ := by
          rw [sumT_app, sumT_one]
          show sumT ps + (nowR (s, fr, at_, af, c, ps)).length ≤ at_
          omega
        dsimp only
        generalize nowR (s, fr, at_, af, c, ps) = now at *
        simp only [go_sem, sReadM, sSplit, sTake, sPutT, sOfD]
        refine AW.freeze 2 u1 112 9 (ps ++ [textP now]).length (fun i => ePt.enc ((ps ++ [textP now]).getD i ePt.dflt)) rfl (fun i _ j hj => match j, hj with | 0, _ => rfl | 1, _ => rfl | 2, _ => rfl | 3, _ => rfl | 4, _ => rfl | 5, _ => rfl | 6, _ => rfl | 7, _ => rfl | 8, _ => rfl) ?_
        refine AW.cut ⟨[(10, .pt 1 1 0)], [(1, .box 1 122 14 (fun j => if j = 13 then sL ePt (ps ++ [textP now]) else .any))], 70, 2, n1, []⟩ ?_ ?_
        · simp only [go_sem, sReadM, sSplit, sTake, sPutT, sOfD]
          refine RowLe.box fun j hj => ?_
          by_cases e : j = 13
          · subst e
            rw [if_pos rfl]
            have : fz 2 u1 (ps.length + 1) 9 (fun i => ePt.enc ((ps ++ [textP now]).getD i ePt.dflt)) (rdC (withPs (s, fr, at_, af, c, ps) (ps ++ [textP now])) 2 u1 13) = sL ePt (ps ++ [textP now]) := if_pos ⟨rfl, rfl, by simp [withPs]⟩
            rw [this]
            exact AVle.refl _
          · rw [if_neg e]
            exact AVle.any _
        refine AW.of hΓ mixed [] _ _ _ rfl ?_
        simp only [go_sem, sReadM, sSplit, sTake, sPutT, sOfD]
        rw [i8]
        exact ⟨⟨by omega, by omega⟩, AVle.refl _, rfl, rfl⟩
end Go.Proofs.YtjfmigpahglajaaGreatDoor
set_option linter.unusedSimpArgs false
set_option linter.unusedVariables false
set_option maxRecDepth 100000
set_option maxHeartbeats 8000000
namespace Go.Proofs.YtjfmigpahglajaaGreatDoor
open Go
attribute [local irreducible] AW AVle ASle RowLe
def sFitsT : Spec := Spec.f1 (kA eHw) rchH (fun h => kB.enc (fewH h))
theorem okFitsT : SpecOK Tryz.prog 31 sFitsT := by
  refine SpecOK.f1 Tryz.func31 rfl (by decide) Tryz.results31 Tryz.ntmps31 (by decide) fun h hh => ?_
  have hΓ : GOK Tryz.prog (gam []) := GOK.nil
  obtain ⟨st, w, v, l1, l2, l3⟩ := h
  obtain ⟨h1, h2, h3⟩ := hh
  dsimp only at h1 h2 h3
  refine AW.of hΓ mixed [] _ _ _ rfl ?_
  simp only [go_sem]
  refine ⟨⟨by omega, by omega⟩, ⟨by omega, by omega⟩, ?_⟩
  unfold fewH
  exact decide_eq_decide.2 (by dsimp only; omega)
theorem alive_prs : prsF (splitL [97, 10]) (splitL [98, 10]) = [] ∧ prsF (splitL [97, 10]) (splitL [99, 10]) = [] := by decide +kernel
theorem alive_K : mrgK (filesF [97, 10] [98, 10] [99, 10]) = [(false, (0, 1), (0, 1), (0, 1))] := by
  have h := alive_prs
  unfold mrgK cksF filesF
  dsimp only
  rw [h.1, h.2, both_nil]
  decide
theorem alive_D : mrgD [97, 10] [98, 10] [99, 10] 0 ([], [], []) 0 = [([], [], [], true, [], [98, 10], [], [99, 10], false)] := by
  unfold mrgD
  rw [alive_K]
  decide +kernel
theorem alive_O : mrgO [97, 10] [98, 10] [99, 10] (([], [], []), 0, 7, 0) = ([([], [], [], true, [], [98, 10], [], [99, 10], false)], [], [], [(false, (0, 1), (0, 1), (0, 1))],
    [60, 60, 60, 60, 60, 60, 60, 10, 98, 10, 61, 61, 61, 61, 61, 61, 61, 10, 99, 10, 62, 62, 62, 62, 62, 62, 62, 10], 7, 1) := by
  have h := alive_prs
  unfold mrgO
  rw [if_pos (by decide)]
  unfold mrgT
  dsimp only
  rw [alive_D, alive_K, h.1, h.2]
  have e1 : mrgW 7 [97, 10] [98, 10] [99, 10] = 7 := by decide +kernel
  have e2 : printL 7 [([], [], [], true, [], [98, 10], [], [99, 10], false)] = [60, 60, 60, 60, 60, 60, 60, 10, 98, 10, 61, 61, 61, 61, 61, 61, 61, 10, 99, 10, 62, 62, 62, 62, 62, 62, 62, 10] := by decide +kernel
  have e3 : cntF (filesF [97, 10] [98, 10] [99, 10]) [(false, (0, 1), (0, 1), (0, 1))] = 1 := by decide +kernel
  rw [e1, e2, e3]
  rfl
def sAlive : Spec := Spec.f0 (kB.enc true)
theorem okAlive : SpecOK Tryz.prog 32 sAlive := by
  refine SpecOK.f0 Tryz.func32 rfl (by decide) Tryz.results32 Tryz.ntmps32 ?_
  have hΓ : GOK Tryz.prog (gam [(49, sDefaultM), (16, sTexts)]) := (.cons okDefaultM (.cons okTexts .nil))
  have ht := alive_O
  have hw : wrgM (([], [], []), 0, 7, 0) = 0 := by decide
  have hok : okM [97, 10] [98, 10] [99, 10] := by unfold okM; decide
  refine AW.of hΓ mixed [99999] _ _ _ rfl ?_
  simp only [go_sem, sDefaultM, sTexts, ht, hw]
  exact ⟨hok, by unfold lbN; decide⟩
end Go.Proofs.YtjfmigpahglajaaGreatDoor
set_option linter.unusedSimpArgs false
set_option linter.unusedVariables false
set_option maxRecDepth 100000
set_option maxHeartbeats 8000000
namespace Go.Proofs.YtjfmigpahglajaaGreatDoor
open Go
attribute [local irreducible] AW AVle ASle RowLe
def sTripartiteSides : Spec := Spec.f3 kS kS (kA eHw) (fun _ _ h => rchH h) (fun _ _ _ => kB.enc true)
theorem okTripartiteSides : SpecOK Tryz.prog 10 sTripartiteSides := by
  refine SpecOK.f3 Tryz.func10 rfl (by decide) Tryz.results10 Tryz.ntmps10 (by decide) fun ta tb h hh => ?_
  have hΓ : GOK Tryz.prog (gam [(31, sFitsT), (32, sAlive), (15, sShortM), (27, sOPTM), (16, sTexts), (28, sTurnedK), (26, sCleanM)]) := (.cons okFitsT (.cons okAlive (.cons okShortM (.cons okOPTM (.cons okTexts (.cons okTurnedK (.cons okCleanM .nil)))))))
  obtain ⟨st, w, v, l1, l2, l3⟩ := h
  have la : (ta.take 250).length ≤ 250 := by simp; omega
  have lb : (tb.take 250).length ≤ 250 := by simp; omega
  refine AW.of hΓ mixed [0] _ _ _ rfl ?_
  simp only [go_sem, sFitsT, sAlive, sShortM, sOPTM, sTexts, sTurnedK, sCleanM]
  refine AW.still 5 0 0 24 6 _ rfl rfl (fun j hj => match j, hj with | 0, _ => rfl | 1, _ => rfl | 2, _ => rfl | 3, _ => rfl | 4, _ => rfl | 5, _ => rfl) ?_
  refine AW.of hΓ mixed [3] _ _ _ rfl ?_
  simp only [go_sem, sFitsT, sAlive, sShortM, sOPTM, sTexts, sTurnedK, sCleanM]
  refine ⟨hh, fun hfew => ?_⟩
  have hfew : fewH (st, w, v, l1, l2, l3) = true := by simpa using hfew
  obtain ⟨m1, m2, m3, s, u, ho, hw, hl, hl2⟩ := few_opt hfew
  refine AW.cut ⟨[(0, .st (ta.take 250)), (1, .st (tb.take 250)), (5, .ps 6 (eHw.enc (st, w, v, l1, l2, l3)))], [], 119, 1, 1, []⟩ ?_ ?_
  · simp only [go_sem, sFitsT, sAlive, sShortM, sOPTM, sTexts, sTurnedK, sCleanM]
  generalize ta.take 250 = a at *
  generalize tb.take 250 = b at *
  refine AW.of hΓ mixed [4] _ _ _ rfl ?_
  simp only [go_sem, sFitsT, sAlive, sShortM, sOPTM, sTexts, sTurnedK, sCleanM, ho]
  refine ⟨hl2, ?_⟩
  refine AW.cut ⟨[(0, .st a), (1, .st b), (7, .pt 1 1 0)], [(1, .box 1 40 6 (eOp.enc ((m1, m2, m3), s, u, 0)))], 119, 2, 2, []⟩ ?_ ?_
  · simp only [go_sem, sFitsT, sAlive, sShortM, sOPTM, sTexts, sTurnedK, sCleanM]
    exact box_st
  refine AW.still 7 1 1 40 6 _ rfl rfl (fun j hj => match j, hj with | 0, _ => rfl | 1, _ => rfl | 2, _ => rfl | 3, _ => rfl | 4, _ => rfl | 5, _ => rfl) ?_
  obtain ⟨D1, lp1, rp1, W1, e1⟩ := left_O a b hw
  obtain ⟨D2, lp2, rp2, W2, e2⟩ := right_O a b hw
  obtain ⟨D3, lp3, rp3, W3, e3⟩ := both_O b a hw
  have hK := (mrg_swap a a b).1
  have hKl : (mrgK (filesF a a b)).length ≤ 501 := by
    have := (mrgK_len (filesF a a b)).1
    have e : (filesF a a b).1.length = (splitL a).length := rfl
    have := splitL_len a
    omega
  generalize mrgK (filesF a a b) = K at *
  generalize mrgK (filesF a b a) = K' at *
  generalize mrgK (filesF b a a) = K3 at *
  have hcm : K'.length = K.length := by rw [hK, List.length_map]
  refine AW.of hΓ mixed [7] _ _ _ rfl ?_
  simp only [go_sem, sFitsT, sAlive, sShortM, sOPTM, sTexts, sTurnedK, sCleanM, e1, e2, e3, hw]
  refine ⟨⟨short_M la la lb, by omega⟩, ⟨short_M la lb la, by omega⟩, ⟨short_M lb la la, by omega⟩, ?_⟩
  refine AW.cut ⟨[(0, .st a), (1, .st b), (8, .pt 2 2 0), (9, .val (.int .i64 0)), (10, .pt 3 3 0), (11, .val (.int .i64 0)), (12, .pt 4 4 0), (13, .val (.int .i64 0))], [(2, .box 2 33 7 (eRt.enc (D1, lp1, rp1, K, b, W1, 0))), (3, .box 3 33 7 (eRt.enc (D2, lp2, rp2, K', b, W2, 0))), (4, .box 4 33 7 (eRt.enc (D3, lp3, rp3, K3, a, W3, 0)))], 119, 5, 5, []⟩ ?_ ?_
  · simp only [go_sem, sFitsT, sAlive, sShortM, sOPTM, sTexts, sTurnedK, sCleanM]
    exact ⟨box_st, box_st, box_st⟩
  refine AW.still 8 2 2 33 7 _ rfl rfl (fun j hj => match j, hj with | 0, _ => rfl | 1, _ => rfl | 2, _ => rfl | 3, _ => rfl | 4, _ => rfl | 5, _ => rfl | 6, _ => rfl) ?_
  refine AW.still 10 3 3 33 7 _ rfl rfl (fun j hj => match j, hj with | 0, _ => rfl | 1, _ => rfl | 2, _ => rfl | 3, _ => rfl | 4, _ => rfl | 5, _ => rfl | 6, _ => rfl) ?_
  refine AW.still 12 4 4 33 7 _ rfl rfl (fun j hj => match j, hj with | 0, _ => rfl | 1, _ => rfl | 2, _ => rfl | 3, _ => rfl | 4, _ => rfl | 5, _ => rfl | 6, _ => rfl) ?_
  refine AW.of hΓ mixed [] _ _ _ rfl ?_
  simp only [go_sem, sFitsT, sAlive, sShortM, sOPTM, sTexts, sTurnedK, sCleanM, hcm]
  refine AW.round (α := { i : Nat // i ≤ K.length }) (fun x => ⟨[(0, .st a), (1, .st b), (8, .ps 7 (eRt.enc (D1, lp1, rp1, K, b, W1, 0))), (10, .ps 7 (eRt.enc (D2, lp2, rp2, K', b, W2, 0))), (12, .ps 7 (eRt.enc (D3, lp3, rp3, K3, a, W3, 0))), (14, .val (.int .i64 x.1))], [], 119, 5, 5, []⟩) (fun x => K.length - x.1) ⟨0, Nat.zero_le _⟩ ?_ ?_
  · simp only [go_sem, sFitsT, sAlive, sShortM, sOPTM, sTexts, sTurnedK, sCleanM]
  · rintro ⟨i, hi⟩
    rcases Nat.lt_or_ge i K.length with hlt | hge
    · have hlI : ((i : Int) < (K.length : Nat)) = True := eq_true (by omega)
      have hg : K'.getD i eCk.dflt = turnC (K.getD i eCk.dflt) := by
        rw [hK, gd_lt _ _ (by rw [List.length_map]; exact hlt), gd_lt _ _ hlt, List.getElem_map]
      generalize hce : K.getD i eCk.dflt = k at *
      obtain ⟨cs, ⟨cb1, cb2⟩, ⟨cl1, cl2⟩, cr1, cr2⟩ := k
      have hg : K'.getD i eCk.dflt = (cs, (cb1, cb2), (cr1, cr2), (cl1, cl2)) := hg
      have ht : turnC (cs, (cb1, cb2), (cl1, cl2), cr1, cr2) = (cs, (cb1, cb2), (cr1, cr2), (cl1, cl2)) := rfl
      refine AW.of hΓ mixed [99999] _ _ _ rfl ?_
      simp only [go_sem, sFitsT, sAlive, sShortM, sOPTM, sTexts, sTurnedK, sCleanM, hlI, hce, hg, ht, hcm]
      exact ⟨by omega, by omega, ⟨by omega, by omega⟩, ⟨i + 1, by omega⟩, by dsimp only; omega, by dsimp only; omega⟩
    · obtain rfl : i = K.length := by omega
      refine AW.of hΓ mixed [99999] _ _ _ rfl ?_
      simp only [go_sem, sFitsT, sAlive, sShortM, sOPTM, sTexts, sTurnedK, sCleanM]
def sTripartiteBack : Spec := Spec.f2 (kA eLb) (kA eHw) (fun _ h => rchH h) (fun _ _ => kB.enc true)
theorem okTripartiteBack : SpecOK Tryz.prog 11 sTripartiteBack := by
  refine SpecOK.f2 Tryz.func11 rfl (by decide) Tryz.results11 Tryz.ntmps11 (by decide) fun t h hh => ?_
  have hΓ : GOK Tryz.prog (gam [(31, sFitsT), (32, sAlive), (15, sShortM), (27, sOPTM), (16, sTexts), (29, sTextP), (45, sPrintM), (46, sSameDD), (47, sConflD)]) := (.cons okFitsT (.cons okAlive (.cons okShortM (.cons okOPTM (.cons okTexts (.cons okTextP (.cons okPrintM (.cons okSameDD (.cons okConflD .nil)))))))))
  obtain ⟨ta, tb, tc⟩ := t
  obtain ⟨st, w, v, l1, l2, l3⟩ := h
  have la : (ta.take 250).length ≤ 250 := by simp; omega
  have lb : (tb.take 250).length ≤ 250 := by simp; omega
  have lc : (tc.take 250).length ≤ 250 := by simp; omega
  refine AW.of hΓ mixed [0, 200003] _ _ _ rfl ?_
  simp only [go_sem, sFitsT, sAlive, sShortM, sOPTM, sTexts, sTextP, sPrintM, sSameDD, sConflD]
  refine AW.still 2 0 0 22 3 _ rfl rfl (fun j hj => match j, hj with | 0, _ => rfl | 1, _ => rfl | 2, _ => rfl) ?_
  refine AW.still 3 1 1 24 6 _ rfl rfl (fun j hj => match j, hj with | 0, _ => rfl | 1, _ => rfl | 2, _ => rfl | 3, _ => rfl | 4, _ => rfl | 5, _ => rfl) ?_
  refine AW.of hΓ mixed [200003] _ _ _ rfl ?_
  simp only [go_sem, sFitsT, sAlive, sShortM, sOPTM, sTexts, sTextP, sPrintM, sSameDD, sConflD]
  refine ⟨hh, fun hfew => ?_⟩
  have hfew : fewH (st, w, v, l1, l2, l3) = true := by simpa using hfew
  obtain ⟨m1, m2, m3, s, u, ho, hw, hl, hl2⟩ := few_opt hfew
  obtain ⟨p1, p2, p3⟩ := wrg_0 hw
  dsimp only at p1 p2 p3
  have hM := short_M la lb lc
  have hF := mrg_facts hM p2 s (lb := (m1, m2, m3)) (by omega) p1 0
  have e0 := O_eq (a := ta.take 250) (b := tb.take 250) (c := tc.take 250) hw
  unfold mrgT at e0
  dsimp only at e0
  have hT := mrg_short la lb lc p2 s (lb := (m1, m2, m3)) hl 0
  have hb := mrg_back hF
  have hpr := mrg_text hF
  have hpL := hF.pr
  have hcf := hF.confl rfl
  have hdl := hF.dlen
  have hok := sum_okPt (Nat.le_trans hF.sump (by decide))
  generalize prsF (splitL (ta.take 250)) (splitL (tb.take 250)) = lp at *
  generalize prsF (splitL (ta.take 250)) (splitL (tc.take 250)) = rp at *
  generalize mrgD (ta.take 250) (tb.take 250) (tc.take 250) s (m1, m2, m3) 0 = D at *
  generalize mrgW u (ta.take 250) (tb.take 250) (tc.take 250) = W at *
  generalize hTe : printL W D = T at *
  have hcf' : ((conflD D : Nat) : Int) = ((cntF (filesF (ta.take 250) (tb.take 250) (tc.take 250)) (mrgK (filesF (ta.take 250) (tb.take 250) (tc.take 250))) : Nat) : Int) := congrArg _ hcf
  generalize mrgK (filesF (ta.take 250) (tb.take 250) (tc.take 250)) = K at *
  generalize ((cntF (filesF (ta.take 250) (tb.take 250) (tc.take 250)) K : Nat) : Int) = n at *
  refine AW.drawZ hΓ mixed 16 [17] [14, 17] [] (by decide +kernel) ?_
  simp only [go_sem, sFitsT, sAlive, sShortM, sOPTM, sTexts, sTextP, sPrintM, sSameDD, sConflD, keeps_sL, ho, e0, hw, hb, hpr, hcf', hTe]
  exact ⟨hl2, ⟨hM, by omega⟩, by omega, ⟨⟨by omega, hok⟩, fun _ => hpL⟩, by omega⟩
end Go.Proofs.YtjfmigpahglajaaGreatDoor
