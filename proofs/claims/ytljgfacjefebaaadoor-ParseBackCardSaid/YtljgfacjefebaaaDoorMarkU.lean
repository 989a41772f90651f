/-
  mark: a Doc is printed.
-/
import Derived.Test.YtljgfacjefebaaaDoorMarkW
import Derived.Test.YtljgfacjefebaaaDoorBldC
set_option linter.unusedSimpArgs false
set_option linter.unusedVariables false
set_option maxRecDepth 100000
set_option maxHeartbeats 2000000
namespace Go.Proofs.YtljgfacjefebaaaDoor
open Go
attribute [local irreducible] AW AVle ASle RowLe
/-- Does a side lack its last end? -/
def lackM (s : BS) : Bool := decide (s ≠ []) && !endsL s
def sideM (s : BS) : BS := if lackM s = true then s ++ [10] else s
theorem sideM_len (s : BS) : (sideM s).length ≤ s.length + 1 := by
  unfold sideM
  split
  · simp
  · omega
theorem sideM_ge (s : BS) : s.length ≤ (sideM s).length := by
  unfold sideM
  split
  · simp
  · omega
def sPrSide0 : MSpec := sBld fun xs a r => ∃ s : BS, xs = [.st s] ∧ a = sideM s ∧ r = kB.enc (lackM s) ∧ s.length ≤ 1000000000
theorem okPrSide0 : MethOK Tryd.prog 75 sPrSide0 := by
  refine MethOK.mk Tryd.func75 rfl (by decide) Tryd.results75 Tryd.ntmps75 ?_
  rintro args hp top nx K ⟨f, v, u, l, xs, a, r, rfl, ⟨s, rfl, rfl, rfl, hs⟩, rfl, rfl, hl, hK⟩
  have hΓ : GOK Tryd.prog (gam [(55, sWriteS), (82, sHasSuf)]) := (.cons okWriteS (.cons okHasSuf .nil))
  refine ⟨Nat.le_of_ble_eq_true rfl, AW.late ?_⟩
  have hge := sideM_ge s
  refine AW.of hΓ mixed [99999] _ _ _ rfl ?_
  simp only [go_sem, sWriteS, sHasSuf]
  refine write_go rfl (by decide) (RowLe.refl _) (RowLe.refl _) (by decide) (by omega) fun u1 n1 g1 h1 => ?_
  simp only [go_sem, sWriteS, sHasSuf]
  have hlk : (decide ¬s = [] && !endsL s) = lackM s := rfl
  refine ⟨fun _ => by omega, fun hc => ?_, fun hc => ?_⟩
  · have hk : lackM s = true := by
      rw [← hlk, decide_eq_true hc.1, hc.2]
      rfl
    have ha : sideM s = s ++ [10] := if_pos hk
    rw [hk] at hK
    rw [ha] at hl hK
    rw [List.length_append] at hl
    simp only [len_cons, len_nil] at hl
    refine write_go (by simp [Nat.add_assoc]) (by decide) (RowLe.refl _) (RowLe.refl _) (by decide) (by simp; omega) fun u2 n2 g2 h2 => ?_
    simp only [go_sem, sWriteS, sHasSuf]
    refine ⟨_, toFitsV (fun p => p) (l := [(4, .val (.bool true))]) (r := [(0, .box v 84 2 (bldC true 0 v 1 u2 (l ++ (s ++ [10])).length)), (1, rowB u2 (l ++ (s ++ [10])))]) (sz := 20) (top := 2) (nx := n2) (df := []) ?_, ?_⟩
    · simp only [go_sem, sWriteS, sHasSuf, hc.1, hc.2]
      exact ⟨bld_len (by omega), rowB_eq (by simp)⟩
    · simp only [go_sem, sWriteS, sHasSuf]
      have := hK u2 n2 (by omega) (by omega)
      simp only [List.length_append, len_cons, len_nil] at this
      exact this
  · have hk : lackM s = false := by
      rw [← hlk]
      by_cases h0 : s = []
      · rw [decide_eq_false (by simpa using h0), Bool.false_and]
      · rw [hc h0, Bool.and_false]
    have ha : sideM s = s := if_neg (by rw [hk]; simp)
    rw [hk] at hK
    rw [ha] at hl hK
    rw [hlk, hk]
    refine ⟨_, toFitsV (fun p => p) (l := [(4, .val (.bool false))]) (r := [(0, .box v 84 2 (bldC true 0 v 1 u1 (l ++ s).length)), (1, rowB u1 (l ++ s))]) (sz := 20) (top := 2) (nx := n1) (df := []) ?_, ?_⟩
    · simp only [go_sem, sWriteS, sHasSuf]
      exact ⟨RowLe.refl _, RowLe.refl _⟩
    · simp only [go_sem, sWriteS, sHasSuf]
      have := hK u1 n1 (by omega) (by omega)
      simp only [List.length_append, len_cons, len_nil] at this
      exact this
def sPrSide : MSpec := framed sPrSide0
theorem okPrSide : MethOK Tryd.prog 75 sPrSide := okPrSide0.frame
def printP (w : Int) (p : Pt) : BS :=
  if hkP p = true then
    lineM (60, false, p.1) w ++ (sideM p.2.2.2.2.2.1 ++ (if p.2.2.2.2.2.2.2.2 = true then
        lineM (124, lackM p.2.2.2.2.2.1, p.2.1) w ++ (sideM p.2.2.2.2.2.2.1 ++ (lineM (61, lackM p.2.2.2.2.2.2.1, []) w ++ (sideM p.2.2.2.2.2.2.2.1 ++ lineM (62, lackM p.2.2.2.2.2.2.2.1, p.2.2.1) w)))
      else lineM (61, lackM p.2.2.2.2.2.1, []) w ++ (sideM p.2.2.2.2.2.2.2.1 ++ lineM (62, lackM p.2.2.2.2.2.2.2.1, p.2.2.1) w)))
  else txP p
def sPrConf0 : MSpec := sBld fun xs a r => ∃ (p : Pt) (w : Int), xs = [(kA ePt).enc p, .val (.int .i64 w)] ∧ a = printP w p ∧ r = .val (.tuple #[]) ∧ hkP p = true ∧ okPt p ∧ 0 ≤ w ∧ w ≤ 10000000000
theorem okPrConf0 : MethOK Tryd.prog 54 sPrConf0 := by
  refine MethOK.mk Tryd.func54 rfl (by decide) Tryd.results54 Tryd.ntmps54 ?_
  rintro args hp top nx K ⟨f, v, u, l, xs, a, r, rfl, ⟨p, w, rfl, rfl, rfl, hh, hp, hw1, hw2⟩, rfl, rfl, hl, hK⟩
  have hΓ : GOK Tryd.prog (gam [(55, sWriteS), (75, sPrSide), (47, sLineI)]) := (.cons okWriteS (.cons okPrSide (.cons okLineI .nil)))
  refine ⟨Nat.le_of_ble_eq_true rfl, AW.late ?_⟩
  obtain ⟨ll, bl, rl, h, t, lf, b, r, hb⟩ := p
  obtain ⟨⟨p1, p2, p3⟩, p4, p5, p6, p7⟩ := hp
  simp only [txP] at p1 p2 p3 p4 p5 p6 p7
  unfold printP at hl hK
  rw [if_pos hh] at hl hK
  simp only at hl hK
  generalize ha1 : lineM (60, false, ll) w = a1 at *
  generalize ha2 : sideM lf = a2 at *
  generalize ha3 : lineM (124, lackM lf, bl) w = a3 at *
  generalize ha4 : sideM b = a4 at *
  generalize ha6 : sideM r = a6 at *
  generalize ha7 : lineM (62, lackM r, rl) w = a7 at *
  refine AW.of hΓ mixed [0] _ _ _ rfl ?_
  simp only [go_sem, sWriteS, sPrSide, sLineI]
  refine AW.cut ⟨[(0, .pt 0 v 0), (2, .val (.int .i64 w)), (4, .pt 2 nx 0)], [(0, .box v 84 2 (bldC f 0 v 1 u l.length)), (1, rowB u l), (2, .box nx 66 9 (ePt.enc (ll, bl, rl, h, t, lf, b, r, hb)))], 53, 3, nx + 1, []⟩ ?_ ?_
  · simp only [go_sem, sWriteS, sPrSide, sLineI]
    exact ⟨RowLe.refl _, RowLe.refl _, RowLe.refl _⟩
  refine AW.still 4 2 nx 66 9 _ rfl rfl (fun j hj => match j, hj with | 0, _ => rfl | 1, _ => rfl | 2, _ => rfl | 3, _ => rfl | 4, _ => rfl | 5, _ => rfl | 6, _ => rfl | 7, _ => rfl | 8, _ => rfl) ?_
  refine AW.of hΓ mixed [99999] _ _ _ rfl ?_
  simp only [go_sem, sWriteS, sPrSide, sLineI, ha1]
  cases hb with
  | true =>
    simp only [if_true] at hl hK
    generalize ha5 : lineM (61, lackM b, []) w = a5 at *
    rw [show a1 ++ (a2 ++ (a3 ++ (a4 ++ (a5 ++ (a6 ++ a7))))) = a1 ++ a2 ++ a3 ++ a4 ++ a5 ++ a6 ++ a7 by simp only [List.append_assoc]] at hl hK
    have hl : l.length + a1.length + a2.length + a3.length + a4.length + a5.length + a6.length + a7.length ≤ 100000000000 := by
      simp only [List.length_append] at hl
      omega
    refine ⟨⟨.inl rfl, hw1, hw2, by omega⟩, write_go rfl (by decide) (RowLe.refl _) (RowLe.refl _) (by decide) (by omega) fun u1 n1 g1 h1 => ?_⟩
    simp only [go_sem, sWriteS, sPrSide, sLineI]
    refine bld_go ⟨lf, rfl, ha2.symm, rfl, by omega⟩ (by simp [Nat.add_assoc]) (by decide) (RowLe.refl _) (RowLe.refl _) (by decide) (by simp; omega) fun u2 n2 g2 h2 => ?_
    simp only [go_sem, sWriteS, sPrSide, sLineI]
    rw [ha3]
    refine ⟨⟨.inr (.inl rfl), hw1, hw2, by omega⟩, write_go (by simp [Nat.add_assoc]) (by decide) (RowLe.refl _) (RowLe.refl _) (by decide) (by simp; omega) fun u3 n3 g3 h3 => ?_⟩
    simp only [go_sem, sWriteS, sPrSide, sLineI]
    refine bld_go ⟨b, rfl, ha4.symm, rfl, by omega⟩ (by simp [Nat.add_assoc]) (by decide) (RowLe.refl _) (RowLe.refl _) (by decide) (by simp; omega) fun u4 n4 g4 h4 => ?_
    simp only [go_sem, sWriteS, sPrSide, sLineI, ha5]
    refine ⟨⟨.inr (.inr (.inl rfl)), hw1, hw2⟩, write_go (by simp [Nat.add_assoc]) (by decide) (RowLe.refl _) (RowLe.refl _) (by decide) (by simp; omega) fun u5 n5 g5 h5 => ?_⟩
    simp only [go_sem, sWriteS, sPrSide, sLineI]
    refine bld_go ⟨r, rfl, ha6.symm, rfl, by omega⟩ (by simp [Nat.add_assoc]) (by decide) (RowLe.refl _) (RowLe.refl _) (by decide) (by simp; omega) fun u6 n6 g6 h6 => ?_
    simp only [go_sem, sWriteS, sPrSide, sLineI, ha7]
    refine ⟨⟨.inr (.inr (.inr rfl)), hw1, hw2, by omega⟩, write_go (by simp [Nat.add_assoc]) (by decide) (RowLe.refl _) (RowLe.refl _) (by decide) (by simp; omega) fun u7 n7 g7 h7 => ?_⟩
    simp only [go_sem, sWriteS, sPrSide, sLineI]
    refine ⟨_, toFitsV (fun p => p) (l := []) (r := [(0, .box v 84 2 (bldC true 0 v 1 u7 (l ++ (a1 ++ a2 ++ a3 ++ a4 ++ a5 ++ a6 ++ a7)).length)), (1, rowB u7 (l ++ (a1 ++ a2 ++ a3 ++ a4 ++ a5 ++ a6 ++ a7)))]) (sz := 53) (top := 2) (nx := n7) (df := []) ?_, ?_⟩
    · simp only [go_sem, sWriteS, sPrSide, sLineI]
      exact ⟨bld_len (by simp [Nat.add_assoc]), rowB_eq (by simp)⟩
    · simp only [go_sem, sWriteS, sPrSide, sLineI]
      have := hK u7 n7 (by omega) (by omega)
      simp only [List.length_append, len_cons, len_nil] at this
      exact this
  | false =>
    have e0 : (if false = true then a3 ++ (a4 ++ (lineM (61, lackM b, []) w ++ (a6 ++ a7))) else lineM (61, lackM lf, []) w ++ (a6 ++ a7)) = lineM (61, lackM lf, []) w ++ (a6 ++ a7) := if_neg (by simp)
    rw [e0] at hl hK
    generalize ha5 : lineM (61, lackM lf, []) w = a5 at *
    rw [show a1 ++ (a2 ++ (a5 ++ (a6 ++ a7))) = a1 ++ a2 ++ a5 ++ a6 ++ a7 by simp only [List.append_assoc]] at hl hK
    have hl : l.length + a1.length + a2.length + a5.length + a6.length + a7.length ≤ 100000000000 := by
      simp only [List.length_append] at hl
      omega
    refine ⟨⟨.inl rfl, hw1, hw2, by omega⟩, write_go rfl (by decide) (RowLe.refl _) (RowLe.refl _) (by decide) (by omega) fun u1 n1 g1 h1 => ?_⟩
    simp only [go_sem, sWriteS, sPrSide, sLineI]
    refine bld_go ⟨lf, rfl, ha2.symm, rfl, by omega⟩ (by simp) (by decide) (RowLe.refl _) (RowLe.refl _) (by decide) (by simp; omega) fun u2 n2 g2 h2 => ?_
    simp only [go_sem, sWriteS, sPrSide, sLineI, ha5]
    refine ⟨⟨.inr (.inr (.inl rfl)), hw1, hw2⟩, write_go (by simp [Nat.add_assoc]) (by decide) (RowLe.refl _) (RowLe.refl _) (by decide) (by simp; omega) fun u5 n5 g5 h5 => ?_⟩
    simp only [go_sem, sWriteS, sPrSide, sLineI]
    refine bld_go ⟨r, rfl, ha6.symm, rfl, by omega⟩ (by simp [Nat.add_assoc]) (by decide) (RowLe.refl _) (RowLe.refl _) (by decide) (by simp; omega) fun u6 n6 g6 h6 => ?_
    simp only [go_sem, sWriteS, sPrSide, sLineI, ha7]
    refine ⟨⟨.inr (.inr (.inr rfl)), hw1, hw2, by omega⟩, write_go (by simp [Nat.add_assoc]) (by decide) (RowLe.refl _) (RowLe.refl _) (by decide) (by simp; omega) fun u7 n7 g7 h7 => ?_⟩
    simp only [go_sem, sWriteS, sPrSide, sLineI]
    refine ⟨_, toFitsV (fun p => p) (l := []) (r := [(0, .box v 84 2 (bldC true 0 v 1 u7 (l ++ (a1 ++ a2 ++ a5 ++ a6 ++ a7)).length)), (1, rowB u7 (l ++ (a1 ++ a2 ++ a5 ++ a6 ++ a7)))]) (sz := 53) (top := 2) (nx := n7) (df := []) ?_, ?_⟩
    · simp only [go_sem, sWriteS, sPrSide, sLineI]
      exact ⟨bld_len (by simp [Nat.add_assoc]), rowB_eq (by simp)⟩
    · simp only [go_sem, sWriteS, sPrSide, sLineI]
      have := hK u7 n7 (by omega) (by omega)
      simp only [List.length_append, len_cons, len_nil] at this
      exact this
def sPrConf : MSpec := framed sPrConf0
theorem okPrConf : MethOK Tryd.prog 54 sPrConf := okPrConf0.frame
def printL (w : Int) (d : List Pt) : BS := (d.map (printP w)).flatten
theorem printL_snoc (w : Int) (l : List Pt) (p : Pt) : printL w (l ++ [p]) = printL w l ++ printP w p := by simp [printL]
theorem printL_take (w : Int) (d : List Pt) (i : Nat) : (printL w (d.take i)).length ≤ (printL w d).length := by
  have h : printL w d = printL w (d.take i) ++ printL w (d.drop i) := by
    unfold printL
    rw [← List.flatten_append, ← List.map_append, List.take_append_drop]
  rw [h, List.length_append]
  omega
theorem conf_of {d : List Pt} {i : Nat} (h : rightD d = true) (hi : i < d.length) (hh : hkP (d.getD i ePt.dflt) = false) : isTextD (d.getD i ePt.dflt) = true ∧ txP (d.getD i ePt.dflt) ≠ [] := by
  have h1 := of_decide_eq_true h i hi
  unfold okAt at h1
  simp only [Bool.and_eq_true, Bool.or_eq_true] at h1
  rcases h1.2 with h2 | h2
  · unfold confD at h2
    simp only [Bool.and_eq_true] at h2
    rw [show hkP (d.getD i ePt.dflt) = (d.getD i ePt.dflt).2.2.2.1 from rfl] at hh
    rw [h2.1] at hh
    cases hh
  · unfold aheadD at h2
    simp only [Bool.and_eq_true, decide_eq_true_eq] at h2
    exact ⟨h2.1, h2.2.1⟩
theorem printL_ne {w : Int} {d : List Pt} (hw : wideM w = true) (h : rightD d = true) (h0 : d ≠ []) : printL w d ≠ [] := by
  have hi : 0 < d.length := List.length_pos_iff.2 h0
  have hn : printP w (d.getD 0 ePt.dflt) ≠ [] := by
    unfold printP
    cases hh : hkP (d.getD 0 ePt.dflt) with
    | true =>
      rw [if_pos rfl]
      have hw2 := wide_iff.1 hw
      obtain ⟨n, hn⟩ : ∃ n, w.toNat = n + 1 := ⟨w.toNat - 1, by omega⟩
      unfold lineM
      rw [hn, List.replicate_succ]
      simp
    | false =>
      rw [if_neg (by simp)]
      exact (conf_of h hi hh).2
  cases d with
  | nil => exact absurd rfl h0
  | cons p d =>
    intro e
    unfold printL at e
    simp only [List.map_cons, List.flatten_cons, List.append_eq_nil_iff] at e
    exact hn e.1
def printR (d : List Pt) (w : Int) : BS × Int := if wideM w = false then ([], 4) else if rightD d = false then ([], 11) else if fitsD d w = false then ([], 4) else (printL w d, 0)
def sPrintM : Spec := Spec.f2 (kL ePt) kI (fun d w => (d.length < 100000000 ∧ ∀ p ∈ d, okPt p) ∧ (wideM w = true → (printL w d).length ≤ 90000000000)) (fun d w => tu2 (kS.enc (printR d w).1) (kI.enc (printR d w).2))
theorem okPrintM : SpecOK Tryd.prog 28 sPrintM := by
  refine SpecOK.f2 Tryd.func28 rfl (by decide) Tryd.results28 Tryd.ntmps28 (by decide) fun d w ⟨⟨hd1, hd2⟩, hd3⟩ => ?_
  have hΓ : GOK Tryd.prog (gam [(45, sIsWidth), (34, sRightD), (35, sFitsD), (54, sPrConf), (55, sWriteS), (56, sStr)]) := (.cons okIsWidth (.cons okRightD (.cons okFitsD (.cons okPrConf (.cons okWriteS (.cons okStr .nil))))))
  unfold printR
  by_cases hw : wideM w = false
  · refine AW.of hΓ mixed [] _ _ _ rfl ?_
    simp only [go_sem, sIsWidth, sRightD, sFitsD, sPrConf, sWriteS, sStr, hw]
  have hw' : wideM w = true := by simpa using hw
  have hw2 := wide_iff.1 hw'
  rw [if_neg hw]
  by_cases hr : rightD d = false
  · refine AW.of hΓ mixed [] _ _ _ rfl ?_
    simp only [go_sem, sIsWidth, sRightD, sFitsD, sPrConf, sWriteS, sStr, hw', hr]
    exact ⟨hd1, hd2⟩
  have hr' : rightD d = true := by simpa using hr
  rw [if_neg hr]
  by_cases hf : fitsD d w = false
  · refine AW.of hΓ mixed [] _ _ _ rfl ?_
    simp only [go_sem, sIsWidth, sRightD, sFitsD, sPrConf, sWriteS, sStr, hw', hr', hf]
    exact ⟨hd1, hd2⟩
  have hf' : fitsD d w = true := by simpa using hf
  rw [if_neg hf]
  refine AW.of hΓ mixed [0] _ _ _ rfl ?_
  simp only [go_sem, sIsWidth, sRightD, sFitsD, sPrConf, sWriteS, sStr]
  refine AW.seqTo (fun _ : Unit => Sh.st ⟨[(0, sL ePt d), (1, .val (.int .i64 w))], [], 38, 0, 0, []⟩) ?_ fun _ => ?_
  · refine AW.of hΓ mixed [] _ _ _ rfl ?_
    simp only [go_sem, sIsWidth, sRightD, sFitsD, sPrConf, sWriteS, sStr, hw', hr', hf']
    refine ⟨⟨hd1, hd2⟩, ⟨hd1, hd2⟩, (), toFits ?_⟩
    simp only [go_sem, sIsWidth, sRightD, sFitsD, sPrConf, sWriteS, sStr]
  refine AW.fork (AW.regionO hΓ [true] ?_)
  simp only [go_sem, sIsWidth, sRightD, sFitsD, sPrConf, sWriteS, sStr]
  refine alloc_wp rfl zero84 (Nat.lt_of_lt_of_le (by decide : 6 < 38) (Nat.le_refl _)) ?_
  simp only [go_sem, sIsWidth, sRightD, sFitsD, sPrConf, sWriteS, sStr]
  by_cases h0 : d = []
  · subst h0
    refine AW.cut ⟨[(0, sL ePt []), (1, .val (.int .i64 w)), (6, .pt 0 0 0)], [(0, .box 0 84 2 bld0)], 38, 1, 1, []⟩ ?_ ?_
    · simp only [go_sem, sIsWidth, sRightD, sFitsD, sPrConf, sWriteS, sStr]
      refine RowLe.box fun j hj => ?_
      match j, hj with
      | 0, _ => exact AVle.refl _
      | 1, _ => exact AVle.refl _
    refine AW.of hΓ mixed [] _ _ _ rfl ?_
    simp only [go_sem, sIsWidth, sRightD, sFitsD, sPrConf, sWriteS, sStr]
    refine AW.round (α := Nat) (fun nx => ⟨[(6, .pt 0 0 0), (22, sL ePt []), (23, .val (.int .i64 0)), (24, .val (.int .i64 0))], [(0, .box 0 84 2 bld0)], 38, 1, nx, []⟩) (fun _ => 0) 1 ?_ ?_
    · simp only [go_sem, sIsWidth, sRightD, sFitsD, sPrConf, sWriteS, sStr]
      exact RowLe.refl _
    · intro nx
      refine AW.of hΓ mixed [99999] _ _ _ rfl ?_
      simp only [go_sem, sIsWidth, sRightD, sFitsD, sPrConf, sWriteS, sStr]
      exact .inr ⟨0, 0, rfl, rfl, rfl⟩
  · refine AW.cut ⟨[(0, sL ePt d), (1, .val (.int .i64 w)), (6, .pt 0 0 0)], [(0, .box 0 84 2 fun j => if j = 0 then .val (.pointer none) else .em)], 38, 1, 1, []⟩ ?_ ?_
    · simp only [go_sem, sIsWidth, sRightD, sFitsD, sPrConf, sWriteS, sStr]
      refine RowLe.box fun j hj => ?_
      match j, hj with
      | 0, _ => exact AVle.refl _
      | 1, _ => exact nil_em
    refine AW.adoptB (q := 0) 1 5 1 (byteC []) rfl rfl ?_
    refine AW.cut ⟨[(0, sL ePt d), (1, .val (.int .i64 w)), (6, .pt 0 0 0)], [(0, .box 0 84 2 (bldC false 0 0 1 1 0)), (1, rowB 1 [])], 38, 2, 2, []⟩ ?_ ?_
    · simp only [go_sem, sIsWidth, sRightD, sFitsD, sPrConf, sWriteS, sStr]
      refine ⟨RowLe.box fun j hj => ?_, RowLe.refl _⟩
      match j, hj with
      | 0, _ => exact AVle.refl _
      | 1, _ => exact AVle.refl _
    refine AW.of hΓ mixed [] _ _ _ rfl ?_
    simp only [go_sem, sIsWidth, sRightD, sFitsD, sPrConf, sWriteS, sStr]
    refine AW.round (α := { x : Nat × Bool × Nat × Nat // x.1 ≤ d.length })
      (fun x => ⟨[(1, .val (.int .i64 w)), (6, .pt 0 0 0), (22, sL ePt d), (23, .val (.int .i64 d.length)), (24, .val (.int .i64 x.1.1))],
        [(0, .box 0 84 2 (bldC x.1.2.1 0 0 1 x.1.2.2.1 (printL w (d.take x.1.1)).length)), (1, rowB x.1.2.2.1 (printL w (d.take x.1.1)))], 38, 2, x.1.2.2.2, []⟩) (fun x => d.length - x.1.1) ⟨(0, false, 1, 2), Nat.zero_le _⟩ ?_ ?_
    · simp only [go_sem, sIsWidth, sRightD, sFitsD, sPrConf, sWriteS, sStr]
      exact ⟨RowLe.refl _, RowLe.refl _⟩
    · rintro ⟨⟨i, f, u, nx⟩, hi⟩
      simp only at hi
      refine AW.of hΓ mixed [10, 99999] _ _ _ rfl ?_
      simp only [go_sem, sIsWidth, sRightD, sFitsD, sPrConf, sWriteS, sStr]
      refine ⟨fun hlt => ⟨by omega, ?_⟩, fun hge => ?_⟩
      · have hlt' : i < d.length := by omega
        have hpi : okPt (d.getD i ePt.dflt) := by
          rw [gd_lt d _ hlt']
          exact hd2 _ (List.getElem_mem _)
        have hcf := conf_of (i := i) hr' hlt'
        have hsn := printL_snoc w (d.take i) (d.getD i ePt.dflt)
        rw [← take_snoc d ePt.dflt hlt'] at hsn
        have htl := printL_take w d (i + 1)
        have hd3 := hd3 hw'
        rw [hsn, List.length_append] at htl
        generalize hpe : d.getD i ePt.dflt = p at *
        refine AW.cut ⟨[(1, .val (.int .i64 w)), (6, .pt 0 0 0), (8, .pt 2 nx 0), (22, sL ePt d), (23, .val (.int .i64 d.length)), (24, .val (.int .i64 i))],
          [(0, .box 0 84 2 (bldC f 0 0 1 u (printL w (d.take i)).length)), (1, rowB u (printL w (d.take i))), (2, .box nx 66 9 (ePt.enc p))], 38, 3, nx + 1, []⟩ ?_ ?_
        · simp only [go_sem, sIsWidth, sRightD, sFitsD, sPrConf, sWriteS, sStr]
          exact ⟨RowLe.refl _, RowLe.refl _, RowLe.box fun j hj => AVle.of_eq (stC_in (Nat.zero_le _) (by omega))⟩
        refine AW.still 8 2 nx 66 9 _ rfl rfl (fun j hj => match j, hj with | 0, _ => rfl | 1, _ => rfl | 2, _ => rfl | 3, _ => rfl | 4, _ => rfl | 5, _ => rfl | 6, _ => rfl | 7, _ => rfl | 8, _ => rfl) ?_
        generalize hte : printL w (d.take i) = t at *
        refine AW.of hΓ mixed [99999] _ _ _ rfl ?_
        simp only [go_sem, sIsWidth, sRightD, sFitsD, sPrConf, sWriteS, sStr, pt_eta]
        refine ⟨fun hc => ?_, fun hc => ?_⟩
        · refine bld_go ⟨p, w, rfl, rfl, rfl, hc, hpi, by omega, by omega⟩ rfl (by decide) (RowLe.refl _) (RowLe.refl _) (by decide) (by omega) fun u1 n1 g1 h1 => ?_
          simp only [go_sem, sIsWidth, sRightD, sFitsD, sPrConf, sWriteS, sStr]
          refine ⟨by omega, ⟨(i + 1, true, u1, n1), by dsimp only; omega⟩, ⟨Nat.le_refl _, by dsimp only; omega, bld_len ?_, rowB_eq ?_⟩, by dsimp only; omega⟩
          · dsimp only
            rw [hsn, List.length_append]
          · dsimp only
            rw [hsn]
        · have htx : printP w p = p.2.2.2.2.1 := if_neg (by rw [show hkP p = p.2.2.2.1 from rfl, hc]; simp)
          rw [htx] at htl hsn
          refine write_go rfl (by decide) (RowLe.refl _) (RowLe.refl _) (by decide) (by omega) fun u1 n1 g1 h1 => ?_
          simp only [go_sem, sIsWidth, sRightD, sFitsD, sPrConf, sWriteS, sStr]
          refine ⟨by omega, ⟨(i + 1, true, u1, n1), by dsimp only; omega⟩, ⟨Nat.le_refl _, by dsimp only; omega, bld_len ?_, rowB_eq ?_⟩, by dsimp only; omega⟩
          · dsimp only
            rw [hsn, List.length_append]
          · dsimp only
            rw [hsn]
      · obtain rfl : i = d.length := by omega
        rw [List.take_length]
        refine .inl ⟨f, 0, 0, 1, u, printL w d, rfl, rfl, rfl, printL_ne hw' hr' h0, by have := hd3 hw'; omega, rfl⟩
end Go.Proofs.YtljgfacjefebaaaDoor
