/-
  The laws of docs: what they come to.
-/
import Derived.Test.YtljgfacjefebaaaDoorDocV
import Derived.Test.YtljgfacjefebaaaDoorAxp
set_option linter.unusedSimpArgs false
set_option linter.unusedVariables false
set_option maxRecDepth 100000
set_option maxHeartbeats 2000000
namespace Go.Proofs.YtljgfacjefebaaaDoor
open Go
attribute [local irreducible] AW AVle ASle RowLe
def sRefRunT : Spec := Spec.f1 kS (fun s => s.length ≤ 100000000) (fun s => kI.enc (longL (splitL s)))
theorem okRefRunT : SpecOK Tryd.prog 19 sRefRunT := by
  refine SpecOK.f1 Tryd.func19 rfl (by decide) Tryd.results19 Tryd.ntmps19 (by decide) fun s hs => ?_
  have hΓ : GOK Tryd.prog (gam [(44, sRefSplit), (43, sRefLongest)]) := (.cons okRefSplit (.cons okRefLongest .nil))
  refine AW.of hΓ mixed [] _ _ _ rfl ?_
  simp only [go_sem, sRefSplit, sRefLongest]
  exact ⟨hs, okLs_split hs⟩
def lenP (p : Pt) : Nat := p.2.2.2.2.1.length + p.2.2.2.2.2.1.length + p.2.2.2.2.2.2.1.length + p.2.2.2.2.2.2.2.1.length + p.1.length + p.2.1.length + p.2.2.1.length
def sumP (l : List Pt) : Nat := (l.map lenP).sum
def fewD (l : List Pt) : Bool := decide (l.length ≤ 60) && decide (sumP l ≤ 3000)
theorem sumP_snoc (l : List Pt) (p : Pt) : sumP (l ++ [p]) = sumP l + lenP p := by simp [sumP]
theorem sumP_mem {l : List Pt} {p : Pt} (h : p ∈ l) : lenP p ≤ sumP l := by
  induction l with
  | nil => cases h
  | cons t l ih =>
    have e : sumP (t :: l) = lenP t + sumP l := by simp [sumP]
    rcases List.mem_cons.1 h with rfl | h
    · omega
    · have := ih h
      omega
def rchP (m : Nat) (p : Pt) : Prop := (p.1.length ≤ m ∧ p.2.1.length ≤ m ∧ p.2.2.1.length ≤ m) ∧ p.2.2.2.2.1.length ≤ m ∧ p.2.2.2.2.2.1.length ≤ m ∧ p.2.2.2.2.2.2.1.length ≤ m ∧ p.2.2.2.2.2.2.2.1.length ≤ m
theorem sumP_bnd {m : Nat} : ∀ {l : List Pt}, (∀ p ∈ l, rchP m p) → sumP l ≤ l.length * (7 * m)
  | [], _ => by simp [sumP]
  | p :: l, h => by
    have h1 := h p (List.mem_cons_self ..)
    have h2 := sumP_bnd fun x hx => h x (List.mem_cons_of_mem p hx)
    have e : sumP (p :: l) = lenP p + sumP l := by simp [sumP]
    obtain ⟨⟨g1, g2, g3⟩, g4, g5, g6, g7⟩ := h1
    rw [e, List.length_cons, Nat.succ_mul]
    unfold lenP
    omega
def sFewD : Spec := Spec.f1 (kL ePt) (fun l => l.length ≤ 140737488351232 ∧ ∀ p ∈ l, rchP 140737488351232 p) (fun l => kB.enc (fewD l))
theorem okFewD : SpecOK Tryd.prog 10 sFewD := by
  refine SpecOK.f1 Tryd.func10 rfl (by decide) Tryd.results10 Tryd.ntmps10 (by decide) fun l ⟨hl, hs⟩ => ?_
  have hΓ : GOK Tryd.prog (gam []) := GOK.nil
  refine AW.of hΓ mixed [] _ _ _ rfl ?_
  simp only [go_sem]
  refine AW.round (α := { x : Nat × Int × Nat // x.1 ≤ l.length ∧ (x.1 ≤ 60 → x.2.1 = sumP (l.take x.1)) })
    (fun x => ⟨[(0, sL ePt l), (3, .val (.int .i64 x.1.2.1)), (4, .val (.int .i64 x.1.1))], [], 52, 0, x.1.2.2, []⟩) (fun x => l.length - x.1.1) ⟨(0, 0, 0), Nat.zero_le _, fun _ => by simp [sumP]⟩ ?_ ?_
  · simp only [go_sem]
  · rintro ⟨⟨i, u, nx⟩, hi, hu⟩
    simp only at hi hu
    refine AW.of hΓ mixed [5, 99999] _ _ _ rfl ?_
    simp only [go_sem]
    refine ⟨fun hlt => ⟨by omega, ?_⟩, fun hge => ?_⟩
    · refine AW.regionW hΓ [false, false, false, false, true, false, false, false, true, false, false, false, true, false, false, false, true, false, false, false, true, false, false, false, true, false, false, false, true] ?_
      simp only [go_sem]
      have hlt' : i < l.length := by omega
      have h1 : rchP 140737488351232 (l.getD i ePt.dflt) := by
        rw [gd_lt l _ hlt']
        exact hs _ (List.getElem_mem _)
      have h2 : sumP (l.take i) ≤ (l.take i).length * (7 * 140737488351232) := sumP_bnd fun s h => hs s (List.mem_of_mem_take h)
      rw [List.length_take] at h2
      have e : sumP (l.take (i + 1)) = sumP (l.take i) + lenP (l.getD i ePt.dflt) := by rw [take_snoc l ePt.dflt hlt', sumP_snoc]
      generalize l.getD i ePt.dflt = p at *
      obtain ⟨⟨g1, g2, g3⟩, g4, g5, g6, g7⟩ := h1
      refine ⟨by omega, ⟨(i + 1, IntKind.i64.wrap (IntKind.i64.wrap (IntKind.i64.wrap (IntKind.i64.wrap (IntKind.i64.wrap (IntKind.i64.wrap (IntKind.i64.wrap (u + (p.2.2.2.2.1.length : Int)) + (p.2.2.2.2.2.1.length : Int)) + (p.2.2.2.2.2.2.1.length : Int)) + (p.2.2.2.2.2.2.2.1.length : Int)) + (p.1.length : Int)) + (p.2.1.length : Int)) + (p.2.2.1.length : Int)), nx + 1), by dsimp only; omega, fun hh => ?_⟩, ⟨Nat.le_refl _, rfl, by dsimp only; omega⟩, by dsimp only; omega⟩
      dsimp only at hh ⊢
      have h3 := hu (by omega)
      have h4 : min i l.length * (7 * 140737488351232) ≤ 60 * (7 * 140737488351232) := Nat.mul_le_mul_right _ (by omega)
      rw [wrap_i64 (u + _) (by omega), wrap_i64 (u + _ + _) (by omega), wrap_i64 (u + _ + _ + _) (by omega), wrap_i64 (u + _ + _ + _ + _) (by omega), wrap_i64 (u + _ + _ + _ + _ + _) (by omega), wrap_i64 (u + _ + _ + _ + _ + _ + _) (by omega), wrap_i64 (u + _ + _ + _ + _ + _ + _ + _) (by omega), e, h3]
      unfold lenP
      omega
    · refine Bool.eq_iff_iff.2 ?_
      obtain rfl : i = l.length := by omega
      rw [List.take_length] at hu
      simp only [fewD, Bool.and_eq_true, decide_eq_true_eq]
      exact ⟨fun ⟨h1, h2⟩ => ⟨by omega, by have := hu (by omega); omega⟩, fun ⟨h1, h2⟩ => ⟨by omega, by have := hu (by omega); omega⟩⟩
def sToldD : Spec := Spec.f0 (kB.enc true)
theorem okToldD : SpecOK Tryd.prog 11 sToldD := by
  refine SpecOK.f0 Tryd.func11 rfl (by decide) Tryd.results11 Tryd.ntmps11 ?_
  have hΓ : GOK Tryd.prog (gam [(13, sOfD), (34, sRightD), (18, sWidthD), (35, sFitsD), (33, sConflD)]) := (.cons okOfD (.cons okRightD (.cons okWidthD (.cons okFitsD (.cons okConflD .nil)))))
  have e1 : ofD [([], [], [], false, [97, 10], [], [], [], false), ([], [], [], false, [], [], [], [], false), ([], [], [], false, [98], [], [], [], false)] = [([], [], [], false, [97, 10, 98], [], [], [], false)] := by decide
  have e2 : rightD [([], [], [], false, [97, 10, 98], [], [], [], false)] = true := by decide
  have e3 : longT [[97, 10, 61, 61, 61, 61, 61, 61, 61, 61, 10]] = 8 := by decide
  have e4 : fitsD [([], [], [], false, [97, 10, 98], [], [], [], false)] 0 = false := by decide
  have e5 : fitsD [([], [], [], false, [97, 10, 98], [], [], [], false)] 1 = true := by decide
  have e6 : rightD [([], [], [], false, [], [], [], [], false)] = false := by decide
  have e7 : conflD [([], [], [], true, [], [], [], [], false)] = 1 := by decide
  have e8 : okPt ([], [], [], false, [97, 10, 98], [], [], [], false) := by unfold okPt; decide
  have e9 : okPt ([], [], [], false, [], [], [], [], false) := by unfold okPt; decide
  have e10 : sumT [([], [], [], false, [97, 10], [], [], [], false), ([], [], [], false, [], [], [], [], false), ([], [], [], false, [98], [], [], [], false)] ≤ 1000000000 := by decide
  refine AW.of hΓ mixed [] _ _ _ rfl ?_
  simp only [go_sem, sOfD, sRightD, sWidthD, sFitsD, sConflD, e1, e2, e3, e4, e5, e6, e7, e8, e9, e10]
  decide
theorem longT_two (a b : BS) : longT [a, b] = max (longL (splitL a)) (longL (splitL b)) := by
  unfold longT
  simp
theorem sumT_sumP (l : List Pt) : sumT l ≤ sumP l := by
  induction l with
  | nil => simp [sumT, sumP]
  | cons p l ih =>
    have e1 : sumT (p :: l) = (txP p).length + sumT l := by simp [sumT]
    have e2 : sumP (p :: l) = lenP p + sumP l := by simp [sumP]
    have : (txP p).length ≤ lenP p := by unfold lenP txP; omega
    omega
theorem few_le {l : List Pt} (h : fewD l = true) : l.length ≤ 60 ∧ sumP l ≤ 3000 ∧ sumT l ≤ 3000 := by
  have := sumT_sumP l
  simp only [fewD, Bool.and_eq_true, decide_eq_true_eq] at h
  omega
def sDocWidths : Spec := Spec.f3 kI kS kS (fun n _ _ => -9223372036854775808 ≤ n ∧ n ≤ 9223372036854775807) (fun _ _ _ => kB.enc true)
theorem okDocWidths : SpecOK Tryd.prog 4 sDocWidths := by
  refine SpecOK.f3 Tryd.func4 rfl (by decide) Tryd.results4 Tryd.ntmps4 (by decide) fun n a b hn => ?_
  have hΓ : GOK Tryd.prog (gam [(11, sToldD), (18, sWidthD), (19, sRefRunT)]) := (.cons okToldD (.cons okWidthD (.cons okRefRunT .nil)))
  refine AW.of hΓ mixed [1] _ _ _ rfl ?_
  simp only [go_sem, sToldD, sWidthD, sRefRunT]
  refine ⟨by omega, by omega, ?_⟩
  have ea : (min (a.length : Int) 1000).toNat = min a.length 1000 := by omega
  have eb : (min (b.length : Int) 1000).toNat = min b.length 1000 := by omega
  have ha : (a.take (min a.length 1000)).length ≤ 1000 := by simp; omega
  have hb : (b.take (min b.length 1000)).length ≤ 1000 := by simp; omega
  rw [ea, eb]
  generalize a.take (min a.length 1000) = x at *
  generalize b.take (min b.length 1000) = y at *
  have h1 : longL (splitL x) ≤ 1000 := longL_le fun z hz => Nat.le_trans (split_mem hz) ha
  have h2 : longL (splitL y) ≤ 1000 := longL_le fun z hz => Nat.le_trans (split_mem hz) hb
  have h3 : longT [] = 0 := rfl
  refine AW.of hΓ mixed [] _ _ _ rfl ?_
  simp only [go_sem, sToldD, sWidthD, sRefRunT, longT_two, h3]
  exact ⟨⟨by omega, by omega⟩, by omega, by omega, by omega, by omega, by omega⟩
def sDocJoins : Spec := Spec.f2 (kL ePt) (kL ePt) (fun d e => (d.length ≤ 140737488351232 ∧ ∀ p ∈ d, rchP 140737488351232 p) ∧ e.length ≤ 140737488351232 ∧ ∀ p ∈ e, rchP 140737488351232 p) (fun _ _ => kB.enc true)
theorem okDocJoins : SpecOK Tryd.prog 3 sDocJoins := by
  refine SpecOK.f2 Tryd.func3 rfl (by decide) Tryd.results3 Tryd.ntmps3 (by decide) fun d e ⟨⟨hd1, hd2⟩, he1, he2⟩ => ?_
  have hΓ : GOK Tryd.prog (gam [(10, sFewD), (11, sToldD), (12, sToD), (15, sFromD), (13, sOfD), (16, sRefOf), (14, sSameD), (17, sSameDD)]) := (.cons okFewD (.cons okToldD (.cons okToD (.cons okFromD (.cons okOfD (.cons okRefOf (.cons okSameD (.cons okSameDD .nil))))))))
  have hoo := of_of d
  have hsm := ofD_sum d
  refine AW.of hΓ mixed [] _ _ _ rfl ?_
  simp only [go_sem, sFewD, sToldD, sToD, sFromD, sOfD, sRefOf, sSameD, sSameDD, hoo]
  refine ⟨⟨hd1, hd2⟩, fun _ => ⟨he1, he2⟩, fun h => by rw [h]; rfl, fun h => ?_⟩
  simp only [Bool.or_eq_false_iff, Bool.not_eq_false'] at h
  obtain ⟨f1, f2, f3⟩ := few_le h.1
  obtain ⟨g1, g2, g3⟩ := few_le h.2
  refine ⟨by omega, ⟨by omega, by omega⟩, by omega, ⟨by omega, by omega⟩, by omega, by omega, by omega, by omega, ⟨by omega, by omega⟩, ⟨by omega, by omega⟩, ⟨by omega, by omega⟩, by omega⟩
end Go.Proofs.YtljgfacjefebaaaDoor
