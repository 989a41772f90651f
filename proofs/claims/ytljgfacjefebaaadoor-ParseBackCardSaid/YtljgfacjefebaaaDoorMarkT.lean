/-
  The laws of markers: what they come to.
-/
import Derived.Test.YtljgfacjefebaaaDoorMarkU
import Derived.Test.YtljgfacjefebaaaDoorDocT
set_option linter.unusedSimpArgs false
set_option linter.unusedVariables false
set_option maxRecDepth 100000
set_option maxHeartbeats 2000000
namespace Go.Proofs.YtljgfacjefebaaaDoor
open Go
attribute [local irreducible] AW AVle ASle RowLe
def sToldM : Spec := Spec.f0 (kB.enc true)
theorem okToldM : SpecOK Tryd.prog 24 sToldM := by
  refine SpecOK.f0 Tryd.func24 rfl (by decide) Tryd.results24 Tryd.ntmps24 ?_
  have hΓ : GOK Tryd.prog (gam [(28, sPrintM), (25, sReadM)]) := (.cons okPrintM (.cons okReadM .nil))
  have e1 : printR [([], [], [], true, [], [97], [], [98, 10], false)] 7 = ([60, 60, 60, 60, 60, 60, 60, 10, 97, 10, 61, 61, 61, 61, 61, 61, 61, 33, 10, 98, 10, 62, 62, 62, 62, 62, 62, 62, 10], 0) := by decide
  have e2 : readM [61, 61, 61, 61, 61, 61, 61, 33, 10] 7 = ((61, true, []), true, 0) := by decide
  have e3 : readM [61, 61, 61, 61, 61, 61, 61, 61, 10] 7 = (mk0, false, 6) := by decide
  have e4 : okPt ([], [], [], true, [], [97], [], [98, 10], false) := by unfold okPt; decide
  have e5 : (printL 7 [([], [], [], true, [], [97], [], [98, 10], false)]).length ≤ 90000000000 := by decide
  refine AW.of hΓ mixed [] _ _ _ rfl ?_
  simp only [go_sem, sPrintM, sReadM, e1, e2, e3, e4, e5]
theorem lineM_ge (m : Mk) (w : Int) : m.2.2.length ≤ (lineM m w).length := by
  unfold lineM tailM
  simp only [List.length_append]
  by_cases h : m.2.2 = []
  · rw [h]; simp
  · rw [if_neg h, List.length_cons]
    omega
theorem lineR_0 {m : Mk} {w : Int} (h : (lineR m w).2 = 0) : mayM m = true ∧ wideM w = true ∧ lineR m w = (lineM m w, 0) := by
  unfold lineR at *
  by_cases h1 : wideM w = false
  · rw [if_pos h1] at h; simp at h
  · by_cases h2 : mayM m = false
    · rw [if_neg h1, if_pos h2] at h; simp at h
    · rw [if_neg h1, if_neg h2]
      exact ⟨by simpa using h2, by simpa using h1, rfl⟩
theorem lineR_ok {m : Mk} {w : Int} (h1 : mayM m = true) (h2 : wideM w = true) : lineR m w = (lineM m w, 0) := by
  unfold lineR
  rw [if_neg (by rw [h2]; simp), if_neg (by rw [h1]; simp)]
theorem u64_mod (n : Int) (k : Int) (hk : 0 < k) : 0 ≤ (IntKind.u64.wrap n).tmod k ∧ (IntKind.u64.wrap n).tmod k < k := by
  have h : 0 ≤ IntKind.u64.wrap n := by
    unfold IntKind.wrap
    simp [IntKind.bits, IntKind.signed]
    omega
  rw [Int.tmod_eq_emod_of_nonneg h]
  exact ⟨Int.emod_nonneg _ (by omega), Int.emod_lt_of_pos _ hk⟩
def sMarkLines : Spec := Spec.f2 (kA eMk) kI (fun m _ => (0 ≤ m.1 ∧ m.1 ≤ 255)) (fun _ _ => kB.enc true)
theorem okMarkLines : SpecOK Tryd.prog 5 sMarkLines := by
  refine SpecOK.f2 Tryd.func5 rfl (by decide) Tryd.results5 Tryd.ntmps5 (by decide) fun m w hk => ?_
  have hΓ : GOK Tryd.prog (gam [(20, sNarrow), (21, sLineM), (23, sRefLine), (24, sToldM), (25, sReadM), (26, sFromM), (22, sToM)]) := (.cons okNarrow (.cons okLineM (.cons okRefLine (.cons okToldM (.cons okReadM (.cons okFromM (.cons okToM .nil)))))))
  obtain ⟨k, f, l⟩ := m
  simp only at hk
  refine AW.of hΓ mixed [1] _ _ _ rfl ?_
  simp only [go_sem, sNarrow, sLineM, sRefLine, sToldM, sReadM, sFromM, sToM]
  refine ⟨by omega, ?_⟩
  have el : (min (l.length : Int) 200).toNat = min l.length 200 := by omega
  have hl : (l.take (min l.length 200)).length ≤ 200 := by simp; omega
  rw [el]
  generalize l.take (min l.length 200) = x at *
  refine AW.cut ⟨[(1, .val (.int .i64 w)), (2, .pt 0 0 0)], [(0, .box 0 37 3 (eMk.enc (k, f, x)))], 68, 1, 1, []⟩ ?_ ?_
  · simp only [go_sem, sNarrow, sLineM, sRefLine, sToldM, sReadM, sFromM, sToM]
    exact mkRow rfl rfl rfl
  refine AW.of hΓ mixed [] _ _ _ rfl ?_
  simp only [go_sem, sNarrow, sLineM, sRefLine, sToldM, sReadM, sFromM, sToM]
  refine ⟨by omega, ⟨hk, by omega⟩, fun h => ?_⟩
  obtain ⟨h1, h2, h3⟩ := lineR_0 (Decidable.not_not.1 h)
  have h4 := narr_wide h2
  have h5 := lineM_len (k, f, x) (narrW w)
  simp only at h5
  rw [h3]
  simp only [read_line h1 h2]
  exact ⟨by omega, ⟨trivial, trivial⟩, trivial, trivial, trivial⟩
def sMarkReads : Spec := Spec.f2 kS kI (fun _ _ => True) (fun _ _ => kB.enc true)
theorem okMarkReads : SpecOK Tryd.prog 6 sMarkReads := by
  refine SpecOK.f2 Tryd.func6 rfl (by decide) Tryd.results6 Tryd.ntmps6 (by decide) fun l w _ => ?_
  have hΓ : GOK Tryd.prog (gam [(20, sNarrow), (21, sLineM), (25, sReadM), (27, sRefReadM), (24, sToldM), (26, sFromM)]) := (.cons okNarrow (.cons okLineM (.cons okReadM (.cons okRefReadM (.cons okToldM (.cons okFromM .nil))))))
  refine AW.of hΓ mixed [1] _ _ _ rfl ?_
  simp only [go_sem, sNarrow, sLineM, sReadM, sRefReadM, sToldM, sFromM]
  refine ⟨by omega, ?_⟩
  have el : (min (l.length : Int) 400).toNat = min l.length 400 := by omega
  have hl : (l.take (min l.length 400)).length ≤ 400 := by simp; omega
  rw [el]
  generalize l.take (min l.length 400) = x at *
  refine AW.of hΓ mixed [] _ _ _ rfl ?_
  simp only [go_sem, sNarrow, sLineM, sReadM, sRefReadM, sToldM, sFromM]
  refine ⟨by omega, by omega, fun h => ?_⟩
  have h : (readM x (narrW w)).2.1 = true := by simpa using h
  have he : readM x (narrW w) = ((readM x (narrW w)).1, true, (readM x (narrW w)).2.2) := by rw [← h]
  obtain ⟨h1, h2, h3, h4⟩ := line_read he
  have h5 : ((readM x (narrW w)).1.1, (readM x (narrW w)).1.2.1, (readM x (narrW w)).1.2.2) = (readM x (narrW w)).1 := rfl
  have h6 : (readM x (narrW w)).1.2.2.length ≤ x.length := by
    have := lineM_ge (readM x (narrW w)).1 (narrW w)
    rwa [h1] at this
  rw [h5, lineR_ok h2 h3]
  exact ⟨by omega, rfl, h1⟩
def sMarkWidths : Spec := Spec.f3 (kA eMk) kI kI (fun m _ _ => (0 ≤ m.1 ∧ m.1 ≤ 255)) (fun _ _ _ => kB.enc true)
theorem okMarkWidths : SpecOK Tryd.prog 8 sMarkWidths := by
  refine SpecOK.f3 Tryd.func8 rfl (by decide) Tryd.results8 Tryd.ntmps8 (by decide) fun m w v hk => ?_
  have hΓ : GOK Tryd.prog (gam [(21, sLineM), (25, sReadM), (24, sToldM), (22, sToM)]) := (.cons okLineM (.cons okReadM (.cons okToldM (.cons okToM .nil))))
  obtain ⟨k, f, l⟩ := m
  simp only at hk
  refine AW.of hΓ mixed [1] _ _ _ rfl ?_
  simp only [go_sem, sLineM, sReadM, sToldM, sToM]
  refine ⟨by omega, ?_⟩
  have el : (min (l.length : Int) 200).toNat = min l.length 200 := by omega
  have hl : (l.take (min l.length 200)).length ≤ 200 := by simp; omega
  rw [el]
  generalize l.take (min l.length 200) = x at *
  refine AW.cut ⟨[(1, .val (.int .i64 w)), (2, .val (.int .i64 v)), (3, .pt 0 0 0)], [(0, .box 0 37 3 (eMk.enc (k, f, x)))], 78, 1, 1, []⟩ ?_ ?_
  · simp only [go_sem, sLineM, sReadM, sToldM, sToM]
    exact mkRow rfl rfl rfl
  refine AW.of hΓ mixed [] _ _ _ rfl ?_
  simp only [go_sem, sLineM, sReadM, sToldM, sToM]
  have hw := u64_mod w 40 (by decide)
  have hv := u64_mod v 80 (by decide)
  generalize (IntKind.u64.wrap w).tmod 40 = a at *
  generalize (IntKind.u64.wrap v).tmod 80 = b at *
  refine ⟨by omega, by omega, by omega, by omega, by omega, fun h => ?_⟩
  obtain ⟨h1, h2, h3⟩ := lineR_0 (Decidable.not_not.1 h)
  have h5 := lineM_len (k, f, x) (a + 1)
  simp only at h5
  rw [h3]
  dsimp only
  refine ⟨by omega, fun hlt => ?_, fun hn => ⟨fun hgt => ?_, fun hng => ?_⟩⟩
  · rw [read_less h1 (by omega) (by omega) hlt]
    exact ⟨rfl, rfl⟩
  · rw [read_more h1 (by omega) (by omega) hgt]
    exact ⟨rfl, rfl⟩
  · rw [show b + 1 = a + 1 by omega, read_line h1 h2]
    exact ⟨rfl, rfl⟩
end Go.Proofs.YtljgfacjefebaaaDoor
