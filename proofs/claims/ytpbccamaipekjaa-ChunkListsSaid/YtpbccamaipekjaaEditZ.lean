/-
  edit: what the law copies, counts; the document's way back.
-/
import Derived.Test.YtpbccamaipekjaaEditY
import Derived.Test.YtpbccamaipekjaaAxp
set_option linter.unusedSimpArgs false
set_option linter.unusedVariables false
set_option maxRecDepth 100000
set_option maxHeartbeats 2000000
namespace Go.Proofs.Ytpbccamaipekjaa
open Go
attribute [local irreducible] AW AVle ASle RowLe
theorem vwO0_sp0 (s : Int × List (List UInt8)) : vwO0 ((eP eI (eL eS)).enc s 0) = false := rfl
theorem vwO0_sp1 (s : Int × List (List UInt8)) : vwO0 ((eP eI (eL eS)).enc s 1) = false := rfl
def sumL (l : List (Int × List (List UInt8))) : Nat := (l.map fun s => s.2.length).sum
theorem sumL_snoc (l : List (Int × List (List UInt8))) (s : Int × List (List UInt8)) : sumL (l ++ [s]) = sumL l + s.2.length := by simp [sumL]
theorem sumL_take (l : List (Int × List (List UInt8))) (i : Nat) : sumL (l.take i) ≤ sumL l := by
  have h : sumL (l.take i ++ l.drop i) = sumL (l.take i) + sumL (l.drop i) := by
    unfold sumL
    rw [List.map_append, List.sum_append]
  rw [List.take_append_drop] at h
  omega
theorem sumL_mem {l : List (Int × List (List UInt8))} {s : Int × List (List UInt8)} (h : s ∈ l) : s.2.length ≤ sumL l := by
  induction l with
  | nil => cases h
  | cons t l ih =>
    rcases List.mem_cons.1 h with rfl | h
    · simp [sumL]
    · have := ih h
      simp only [sumL, List.map_cons, List.sum_cons] at *
      omega
theorem sumL_bnd {m : Nat} : ∀ {l : List (Int × List (List UInt8))}, (∀ s ∈ l, s.2.length ≤ m) → sumL l ≤ l.length * m
  | [], _ => by simp [sumL]
  | s :: l, h => by
    have h1 := h s (List.mem_cons_self ..)
    have h2 := sumL_bnd fun x hx => h x (List.mem_cons_of_mem s hx)
    have e : sumL (s :: l) = s.2.length + sumL l := by simp [sumL]
    rw [e, List.length_cons, Nat.succ_mul]
    omega
def sFewE : Spec := Spec.f1 (kL (eP eI (eL eS))) (fun l => l.length ≤ 140737488351232 ∧ ∀ s ∈ l, s.2.length ≤ 140737488351232) (fun l => kB.enc (decide (l.length ≤ 100) && decide (sumL l ≤ 300)))
theorem okFewE : SpecOK Try.prog 17 sFewE := by
  refine SpecOK.f1 Try.func17 rfl (by decide) Try.results17 Try.ntmps17 (by decide) fun l ⟨hl, hs⟩ => ?_
  have hΓ : GOK Try.prog (gam []) := GOK.nil
  refine AW.of hΓ mixed [] _ _ _ rfl ?_
  simp only [go_sem, st_sz]
  refine AW.round (α := { x : Nat × Int × Nat // x.1 ≤ l.length ∧ (x.1 ≤ 100 → x.2.1 = sumL (l.take x.1)) })
    (fun x => ⟨[(0, sL (eP eI (eL eS)) l), (3, .val (.int .i64 x.1.2.1)), (4, .val (.int .i64 x.1.1))], [], 26, 0, x.1.2.2, []⟩) (fun x => l.length - x.1.1) ⟨(0, 0, 0), Nat.zero_le _, fun _ => by simp [sumL]⟩ ?_ ?_
  · simp only [go_sem]
  · rintro ⟨⟨i, u, nx⟩, hi, hu⟩
    simp only at hi hu
    refine AW.fork ?_
    refine AW.of hΓ mixed [99999] _ _ _ rfl ?_
    simp only [go_sem, st_sz, stC20, stC21, sp0, sp1, st_d]
    refine ⟨fun hlt => ?_, fun hge => ?_⟩
    · refine AW.fork (AW.block (AW.regionW hΓ [false, false, false, false, false, false, false, true] ?_))
      simp only [go_sem, st_sz, stC20, stC21, sp0, sp1, st_d]
      refine ⟨by omega, ?_⟩
      refine AW.of hΓ mixed [] _ _ _ rfl ?_
      simp only [go_sem, st_sz, stC20, stC21, sp0, sp1, st_d]
      have hlt' : i < l.length := by omega
      have h1 : (l.getD i (0, [])).2.length ≤ 140737488351232 := by
        rw [gd_lt l _ hlt']
        exact hs _ (List.getElem_mem _)
      have h2 : sumL (l.take i) ≤ (l.take i).length * 140737488351232 := sumL_bnd fun s h => hs s (List.mem_of_mem_take h)
      rw [List.length_take] at h2
      refine ⟨by omega, ⟨(i + 1, IntKind.i64.wrap (u + ((l.getD i (0, [])).2.length : Int)), nx), by dsimp only; omega, fun hh => ?_⟩, ⟨Nat.le_refl _, rfl, by dsimp only; omega⟩, by dsimp only; omega⟩
      dsimp only at hh ⊢
      have e : sumL (l.take (i + 1)) = sumL (l.take i) + (l.getD i (0, [])).2.length := by rw [take_snocE l (0, []) hlt', sumL_snoc]
      have h3 := hu (by omega)
      have h4 : min i l.length * 140737488351232 ≤ 100 * 140737488351232 := Nat.mul_le_mul_right _ (by omega)
      rw [wrap_i64 _ (by omega), e, h3]
      omega
    · refine Bool.eq_iff_iff.2 ?_
      obtain rfl : i = l.length := by omega
      rw [List.take_length] at hu
      simp only [Bool.and_eq_true, decide_eq_true_eq]
      exact ⟨fun ⟨h1, h2⟩ => ⟨by omega, by have := hu (by omega); omega⟩, fun ⟨h1, h2⟩ => ⟨by omega, by have := hu (by omega); omega⟩⟩
def sToE : Spec := Spec.f1 (kL (eP eI (eL eS))) (fun l => l.length < 10000 ∧ ∀ s ∈ l, s.2.length ≤ 10000) (fun l => sL (eP eI (eL eS)) l)
theorem okToE : SpecOK Try.prog 18 sToE := by
  refine SpecOK.f1 Try.func18 rfl (by decide) Try.results18 Try.ntmps18 (by decide) fun l ⟨hl, hs⟩ => ?_
  have hΓ : GOK Try.prog (gam []) := GOK.nil
  refine AW.of hΓ mixed [200005] _ _ _ rfl ?_
  simp only [go_sem, st_sz]
  refine AW.adopt 3 91 2 (fun i => (eP eI (eL eS)).enc (([] : List (Int × List (List UInt8))).getD i (0, []))) rfl ?_
  refine AW.round (α := { x : Nat × Nat × Nat // x.1 ≤ l.length })
    (fun x => ⟨[(0, sL (eP eI (eL eS)) l), (3, .ow 0 x.1.2.1 x.1.1), (4, .val (.int .i64 x.1.1))], [(0, rowL x.1.2.1 91 (eP eI (eL eS)) (l.take x.1.1))], 28, 1, x.1.2.2, []⟩) (fun x => l.length - x.1.1) ⟨(0, 0, 1), Nat.zero_le _⟩ ?_ ?_
  · simp only [go_sem, st_sz]
    exact RowLe.refl _
  · rintro ⟨⟨i, v, nx⟩, hi⟩
    simp only at hi
    have hg : i < l.length → (l.getD i (0, [])).2.length ≤ 10000 := fun h => by
      rw [gd_lt l _ h]
      exact hs _ (List.getElem_mem _)
    refine AW.of hΓ mixed [200005, 99999] _ _ _ rfl ?_
    simp only [go_sem, st_sz, sp0, sp1, st_d]
    refine ⟨fun hlt => ?_, fun hge => ?_⟩
    · refine AW.drawZ hΓ mixed 12 [] [3, 4, 5] [12] (by decide +kernel) ?_
      simp only [go_sem, st_sz, sp0, sp1, st_d]
      have hlt' : i < l.length := by omega
      have hg' := hg hlt'
      have e : l.take (i + 1) = l.take i ++ [l.getD i (0, [])] := take_snocE l (0, []) hlt'
      refine ⟨by omega, by omega, by omega, ⟨by omega, by omega⟩, by omega, ⟨(i + 1, nx, nx + 1), by dsimp only; omega⟩, ⟨Nat.le_refl _, ⟨⟨rfl, rfl⟩, by dsimp only; omega⟩, ?_⟩, by dsimp only; omega⟩
      refine row_app1 (E := eP eI (eL eS)) rfl e (by simp; omega) rfl (by simp) fun j hj => ?_
      match j, hj with
      | 0, _ => exact AVle.refl _
      | 1, _ => exact AVle.refl _
    · obtain rfl : i = l.length := by omega
      refine ⟨by simp, vw_all (E := eP eI (eL eS)) rfl rfl (by simp) |>.trans ?_⟩
      rw [List.take_length]
      exact AVle.refl _
theorem turnK_tab {k : Int} (h : 0 ≤ k) (h2 : k ≤ 2) : [(0 : Int), 2, 1].getD k.toNat 0 = turnK k := by
  obtain rfl | rfl | rfl : k = 0 ∨ k = 1 ∨ k = 2 := by omega
  all_goals rfl
def sFromE : Spec := Spec.f1 (kL (eP eI (eL eS))) (fun l => l.length < 10000 ∧ ∀ s ∈ l, s.2.length ≤ 10000) (fun l => sL (eP eI (eL eS)) l)
theorem okFromE : SpecOK Try.prog 12 sFromE := by
  refine SpecOK.f1 Try.func12 rfl (by decide) Try.results12 Try.ntmps12 (by decide) fun l ⟨hl, hs⟩ => ?_
  have hΓ : GOK Try.prog (gam []) := GOK.nil
  refine AW.of hΓ mixed [200005] _ _ _ rfl ?_
  simp only [go_sem, st_sz]
  refine AW.adopt 3 92 2 (fun i => (eP eI (eL eS)).enc (([] : List (Int × List (List UInt8))).getD i (0, []))) rfl ?_
  refine AW.round (α := { x : Nat × Nat × Nat // x.1 ≤ l.length })
    (fun x => ⟨[(0, sL (eP eI (eL eS)) l), (3, .ow 0 x.1.2.1 x.1.1), (4, .val (.int .i64 x.1.1))], [(0, rowL x.1.2.1 92 (eP eI (eL eS)) (l.take x.1.1))], 28, 1, x.1.2.2, []⟩) (fun x => l.length - x.1.1) ⟨(0, 0, 1), Nat.zero_le _⟩ ?_ ?_
  · simp only [go_sem, st_sz]
    exact RowLe.refl _
  · rintro ⟨⟨i, v, nx⟩, hi⟩
    simp only at hi
    have hg : i < l.length → (l.getD i (0, [])).2.length ≤ 10000 := fun h => by
      rw [gd_lt l _ h]
      exact hs _ (List.getElem_mem _)
    refine AW.of hΓ mixed [200005, 99999] _ _ _ rfl ?_
    simp only [go_sem, st_sz, sp0, sp1, st_d]
    refine ⟨fun hlt => ?_, fun hge => ?_⟩
    · refine AW.drawZ hΓ mixed 12 [] [3, 4, 5] [12] (by decide +kernel) ?_
      simp only [go_sem, st_sz, sp0, sp1, st_d]
      have hlt' : i < l.length := by omega
      have hg' := hg hlt'
      have e : l.take (i + 1) = l.take i ++ [l.getD i (0, [])] := take_snocE l (0, []) hlt'
      refine ⟨by omega, by omega, by omega, ⟨by omega, by omega⟩, by omega, ⟨(i + 1, nx, nx + 1), by dsimp only; omega⟩, ⟨Nat.le_refl _, ⟨⟨rfl, rfl⟩, by dsimp only; omega⟩, ?_⟩, by dsimp only; omega⟩
      refine row_app1 (E := eP eI (eL eS)) rfl e (by simp; omega) rfl (by simp) fun j hj => ?_
      match j, hj with
      | 0, _ => exact AVle.refl _
      | 1, _ => exact AVle.refl _
    · obtain rfl : i = l.length := by omega
      refine ⟨by simp, vw_all (E := eP eI (eL eS)) rfl rfl (by simp) |>.trans ?_⟩
      rw [List.take_length]
      exact AVle.refl _
def sRefBackE : Spec := Spec.f1 (kL (eP eI (eL eS))) (fun l => l.length < 10000 ∧ ∀ s ∈ l, s.2.length ≤ 10000 ∧ 0 ≤ s.1 ∧ s.1 ≤ 2) (fun l => sL (eP eI (eL eS)) (backL l))
theorem okRefBackE : SpecOK Try.prog 22 sRefBackE := by
  refine SpecOK.f1 Try.func22 rfl (by decide) Try.results22 Try.ntmps22 (by decide) fun l ⟨hl, hs⟩ => ?_
  have hΓ : GOK Try.prog (gam []) := GOK.nil
  refine AW.of hΓ mixed [] _ _ _ rfl ?_
  simp only [go_sem]
  refine AW.adopt 3 92 2 (fun i => (eP eI (eL eS)).enc (([] : List (Int × List (List UInt8))).getD i (0, []))) rfl ?_
  refine AW.round (α := { x : Nat × List (Int × List (List UInt8)) × Nat × Nat // x.1 ≤ l.length ∧ x.2.1.length ≤ x.1 ∧ backL l = x.2.1 ++ backL (l.drop x.1) })
    (fun x => ⟨[(0, sL (eP eI (eL eS)) l), (3, .ow 0 x.1.2.2.1 x.1.2.1.length), (4, .val (.int .i64 x.1.1))], [(0, rowL x.1.2.2.1 92 (eP eI (eL eS)) x.1.2.1)], 69, 1, x.1.2.2.2, []⟩) (fun x => l.length - x.1.1) ⟨(0, [], 0, 1), Nat.zero_le _, Nat.le_refl _, rfl⟩ ?_ ?_
  · simp only [go_sem, st_sz]
    exact RowLe.refl _
  · rintro ⟨⟨i, d, v, nx⟩, hi, hdl, hb⟩
    simp only at hi hdl hb
    have hg : ∀ k, k < l.length → (l.getD k (0, [])).2.length ≤ 10000 ∧ 0 ≤ (l.getD k (0, [])).1 ∧ (l.getD k (0, [])).1 ≤ 2 := fun k h => by
      rw [gd_lt l _ h]
      exact hs _ (List.getElem_mem _)
    rcases Nat.lt_or_ge i l.length with hlt | hge
    · have key : ∀ j, [fun (_ : Nat) => AV.val (Value.int .i64 0), fun _ => AV.val (Value.int .i64 2), fun _ => AV.val (Value.int .i64 1)].getD (l.getD i (0, [])).1.toNat (fun _ => AV.any) j = .val (.int .i64 (turnK (l.getD i (0, [])).1)) := fun j => by
        have := hg i hlt
        rw [← turnK_tab this.2.1 this.2.2]
        obtain h | h | h : (l.getD i (0, [])).1 = 0 ∨ (l.getD i (0, [])).1 = 1 ∨ (l.getD i (0, [])).1 = 2 := by omega
        all_goals rw [h]; rfl
      refine AW.of hΓ mixed [99999] _ _ _ rfl ?_
      simp only [go_sem, st_sz, sp0, sp1, st_d, key]
      have g1 := hg i hlt
      refine ⟨fun _ => ⟨by omega, fun _ => by omega, fun _ => by omega, fun _ => by omega, fun h => ?_, fun h => ?_⟩, fun h => by omega⟩
      · obtain ⟨⟨h1, h2⟩, h3⟩ := h
        have e := backL_two (l := l) (i := i) (by omega) h1 h3
        refine ⟨by omega, by omega, by omega, by omega, by omega, by omega,
          ⟨(i + 2, d ++ [turnS (l.getD (i + 1) (0, [])), turnS (l.getD i (0, []))], nx, nx + 1), by dsimp only; omega, by simp; omega, by dsimp only; rw [hb, e, List.append_assoc]⟩, ⟨Nat.le_refl _, ⟨⟨rfl, by simp⟩, by dsimp only; omega⟩, ?_⟩, by dsimp only; omega⟩
        refine row_app (E := eP eI (eL eS)) rfl rfl rfl rfl (by simp) fun i' hi' j hj => ?_
        have t1 : turnS (l.getD (i + 1) (0, [])) = (1, (l.getD (i + 1) (0, [])).2) := by unfold turnS turnK; rw [h3]; rfl
        have t2 : turnS (l.getD i (0, [])) = (2, (l.getD i (0, [])).2) := by unfold turnS turnK; rw [h1]; rfl
        rw [t1, t2]
        match i', hi', j, hj with
        | 0, _, 0, _ => exact AVle.refl _
        | 0, _, 1, _ => exact AVle.refl _
        | 1, _, 0, _ => exact AVle.refl _
        | 1, _, 1, _ => exact AVle.refl _
      · have e := backL_one (l := l) (i := i) hlt (fun hh => h ⟨hh.2.1, by omega⟩ hh.2.2)
        refine ⟨by omega, by omega, by omega, by omega, by omega,
          ⟨(i + 1, d ++ [turnS (l.getD i (0, []))], nx, nx + 1), by dsimp only; omega, by simp; omega, by dsimp only; rw [hb, e, List.append_assoc]⟩, ⟨Nat.le_refl _, ⟨⟨rfl, by simp⟩, by dsimp only; omega⟩, ?_⟩, by dsimp only; omega⟩
        refine row_app (E := eP eI (eL eS)) rfl rfl rfl rfl (by simp) fun i' hi' j hj => ?_
        match i', hi', j, hj with
        | 0, _, 0, _ => exact AVle.refl _
        | 0, _, 1, _ => exact AVle.refl _
    · have hn : ((i : Int) < (l.length : Nat)) = False := eq_false (by omega)
      refine AW.of hΓ mixed [99999] _ _ _ rfl ?_
      simp only [go_sem, st_sz, sp0, sp1, st_d, hn]
      obtain rfl : i = l.length := by omega
      rw [List.drop_length] at hb
      have e : backL l = d := by rw [hb]; exact List.append_nil _
      rw [e]
      exact AVle.refl _
end Go.Proofs.Ytpbccamaipekjaa
