/-
  edit: the document's answers.
-/
import Derived.Test.YtpbccamaipekjaaEditW
import Derived.Test.YtpbccamaipekjaaSameW
set_option linter.unusedSimpArgs false
set_option linter.unusedVariables false
set_option maxRecDepth 100000
set_option maxHeartbeats 2000000
namespace Go.Proofs.Ytpbccamaipekjaa
open Go
attribute [local irreducible] AW AVle ASle RowLe
def sSameE : Spec := Spec.f2 (kL (eP eI (eL eS))) (kL (eP eI (eL eS))) (fun a b => a.length < 10000 ∧ b.length < 10000 ∧ (∀ s ∈ a, s.2.length ≤ 10000) ∧ (∀ s ∈ b, s.2.length ≤ 10000)) (fun a b => kB.enc (decide (a = b)))
theorem okSameE : SpecOK Try.prog 11 sSameE := by
  refine SpecOK.f2 Try.func11 rfl (by decide) Try.results11 Try.ntmps11 (by decide) fun a b ⟨ha, hb, ha2, hb2⟩ => ?_
  have hΓ : GOK Try.prog (gam [(16, sSameS)]) := (.cons okSameS .nil)
  refine AW.of hΓ mixed [] _ _ _ rfl ?_
  simp only [go_sem, sSameS, st_sz]
  refine ⟨fun h => ?_, fun h => ?_⟩
  · first | exact fun e => h (by rw [e]) | rw [decide_eq_false (fun e => h (by rw [e]))]
  refine AW.round (α := { x : Nat × Nat // x.1 ≤ a.length ∧ ∀ k, k < x.1 → a.getD k (0, []) = b.getD k (0, []) })
    (fun x => ⟨[(0, sL (eP eI (eL eS)) a), (1, sL (eP eI (eL eS)) b), (5, .val (.int .i64 x.1.1))], [], 42, 0, x.1.2, []⟩) (fun x => a.length - x.1.1) ⟨(0, 0), Nat.zero_le _, fun k hk => absurd hk (Nat.not_lt_zero _)⟩ ?_ ?_
  · simp only [go_sem, sSameS]
  · rintro ⟨⟨i, nx⟩, hi, hk⟩
    simp only at hi hk
    have hga : i < a.length → (a.getD i (0, [])).2.length ≤ 10000 := fun h => by
      rw [gd_lt a _ h]
      exact ha2 _ (List.getElem_mem _)
    have hgb : i < b.length → (b.getD i (0, [])).2.length ≤ 10000 := fun h => by
      rw [gd_lt b _ h]
      exact hb2 _ (List.getElem_mem _)
    have hne : (a.getD i (0, []) ≠ b.getD i (0, [])) → ¬ a = b := fun h e => h (by rw [e])
    refine AW.of hΓ mixed [99999] _ _ _ rfl ?_
    simp only [go_sem, sSameS, st_sz, stC20, stC21, sp0, sp1, st_d]
    have hext : (∀ k, k < i + 1 → a.getD k (0, []) = b.getD k (0, [])) ↔ a.getD i (0, []) = b.getD i (0, []) := by
      refine ⟨fun h => h i (Nat.lt_succ_self _), fun h k hk' => ?_⟩
      rcases Nat.lt_or_ge k i with g | g
      · exact hk k g
      · obtain rfl : k = i := by omega
        exact h
    obtain ⟨x, xs, hx⟩ : ∃ x xs, a.getD i (0, []) = (x, xs) := ⟨_, _, rfl⟩
    obtain ⟨y, ys, hy⟩ : ∃ y ys, b.getD i (0, []) = (y, ys) := ⟨_, _, rfl⟩
    rw [hx, hy] at hext hne
    rw [hx] at hga
    rw [hy] at hgb
    rw [hx, hy]
    dsimp only at hga hgb ⊢
    refine ⟨fun hlt => ⟨by omega, by omega, fun _ => by omega, fun _ => by omega, fun _ => ⟨by have := hga (by omega); omega, by have := hgb (by omega); omega⟩, fun hq => by rw [decide_eq_false hq]; rfl, fun hq => ?_, fun hq => ⟨by omega, ⟨(i + 1, nx), by dsimp only; omega, hext.2 ?_⟩, ⟨Nat.le_refl _, rfl⟩, by dsimp only; omega⟩⟩, fun hge => list_ext_getD (0, []) (by omega) fun k hk' => hk k (by omega)⟩
    · refine hne fun e => ?_
      obtain ⟨e1, e2⟩ := Prod.mk.inj e
      rw [decide_eq_false (fun h => h e1), decide_eq_true e2] at hq
      exact absurd hq (by decide)
    · simp only [Bool.or_eq_false_iff, decide_eq_false_iff_not, Bool.not_eq_false', decide_eq_true_eq, Decidable.not_not] at hq
      rw [hq.1, hq.2]
def sSideE : Spec := Spec.f2 (kL (eP eI (eL eS))) kI (fun l k => l.length < 10000 ∧ (∀ s ∈ l, s.2.length ≤ 10000)) (fun l k => sL eS (sideL k l))
theorem sideL_snoc (k : Int) (l : List (Int × List (List UInt8))) (s : Int × List (List UInt8)) : sideL k (l ++ [s]) = sideL k l ++ if s.1 = 0 ∨ s.1 = k then s.2 else [] := by
  unfold sideL
  rw [List.flatMap_append]
  by_cases h : s.1 = 0 ∨ s.1 = k <;> simp [h]
theorem sideL_le {l : List (Int × List (List UInt8))} {m : Nat} (h : ∀ s ∈ l, s.2.length ≤ m) (k : Int) : (sideL k l).length ≤ l.length * m := by
  induction l with
  | nil => simp [sideL]
  | cons s l ih =>
    have h1 := h s (List.mem_cons_self ..)
    have h2 := ih fun t ht => h t (List.mem_cons_of_mem _ ht)
    have e : sideL k (s :: l) = (if s.1 = 0 ∨ s.1 = k then s.2 else []) ++ sideL k l := by
      unfold sideL
      rw [List.flatMap_cons]
    rw [e, List.length_append, List.length_cons, Nat.succ_mul]
    by_cases hk : s.1 = 0 ∨ s.1 = k
    · rw [if_pos hk]; omega
    · rw [if_neg hk, List.length_nil]; omega
theorem okSideE : SpecOK Try.prog 21 sSideE := by
  refine SpecOK.f2 Try.func21 rfl (by decide) Try.results21 Try.ntmps21 (by decide) fun l k ⟨hl, hs⟩ => ?_
  have hΓ : GOK Try.prog (gam []) := GOK.nil
  refine AW.of hΓ mixed [] _ _ _ rfl ?_
  simp only [go_sem]
  refine AW.adopt 5 9 1 (fun i => eS.enc (([] : List (List UInt8)).getD i [])) rfl ?_
  refine AW.round (α := { x : Nat × Nat × Nat // x.1 ≤ l.length })
    (fun x => ⟨[(0, sL (eP eI (eL eS)) l), (1, .val (.int .i64 k)), (5, .ow 0 x.1.2.1 (sideL k (l.take x.1.1)).length), (6, .val (.int .i64 x.1.1))],
      [(0, rowL x.1.2.1 9 eS (sideL k (l.take x.1.1)))], 36, 1, x.1.2.2, []⟩) (fun x => l.length - x.1.1) ⟨(0, 0, 1), Nat.zero_le _⟩ ?_ ?_
  · simp only [go_sem]
    exact ⟨rfl, RowLe.refl _⟩
  · rintro ⟨⟨i, v, nx⟩, hi⟩
    simp only at hi
    have e : i < l.length → sideL k (l.take (i + 1)) = sideL k (l.take i) ++ if (l.getD i (0, [])).1 = 0 ∨ (l.getD i (0, [])).1 = k then (l.getD i (0, [])).2 else [] := fun h => by rw [take_snocE l (0, []) h, sideL_snoc]
    have hg : i < l.length → (l.getD i (0, [])).2.length ≤ 10000 := fun h => by
      rw [gd_lt l _ h]
      exact hs _ (List.getElem_mem _)
    have hb : (sideL k (l.take i)).length ≤ 10000 * 10000 := Nat.le_trans (sideL_le (fun s h => hs s (List.mem_of_mem_take h)) k) (Nat.mul_le_mul_right _ (by simp; omega))
    refine AW.of hΓ mixed [99999] _ _ _ rfl ?_
    simp only [go_sem, st_sz, stC20, stC21, sp0, sp1, st_d]
    generalize l.getD i (0, []) = g at *
    refine ⟨fun hlt => ?_, fun hge => ?_⟩
    · have hlt' : i < l.length := by omega
      have e1 := e hlt'
      have hg' := hg hlt'
      refine ⟨by omega, fun _ => by omega, fun h => by rw [decide_eq_false h]; rfl, fun h => ?_, fun h => ?_⟩
      · simp only [Bool.or_eq_true, decide_eq_true_eq] at h
        rw [if_pos h] at e1
        refine ⟨by omega, by omega, by omega, ⟨(i + 1, nx, nx + 1), by dsimp only; omega⟩, ⟨Nat.le_refl _, ⟨⟨rfl, by dsimp only; rw [e1]; simp⟩, rfl⟩, ?_⟩, by dsimp only; omega⟩
        exact row_app (E := eS) rfl e1 rfl rfl rfl (fun _ _ _ _ => AVle.refl _)
      · simp only [Bool.or_eq_false_iff, decide_eq_false_iff_not] at h
        rw [if_neg (by omega), List.append_nil] at e1
        exact ⟨by omega, ⟨(i + 1, v, nx), by dsimp only; omega⟩, ⟨Nat.le_refl _, ⟨⟨rfl, by dsimp only; rw [e1]⟩, rfl⟩, by dsimp only; rw [e1]; exact RowLe.refl _⟩, by dsimp only; omega⟩
    · obtain rfl : i = l.length := by omega
      rw [List.take_length]
      exact AVle.refl _
end Go.Proofs.Ytpbccamaipekjaa
