/-
  trim, and the document's answers on it: what each function comes to.
-/
import Derived.Test.YtainopabnnglgaaSameW
import Derived.Test.YtainopabnnglgaaTrimM
set_option linter.unusedSimpArgs false
set_option maxRecDepth 100000
namespace Go.Proofs.Ytainopabnnglgaa
open Go
attribute [local irreducible] AW AVle ASle RowLe

/-! ### int -/

def sAheadI : Spec := Spec.f2 (kL eI) (kL eI) (fun a b => a.length < 1000000000 ∧ b.length < 1000000000) (fun a b => kI.enc (ahd a b))
theorem idleAheadI : Idle Try.prog 33 := idle_recover Try.func33 (by decide) rfl rfl
theorem okAheadI : SpecOK Try.prog 26 sAheadI := by
  refine SpecOK.f2D idleAheadI Try.func26 rfl (by decide) Try.results26 Try.ntmps26 (by decide) fun a b hd => ?_
  have hΓ : GOK Try.prog (gam []) := GOK.nil
  refine AW.of hΓ mixed [] _ _ _ rfl ?_
  simp only [go_sem]
  refine AW.round (α := { i : Nat // i ≤ a.length ∧ i ≤ b.length ∧ ∀ k, k < i → a.getD k 0 = b.getD k 0 }) (fun i => ⟨[(0, sL eI a), (1, sL eI b), (4, .val (.int .i64 i.1))], [], 29, 0, 0, [⟨.fn (.func 33) #[], #[]⟩]⟩) (fun i => a.length - i.1) ⟨0, by simp⟩ ?_ ?_
  · simp only [go_sem]
  · rintro ⟨i, hi, hb, hk⟩
    refine AW.of hΓ mixed [] _ _ _ rfl ?_
    simp only [go_sem]
    repeat' (first | refine And.intro ?_ ?_ | intro h)
    all_goals (try omega)
    · refine ⟨⟨i + 1, by omega, by omega, fun k hk' => ?_⟩, by simp, by simp; omega⟩
      rcases Nat.lt_or_ge k i with h' | h'
      · exact hk k h'
      · obtain rfl : k = i := by omega
        exact h.2
    · exact congrArg _ (ahd_eq 0 i a b hi hb hk fun p q => h ⟨by omega, by omega⟩)

def sBehindI : Spec := Spec.f2 (kL eI) (kL eI) (fun a b => a.length < 1000000000 ∧ b.length < 1000000000) (fun a b => kI.enc (bhd a b))
theorem idleBehindI : Idle Try.prog 34 := idle_recover Try.func34 (by decide) rfl rfl
theorem okBehindI : SpecOK Try.prog 27 sBehindI := by
  refine SpecOK.f2D idleBehindI Try.func27 rfl (by decide) Try.results27 Try.ntmps27 (by decide) fun a b hd => ?_
  have hΓ : GOK Try.prog (gam []) := GOK.nil
  refine AW.of hΓ mixed [] _ _ _ rfl ?_
  simp only [go_sem]
  refine AW.round (α := { i : Nat // i ≤ a.length ∧ i ≤ b.length ∧ ∀ k, k < i → a.getD (a.length - 1 - k) 0 = b.getD (b.length - 1 - k) 0 }) (fun i => ⟨[(0, sL eI a), (1, sL eI b), (4, .val (.int .i64 i.1))], [], 37, 0, 0, [⟨.fn (.func 34) #[], #[]⟩]⟩) (fun i => a.length - i.1) ⟨0, by simp⟩ ?_ ?_
  · simp only [go_sem]
  · rintro ⟨i, hi, hb, hk⟩
    refine AW.of hΓ mixed [] _ _ _ rfl ?_
    simp only [go_sem]
    have e1 : (↑i : Int) < ↑a.length → ((a.length : Int) - 1 - i).toNat = a.length - 1 - i := fun h => by omega
    have e2 : (↑i : Int) < ↑b.length → ((b.length : Int) - 1 - i).toNat = b.length - 1 - i := fun h => by omega
    repeat' (first | refine And.intro ?_ ?_ | intro h)
    all_goals (try omega)
    · refine ⟨⟨i + 1, by omega, by omega, fun k hk' => ?_⟩, by simp, by simp; omega⟩
      rcases Nat.lt_or_ge k i with h' | h'
      · exact hk k h'
      · obtain rfl : k = i := by omega
        have := h.2
        rwa [e1 h.1.1, e2 h.1.2] at this
    · refine congrArg _ (bhd_eq 0 i a b hi hb hk fun p q => ?_)
      have := h ⟨by omega, by omega⟩
      rwa [e1 (by omega), e2 (by omega)] at this

def sEndsI : Spec := Spec.f2 (kL eI) (kL eI) (fun a b => a.length < 1000000000 ∧ b.length < 1000000000) (fun a b => tu2 (kI.enc (ahd a b)) (kI.enc (bhd (a.drop (ahd a b)) (b.drop (ahd a b)))))
theorem okEndsI : SpecOK Try.prog 9 sEndsI := by
  refine SpecOK.f2 Try.func9 rfl (by decide) Try.results9 Try.ntmps9 (by decide) fun a b hd => ?_
  have hΓ : GOK Try.prog (gam [(26, sAheadI), (27, sBehindI)]) := .cons okAheadI (.cons okBehindI .nil)
  refine AW.of hΓ mixed [] _ _ _ rfl ?_
  have h1 := ahd_le a b
  have p1 : (List.range (a.length - ahd a b)).map (fun i => a.getD (ahd a b + i) 0) = a.drop (ahd a b) := by rw [part_eq a 0 (by omega), List.take_of_length_le (by simp)]
  have p2 : (List.range (b.length - ahd a b)).map (fun i => b.getD (ahd a b + i) 0) = b.drop (ahd a b) := by rw [part_eq b 0 (by omega), List.take_of_length_le (by simp)]
  simp only [go_sem, sAheadI, sBehindI, p1, p2, List.length_drop]
  omega
def sEqI : Spec := Spec.f2 (kL eI) (kL eI) (fun a b => a.length < 1000000000 ∧ b.length < 1000000000) (fun a b => kB.enc (decide (a = b)))
theorem okEqI : SpecOK Try.prog 12 sEqI := by
  refine SpecOK.f2 Try.func12 rfl (by decide) Try.results12 Try.ntmps12 (by decide) fun a b hd => ?_
  have hΓ : GOK Try.prog (gam [(26, sAheadI)]) := .cons okAheadI .nil
  refine AW.of hΓ mixed [] _ _ _ rfl ?_
  simp only [go_sem, sAheadI]
  refine ⟨fun _ => hd, ?_⟩
  rw [Bool.eq_iff_iff]
  simp only [Bool.and_eq_true, decide_eq_true_eq]
  refine ⟨fun h => ahd_all (by omega) (by omega), fun h => ?_⟩
  subst h
  rw [ahd_self]
  exact ⟨rfl, rfl⟩

def sRefEndsI : Spec := Spec.f2 (kL eI) (kL eI) (fun a b => a.length < 1000000000 ∧ b.length < 1000000000) (fun a b => tu2 (kI.enc (ahd a b)) (kI.enc (bhd (a.drop (ahd a b)) (b.drop (ahd a b)))))
theorem okRefEndsI : SpecOK Try.prog 10 sRefEndsI := by
  refine SpecOK.f2 Try.func10 rfl (by decide) Try.results10 Try.ntmps10 (by decide) fun a b hd => ?_
  have hΓ : GOK Try.prog (gam []) := GOK.nil
  refine AW.of hΓ mixed [] _ _ _ rfl ?_
  simp only [go_sem]
  refine AW.round (α := { i : Nat // i ≤ a.length ∧ i ≤ b.length ∧ ∀ k, k < i → a.getD k 0 = b.getD k 0 }) (fun i => ⟨[(0, sL eI a), (1, sL eI b), (6, .val (.int .i64 i.1)), (7, .val (.int .i64 0))], [], 68, 0, 0, []⟩) (fun i => a.length - i.1) ⟨0, by simp⟩ ?_ ?_
  · simp only [go_sem]
  · rintro ⟨i, hi, hb, hk⟩
    refine AW.of hΓ mixed [] _ _ _ rfl ?_
    simp only [go_sem]
    repeat' (first | refine And.intro ?_ ?_ | intro h)
    all_goals (try omega)
    · refine ⟨⟨i + 1, by omega, by omega, fun k hk' => ?_⟩, by simp, by simp; omega⟩
      rcases Nat.lt_or_ge k i with h' | h'
      · exact hk k h'
      · obtain rfl : k = i := by omega
        exact h.2
    obtain rfl := ahd_eq 0 i a b hi hb hk fun p q => h ⟨by omega, by omega⟩
    generalize hn : ahd a b = n at *
    refine AW.round (α := { m : Nat // n + m ≤ a.length ∧ n + m ≤ b.length ∧ ∀ k, k < m → a.getD (a.length - 1 - k) 0 = b.getD (b.length - 1 - k) 0 }) (fun m => ⟨[(0, sL eI a), (1, sL eI b), (6, .val (.int .i64 n)), (7, .val (.int .i64 m.1))], [], 68, 0, 0, []⟩) (fun m => a.length - m.1) ⟨0, by simpa using hi, by simpa using hb, by simp⟩ ?_ ?_
    · simp only [go_sem]
    · rintro ⟨m, ha', hb', hm⟩
      refine AW.of hΓ mixed [] _ _ _ rfl ?_
      simp only [go_sem]
      have e1 : (n : Int) + m < ↑a.length → ((a.length : Int) - 1 - m).toNat = a.length - 1 - m := fun h => by omega
      have e2 : (n : Int) + m < ↑b.length → ((b.length : Int) - 1 - m).toNat = b.length - 1 - m := fun h => by omega
      repeat' (first | refine And.intro ?_ ?_ | intro h)
      all_goals (try omega)
      · refine ⟨⟨m + 1, by omega, by omega, fun k hk' => ?_⟩, by simp, by simp; omega⟩
        rcases Nat.lt_or_ge k m with h' | h'
        · exact hm k h'
        · obtain rfl : k = m := by omega
          have := h.2
          rwa [e1 h.1.1, e2 h.1.2] at this
      · refine congrArg _ (bhd_drop 0 a b n m hi hb ha' hb' hm fun p q => ?_)
        have := h ⟨by omega, by omega⟩
        rwa [e1 (by omega), e2 (by omega)] at this

/-! ### string -/

def sAheadS : Spec := Spec.f2 (kL eS) (kL eS) (fun a b => a.length < 1000000000 ∧ b.length < 1000000000) (fun a b => kI.enc (ahd a b))
theorem idleAheadS : Idle Try.prog 35 := idle_recover Try.func35 (by decide) rfl rfl
theorem okAheadS : SpecOK Try.prog 28 sAheadS := by
  refine SpecOK.f2D idleAheadS Try.func28 rfl (by decide) Try.results28 Try.ntmps28 (by decide) fun a b hd => ?_
  have hΓ : GOK Try.prog (gam []) := GOK.nil
  refine AW.of hΓ mixed [] _ _ _ rfl ?_
  simp only [go_sem]
  refine AW.round (α := { i : Nat // i ≤ a.length ∧ i ≤ b.length ∧ ∀ k, k < i → a.getD k [] = b.getD k [] }) (fun i => ⟨[(0, sL eS a), (1, sL eS b), (4, .val (.int .i64 i.1))], [], 29, 0, 0, [⟨.fn (.func 35) #[], #[]⟩]⟩) (fun i => a.length - i.1) ⟨0, by simp⟩ ?_ ?_
  · simp only [go_sem]
  · rintro ⟨i, hi, hb, hk⟩
    refine AW.of hΓ mixed [] _ _ _ rfl ?_
    simp only [go_sem]
    repeat' (first | refine And.intro ?_ ?_ | intro h)
    all_goals (try omega)
    · refine ⟨⟨i + 1, by omega, by omega, fun k hk' => ?_⟩, by simp, by simp; omega⟩
      rcases Nat.lt_or_ge k i with h' | h'
      · exact hk k h'
      · obtain rfl : k = i := by omega
        exact h.2
    · exact congrArg _ (ahd_eq [] i a b hi hb hk fun p q => h ⟨by omega, by omega⟩)

def sBehindS : Spec := Spec.f2 (kL eS) (kL eS) (fun a b => a.length < 1000000000 ∧ b.length < 1000000000) (fun a b => kI.enc (bhd a b))
theorem idleBehindS : Idle Try.prog 36 := idle_recover Try.func36 (by decide) rfl rfl
theorem okBehindS : SpecOK Try.prog 29 sBehindS := by
  refine SpecOK.f2D idleBehindS Try.func29 rfl (by decide) Try.results29 Try.ntmps29 (by decide) fun a b hd => ?_
  have hΓ : GOK Try.prog (gam []) := GOK.nil
  refine AW.of hΓ mixed [] _ _ _ rfl ?_
  simp only [go_sem]
  refine AW.round (α := { i : Nat // i ≤ a.length ∧ i ≤ b.length ∧ ∀ k, k < i → a.getD (a.length - 1 - k) [] = b.getD (b.length - 1 - k) [] }) (fun i => ⟨[(0, sL eS a), (1, sL eS b), (4, .val (.int .i64 i.1))], [], 37, 0, 0, [⟨.fn (.func 36) #[], #[]⟩]⟩) (fun i => a.length - i.1) ⟨0, by simp⟩ ?_ ?_
  · simp only [go_sem]
  · rintro ⟨i, hi, hb, hk⟩
    refine AW.of hΓ mixed [] _ _ _ rfl ?_
    simp only [go_sem]
    have e1 : (↑i : Int) < ↑a.length → ((a.length : Int) - 1 - i).toNat = a.length - 1 - i := fun h => by omega
    have e2 : (↑i : Int) < ↑b.length → ((b.length : Int) - 1 - i).toNat = b.length - 1 - i := fun h => by omega
    repeat' (first | refine And.intro ?_ ?_ | intro h)
    all_goals (try omega)
    · refine ⟨⟨i + 1, by omega, by omega, fun k hk' => ?_⟩, by simp, by simp; omega⟩
      rcases Nat.lt_or_ge k i with h' | h'
      · exact hk k h'
      · obtain rfl : k = i := by omega
        have := h.2
        rwa [e1 h.1.1, e2 h.1.2] at this
    · refine congrArg _ (bhd_eq [] i a b hi hb hk fun p q => ?_)
      have := h ⟨by omega, by omega⟩
      rwa [e1 (by omega), e2 (by omega)] at this

def sEndsS : Spec := Spec.f2 (kL eS) (kL eS) (fun a b => a.length < 1000000000 ∧ b.length < 1000000000) (fun a b => tu2 (kI.enc (ahd a b)) (kI.enc (bhd (a.drop (ahd a b)) (b.drop (ahd a b)))))
theorem okEndsS : SpecOK Try.prog 14 sEndsS := by
  refine SpecOK.f2 Try.func14 rfl (by decide) Try.results14 Try.ntmps14 (by decide) fun a b hd => ?_
  have hΓ : GOK Try.prog (gam [(28, sAheadS), (29, sBehindS)]) := .cons okAheadS (.cons okBehindS .nil)
  refine AW.of hΓ mixed [] _ _ _ rfl ?_
  have h1 := ahd_le a b
  have p1 : (List.range (a.length - ahd a b)).map (fun i => a.getD (ahd a b + i) []) = a.drop (ahd a b) := by rw [part_eq a [] (by omega), List.take_of_length_le (by simp)]
  have p2 : (List.range (b.length - ahd a b)).map (fun i => b.getD (ahd a b + i) []) = b.drop (ahd a b) := by rw [part_eq b [] (by omega), List.take_of_length_le (by simp)]
  simp only [go_sem, sAheadS, sBehindS, p1, p2, List.length_drop]
  omega
def sEqS : Spec := Spec.f2 (kL eS) (kL eS) (fun a b => a.length < 1000000000 ∧ b.length < 1000000000) (fun a b => kB.enc (decide (a = b)))
theorem okEqS : SpecOK Try.prog 16 sEqS := by
  refine SpecOK.f2 Try.func16 rfl (by decide) Try.results16 Try.ntmps16 (by decide) fun a b hd => ?_
  have hΓ : GOK Try.prog (gam [(28, sAheadS)]) := .cons okAheadS .nil
  refine AW.of hΓ mixed [] _ _ _ rfl ?_
  simp only [go_sem, sAheadS]
  refine ⟨fun _ => hd, ?_⟩
  rw [Bool.eq_iff_iff]
  simp only [Bool.and_eq_true, decide_eq_true_eq]
  refine ⟨fun h => ahd_all (by omega) (by omega), fun h => ?_⟩
  subst h
  rw [ahd_self]
  exact ⟨rfl, rfl⟩

def sRefEndsS : Spec := Spec.f2 (kL eS) (kL eS) (fun a b => a.length < 1000000000 ∧ b.length < 1000000000) (fun a b => tu2 (kI.enc (ahd a b)) (kI.enc (bhd (a.drop (ahd a b)) (b.drop (ahd a b)))))
theorem okRefEndsS : SpecOK Try.prog 15 sRefEndsS := by
  refine SpecOK.f2 Try.func15 rfl (by decide) Try.results15 Try.ntmps15 (by decide) fun a b hd => ?_
  have hΓ : GOK Try.prog (gam []) := GOK.nil
  refine AW.of hΓ mixed [] _ _ _ rfl ?_
  simp only [go_sem]
  refine AW.round (α := { i : Nat // i ≤ a.length ∧ i ≤ b.length ∧ ∀ k, k < i → a.getD k [] = b.getD k [] }) (fun i => ⟨[(0, sL eS a), (1, sL eS b), (6, .val (.int .i64 i.1)), (7, .val (.int .i64 0))], [], 68, 0, 0, []⟩) (fun i => a.length - i.1) ⟨0, by simp⟩ ?_ ?_
  · simp only [go_sem]
  · rintro ⟨i, hi, hb, hk⟩
    refine AW.of hΓ mixed [] _ _ _ rfl ?_
    simp only [go_sem]
    repeat' (first | refine And.intro ?_ ?_ | intro h)
    all_goals (try omega)
    · refine ⟨⟨i + 1, by omega, by omega, fun k hk' => ?_⟩, by simp, by simp; omega⟩
      rcases Nat.lt_or_ge k i with h' | h'
      · exact hk k h'
      · obtain rfl : k = i := by omega
        exact h.2
    obtain rfl := ahd_eq [] i a b hi hb hk fun p q => h ⟨by omega, by omega⟩
    generalize hn : ahd a b = n at *
    refine AW.round (α := { m : Nat // n + m ≤ a.length ∧ n + m ≤ b.length ∧ ∀ k, k < m → a.getD (a.length - 1 - k) [] = b.getD (b.length - 1 - k) [] }) (fun m => ⟨[(0, sL eS a), (1, sL eS b), (6, .val (.int .i64 n)), (7, .val (.int .i64 m.1))], [], 68, 0, 0, []⟩) (fun m => a.length - m.1) ⟨0, by simpa using hi, by simpa using hb, by simp⟩ ?_ ?_
    · simp only [go_sem]
    · rintro ⟨m, ha', hb', hm⟩
      refine AW.of hΓ mixed [] _ _ _ rfl ?_
      simp only [go_sem]
      have e1 : (n : Int) + m < ↑a.length → ((a.length : Int) - 1 - m).toNat = a.length - 1 - m := fun h => by omega
      have e2 : (n : Int) + m < ↑b.length → ((b.length : Int) - 1 - m).toNat = b.length - 1 - m := fun h => by omega
      repeat' (first | refine And.intro ?_ ?_ | intro h)
      all_goals (try omega)
      · refine ⟨⟨m + 1, by omega, by omega, fun k hk' => ?_⟩, by simp, by simp; omega⟩
        rcases Nat.lt_or_ge k m with h' | h'
        · exact hm k h'
        · obtain rfl : k = m := by omega
          have := h.2
          rwa [e1 h.1.1, e2 h.1.2] at this
      · refine congrArg _ (bhd_drop [] a b n m hi hb ha' hb' hm fun p q => ?_)
        have := h ⟨by omega, by omega⟩
        rwa [e1 (by omega), e2 (by omega)] at this
end Go.Proofs.Ytainopabnnglgaa
