/-
  trim, and the document's answers on it: what each function comes to.
-/
import Derived.Test.YtpbccamaipekjaaSameW
import Derived.Test.YtpbccamaipekjaaTrimM
set_option linter.unusedSimpArgs false
set_option maxRecDepth 100000
namespace Go.Proofs.Ytpbccamaipekjaa
open Go
attribute [local irreducible] AW AVle ASle RowLe

/-! ### int -/

def sAheadI : Spec := Spec.f2 (kL eI) (kL eI) (fun a b => a.length < 1000000000 ∧ b.length < 1000000000) (fun a b => kI.enc (ahd a b))
def sBehindI : Spec := Spec.f2 (kL eI) (kL eI) (fun a b => a.length < 1000000000 ∧ b.length < 1000000000) (fun a b => kI.enc (bhd a b))
def sEndsI : Spec := Spec.f2 (kL eI) (kL eI) (fun a b => a.length < 1000000000 ∧ b.length < 1000000000) (fun a b => tu2 (kI.enc (ahd a b)) (kI.enc (bhd (a.drop (ahd a b)) (b.drop (ahd a b)))))
def sEqI : Spec := Spec.f2 (kL eI) (kL eI) (fun a b => a.length < 1000000000 ∧ b.length < 1000000000) (fun a b => kB.enc (decide (a = b)))
def sRefEndsI : Spec := Spec.f2 (kL eI) (kL eI) (fun a b => a.length < 1000000000 ∧ b.length < 1000000000) (fun a b => tu2 (kI.enc (ahd a b)) (kI.enc (bhd (a.drop (ahd a b)) (b.drop (ahd a b)))))
/-! ### string -/

def sAheadS : Spec := Spec.f2 (kL eS) (kL eS) (fun a b => a.length < 1000000000 ∧ b.length < 1000000000) (fun a b => kI.enc (ahd a b))
theorem idleAheadS : Idle Try.prog 57 := idle_recover Try.func57 (by decide) rfl rfl
theorem okAheadS : SpecOK Try.prog 56 sAheadS := by
  refine SpecOK.f2D idleAheadS Try.func56 rfl (by decide) Try.results56 Try.ntmps56 (by decide) fun a b hd => ?_
  have hΓ : GOK Try.prog (gam []) := GOK.nil
  refine AW.of hΓ mixed [] _ _ _ rfl ?_
  simp only [go_sem]
  refine AW.round (α := { i : Nat // i ≤ a.length ∧ i ≤ b.length ∧ ∀ k, k < i → a.getD k [] = b.getD k [] }) (fun i => ⟨[(0, sL eS a), (1, sL eS b), (4, .val (.int .i64 i.1))], [], 29, 0, 0, [⟨.fn (.func 57) #[], #[]⟩]⟩) (fun i => a.length - i.1) ⟨0, by simp⟩ ?_ ?_
  · simp only [go_sem]
  · rintro ⟨i, hi, hb, hk⟩
    refine AW.of hΓ mixed [] _ _ _ rfl ?_
    simp only [go_sem]
    repeat' (first | refine And.intro ?_ ?_ | intro h)
    all_goals (try omega)
    · refine ⟨⟨i + 1, by omega, by omega, fun k hk' => ?_⟩, by simp, by simp; omega⟩
      rcases Nat.lt_or_ge k i with h' | h'
      · exact hk k h'
      · obtain rfl : k = i := by omega
        exact h.2
    · exact congrArg _ (ahd_eq [] i a b hi hb hk fun p q => h ⟨by omega, by omega⟩)

def sBehindS : Spec := Spec.f2 (kL eS) (kL eS) (fun a b => a.length < 1000000000 ∧ b.length < 1000000000) (fun a b => kI.enc (bhd a b))
def sEndsS : Spec := Spec.f2 (kL eS) (kL eS) (fun a b => a.length < 1000000000 ∧ b.length < 1000000000) (fun a b => tu2 (kI.enc (ahd a b)) (kI.enc (bhd (a.drop (ahd a b)) (b.drop (ahd a b)))))
def sEqS : Spec := Spec.f2 (kL eS) (kL eS) (fun a b => a.length < 1000000000 ∧ b.length < 1000000000) (fun a b => kB.enc (decide (a = b)))
theorem okEqS : SpecOK Try.prog 55 sEqS := by
  refine SpecOK.f2 Try.func55 rfl (by decide) Try.results55 Try.ntmps55 (by decide) fun a b hd => ?_
  have hΓ : GOK Try.prog (gam [(56, sAheadS)]) := .cons okAheadS .nil
  refine AW.of hΓ mixed [] _ _ _ rfl ?_
  simp only [go_sem, sAheadS]
  refine ⟨fun _ => hd, ?_⟩
  rw [Bool.eq_iff_iff]
  simp only [Bool.and_eq_true, decide_eq_true_eq]
  refine ⟨fun h => ahd_all (by omega) (by omega), fun h => ?_⟩
  subst h
  rw [ahd_self]
  exact ⟨rfl, rfl⟩

def sRefEndsS : Spec := Spec.f2 (kL eS) (kL eS) (fun a b => a.length < 1000000000 ∧ b.length < 1000000000) (fun a b => tu2 (kI.enc (ahd a b)) (kI.enc (bhd (a.drop (ahd a b)) (b.drop (ahd a b)))))
end Go.Proofs.Ytpbccamaipekjaa
