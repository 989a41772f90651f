/-
  Two lists are the same, or not: the document's own answer.
-/
import Derived.Test.YtpbccamaipekjaaAxt
import Derived.Test.YtpbccamaipekjaaAxj
import Derived.Test.YtpbccamaipekjaaTrimM
set_option linter.unusedSimpArgs false
set_option maxRecDepth 100000
namespace Go.Proofs.Ytpbccamaipekjaa
open Go
attribute [local irreducible] AW AVle ASle RowLe

def sSameI : Spec := Spec.f2 (kL eI) (kL eI) (fun a b => a.length < 1000000000 ∧ b.length < 1000000000) (fun a b => kB.enc (decide (a = b)))
def sSameS : Spec := Spec.f2 (kL eS) (kL eS) (fun a b => a.length < 1000000000 ∧ b.length < 1000000000) (fun a b => kB.enc (decide (a = b)))
theorem okSameS : SpecOK Try.prog 16 sSameS := by
  refine SpecOK.f2 Try.func16 rfl (by decide) Try.results16 Try.ntmps16 (by decide) fun a b hd => ?_
  have hΓ : GOK Try.prog (gam []) := GOK.nil
  refine AW.of hΓ mixed [] _ _ _ rfl ?_
  simp only [go_sem]
  refine ⟨fun h e => h (by rw [e]), fun hl => ?_⟩
  have hl' : a.length = b.length := by omega
  refine AW.round (α := { i : Nat // i ≤ a.length ∧ ∀ k, k < i → a.getD k [] = b.getD k [] }) (fun i => ⟨[(0, sL eS a), (1, sL eS b), (5, .val (.int .i64 i.1))], [], 26, 0, 0, []⟩) (fun i => a.length - i.1) ⟨0, by simp⟩ ?_ ?_
  · simp only [go_sem]
  · rintro ⟨i, hi, hk⟩
    refine AW.of hΓ mixed [] _ _ _ rfl ?_
    simp only [go_sem]
    refine ⟨fun h => ⟨by omega, by omega, fun h1 e => h1 (by rw [e]), fun h1 => ⟨by omega, ⟨i + 1, by omega, fun k hk' => ?_⟩, by simp, by simp; omega⟩⟩, fun h => ?_⟩
    · rcases Nat.lt_or_ge k i with h | h
      · exact hk k h
      · obtain rfl : k = i := by omega
        simpa using h1
    · exact list_ext_getD [] hl' fun k hk' => hk k (by omega)

end Go.Proofs.Ytpbccamaipekjaa
