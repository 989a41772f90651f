/-
  lines: equal texts get equal numbers.
-/
import Derived.Test.YtljgfacjefebaaaDoorAxt
import Derived.Test.YtljgfacjefebaaaDoorAxj
import Derived.Test.YtljgfacjefebaaaDoorAxi
import Derived.Test.YtljgfacjefebaaaDoorLinesM
set_option linter.unusedSimpArgs false
set_option linter.unusedVariables false
set_option maxRecDepth 100000
namespace Go.Proofs.YtljgfacjefebaaaDoor
open Go
attribute [local irreducible] AW AVle ASle RowLe
/-! ### Number -/
def sNumber : Spec := Spec.f1 (kL (eL eS)) (fun l => l.length ≤ 1000000 ∧ ∀ f ∈ l, f.length ≤ 1000000) (fun l => sL (eL eI) (numF [] l))
theorem numF_snoc (ks : List (List UInt8)) (fs : List (List (List UInt8))) (f : List (List UInt8)) : numF ks (fs ++ [f]) = numF ks fs ++ [(numL (fs.foldl (fun k f => (numL k f).1) ks) f).2] := by
  rw [numF_app]; rfl
theorem take_snoc {α : Type} (l : List α) (d : α) {i : Nat} (h : i < l.length) : l.take (i + 1) = l.take i ++ [l.getD i d] := by
  rw [List.take_add_one, gd_lt _ _ h]; simp [h]
theorem numL_snoc (ks f : List (List UInt8)) {k : Nat} (h : k < f.length) : numL ks (f.take (k + 1)) =
    (if f.getD k [] ∈ (numL ks (f.take k)).1 then (numL ks (f.take k)).1 else (numL ks (f.take k)).1 ++ [f.getD k []], (numL ks (f.take k)).2 ++ [((numL ks (f.take k)).1.idxOf (f.getD k []) : Int)]) := by
  rw [take_snoc f [] h, numL_app]
  simp [numL]
theorem idx_at : ∀ (ks : List (List UInt8)) (x : List UInt8) (n : Nat), n ≤ ks.length → (∀ m, m < n → ks.getD m [] ≠ x) → (n < ks.length → ks.getD n [] = x) → n = ks.idxOf x
  | [], x, n, h, _, _ => by simp at h; simp [h]
  | y :: ks, x, 0, _, _, h => by
    have : y = x := by simpa using h (by simp)
    subst this
    simp
  | y :: ks, x, n + 1, h, hm, hn => by
    have h0 : y ≠ x := by simpa using hm 0 (by omega)
    have ih := idx_at ks x n (by simpa using h) (fun m h' => by simpa using hm (m + 1) (by omega)) fun hl => by simpa using hn (by simpa using hl)
    have hb : (y == x) = false := by simpa using h0
    rw [List.idxOf_cons, hb, ih]
    rfl
def sRefNumber : Spec := Spec.f1 (kL (eL eS)) (fun l => l.length ≤ 1000000 ∧ ∀ f ∈ l, f.length ≤ 1000000) (fun l => sL (eL eI) (numF [] l))
end Go.Proofs.YtljgfacjefebaaaDoor
