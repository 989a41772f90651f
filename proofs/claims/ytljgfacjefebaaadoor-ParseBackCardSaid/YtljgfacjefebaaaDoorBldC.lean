/-
  What is written to a builder that is handed on.
-/
import Derived.Test.YtljgfacjefebaaaDoorBldB
set_option linter.unusedSimpArgs false
set_option linter.unusedVariables false
set_option maxRecDepth 100000
set_option maxHeartbeats 2000000
namespace Go.Proofs.YtljgfacjefebaaaDoor
open Go
attribute [local irreducible] AW AVle ASle RowLe
theorem All2.same : ∀ (xs : List AV), All2 AVle xs xs
  | [] => .nil
  | x :: xs => .cons (AVle.refl x) (All2.same xs)
/-- Of what is handed in: what is written, what comes out. -/
def sBld (dom : List AV → List UInt8 → AV → Prop) : MSpec := fun args hp top nx K => ∃ (f : Bool) (v u : Nat) (l : List UInt8) (xs : List AV) (a : List UInt8) (r : AV), args = .pt 0 v 0 :: xs ∧ dom xs a r ∧
  hp = rws [(0, .box v 84 2 (bldC f 0 v 1 u l.length)), (1, rowB u l)] ∧ top = 2 ∧ l.length + a.length ≤ 100000000000 ∧
  ∀ u' nx', (u' = u ∨ nx ≤ u') → nx ≤ nx' → K r (rws [(0, .box v 84 2 (bldC true 0 v 1 u' (l ++ a).length)), (1, rowB u' (l ++ a))]) 2 nx'
theorem bld_go {dom : List AV → List UInt8 → AV → Prop} {xs : List AV} {a : List UInt8} {z : AV} {f : Bool} {p q v u n : Nat} {l : List UInt8} {hp : Nat → Row} {top nx : Nat} {K : AV → (Nat → Row) → Nat → Nat → Prop} (hd : dom xs a z) (hn : n = l.length) (hpq : p ≠ q)
    (hr : RowLe (hp p) (.box v 84 2 (bldC f p v q u n))) (hr2 : RowLe (hp q) (rowB u l)) (ht : p < top ∧ q < top) (hl : l.length + a.length ≤ 100000000000)
    (hK : ∀ u' nx', (u' = u ∨ nx ≤ u') → nx ≤ nx' → K z (updR (updR hp p (.box v 84 2 (bldC true p v q u' (l ++ a).length))) q (rowB u' (l ++ a))) top nx') :
    framed (sBld dom) (.pt p v 0 :: xs) hp top nx K := by
  subst hn
  have e1 : (hp p).ver = some v := hr.vers.symm
  have e2 : (hp q).ver = some u := hr2.vers.symm
  refine ⟨[p, q], .pt 0 v 0 :: xs, rws [(0, .box v 84 2 (bldC f 0 v 1 u l.length)), (1, rowB u l)], by simp [hpq], by simp; omega, .cons AVle.pt (All2.same xs), rows_2 (hr.trans (bld_le f p q 0 1 v u _)) hr2, fun i hi => rws_top (top := 2) (by simp) i (by simpa using hi), f, v, u, l, xs, a, z, rfl, hd, rfl, rfl, hl, fun u' nx' h1 h3 => ?_⟩
  refine ⟨_, _, AVle.refl _, fun i o ho => ?_, fun o ho => ?_, fun o ho w hv => ?_, hK u' nx' h1 h3⟩
  · match i with
    | 0 =>
      simp only [List.getElem?_cons_zero, Option.some.injEq] at ho
      subst ho
      rw [updR_ne _ _ hpq, updR_at]
      exact bld_le true 0 1 p q v u' _
    | 1 =>
      simp only [List.getElem?_cons_succ, List.getElem?_cons_zero, Option.some.injEq] at ho
      subst ho
      rw [updR_at]
      exact RowLe.refl _
    | i + 2 => simp at ho
  · simp only [List.mem_cons, List.not_mem_nil, or_false, not_or] at ho
    rw [updR_ne _ _ ho.2, updR_ne _ _ ho.1]
  · simp only [List.mem_cons, List.not_mem_nil, or_false] at ho
    rcases ho with rfl | rfl
    · rw [updR_ne _ _ hpq, updR_at] at hv
      have : some v = some w := hv
      obtain rfl := Option.some.inj this
      exact .inl e1
    · rw [updR_at] at hv
      have : some u' = some w := hv
      obtain rfl := Option.some.inj this
      rcases h1 with rfl | h1
      · exact .inl e2
      · exact .inr h1
end Go.Proofs.YtljgfacjefebaaaDoor
