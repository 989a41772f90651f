/-
  A longest matching of parts of two lists.
-/
import Derived.Test.YtainopabnnglgaaLcsF
set_option linter.unusedVariables false
namespace Go.Proofs.Ytainopabnnglgaa
def partL (l : List Int) (i j : Nat) : List Int := (l.drop i).take (j - i)
theorem partL_len {l : List Int} {i j : Nat} (h : j ≤ l.length) : (partL l i j).length = j - i := by
  simp only [partL, List.length_take, List.length_drop]; omega
theorem partL_rev {l : List Int} {i j : Nat} (h1 : i ≤ j) (h : j ≤ l.length) : partL l.reverse (l.length - j) (l.length - i) = (partL l i j).reverse := by
  refine list_ext_getD 0 (by rw [partL_len (by simp), List.length_reverse, partL_len h]; omega) fun k hk => ?_
  rw [partL_len (by simp)] at hk
  have h1 : k < (l.drop i).length := by simp; omega
  unfold partL
  simp only [List.getD]
  rw [List.getElem?_take, if_pos (by omega), List.getElem?_drop, List.getElem?_reverse (by omega), List.getElem?_reverse (by simp; omega), List.getElem?_take, if_pos (by simp; omega), List.getElem?_drop]
  congr 2
  have h2 : (List.take (j - i) (List.drop i l)).length = j - i := by simp; omega
  omega
theorem partL_drop {l : List Int} {i j k : Nat} : (partL l i j).drop k = partL l (i + k) j := by
  unfold partL
  rw [List.drop_take, List.drop_drop, Nat.sub_sub]
theorem partL_take {l : List Int} {i j k : Nat} (h : i + k ≤ j) : (partL l i j).take k = partL l i (i + k) := by
  unfold partL
  rw [List.take_take]
  congr 1
  omega
theorem partL_all (l : List Int) : partL l 0 l.length = l := by
  unfold partL
  simp
def findG (a b : List Int) : List (Int × Int) := findF (a.length + b.length + 1) a b
theorem findF_G {a b : List Int} {f : Nat} (h : a.length + b.length < f) : findF f a b = findG a b := (find_spec (a.length + b.length + 1) a b (by omega)).2.2 f h
theorem findG_len (a b : List Int) : (findG a b).length = lcsN a b := (find_spec (a.length + b.length + 1) a b (by omega)).2.1
theorem findG_none {a b : List Int} (h : ¬ ((core a b).length ≠ 0 ∧ (coreR a b).length ≠ 0)) : findG a b = prs 0 0 (ahd a b) ++ prs ((a.length : Int) - bh a b) ((b.length : Int) - bh a b) (bh a b) := by
  unfold findG
  rw [findF_succ, stepP, if_neg h]
  rfl
theorem findG_some {a b : List Int} (h1 : (core a b).length ≠ 0) (h2 : (coreR a b).length ≠ 0) : ∃ p q : Nat, cutF (core a b) (coreR a b) = some ((p : Int), (q : Int)) ∧ p ≤ (core a b).length ∧ q ≤ (coreR a b).length ∧ 0 < p + q ∧ p + q < (core a b).length + (coreR a b).length ∧
    findG a b = prs 0 0 (ahd a b) ++ ((shP (ahd a b) (ahd a b) (findG ((core a b).take p) ((coreR a b).take q)) ++ shP (ahd a b + p) (ahd a b + q) (findG ((core a b).drop p) ((coreR a b).drop q))) ++ prs ((a.length : Int) - bh a b) ((b.length : Int) - bh a b) (bh a b)) := by
  have hb := bh_le (a := a) (b := b)
  have hl := core_len (a := a) (b := b)
  obtain ⟨p, q, e, p1, q1, g1, g2, g3⟩ := cut_spec h1 h2 (core_ends h1 h2).1 (core_ends h1 h2).2
  refine ⟨p, q, e, p1, q1, g1, g2, ?_⟩
  rw [findG, findF_succ, stepP, if_pos ⟨h1, h2⟩, e]
  simp only [Int.toNat_natCast]
  rw [findF_G (by simp only [List.length_take]; omega), findF_G (by simp only [List.length_drop]; omega)]
end Go.Proofs.Ytainopabnnglgaa
