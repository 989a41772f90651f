/-
  What two lists have in common at their ends: the plain facts.
-/
import Derived.WalkKit
namespace Go.Proofs.YtljgfacjefebaaaDoor
theorem gd_lt {α : Type} (l : List α) (d : α) {k : Nat} (h : k < l.length) : l.getD k d = l[k] := by simp [List.getD, h]
section
variable {α : Type} [DecidableEq α]
/-- How many are the same at the beginning. -/
def ahd : List α → List α → Nat
  | x :: a, y :: b => if x = y then ahd a b + 1 else 0
  | _, _ => 0
/-- How many are the same at the end. -/
def bhd (a b : List α) : Nat := ahd a.reverse b.reverse

theorem ahd_le : ∀ (a b : List α), ahd a b ≤ a.length ∧ ahd a b ≤ b.length
  | [], _ => by simp [ahd]
  | _ :: _, [] => by simp [ahd]
  | x :: a, y :: b => by
    unfold ahd
    have := ahd_le a b
    split <;> simp <;> omega
theorem ahd_nil (a : List α) : ahd a [] = 0 := by cases a <;> rfl
/-- So many, and no more. -/
theorem ahd_eq (d : α) : ∀ (n : Nat) (a b : List α), n ≤ a.length → n ≤ b.length → (∀ k, k < n → a.getD k d = b.getD k d) → (n < a.length → n < b.length → a.getD n d ≠ b.getD n d) → n = ahd a b
  | 0, [], _, _, _, _, _ => rfl
  | 0, _ :: _, [], _, _, _, _ => rfl
  | 0, x :: a, y :: b, _, _, _, h => by
    have := h (by simp) (by simp)
    simp only [List.getD_cons_zero] at this
    unfold ahd
    rw [if_neg this]
  | n + 1, x :: a, y :: b, h1, h2, h3, h4 => by
    have e : x = y := by simpa using h3 0 (by omega)
    unfold ahd
    rw [if_pos e]
    simp only [List.length_cons] at h1 h2 h4
    have := ahd_eq d n a b (by omega) (by omega) (fun k hk => by simpa using h3 (k + 1) (by omega)) fun p q => by simpa using h4 (by omega) (by omega)
    omega
theorem ahd_spec (d : α) : ∀ (a b : List α), (∀ k, k < ahd a b → a.getD k d = b.getD k d) ∧ (ahd a b < a.length → ahd a b < b.length → a.getD (ahd a b) d ≠ b.getD (ahd a b) d)
  | [], b => by simp [ahd]
  | _ :: _, [] => by simp [ahd]
  | x :: a, y :: b => by
    unfold ahd
    split
    · rename_i e
      subst e
      obtain ⟨h1, h2⟩ := ahd_spec d a b
      refine ⟨fun k hk => ?_, fun p q => ?_⟩
      · cases k with
        | zero => rfl
        | succ k => simpa using h1 k (by omega)
      · simp only [List.length_cons] at p q
        simpa using h2 (by omega) (by omega)
    · rename_i e
      exact ⟨fun k hk => by omega, fun _ _ => by simpa using e⟩
omit [DecidableEq α] in
theorem getD_rev (d : α) (a : List α) {k : Nat} (h : k < a.length) : a.reverse.getD k d = a.getD (a.length - 1 - k) d := by
  rw [gd_lt _ _ (by simpa using h), gd_lt _ _ (by omega)]
  simp
theorem bhd_eq (d : α) (n : Nat) (a b : List α) (h1 : n ≤ a.length) (h2 : n ≤ b.length) (h3 : ∀ k, k < n → a.getD (a.length - 1 - k) d = b.getD (b.length - 1 - k) d)
    (h4 : n < a.length → n < b.length → a.getD (a.length - 1 - n) d ≠ b.getD (b.length - 1 - n) d) : n = bhd a b := by
  refine ahd_eq d n _ _ (by simpa using h1) (by simpa using h2) (fun k hk => ?_) fun p q => ?_
  · rw [getD_rev d a (by omega), getD_rev d b (by omega)]; exact h3 k hk
  · simp only [List.length_reverse] at p q
    rw [getD_rev d a p, getD_rev d b q]; exact h4 p q
theorem bhd_le (a b : List α) : bhd a b ≤ a.length ∧ bhd a b ≤ b.length := by
  have := ahd_le a.reverse b.reverse
  simpa [bhd] using this
theorem bhd_spec (d : α) (a b : List α) : (∀ k, k < bhd a b → a.getD (a.length - 1 - k) d = b.getD (b.length - 1 - k) d) ∧
    (bhd a b < a.length → bhd a b < b.length → a.getD (a.length - 1 - bhd a b) d ≠ b.getD (b.length - 1 - bhd a b) d) := by
  obtain ⟨h1, h2⟩ := ahd_spec d a.reverse b.reverse
  obtain ⟨l1, l2⟩ := bhd_le a b
  refine ⟨fun k hk => ?_, fun p q => ?_⟩
  · rw [← getD_rev d a (by omega), ← getD_rev d b (by omega)]; exact h1 k hk
  · rw [← getD_rev d a p, ← getD_rev d b q]; exact h2 (by simpa [bhd] using p) (by simpa [bhd] using q)
theorem ahd_self : ∀ (a : List α), ahd a a = a.length
  | [] => rfl
  | x :: a => by unfold ahd; simp [ahd_self a]
/-- All of both is the same. -/
theorem ahd_all {a b : List α} (h : a.length = b.length) (e : ahd a b = a.length) : a = b := by
  cases a with
  | nil => cases b with
    | nil => rfl
    | cons _ _ => simp at h
  | cons x a' =>
    refine List.ext_getElem h fun i h1 h2 => ?_
    have := (ahd_spec x (x :: a') b).1 i (by omega)
    rwa [gd_lt _ _ h1, gd_lt _ _ h2] at this
omit [DecidableEq α] in
theorem list_ext_getD (d : α) {a b : List α} (h : a.length = b.length) (e : ∀ k, k < a.length → a.getD k d = b.getD k d) : a = b := by
  refine List.ext_getElem h fun i h1 h2 => ?_
  have := e i h1
  rwa [gd_lt _ _ h1, gd_lt _ _ h2] at this
/-- At the end, of what is left of each. -/
theorem bhd_drop (d : α) (a b : List α) (n m : Nat) (ha : n ≤ a.length) (hb : n ≤ b.length) (h1 : n + m ≤ a.length) (h2 : n + m ≤ b.length)
    (h3 : ∀ k, k < m → a.getD (a.length - 1 - k) d = b.getD (b.length - 1 - k) d)
    (h4 : n + m < a.length → n + m < b.length → a.getD (a.length - 1 - m) d ≠ b.getD (b.length - 1 - m) d) : m = bhd (a.drop n) (b.drop n) := by
  have key : ∀ (l : List α) (k : Nat), n ≤ l.length → n + k < l.length → (l.drop n).getD (l.length - n - 1 - k) d = l.getD (l.length - 1 - k) d := fun l k hl hk => by
    simp only [List.getD, List.getElem?_drop]
    rw [show n + (l.length - n - 1 - k) = l.length - 1 - k by omega]
  refine bhd_eq d m _ _ (by simp; omega) (by simp; omega) (fun k hk => ?_) fun p q => ?_
  · simp only [List.length_drop]
    rw [key a k ha (by omega), key b k hb (by omega)]
    exact h3 k hk
  · simp only [List.length_drop] at p q ⊢
    rw [key a m ha (by omega), key b m hb (by omega)]
    exact h4 (by omega) (by omega)
end
end Go.Proofs.YtljgfacjefebaaaDoor
