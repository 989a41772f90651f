/-
  Longest common sublists: the table of their lengths, by beginnings.
-/
import Derived.Test.YtpbccamaipekjaaTrimM
set_option linter.unusedVariables false
namespace Go.Proofs.Ytpbccamaipekjaa
section
variable (a b : List Int)
def nextR (x : Int) (prev : Nat → Nat) : Nat → Nat
  | 0 => 0
  | k + 1 => if x = b.getD k 0 then prev k + 1 else max (prev (k + 1)) (nextR x prev k)
/-- The length of the longest common sublists of the first i of a, and the first k of b. -/
def tabL : Nat → Nat → Nat
  | 0 => fun _ => 0
  | i + 1 => nextR b (a.getD i 0) (tabL i)
end
section
variable {a b : List Int}
theorem tabL_0 (k : Nat) : tabL a b 0 k = 0 := rfl
theorem tabL_i0 (i : Nat) : tabL a b i 0 = 0 := by cases i <;> rfl
theorem tabL_eq {i k : Nat} (h : a.getD i 0 = b.getD k 0) : tabL a b (i + 1) (k + 1) = tabL a b i k + 1 := by
  show nextR b (a.getD i 0) (tabL a b i) (k + 1) = _
  rw [nextR, if_pos h]
theorem tabL_ne {i k : Nat} (h : a.getD i 0 ≠ b.getD k 0) : tabL a b (i + 1) (k + 1) = max (tabL a b i (k + 1)) (tabL a b (i + 1) k) := by
  show nextR b (a.getD i 0) (tabL a b i) (k + 1) = _
  rw [nextR, if_neg h]
  rfl
/-- One item more adds one, at most. -/
theorem tabL_steps : ∀ (n i k : Nat), i + k ≤ n → tabL a b i k ≤ tabL a b (i + 1) k ∧ tabL a b (i + 1) k ≤ tabL a b i k + 1 ∧ tabL a b i k ≤ tabL a b i (k + 1) ∧ tabL a b i (k + 1) ≤ tabL a b i k + 1
  | n, i, k, hn => by
    have hB : ∀ i k, i + k ≤ n → tabL a b i k ≤ tabL a b i (k + 1) ∧ tabL a b i (k + 1) ≤ tabL a b i k + 1 := by
      intro i k hik
      cases i with
      | zero => simp [tabL_0]
      | succ i =>
        cases n with
        | zero => omega
        | succ n =>
          have h1 := tabL_steps n i k (by omega)
          by_cases h : a.getD i 0 = b.getD k 0
          · rw [tabL_eq h]; omega
          · rw [tabL_ne h]; omega
    have hA : tabL a b i k ≤ tabL a b (i + 1) k ∧ tabL a b (i + 1) k ≤ tabL a b i k + 1 := by
      cases k with
      | zero => simp [tabL_i0]
      | succ k =>
        cases n with
        | zero => omega
        | succ n =>
          have h1 := tabL_steps n i k (by omega)
          by_cases h : a.getD i 0 = b.getD k 0
          · rw [tabL_eq h]; omega
          · have h2 := hB i k (by omega)
            rw [tabL_ne h]; omega
    exact ⟨hA.1, hA.2, hB i k hn⟩
theorem tabL_right (i k : Nat) : tabL a b i k ≤ tabL a b (i + 1) k ∧ tabL a b (i + 1) k ≤ tabL a b i k + 1 := ⟨(tabL_steps _ i k (Nat.le_refl _)).1, (tabL_steps _ i k (Nat.le_refl _)).2.1⟩
theorem tabL_down (i k : Nat) : tabL a b i k ≤ tabL a b i (k + 1) ∧ tabL a b i (k + 1) ≤ tabL a b i k + 1 := (tabL_steps _ i k (Nat.le_refl _)).2.2
theorem tabL_diag (i k : Nat) : tabL a b (i + 1) (k + 1) ≤ tabL a b i k + 1 := by
  by_cases h : a.getD i 0 = b.getD k 0
  · rw [tabL_eq h]; omega
  · rw [tabL_ne h]
    have := tabL_right (a := a) (b := b) i k
    have := tabL_down (a := a) (b := b) i k
    omega
theorem tabL_le (i k : Nat) : tabL a b i k ≤ i ∧ tabL a b i k ≤ k := by
  induction i with
  | zero => simp [tabL_0]
  | succ i ih =>
    constructor
    · have := (tabL_right (a := a) (b := b) i k).2; omega
    · clear ih
      induction k with
      | zero => simp [tabL_i0]
      | succ k ih => have := (tabL_down (a := a) (b := b) (i + 1) k).2; omega
end
/-! ### common sublists -/
theorem sub_snoc {c l : List Int} {z : Int} (h : c.Sublist (l ++ [z])) : c.Sublist l ∨ ∃ d, c = d ++ [z] ∧ d.Sublist l := by
  rw [List.sublist_append_iff] at h
  obtain ⟨c1, c2, rfl, h1, h2⟩ := h
  cases c2 with
  | nil => exact .inl (by simpa using h1)
  | cons y r =>
    have hl := h2.length_le
    simp only [List.length_cons, List.length_nil] at hl
    have hr : r = [] := List.length_eq_zero_iff.1 (by omega)
    subst hr
    have hy : y = z := by
      have := h2.subset (List.mem_cons_self ..)
      simpa using this
    subst hy
    exact .inr ⟨c1, rfl, h1⟩
theorem take_snoc' {l : List Int} {i : Nat} (h : i < l.length) : l.take (i + 1) = l.take i ++ [l.getD i 0] := by
  rw [List.take_add_one, gd_lt _ _ h]; simp [h]
section
variable {a b : List Int}
/-- No common sublist is longer. -/
theorem tabL_max : ∀ (n i k : Nat), i + k ≤ n → i ≤ a.length → k ≤ b.length → ∀ c : List Int, c.Sublist (a.take i) → c.Sublist (b.take k) → c.length ≤ tabL a b i k
  | n, 0, k, _, _, _, c, h1, _ => by simp at h1; simp [h1]
  | n, i + 1, 0, _, _, _, c, _, h2 => by simp at h2; simp [h2]
  | 0, i + 1, k + 1, hn, _, _, _, _, _ => by omega
  | n + 1, i + 1, k + 1, hn, hi, hk, c, h1, h2 => by
    have h1' := h1
    have h2' := h2
    rw [take_snoc' (by omega)] at h1 h2
    by_cases h : a.getD i 0 = b.getD k 0
    · rw [tabL_eq h]
      have d1 : c.dropLast.Sublist (a.take i) := by
        rcases sub_snoc h1 with h | ⟨d, rfl, h⟩
        · exact (List.dropLast_sublist c).trans h
        · simpa using h
      have d2 : c.dropLast.Sublist (b.take k) := by
        rcases sub_snoc h2 with h | ⟨d, rfl, h⟩
        · exact (List.dropLast_sublist c).trans h
        · simpa using h
      have := tabL_max n i k (by omega) (by omega) (by omega) _ d1 d2
      simp at this
      omega
    · rw [tabL_ne h]
      rcases sub_snoc h1 with g1 | ⟨d, rfl, g1⟩
      · have := tabL_max n i (k + 1) (by omega) (by omega) hk c g1 h2'
        omega
      · rcases sub_snoc h2 with g2 | ⟨e, he, g2⟩
        · have := tabL_max n (i + 1) k (by omega) hi (by omega) _ h1' g2
          omega
        · have := List.append_inj' he rfl
          simp at this
          exact absurd this.2 h
/-- Some common sublist is as long. -/
theorem tabL_some : ∀ (n i k : Nat), i + k ≤ n → i ≤ a.length → k ≤ b.length → ∃ c : List Int, c.Sublist (a.take i) ∧ c.Sublist (b.take k) ∧ c.length = tabL a b i k
  | n, 0, k, _, _, _ => ⟨[], by simp, by simp, rfl⟩
  | n, i + 1, 0, _, _, _ => ⟨[], by simp, by simp, by simp [tabL_i0]⟩
  | 0, i + 1, k + 1, hn, _, _ => by omega
  | n + 1, i + 1, k + 1, hn, hi, hk => by
    by_cases h : a.getD i 0 = b.getD k 0
    · obtain ⟨c, h1, h2, h3⟩ := tabL_some n i k (by omega) (by omega) (by omega)
      refine ⟨c ++ [a.getD i 0], ?_, ?_, ?_⟩
      · rw [take_snoc' (by omega)]; exact h1.append (List.Sublist.refl _)
      · rw [take_snoc' (by omega), h]; exact h2.append (List.Sublist.refl _)
      · rw [tabL_eq h]; simp [h3]
    · rw [tabL_ne h]
      rcases Nat.le_total (tabL a b i (k + 1)) (tabL a b (i + 1) k) with g | g
      · obtain ⟨c, h1, h2, h3⟩ := tabL_some n (i + 1) k (by omega) hi (by omega)
        refine ⟨c, h1, ?_, by omega⟩
        rw [take_snoc' (by omega)]
        exact h2.trans (List.sublist_append_left _ _)
      · obtain ⟨c, h1, h2, h3⟩ := tabL_some n i (k + 1) (by omega) (by omega) hk
        refine ⟨c, ?_, h2, by omega⟩
        rw [take_snoc' (by omega)]
        exact h1.trans (List.sublist_append_left _ _)
end
/-- The length of the longest common sublists. -/
def lcsN (a b : List Int) : Nat := tabL a b a.length b.length
theorem lcsN_max {a b c : List Int} (h1 : c.Sublist a) (h2 : c.Sublist b) : c.length ≤ lcsN a b :=
  tabL_max _ _ _ (Nat.le_refl _) (Nat.le_refl _) (Nat.le_refl _) c (by simpa using h1) (by simpa using h2)
theorem lcsN_some (a b : List Int) : ∃ c : List Int, c.Sublist a ∧ c.Sublist b ∧ c.length = lcsN a b := by
  obtain ⟨c, h1, h2, h3⟩ := tabL_some (a := a) (b := b) _ _ _ (Nat.le_refl _) (Nat.le_refl _) (Nat.le_refl _)
  exact ⟨c, by simpa using h1, by simpa using h2, h3⟩
theorem lcsN_eq {a b : List Int} {v : Nat} (h : ∃ c : List Int, c.Sublist a ∧ c.Sublist b ∧ c.length = v) (k : ∀ c : List Int, c.Sublist a → c.Sublist b → c.length ≤ v) : lcsN a b = v := by
  obtain ⟨c, h1, h2, h3⟩ := h
  obtain ⟨e, g1, g2, g3⟩ := lcsN_some a b
  have := lcsN_max h1 h2
  have := k e g1 g2
  omega
theorem tabL_lcs {a b : List Int} {i k : Nat} (hi : i ≤ a.length) (hk : k ≤ b.length) : tabL a b i k = lcsN (a.take i) (b.take k) := by
  refine (lcsN_eq ?_ ?_).symm
  · exact tabL_some _ _ _ (Nat.le_refl _) hi hk
  · exact tabL_max _ _ _ (Nat.le_refl _) hi hk
theorem lcsN_comm (a b : List Int) : lcsN a b = lcsN b a := by
  obtain ⟨c, h1, h2, h3⟩ := lcsN_some b a
  refine lcsN_eq ⟨c, h2, h1, h3⟩ fun c h1 h2 => lcsN_max h2 h1
theorem lcsN_rev (a b : List Int) : lcsN a.reverse b.reverse = lcsN a b := by
  obtain ⟨c, h1, h2, h3⟩ := lcsN_some a b
  refine lcsN_eq ⟨c.reverse, h1.reverse, h2.reverse, by simpa using h3⟩ fun c h1 h2 => ?_
  have := lcsN_max (c := c.reverse) (by simpa using h1.reverse) (by simpa using h2.reverse)
  simpa using this
theorem lcsN_append (a a' b b' : List Int) : lcsN a b + lcsN a' b' ≤ lcsN (a ++ a') (b ++ b') := by
  obtain ⟨c, h1, h2, h3⟩ := lcsN_some a b
  obtain ⟨d, g1, g2, g3⟩ := lcsN_some a' b'
  have := lcsN_max (h1.append g1) (h2.append g2)
  simp at this
  omega
theorem lcsN_nil (b : List Int) : lcsN [] b = 0 := by
  refine lcsN_eq ⟨[], by simp, by simp, rfl⟩ fun c h1 _ => ?_
  have := h1.length_le
  simpa using this
theorem lcsN_nil' (b : List Int) : lcsN b [] = 0 := by rw [lcsN_comm, lcsN_nil]
theorem lcsN_same (a : List Int) : lcsN a a = a.length :=
  lcsN_eq ⟨a, List.Sublist.refl _, List.Sublist.refl _, rfl⟩ fun c h _ => h.length_le
theorem lcsN_sub {a b : List Int} (h : b.Sublist a) : lcsN a b = b.length :=
  lcsN_eq ⟨b, h, List.Sublist.refl _, rfl⟩ fun c _ h => h.length_le
theorem lcsN_le (a b : List Int) : lcsN a b ≤ a.length ∧ lcsN a b ≤ b.length := tabL_le _ _
/-- What both begin with may be matched. -/
theorem lcsN_cons (x : Int) (a b : List Int) : lcsN (x :: a) (x :: b) = lcsN a b + 1 := by
  obtain ⟨c, h1, h2, h3⟩ := lcsN_some a b
  refine lcsN_eq ⟨x :: c, h1.cons_cons x, h2.cons_cons x, by simp [h3]⟩ fun c h1 h2 => ?_
  have t1 : c.tail.Sublist a := by
    cases c with
    | nil => simp
    | cons y c =>
      rcases List.sublist_cons_iff.1 h1 with h | ⟨r, e, h⟩
      · exact (List.tail_sublist _).trans h
      · injection e with _ e; subst e; exact h
  have t2 : c.tail.Sublist b := by
    cases c with
    | nil => simp
    | cons y c =>
      rcases List.sublist_cons_iff.1 h2 with h | ⟨r, e, h⟩
      · exact (List.tail_sublist _).trans h
      · injection e with _ e; subst e; exact h
  have := lcsN_max t1 t2
  simp at this
  omega
theorem lcsN_ahead (p a b : List Int) : lcsN (p ++ a) (p ++ b) = p.length + lcsN a b := by
  induction p with
  | nil => simp
  | cons x p ih => simp only [List.cons_append, lcsN_cons, ih, List.length_cons]; omega
theorem lcsN_behind (p a b : List Int) : lcsN (a ++ p) (b ++ p) = lcsN a b + p.length := by
  rw [← lcsN_rev, List.reverse_append, List.reverse_append, lcsN_ahead, lcsN_rev]
  simp; omega
end Go.Proofs.Ytpbccamaipekjaa
