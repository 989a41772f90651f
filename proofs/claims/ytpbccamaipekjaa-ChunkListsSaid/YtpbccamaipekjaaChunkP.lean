/-
  Chunks: the plain facts.
-/
import Derived.Test.YtpbccamaipekjaaChunkU
set_option linter.unusedSimpArgs false
set_option linter.unusedVariables false
namespace Go.Proofs.Ytpbccamaipekjaa
theorem at_skip {p : Int × Int} {l : List (Int × Int)} {x : Int} (h : p.1 ≠ x) : atL (p :: l) x = atL l x := by rw [atL, if_neg h]
theorem at_head {p : Int × Int} {l : List (Int × Int)} : atL (p :: l) p.1 = p.2 := by rw [atL, if_pos rfl]
theorem rise_tail {a b u v : Int} {p : Int × Int} {l : List (Int × Int)} (h : riseB a b u v (p :: l) = true) : (u < p.1 ∧ v < p.2 ∧ p.1 < a ∧ p.2 < b) ∧ riseB a b p.1 p.2 l = true := by
  rw [riseB, Bool.and_eq_true, decide_eq_true_eq] at h
  exact h
/-- What a place is matched with lies within. -/
theorem at_in {a b : Int} : ∀ {l : List (Int × Int)} {u v : Int}, riseB a b u v l = true → ∀ x, atL l x ≠ -1 → u < x ∧ x < a ∧ v < atL l x ∧ atL l x < b
  | [], _, _, _, x, hx => absurd rfl hx
  | p :: l, u, v, h, x, hx => by
    obtain ⟨h1, h2⟩ := rise_tail h
    by_cases e : p.1 = x
    · subst e
      rw [at_head] at hx ⊢
      omega
    · rw [at_skip e] at hx ⊢
      have := at_in h2 x hx
      omega
theorem at_low {a b : Int} {l : List (Int × Int)} {u v : Int} (h : riseB a b u v l = true) {x : Int} (hx : x ≤ u) : atL l x = -1 := by
  by_cases e : atL l x = -1
  · exact e
  · have := at_in h x e
    omega
theorem at_mono {a b : Int} : ∀ {l : List (Int × Int)} {u v : Int}, riseB a b u v l = true → ∀ x y, x < y → atL l x ≠ -1 → atL l y ≠ -1 → atL l x < atL l y
  | [], _, _, _, x, _, _, hx, _ => absurd rfl hx
  | p :: l, u, v, h, x, y, hxy, hx, hy => by
    obtain ⟨h1, h2⟩ := rise_tail h
    by_cases e : p.1 = x
    · subst e
      rw [at_skip (x := y) (show p.1 ≠ y by omega)] at hy ⊢
      rw [at_head]
      exact (at_in h2 y hy).2.2.1
    · rw [at_skip e] at hx ⊢
      by_cases e2 : p.1 = y
      · have := at_in h2 x hx
        omega
      · rw [at_skip e2] at hy ⊢
        exact at_mono h2 x y hxy hx hy
/-- The place of all three lists there. -/
def fP (l r : List (Int × Int)) (x : Nat) : Option Pl := if atL l x = -1 ∨ atL r x = -1 then none else some ((x : Int), atL l x, atL r x)
def mF (l r : List (Int × Int)) : Nat → Nat → List Pl
  | 0, _ => []
  | n + 1, o => (fP l r o).toList ++ mF l r n (o + 1)
theorem mF_congr {l r l' r' : List (Int × Int)} : ∀ (n o : Nat), (∀ x, o ≤ x → fP l r x = fP l' r' x) → mF l r n o = mF l' r' n o
  | 0, _, _ => rfl
  | n + 1, o, h => by rw [mF, mF, h o (Nat.le_refl _), mF_congr n (o + 1) fun x hx => h x (by omega)]
theorem mF_none {l r : List (Int × Int)} {n o : Nat} (h : fP l r o = none) : mF l r (n + 1) o = mF l r n (o + 1) := by rw [mF, h]; rfl
theorem mF_some {l r : List (Int × Int)} {n o : Nat} {p : Pl} (h : fP l r o = some p) : mF l r (n + 1) o = p :: mF l r n (o + 1) := by rw [mF, h]; rfl
theorem both_mF {b c : Int} : ∀ (n o : Nat) (l r : List (Int × Int)) (u v : Int), riseB ((o + n : Nat) : Int) b ((o : Int) - 1) u l = true → riseB ((o + n : Nat) : Int) c ((o : Int) - 1) v r = true → -1 ≤ u → -1 ≤ v → bothF l r = mF l r n o
  | 0, o, l, r, u, v, hl, hr, _, _ => by
    cases l with
    | nil => rw [both_nil']; rfl
    | cons p l =>
      have := (rise_tail hl).1
      omega
  | n + 1, o, l, r, u, v, hl, hr, hu, hv => by
    have eo : ((o + (n + 1) : Nat) : Int) = ((o + 1 + n : Nat) : Int) := by omega
    have e1 : ((o + 1 : Nat) : Int) - 1 = (o : Int) := by omega
    match l, r, hl, hr with
    | [], r, _, _ =>
      have hf : ∀ x, fP [] r x = none := fun x => by unfold fP; rw [if_pos (.inl rfl)]
      rw [both_nil', mF_none (hf o)]
      have : ∀ n o, mF [] r n o = [] := fun n => by
        induction n with
        | zero => exact fun _ => rfl
        | succ n ih => exact fun o => by rw [mF_none (hf o), ih]
      exact (this n (o + 1)).symm
    | p :: l, [], _, _ =>
      have hf : ∀ x, fP (p :: l) [] x = none := fun x => by unfold fP; rw [if_pos (.inr rfl)]
      rw [both_nil, mF_none (hf o)]
      have : ∀ n o, mF (p :: l) [] n o = [] := fun n => by
        induction n with
        | zero => exact fun _ => rfl
        | succ n ih => exact fun o => by rw [mF_none (hf o), ih]
      exact (this n (o + 1)).symm
    | p :: l, q :: r, hl, hr =>
      obtain ⟨h1, h2⟩ := rise_tail hl
      obtain ⟨h3, h4⟩ := rise_tail hr
      have lift : ∀ {d w : Int} {s : List (Int × Int)} {t : Int}, riseB ((o + (n + 1) : Nat) : Int) d w t s = true → (o : Int) ≤ w → riseB ((o + 1 + n : Nat) : Int) d ((o + 1 : Nat) - 1 : Int) t s = true := by
        intro d w s t h hw
        cases s with
        | nil => rfl
        | cons z s =>
          obtain ⟨g1, g2⟩ := rise_tail h
          rw [riseB, Bool.and_eq_true, decide_eq_true_eq, ← eo]
          exact ⟨by omega, g2⟩
      have keep : ∀ {d : Int} {z : Int × Int} {s : List (Int × Int)} {t : Int}, riseB ((o + (n + 1) : Nat) : Int) d ((o : Int) - 1) t (z :: s) = true → (o : Int) < z.1 → riseB ((o + 1 + n : Nat) : Int) d ((o + 1 : Nat) - 1 : Int) t (z :: s) = true := by
        intro d z s t h hz
        obtain ⟨g1, g2⟩ := rise_tail h
        rw [riseB, Bool.and_eq_true, decide_eq_true_eq, ← eo]
        exact ⟨by omega, g2⟩
      rw [bothF]
      by_cases cp : p.1 = o
      · by_cases cq : q.1 = o
        · rw [if_neg (by omega), if_neg (by omega)]
          have hf : fP (p :: l) (q :: r) o = some (p.1, p.2, q.2) := by
            unfold fP
            rw [← cp, at_head, cp, ← cq, at_head, if_neg (by omega)]
          rw [mF_some hf, both_mF n (o + 1) l r p.2 q.2 (lift h2 (by omega)) (lift h4 (by omega)) (by omega) (by omega)]
          congr 1
          exact mF_congr n (o + 1) fun x hx => by unfold fP; rw [at_skip (by omega), at_skip (by omega)]
        · rw [if_pos (by omega)]
          have hf : fP (p :: l) (q :: r) o = none := by
            unfold fP
            rw [if_pos (.inr (by rw [at_skip cq]; exact at_low h4 (by omega)))]
          rw [mF_none hf, both_mF n (o + 1) l (q :: r) p.2 v (lift h2 (by omega)) (keep hr (by omega)) (by omega) hv]
          exact mF_congr n (o + 1) fun x hx => by unfold fP; rw [at_skip (l := l) (by omega)]
      · by_cases cq : q.1 = o
        · rw [if_neg (by omega), if_pos (by omega)]
          have hf : fP (p :: l) (q :: r) o = none := by
            unfold fP
            rw [if_pos (.inl (by rw [at_skip cp]; exact at_low h2 (by omega)))]
          rw [mF_none hf, both_mF n (o + 1) (p :: l) r u q.2 (keep hl (by omega)) (lift h4 (by omega)) hu (by omega)]
          exact mF_congr n (o + 1) fun x hx => by unfold fP; rw [at_skip (l := r) (by omega)]
        · have hf : fP (p :: l) (q :: r) o = none := by
            unfold fP
            rw [if_pos (.inl (by rw [at_skip cp]; exact at_low h2 (by omega)))]
          rw [mF_none hf, ← both_mF n (o + 1) (p :: l) (q :: r) u v (keep hl (by omega)) (keep hr (by omega)) hu hv, bothF]
theorem both_all {a : Nat} {b c : Int} {l r : List (Int × Int)} (hl : riseB a b (-1) (-1) l = true) (hr : riseB a c (-1) (-1) r = true) : bothF l r = mF l r a 0 :=
  both_mF a 0 l r (-1) (-1) (by rw [Nat.zero_add]; exact hl) (by rw [Nat.zero_add]; exact hr) (Int.le_refl _) (Int.le_refl _)
/-! ### chunk by chunk -/
def lastSt (s : List Ck) : Bool := match s.getLast? with
  | some c => c.1
  | none => false
theorem stretch_new {s : List Ck} {p : Pl} (h : lastSt s = false) : stretchF s p = s ++ [(true, (p.1, p.1 + 1), (p.2.1, p.2.1 + 1), (p.2.2, p.2.2 + 1))] := by
  rcases s.eq_nil_or_concat with rfl | ⟨m, c, rfl⟩
  · rfl
  · rw [List.concat_eq_append] at h ⊢
    have hc : c.1 = false := by simpa [lastSt] using h
    rw [stretch_snoc, if_neg (by rw [hc]; decide)]
theorem last_snoc (s : List Ck) (c : Ck) : lastSt (s ++ [c]) = c.1 := by simp [lastSt]
theorem of_run {ends : Pl} {l r : List (Int × Int)} {s : List Ck} (hs : lastSt s = false) (n o : Nat) (a b : Int) : ∀ k, 0 < k → k ≤ n → (∀ j, j < k → fP l r (o + j) = some (((o + j : Nat) : Int), a + j, b + j)) →
    ofK ends (mF l r n o) s ((o : Int), a, b) = ofK ends (mF l r (n - k) (o + k)) (s ++ [(true, ((o : Int), ((o + k : Nat) : Int)), (a, a + k), (b, b + k))]) (((o + k : Nat) : Int), a + k, b + k)
  | 0, h, _, _ => absurd h (by decide)
  | 1, _, hn, hf => by
    obtain ⟨n, rfl⟩ : ∃ m, n = m + 1 := ⟨n - 1, by omega⟩
    have h0 := hf 0 (by decide)
    simp only [Nat.add_zero, Int.natCast_zero, Int.add_zero, Int.ofNat_zero] at h0
    have h0 : fP l r o = some ((o : Int), a, b) := by simpa using h0
    rw [mF_some h0, ofK, if_pos rfl, stretch_new hs]
    simp only [Nat.add_sub_cancel]
    rfl
  | k + 2, _, hn, hf => by
    rw [of_run hs n o a b (k + 1) (by omega) (by omega) fun j hj => hf j (by omega)]
    have h1 := hf (k + 1) (by omega)
    obtain ⟨m, hm⟩ : ∃ m, n - (k + 1) = m + 1 := ⟨n - (k + 2), by omega⟩
    have hm2 : n - (k + 2) = m := by omega
    rw [hm, hm2, mF_some h1, ofK, if_pos rfl, stretch_snoc, if_pos rfl]
    have e1 : ((o + (k + 1) : Nat) : Int) + 1 = ((o + (k + 2) : Nat) : Int) := by omega
    have e2 : ∀ z : Int, z + ((k + 1 : Nat) : Int) + 1 = z + ((k + 2 : Nat) : Int) := fun z => by omega
    simp only [nextP, e1, e2]
    rfl
theorem mF_skip {l r : List (Int × Int)} (n o : Nat) : ∀ k, k ≤ n → (∀ j, j < k → fP l r (o + j) = none) → mF l r n o = mF l r (n - k) (o + k)
  | 0, _, _ => rfl
  | k + 1, hn, hf => by
    rw [mF_skip n o k (by omega) fun j hj => hf j (by omega)]
    obtain ⟨m, hm⟩ : ∃ m, n - k = m + 1 := ⟨n - (k + 1), by omega⟩
    rw [hm, mF_none (hf k (by omega)), show n - (k + 1) = m by omega]
    rfl
theorem of_gap {ends p t : Pl} {M : List Pl} {s : List Ck} (h : p ≠ t) : ofK ends (p :: M) s t = ofK ends (p :: M) (s ++ [btw t p]) p := by
  rw [ofK, ofK, if_neg h, if_pos rfl]
end Go.Proofs.Ytpbccamaipekjaa
