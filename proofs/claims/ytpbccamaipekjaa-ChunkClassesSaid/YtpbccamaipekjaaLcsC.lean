/-
  The middle of a shortest way: ways from both ends that meet.
-/
import Derived.Test.YtpbccamaipekjaaLcsB
set_option linter.unusedVariables false
namespace Go.Proofs.Ytpbccamaipekjaa
/-- How far the ways have come on a diagonal. -/
def rch (m : Nat) (far : List Int) (k : Int) : Int := far.getD (k + m + 1).toNat 0
def advF (a b far : List Int) (k : Int) : Option (Int × List Int) :=
  if 0 ≤ startD a b (rch b.length far (k - 1)) (rch b.length far (k + 1)) k ∧ k ≤ startD a b (rch b.length far (k - 1)) (rch b.length far (k + 1)) k ∧ -(b.length : Int) ≤ k ∧ k ≤ a.length ∧ far.length = a.length + b.length + 3 then
    some (startD a b (rch b.length far (k - 1)) (rch b.length far (k + 1)) k + ahd (a.drop (startD a b (rch b.length far (k - 1)) (rch b.length far (k + 1)) k).toNat) (b.drop (startD a b (rch b.length far (k - 1)) (rch b.length far (k + 1)) k - k).toNat),
      far.set (k + b.length + 1).toNat (startD a b (rch b.length far (k - 1)) (rch b.length far (k + 1)) k + ahd (a.drop (startD a b (rch b.length far (k - 1)) (rch b.length far (k + 1)) k).toNat) (b.drop (startD a b (rch b.length far (k - 1)) (rch b.length far (k + 1)) k - k).toNat)))
  else none
/-- The diagonals of one round, and whether a way meets one from the other end. -/
def stepF (a b : List Int) (chk : Bool) (other : List Int) (high : Int) : Nat → Int → List Int → Option (Sum (Int × Int) (List Int))
  | 0, _, _ => none
  | f + 1, k, far => if k ≤ high then
      match advF a b far k with
      | none => none
      | some (x, far') => if chk = true ∧ (a.length : Int) ≤ x + rch b.length other (a.length - b.length - k) then some (.inl (x, x - k)) else stepF a b chk other high f (k + 2) far'
    else some (.inr far)
def lowD (d : Nat) (m : Nat) : Int := if (d : Int) > m then -(m : Int) + ((d : Int) - m).tmod 2 else -(d : Int)
def highD (d : Nat) (n : Nat) : Int := if (d : Int) > n then (n : Int) - ((d : Int) - n).tmod 2 else d
def oddD (n m : Nat) : Bool := decide (((n : Int) - m).tmod 2 ≠ 0)
def midF (a b : List Int) : Nat → Nat → List Int → List Int → Option (Int × Int)
  | 0, _, _, _ => none
  | f + 1, d, fwd, bwd => match stepF a b (oddD a.length b.length) bwd (highD d a.length) (a.length + b.length + 3) (lowD d b.length) fwd with
    | none => none
    | some (.inl p) => some p
    | some (.inr fwd') => match stepF a.reverse b.reverse (!oddD a.length b.length) fwd' (highD d a.length) (a.length + b.length + 3) (lowD d b.length) bwd with
      | none => none
      | some (.inl p) => some (a.length - p.1, b.length - p.2)
      | some (.inr bwd') => midF a b f (d + 1) fwd' bwd'
section
variable {a b : List Int}
theorem rch_set {far : List Int} {m : Nat} {k k' x : Int} (hl : (k + m + 1).toNat < far.length) (h0 : 0 ≤ k + m + 1) (h1 : 0 ≤ k' + m + 1) : rch m (far.set (k + m + 1).toNat x) k' = if k' = k then x else rch m far k' := by
  unfold rch
  by_cases h : k' = k
  · subst h; simp [List.getD, hl]
  · rw [if_neg h]
    have : (k + m + 1).toNat ≠ (k' + m + 1).toNat := by omega
    simp [List.getD, List.getElem?_set_ne this]
/-- All that is known of the diagonals, in the midst of a round: up to the diagonal k they are one further. -/
def midTop (a b : List Int) (d : Nat) (k : Int) (far : List Int) : Prop :=
  far.length = a.length + b.length + 3 ∧ ∀ k', -(b.length : Int) - 1 ≤ k' → k' ≤ a.length + 1 → topD a b (if (k' - d) % 2 = 0 ∧ k' < k then d + 1 else d) k' (rch b.length far k')
def allTop (a b : List Int) (e : Nat) (far : List Int) : Prop :=
  far.length = a.length + b.length + 3 ∧ ∀ k', -(b.length : Int) - 1 ≤ k' → k' ≤ a.length + 1 → topD a b e k' (rch b.length far k')
theorem tmod2 (n : Int) (h : 0 ≤ n) : n.tmod 2 = n % 2 := by rw [Int.tmod_eq_emod_of_nonneg h]
theorem low_facts (d m : Nat) : -(d : Int) ≤ lowD d m ∧ -(m : Int) ≤ lowD d m ∧ (lowD d m - d) % 2 = 0 ∧ (∀ k : Int, (k - d) % 2 = 0 → -(d : Int) ≤ k → -(m : Int) ≤ k → lowD d m ≤ k) ∧ lowD d m ≤ 1 := by
  unfold lowD
  split
  · rw [tmod2 _ (by omega)]
    refine ⟨by omega, by omega, by omega, fun k h1 h2 h3 => by omega, by omega⟩
  · refine ⟨by omega, by omega, by omega, fun k h1 h2 h3 => by omega, by omega⟩
theorem high_facts (d n : Nat) : highD d n ≤ d ∧ highD d n ≤ n ∧ (highD d n - d) % 2 = 0 ∧ (∀ k : Int, (k - d) % 2 = 0 → k ≤ d → k ≤ n → k ≤ highD d n) := by
  unfold highD
  split
  · rw [tmod2 _ (by omega)]
    refine ⟨by omega, by omega, by omega, fun k h1 h2 h3 => by omega⟩
  · refine ⟨by omega, by omega, by omega, fun k h1 h2 h3 => by omega⟩
theorem top_uniq {e : Nat} {k u v : Int} (h : topD a b e k u) (g : topD a b e k v) : u = v := by
  rcases h with ⟨h1, h2⟩ | ⟨h1, h2⟩
  · rcases g with ⟨g1, g2⟩ | ⟨g1, g2⟩
    · omega
    · exact absurd g1 (h2 v)
  · rcases g with ⟨g1, g2⟩ | ⟨g1, g2⟩
    · exact absurd h1 (g2 u)
    · have := h2 v g1
      have := g2 u h1
      omega
theorem adv_spec {d : Nat} {k : Int} {far : List Int} (h : midTop a b d k far) (hp : (k - d) % 2 = 0) (h1 : -(d : Int) ≤ k ∧ k ≤ d) (h2 : -(b.length : Int) ≤ k ∧ k ≤ a.length) :
    ∃ x far', advF a b far k = some (x, far') ∧ topD a b (d + 1) k x ∧ 0 ≤ x ∧ midTop a b d (k + 2) far' ∧ rch b.length far' k = x := by
  obtain ⟨hl, ht⟩ := h
  have hu := ht (k - 1) (by omega) (by omega)
  rw [if_neg (by omega)] at hu
  have hv := ht (k + 1) (by omega) (by omega)
  rw [if_neg (by omega)] at hv
  obtain ⟨s0, s1, _, _, _⟩ := start_ok h2 h1 hu hv
  have hx := adv_top h2 h1 hu hv
  refine ⟨_, _, if_pos ⟨s0, s1, h2.1, h2.2, hl⟩, hx, by omega, ⟨by simpa using hl, fun k' g1 g2 => ?_⟩, ?_⟩
  · rw [rch_set (by omega) (by omega) (by omega)]
    by_cases e : k' = k
    · subst e
      rw [if_pos rfl, if_pos ⟨hp, by omega⟩]
      exact hx
    · rw [if_neg e]
      have := ht k' g1 g2
      by_cases c : (k' - d) % 2 = 0 ∧ k' < k
      · rw [if_pos c] at this
        rw [if_pos ⟨c.1, by omega⟩]
        exact this
      · rw [if_neg c] at this
        rw [if_neg (by omega)]
        exact this
  · rw [rch_set (by omega) (by omega) (by omega), if_pos rfl]
/-- One round. -/
theorem step_spec {d : Nat} {chk : Bool} {other : List Int} : ∀ (f : Nat) (k : Int) (far : List Int), midTop a b d k far → (k - d) % 2 = 0 → -(d : Int) ≤ k → -(b.length : Int) ≤ k → highD d a.length - k + 3 ≤ f → k ≤ highD d a.length + 2 →
    (∀ k' : Int, (k' - d) % 2 = 0 → lowD d b.length ≤ k' → k' < k → chk = true → ¬ ((a.length : Int) ≤ rch b.length far k' + rch b.length other (a.length - b.length - k'))) →
    (∃ x k', stepF a b chk other (highD d a.length) f k far = some (.inl (x, x - k')) ∧ chk = true ∧ topD a b (d + 1) k' x ∧ 0 ≤ x ∧ -(b.length : Int) ≤ k' ∧ k' ≤ a.length ∧ (a.length : Int) ≤ x + rch b.length other (a.length - b.length - k')) ∨
    (∃ far', stepF a b chk other (highD d a.length) f k far = some (.inr far') ∧ allTop a b (d + 1) far' ∧
      ∀ k' : Int, (k' - d) % 2 = 0 → lowD d b.length ≤ k' → k' ≤ highD d a.length → chk = true → ¬ ((a.length : Int) ≤ rch b.length far' k' + rch b.length other (a.length - b.length - k')))
  | 0, k, far, h, hp, h1, h2, hf, hf2, hno => by omega
  | f + 1, k, far, h, hp, h1, h2, hf, hf2, hno => by
    obtain ⟨g1, g2, g3, g4⟩ := high_facts d a.length
    by_cases hk : k ≤ highD d a.length
    · obtain ⟨x, far', e, hx, hx0, hm, hr⟩ := adv_spec h hp ⟨h1, by omega⟩ ⟨h2, by omega⟩
      have hstep : stepF a b chk other (highD d a.length) (f + 1) k far = if chk = true ∧ (a.length : Int) ≤ x + rch b.length other (a.length - b.length - k) then some (.inl (x, x - k)) else stepF a b chk other (highD d a.length) f (k + 2) far' := by
        rw [stepF, if_pos hk, e]
      by_cases hc : chk = true ∧ (a.length : Int) ≤ x + rch b.length other (a.length - b.length - k)
      · rw [hstep, if_pos hc]
        exact .inl ⟨x, k, rfl, hc.1, hx, hx0, h2, by omega, hc.2⟩
      · rw [hstep, if_neg hc]
        refine step_spec f (k + 2) far' hm (by omega) (by omega) (by omega) (by omega) (by omega) fun k' p1 p2 p3 p4 => ?_
        rcases Int.lt_or_le k' k with q | q
        · have hl := h.1
          have hr' : rch b.length far' k' = rch b.length far k' := by
            unfold advF at e
            split at e
            · simp only [Option.some.injEq, Prod.mk.injEq] at e
              obtain ⟨_, rfl⟩ := e
              have := low_facts d b.length
              rw [rch_set (by omega) (by omega) (by omega), if_neg (by omega)]
            · cases e
          rw [hr']
          exact hno k' p1 p2 q p4
        · have : k' = k := by omega
          subst this
          rw [hr]
          exact fun hh => hc ⟨p4, hh⟩
    · have hstep : stepF a b chk other (highD d a.length) (f + 1) k far = some (.inr far) := by rw [stepF, if_neg hk]
      refine .inr ⟨far, hstep, ⟨h.1, fun k' p1 p2 => ?_⟩, fun k' p1 p2 p3 p4 => hno k' p1 p2 (by omega) p4⟩
      have := h.2 k' p1 p2
      by_cases c : (k' - d) % 2 = 0 ∧ k' < k
      · rw [if_pos c] at this; exact this
      · rw [if_neg c] at this
        by_cases c1 : (k' - d) % 2 = 0
        · -- too far out
          have hge : k ≤ k' := by omega
          have hout : (d : Int) < k' ∨ (a.length : Int) < k' := by
            rcases Int.lt_or_le (d : Int) k' with q | q
            · exact .inl q
            · rcases Int.lt_or_le (a.length : Int) k' with q2 | q2
              · exact .inr q2
              · have := g4 k' c1 q q2; omega
          have e1 := top_uniq this (top_out (a := a) (b := b) (by omega))
          rw [e1]
          exact top_out (by omega)
        · exact top_parity this c1
/-! ### from both ends -/
theorem len_rev (l : List Int) : l.reverse.length = l.length := List.length_reverse
/-- How many single items are stepped over from a place on. -/
def dstR (a b : List Int) (x y : Nat) : Int := dst a.reverse b.reverse (a.length - x) (b.length - y)
theorem dst_lcs {x y : Nat} (hx : x ≤ a.length) (hy : y ≤ b.length) : dst a b x y = (x : Int) + y - 2 * lcsN (a.take x) (b.take y) := by rw [dst, tabL_lcs hx hy]
theorem dstR_lcs {x y : Nat} (hx : x ≤ a.length) (hy : y ≤ b.length) : dstR a b x y = ((a.length : Int) - x) + (b.length - y) - 2 * lcsN (a.drop x) (b.drop y) := by
  unfold dstR
  rw [dst_lcs (by simp) (by simp), List.take_reverse, List.take_reverse, lcsN_rev]
  have e1 : a.length - (a.length - x) = x := by omega
  have e2 : b.length - (b.length - y) = y := by omega
  rw [e1, e2]
  omega
theorem dst_sum {x y : Nat} (hx : x ≤ a.length) (hy : y ≤ b.length) : dst a b a.length b.length ≤ dst a b x y + dstR a b x y := by
  rw [dst_lcs (Nat.le_refl _) (Nat.le_refl _), dst_lcs hx hy, dstR_lcs hx hy]
  have := lcsN_append (a.take x) (a.drop x) (b.take y) (b.drop y)
  simp only [List.take_append_drop, List.take_length] at this ⊢
  omega
/-- On a shortest way there is a place with however many single items ahead of it. -/
theorem mid_place : ∀ (n i k : Nat), i + k ≤ n → i ≤ a.length → k ≤ b.length → ∀ t : Nat, (t : Int) ≤ dst a b i k → ∃ x y, x ≤ i ∧ y ≤ k ∧ dst a b x y = t ∧ lcsN ((a.take i).drop x) ((b.take k).drop y) + tabL a b x y ≥ tabL a b i k
  | n, 0, k, hn, hi, hk, t, ht => by
    rw [dst_0] at ht
    exact ⟨0, t, Nat.le_refl _, by omega, dst_0 _, by simp [tabL_0]⟩
  | n, i + 1, 0, hn, hi, hk, t, ht => by
    rw [dst_i0] at ht
    exact ⟨t, 0, by omega, Nat.le_refl _, dst_i0 _, by simp [tabL_i0]⟩
  | 0, i + 1, k + 1, hn, _, _, _, _ => by omega
  | n + 1, i + 1, k + 1, hn, hi, hk, t, ht => by
    rcases Int.lt_or_eq_of_le ht with hlt | heq
    · by_cases h : a.getD i 0 = b.getD k 0
      · rw [dst_eq h] at ht hlt
        obtain ⟨x, y, hx, hy, h1, h2⟩ := mid_place n i k (by omega) (by omega) (by omega) t ht
        refine ⟨x, y, by omega, by omega, h1, ?_⟩
        rw [tabL_eq h, take_snoc' (by omega), take_snoc' (by omega), List.drop_append_of_le_length (by simp; omega), List.drop_append_of_le_length (by simp; omega), h, lcsN_behind]
        simp only [List.length_cons, List.length_nil]
        omega
      · rcases dst_ne h with e | e
        · rw [e] at hlt
          obtain ⟨x, y, hx, hy, h1, h2⟩ := mid_place n i (k + 1) (by omega) (by omega) hk t (by omega)
          refine ⟨x, y, by omega, hy, h1, ?_⟩
          have e2 : tabL a b (i + 1) (k + 1) = tabL a b i (k + 1) := by simp only [dst] at e; omega
          rw [e2, take_snoc' (l := a) (by omega), List.drop_append_of_le_length (by simp; omega)]
          have := lcsN_append ((a.take i).drop x) [a.getD i 0] ((b.take (k + 1)).drop y) []
          simp only [List.append_nil, lcsN_nil'] at this
          omega
        · rw [e] at hlt
          obtain ⟨x, y, hx, hy, h1, h2⟩ := mid_place n (i + 1) k (by omega) hi (by omega) t (by omega)
          refine ⟨x, y, hx, by omega, h1, ?_⟩
          have e2 : tabL a b (i + 1) (k + 1) = tabL a b (i + 1) k := by simp only [dst] at e; omega
          rw [e2, take_snoc' (l := b) (by omega), List.drop_append_of_le_length (l₁ := b.take k) (by simp; omega)]
          have := lcsN_append ((a.take (i + 1)).drop x) [] ((b.take k).drop y) [b.getD k 0]
          simp only [List.append_nil, lcsN_nil] at this
          omega
    · refine ⟨i + 1, k + 1, Nat.le_refl _, Nat.le_refl _, heq.symm, ?_⟩
      omega
theorem mid_at (t : Nat) (ht : (t : Int) ≤ dst a b a.length b.length) : ∃ x y, x ≤ a.length ∧ y ≤ b.length ∧ dst a b x y = t ∧ dst a b x y + dstR a b x y = dst a b a.length b.length := by
  obtain ⟨x, y, hx, hy, h1, h2⟩ := mid_place _ a.length b.length (Nat.le_refl _) (Nat.le_refl _) (Nat.le_refl _) t ht
  refine ⟨x, y, hx, hy, h1, ?_⟩
  have := dst_sum hx hy
  rw [dstR_lcs hx hy]
  rw [dstR_lcs hx hy] at this
  simp only [List.take_length] at h2
  simp only [dst] at this ⊢
  omega
/-- Where ways from both ends meet. -/
theorem meet_at {e1 e2 : Nat} {k x x' : Int} (h1 : topD a b e1 k x) (h2 : topD a.reverse b.reverse e2 (a.length - b.length - k) x') (hx : 0 ≤ x) (hm : (a.length : Int) ≤ x + x') :
    ∃ p q : Nat, (p : Int) = x ∧ (q : Int) = x - k ∧ p ≤ a.length ∧ q ≤ b.length ∧ dst a b p q < e1 ∧ dstR a b p q < e2 := by
  obtain ⟨g1, g2, g3, g4, g5⟩ := topD_on h1 hx
  have hb := topD_on h2 (by omega)
  have hb2 := onD_le (y := a.length - x) (by omega) hb (by omega) (by omega)
  obtain ⟨_, _, _, _, q5⟩ := hb2
  refine ⟨x.toNat, (x - k).toNat, by omega, by omega, by omega, by omega, g5, ?_⟩
  unfold dstR
  have e3 : ((a.length : Int) - x).toNat = a.length - x.toNat := by omega
  have e4 : ((a.length : Int) - x - (a.length - b.length - k)).toNat = b.length - (x - k).toNat := by omega
  rw [e3, e4] at q5
  exact q5
/-- If none meet, the way is another one. -/
theorem no_meet {d e2 : Nat} {far other : List Int} (hd : allTop a b (d + 1) far) (ho : allTop a.reverse b.reverse e2 other)
    (hno : ∀ k' : Int, (k' - d) % 2 = 0 → lowD d b.length ≤ k' → k' ≤ highD d a.length → ¬ ((a.length : Int) ≤ rch b.length far k' + rch b.length other (a.length - b.length - k'))) (he : e2 = d ∨ e2 = d + 1) :
    dst a b a.length b.length ≠ d + e2 - 1 := by
  intro h
  have hn := dst_nonneg (a := a) (b := b) a.length b.length
  obtain ⟨x, y, hx, hy, h1, h2⟩ := mid_at (a := a) (b := b) d (by omega)
  have hab := dst_abs (a := a) (b := b) x y
  have hpar : ((x : Int) - y - d) % 2 = 0 := by simp only [dst] at h1; omega
  have hlo := (low_facts d b.length).2.2.2.1 (x - y) hpar (by omega) (by omega)
  have hhi := (high_facts d a.length).2.2.2 (x - y) hpar (by omega) (by omega)
  refine hno (x - y) hpar hlo hhi ?_
  have t1 := topD_ge (hd.2 (x - y) (by omega) (by omega)) (x := x) ⟨by omega, by omega, by omega, by omega, by
    have e1 : (x : Int).toNat = x := by omega
    have e2 : ((x : Int) - (x - y)).toNat = y := by omega
    rw [e1, e2]; omega⟩
  have ho2 := ho.2 (a.length - b.length - (x - y)) (by simp only [len_rev]; omega) (by simp only [len_rev]; omega)
  simp only [len_rev] at ho2
  have t2 := topD_ge ho2 (x := a.length - x) ⟨by omega, by omega, by simp only [len_rev]; omega, by simp only [len_rev]; omega, by
    have e3 : ((a.length : Int) - x).toNat = a.length - x := by omega
    have e4 : ((a.length : Int) - x - (a.length - b.length - (x - y))).toNat = b.length - y := by omega
    rw [e3, e4]
    have : dstR a b x y = dst a.reverse b.reverse (a.length - x) (b.length - y) := rfl
    omega⟩
  omega
end
end Go.Proofs.Ytpbccamaipekjaa
