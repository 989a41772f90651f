/-
  A longest matching, by places in the midst of shortest ways.
-/
import Derived.Test.YtpbccamaipekjaaLcsC
set_option linter.unusedVariables false
namespace Go.Proofs.Ytpbccamaipekjaa
section
variable {a b : List Int}
theorem odd_iff : oddD a.length b.length = true ↔ (dst a b a.length b.length) % 2 = 1 := by
  unfold oddD
  rw [decide_eq_true_eq]
  have h : ((a.length : Int) - b.length).tmod 2 ≠ 0 ↔ ((a.length : Int) - b.length) % 2 ≠ 0 := by
    rw [ne_eq, ne_eq, ← Int.dvd_iff_tmod_eq_zero, ← Int.dvd_iff_emod_eq_zero]
  rw [h]
  simp only [dst]
  omega
theorem dst_rev : dst a.reverse b.reverse a.length b.length = dst a b a.length b.length := by
  have h1 := dst_lcs (a := a) (b := b) (Nat.le_refl _) (Nat.le_refl _)
  have h2 := dst_lcs (a := a.reverse) (b := b.reverse) (x := a.length) (y := b.length) (by simp) (by simp)
  rw [h1, h2, List.take_of_length_le (by simp), List.take_of_length_le (by simp), List.take_length, List.take_length, lcsN_rev]
theorem allTop_mid {d : Nat} {far : List Int} (h : allTop a b d far) : midTop a b d (lowD d b.length) far := by
  refine ⟨h.1, fun k' h1 h2 => ?_⟩
  have := h.2 k' h1 h2
  have hl := low_facts d b.length
  split
  · rename_i c
    rcases Int.lt_or_le k' (-(d : Int)) with g | g
    · rw [top_uniq this (top_out (a := a) (b := b) (by omega))]; exact top_out (by omega)
    · rcases Int.lt_or_le k' (-(b.length : Int)) with g2 | g2
      · rw [top_uniq this (top_out (a := a) (b := b) (by omega))]; exact top_out (by omega)
      · have := hl.2.2.2.1 k' c.1 g g2; omega
  · exact this
theorem mid_spec : ∀ (f d : Nat) (fwd bwd : List Int), allTop a b d fwd → allTop a.reverse b.reverse d bwd →
    ((dst a b a.length b.length) % 2 = 1 → 2 * (d : Int) - 1 ≤ dst a b a.length b.length) → ((dst a b a.length b.length) % 2 = 0 → 2 * (d : Int) ≤ dst a b a.length b.length) → dst a b a.length b.length + 1 < 2 * ((d : Int) + f) →
    ∃ p q : Nat, midF a b f d fwd bwd = some ((p : Int), (q : Int)) ∧ p ≤ a.length ∧ q ≤ b.length ∧ dst a b p q + dstR a b p q = dst a b a.length b.length ∧ dst a b p q ≤ dstR a b p q + 1 ∧ dstR a b p q ≤ dst a b p q
  | 0, d, fwd, bwd, hF, hB, ho, he, hf => by omega
  | f + 1, d, fwd, bwd, hF, hB, ho, he, hf => by
    have hl := low_facts d b.length
    have hh := high_facts d a.length
    have hhge : -1 ≤ highD d a.length := by
      unfold highD
      split
      · rw [tmod2 _ (by omega)]; omega
      · omega
    have hodd := odd_iff (a := a) (b := b)
    rcases step_spec (d := d) (chk := oddD a.length b.length) (other := bwd) (a.length + b.length + 3) (lowD d b.length) fwd (allTop_mid hF) hl.2.2.1 hl.1 hl.2.1 (by omega) (by omega) (fun k' _ _ h _ => by omega) with
      ⟨x, k', e, hc, ht, hx0, k1, k2, hm⟩ | ⟨fwd', e, hF', hno⟩
    · -- met, forth
      have ho1 := hodd.1 hc
      have hb := hB.2 (a.length - b.length - k') (by simp only [len_rev]; omega) (by simp only [len_rev]; omega)
      simp only [len_rev] at hb
      obtain ⟨p, q, hp, hq, p1, q1, g1, g2⟩ := meet_at ht hb hx0 hm
      have hs := dst_sum p1 q1
      have := ho ho1
      refine ⟨p, q, ?_, p1, q1, by omega, by omega, by omega⟩
      rw [midF, e]
      simp only [hp, hq]
    · have hlr := low_facts d b.reverse.length
      have hhr := high_facts d a.reverse.length
      simp only [len_rev] at hlr hhr
      have hl2 : lowD d b.length = lowD d b.reverse.length := by rw [len_rev]
      have hh2 : highD d a.length = highD d a.reverse.length := by rw [len_rev]
      rcases step_spec (a := a.reverse) (b := b.reverse) (d := d) (chk := !oddD a.length b.length) (other := fwd') (a.length + b.length + 3) (lowD d b.reverse.length) bwd (allTop_mid hB) (by simp only [len_rev]; exact hlr.2.2.1) (by simp only [len_rev]; exact hlr.1) (by simp only [len_rev]; exact hlr.2.1)
          (by simp only [len_rev]; omega) (by simp only [len_rev]; omega) (fun k' _ _ h _ => by omega) with
        ⟨x, k', e2, hc, ht, hx0, k1, k2, hm⟩ | ⟨bwd', e2, hB', hno2⟩
      · -- met, back
        simp only [len_rev] at e2 k1 k2 hm
        have hne : ¬ oddD a.length b.length = true := by simpa using hc
        have ho1 : ¬ (dst a b a.length b.length) % 2 = 1 := fun h => hne (hodd.2 h)
        have hb := hF'.2 (a.length - b.length - k') (by omega) (by omega)
        have ht2 : topD a.reverse.reverse b.reverse.reverse (d + 1) (a.reverse.length - b.reverse.length - k') (rch b.length fwd' (a.length - b.length - k')) := by
          simpa using hb
        obtain ⟨p, q, hp, hq, p1, q1, g1, g2⟩ := meet_at ht ht2 hx0 (by simp only [len_rev]; exact hm)
        simp only [len_rev] at p1 q1
        have e3 : dstR a.reverse b.reverse p q = dst a b (a.length - p) (b.length - q) := by
          unfold dstR; simp
        have e4 : dst a.reverse b.reverse p q = dstR a b (a.length - p) (b.length - q) := by
          unfold dstR
          rw [show a.length - (a.length - p) = p by omega, show b.length - (b.length - q) = q by omega]
        rw [e3] at g2
        rw [e4] at g1
        have hs := dst_sum (a := a) (b := b) (x := a.length - p) (y := b.length - q) (by omega) (by omega)
        have := he (by omega)
        refine ⟨a.length - p, b.length - q, ?_, by omega, by omega, by omega, by omega, by omega⟩
        have e2' : stepF a.reverse b.reverse (!oddD a.length b.length) fwd' (highD d a.length) (a.length + b.length + 3) (lowD d b.length) bwd = some (.inl (x, x - k')) := e2
        rw [midF, e]
        simp only
        rw [e2']
        simp only
        congr 2 <;> omega
      · -- none
        simp only [len_rev] at e2
        have hB2 : allTop a.reverse b.reverse (d + 1) bwd' := hB'
        have n1 : oddD a.length b.length = true → dst a b a.length b.length ≠ d + d - 1 := fun hc => by
          have := no_meet (e2 := d) hF' hB (fun k' h1 h2 h3 => hno k' h1 h2 h3 hc) (.inl rfl)
          exact this
        have n2 : oddD a.length b.length = false → dst a b a.length b.length ≠ d + (d + 1) - 1 := fun hc => by
          have hFr : allTop a.reverse.reverse b.reverse.reverse (d + 1) fwd' := by simpa using hF'
          have := no_meet (a := a.reverse) (b := b.reverse) (e2 := d + 1) hB' hFr (fun k' h1 h2 h3 => hno2 k' h1 h2 h3 (by simp [hc])) (.inr rfl)
          simp only [len_rev] at this
          rw [dst_rev] at this
          exact this
        obtain ⟨p, q, g1, g2⟩ := mid_spec f (d + 1) fwd' bwd' hF' hB' (fun h => by
            have := n1 (hodd.2 h)
            have := ho h
            omega) (fun h => by
            have := n2 (by
              cases hc : oddD a.length b.length with
              | false => rfl
              | true => have := hodd.1 hc; omega)
            have := he h
            omega) (by omega)
        refine ⟨p, q, ?_, g2⟩
        rw [midF, e]
        simp only
        rw [e2]
        exact g1
end
end Go.Proofs.Ytpbccamaipekjaa
