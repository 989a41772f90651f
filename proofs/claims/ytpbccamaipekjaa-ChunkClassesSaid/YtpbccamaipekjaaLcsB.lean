/-
  How far the ways come: what is reached on a diagonal.
-/
import Derived.Test.YtpbccamaipekjaaLcsA
set_option linter.unusedVariables false
namespace Go.Proofs.Ytpbccamaipekjaa
section
variable (a b : List Int)
/-- How many single items a shortest way to a place steps over. -/
def dst (x y : Nat) : Int := (x : Int) + y - 2 * tabL a b x y
/-- A place of a diagonal that is reached with fewer than e of them. -/
def onD (e : Nat) (k : Int) (x : Int) : Prop := 0 ≤ x ∧ k ≤ x ∧ x ≤ a.length ∧ x - k ≤ b.length ∧ dst a b x.toNat (x - k).toNat < e
/-- The last such place. -/
def topD (e : Nat) (k : Int) (v : Int) : Prop := (v = -1 ∧ ∀ x, ¬ onD a b e k x) ∨ (onD a b e k v ∧ ∀ x, onD a b e k x → x ≤ v)
end
section
variable {a b : List Int}
theorem dst_right (x y : Nat) : dst a b (x + 1) y ≤ dst a b x y + 1 ∧ dst a b x y ≤ dst a b (x + 1) y + 1 := by
  have := tabL_right (a := a) (b := b) x y
  simp only [dst]; omega
theorem dst_down (x y : Nat) : dst a b x (y + 1) ≤ dst a b x y + 1 ∧ dst a b x y ≤ dst a b x (y + 1) + 1 := by
  have := tabL_down (a := a) (b := b) x y
  simp only [dst]; omega
theorem dst_diag (x y : Nat) : dst a b x y ≤ dst a b (x + 1) (y + 1) := by
  have := tabL_diag (a := a) (b := b) x y
  simp only [dst]; omega
theorem dst_eq {x y : Nat} (h : a.getD x 0 = b.getD y 0) : dst a b (x + 1) (y + 1) = dst a b x y := by
  simp only [dst, tabL_eq h]; omega
theorem dst_ne {x y : Nat} (h : a.getD x 0 ≠ b.getD y 0) : dst a b (x + 1) (y + 1) = dst a b x (y + 1) + 1 ∨ dst a b (x + 1) (y + 1) = dst a b (x + 1) y + 1 := by
  simp only [dst, tabL_ne h]; omega
theorem dst_nonneg (x y : Nat) : 0 ≤ dst a b x y := by
  have := tabL_le (a := a) (b := b) x y
  simp only [dst]; omega
theorem dst_abs (x y : Nat) : (x : Int) - y ≤ dst a b x y ∧ (y : Int) - x ≤ dst a b x y := by
  have := tabL_le (a := a) (b := b) x y
  simp only [dst]; omega
theorem dst_0 (y : Nat) : dst a b 0 y = y := by simp [dst, tabL_0]
theorem dst_i0 (x : Nat) : dst a b x 0 = x := by simp [dst, tabL_i0]
theorem onD_less {e : Nat} {k x : Int} (h : onD a b e k (x + 1)) (h0 : 0 ≤ x) (hk : k ≤ x) : onD a b e k x := by
  obtain ⟨h1, h2, h3, h4, h5⟩ := h
  refine ⟨h0, hk, by omega, by omega, ?_⟩
  have e1 : (x + 1).toNat = x.toNat + 1 := by omega
  have e2 : (x + 1 - k).toNat = (x - k).toNat + 1 := by omega
  rw [e1, e2] at h5
  have := dst_diag (a := a) (b := b) x.toNat (x - k).toNat
  omega
theorem onD_down {e : Nat} {k : Int} : ∀ (n : Nat) (x y : Int), (x - y).toNat ≤ n → y ≤ x → onD a b e k x → 0 ≤ y → k ≤ y → onD a b e k y
  | 0, x, y, hn, hy, h, _, _ => by
    have : y = x := by omega
    subst this; exact h
  | n + 1, x, y, hn, hy, h, h0, hk => by
    rcases Int.lt_or_eq_of_le hy with g | g
    · exact onD_down n (x - 1) y (by omega) (by omega) (onD_less (by simpa using h) (by omega) (by omega)) h0 hk
    · subst g; exact h
theorem onD_le {e : Nat} {k x y : Int} (hy : y ≤ x) (h : onD a b e k x) (h0 : 0 ≤ y) (hk : k ≤ y) : onD a b e k y := onD_down _ x y (Nat.le_refl _) hy h h0 hk
theorem topD_ge {e : Nat} {k v x : Int} (h : topD a b e k v) (hx : onD a b e k x) : x ≤ v := by
  rcases h with ⟨_, h⟩ | ⟨_, h⟩
  · exact absurd hx (h x)
  · exact h x hx
theorem topD_on {e : Nat} {k v : Int} (h : topD a b e k v) (hv : 0 ≤ v) : onD a b e k v := by
  rcases h with ⟨h, _⟩ | ⟨h, _⟩
  · omega
  · exact h
theorem topD_m1 {e : Nat} {k v : Int} (h : topD a b e k v) : -1 ≤ v := by
  rcases h with ⟨h, _⟩ | ⟨h, _⟩
  · omega
  · have := h.1; omega
/-- Where the ways from both diagonals beside come to, before they go over what is the same. -/
def startD (a b : List Int) (u v k : Int) : Int := min (min (max (u + 1) v) a.length) (b.length + k)
theorem start_ok {d : Nat} {k u v : Int} (hk : -(b.length : Int) ≤ k ∧ k ≤ a.length) (hd : -(d : Int) ≤ k ∧ k ≤ d) (hu : topD a b d (k - 1) u) (hv : topD a b d (k + 1) v) :
    0 ≤ startD a b u v k ∧ k ≤ startD a b u v k ∧ startD a b u v k ≤ a.length ∧ startD a b u v k - k ≤ b.length ∧ onD a b (d + 1) k (startD a b u v k) := by
  have hu1 := topD_m1 hu
  have hv1 := topD_m1 hv
  have hup : 0 < k → k - 1 ≤ u := fun h => by
    refine topD_ge hu ⟨by omega, by omega, by omega, by omega, ?_⟩
    have e : (k - 1 - (k - 1)).toNat = 0 := by omega
    rw [e, dst_i0]
    omega
  have h0 : 0 ≤ startD a b u v k := by unfold startD; omega
  have h1 : k ≤ startD a b u v k := by
    rcases Int.lt_or_le 0 k with h | h
    · have := hup h; unfold startD; omega
    · omega
  have h2 : startD a b u v k ≤ a.length := by unfold startD; omega
  have h3 : startD a b u v k - k ≤ b.length := by unfold startD; omega
  refine ⟨h0, h1, h2, h3, h0, h1, h2, h3, ?_⟩
  rcases Int.le_total v (u + 1) with hw | hw
  · -- from the diagonal below
    rcases Int.lt_or_le u 0 with hu0 | hu0
    · have hk0 : k ≤ 0 := by
        rcases Int.lt_or_le 0 k with h | h
        · have := hup h; omega
        · exact h
      have e : startD a b u v k = 0 := by unfold startD; omega
      rw [e]
      show dst a b 0 _ < _
      rw [dst_0]
      omega
    · obtain ⟨g1, g2, g3, g4, g5⟩ := topD_on hu hu0
      rcases Int.lt_or_le u a.length with hn | hn
      · have e : startD a b u v k = u + 1 := by unfold startD; omega
        have e1 : (u + 1).toNat = u.toNat + 1 := by omega
        have e2 : (u + 1 - k).toNat = (u - (k - 1)).toNat := by omega
        rw [e, e1, e2]
        have := (dst_right (a := a) (b := b) u.toNat (u - (k - 1)).toNat).1
        omega
      · have e : startD a b u v k = u := by unfold startD; omega
        have e2 : (u - (k - 1)).toNat = (u - k).toNat + 1 := by omega
        rw [e]
        rw [e2] at g5
        have := (dst_down (a := a) (b := b) u.toNat (u - k).toNat).2
        omega
  · -- from the diagonal above
    obtain ⟨g1, g2, g3, g4, g5⟩ := topD_on hv (by omega)
    rcases Int.lt_or_le (v - k) (b.length + 1) with hm | hm
    · have e : startD a b u v k = v := by unfold startD; omega
      have e2 : (v - k).toNat = (v - (k + 1)).toNat + 1 := by omega
      rw [e, e2]
      have := (dst_down (a := a) (b := b) v.toNat (v - (k + 1)).toNat).1
      omega
    · have e : startD a b u v k = v - 1 := by unfold startD; omega
      have e1 : v.toNat = (v - 1).toNat + 1 := by omega
      have e2 : (v - 1 - k).toNat = (v - (k + 1)).toNat := by omega
      rw [e, e2]
      rw [e1] at g5
      have := (dst_right (a := a) (b := b) (v - 1).toNat (v - (k + 1)).toNat).2
      omega
/-- Over what is the same nothing is stepped over. -/
theorem onD_snake {e : Nat} {k x : Int} (h : onD a b e k x) : ∀ n : Nat, n ≤ ahd (a.drop x.toNat) (b.drop (x - k).toNat) → onD a b e k (x + n)
  | 0, _ => by simpa using h
  | n + 1, hn => by
    obtain ⟨h1, h2, h3, h4, h5⟩ := onD_snake h n (by omega)
    have hs := (ahd_spec (0 : Int) (a.drop x.toNat) (b.drop (x - k).toNat)).1 n (by omega)
    have hl := ahd_le (a.drop x.toNat) (b.drop (x - k).toNat)
    simp only [List.length_drop] at hl
    have hx := h.1
    have hxk := h.2.1
    have e0 : ((n + 1 : Nat) : Int) = (n : Int) + 1 := by omega
    have e1 : (x + (n + 1 : Nat)).toNat = (x + n).toNat + 1 := by omega
    have e2 : (x + (n + 1 : Nat) - k).toNat = (x + n - k).toNat + 1 := by omega
    refine ⟨by omega, by omega, by omega, by omega, ?_⟩
    rw [e1, e2, dst_eq]
    · exact h5
    · have g1 : (a.drop x.toNat).getD n 0 = a.getD (x + n).toNat 0 := by
        have : (x + n).toNat = x.toNat + n := by omega
        simp [List.getD, this]
      have g2 : (b.drop (x - k).toNat).getD n 0 = b.getD (x + n - k).toNat 0 := by
        have : (x + n - k).toNat = (x - k).toNat + n := by omega
        simp [List.getD, this]
      rw [← g1, ← g2]
      exact hs
/-- One single item more: as far as that is. -/
theorem adv_top {d : Nat} {k u v : Int} (hk : -(b.length : Int) ≤ k ∧ k ≤ a.length) (hd : -(d : Int) ≤ k ∧ k ≤ d) (hu : topD a b d (k - 1) u) (hv : topD a b d (k + 1) v) :
    topD a b (d + 1) k (startD a b u v k + ahd (a.drop (startD a b u v k).toNat) (b.drop (startD a b u v k - k).toNat)) := by
  obtain ⟨h0, h1, h2, h3, h4⟩ := start_ok hk hd hu hv
  have hge : ∀ x : Int, x ≤ a.length → x - k ≤ b.length → x ≤ u + 1 ∨ x ≤ v → x ≤ startD a b u v k := fun x g1 g2 g3 => by unfold startD; omega
  generalize startD a b u v k = x1 at *
  have hs := onD_snake h4 _ (Nat.le_refl _)
  have hstop := (ahd_spec (0 : Int) (a.drop x1.toNat) (b.drop (x1 - k).toNat)).2
  simp only [List.length_drop] at hstop
  generalize hsn : ahd (a.drop x1.toNat) (b.drop (x1 - k).toNat) = s at *
  refine .inr ⟨hs, fun x hx => ?_⟩
  rcases Int.lt_or_le (x1 + s) x with g | g
  · exfalso
    have hn := onD_le (y := x1 + s + 1) (by omega) hx (by omega) (by omega)
    obtain ⟨p1, p2, p3, p4, p5⟩ := hn
    have hne : a.getD (x1 + s).toNat 0 ≠ b.getD (x1 + s - k).toNat 0 := by
      have := hstop (by omega) (by omega)
      have g1 : (a.drop x1.toNat).getD s 0 = a.getD (x1 + s).toNat 0 := by
        have : (x1 + s).toNat = x1.toNat + s := by omega
        simp [List.getD, this]
      have g2 : (b.drop (x1 - k).toNat).getD s 0 = b.getD (x1 + s - k).toNat 0 := by
        have : (x1 + s - k).toNat = (x1 - k).toNat + s := by omega
        simp [List.getD, this]
      rwa [g1, g2] at this
    have e1 : (x1 + s + 1).toNat = (x1 + s).toNat + 1 := by omega
    have e2 : (x1 + s + 1 - k).toNat = (x1 + s - k).toNat + 1 := by omega
    rw [e1, e2] at p5
    rcases dst_ne hne with q | q
    · have : onD a b d (k - 1) (x1 + s) := ⟨by omega, by omega, by omega, by omega, by
        have e3 : (x1 + s - (k - 1)).toNat = (x1 + s - k).toNat + 1 := by omega
        rw [e3]; omega⟩
      have := topD_ge hu this
      have := hge (x1 + s + 1) (by omega) (by omega) (.inl (by omega))
      omega
    · have : onD a b d (k + 1) (x1 + s + 1) := ⟨by omega, by omega, by omega, by omega, by
        have e3 : (x1 + s + 1 - (k + 1)).toNat = (x1 + s - k).toNat := by omega
        rw [e3, e1]; omega⟩
      have := topD_ge hv this
      have := hge (x1 + s + 1) (by omega) (by omega) (.inr (by omega))
      omega
  · exact g
/-- The other half of the diagonals stays as it is. -/
theorem top_parity {e : Nat} {k v : Int} (h : topD a b e k v) (hp : (k - e) % 2 ≠ 0) : topD a b (e + 1) k v := by
  have key : ∀ x, onD a b (e + 1) k x → onD a b e k x := by
    rintro x ⟨h1, h2, h3, h4, h5⟩
    refine ⟨h1, h2, h3, h4, ?_⟩
    have : dst a b x.toNat (x - k).toNat = 2 * x - k - 2 * tabL a b x.toNat (x - k).toNat := by simp only [dst]; omega
    omega
  rcases h with ⟨h, g⟩ | ⟨h, g⟩
  · exact .inl ⟨h, fun x hx => g x (key x hx)⟩
  · obtain ⟨h1, h2, h3, h4, h5⟩ := h
    exact .inr ⟨⟨h1, h2, h3, h4, by omega⟩, fun x hx => g x (key x hx)⟩
/-- Too far out nothing is reached. -/
theorem top_out {e : Nat} {k : Int} (h : k < -(b.length : Int) ∨ (a.length : Int) < k ∨ (e : Int) ≤ k ∨ (e : Int) ≤ -k) : topD a b e k (-1) := by
  refine .inl ⟨rfl, ?_⟩
  rintro x ⟨h1, h2, h3, h4, h5⟩
  have := dst_abs (a := a) (b := b) x.toNat (x - k).toNat
  omega
end
end Go.Proofs.Ytpbccamaipekjaa
