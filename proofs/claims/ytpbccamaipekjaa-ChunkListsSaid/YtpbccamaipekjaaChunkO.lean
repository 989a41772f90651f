/-
  Chunks follow each other; turned, they are those of the lists turned.
-/
import Derived.Test.YtpbccamaipekjaaChunkP
set_option linter.unusedSimpArgs false
set_option linter.unusedVariables false
namespace Go.Proofs.Ytpbccamaipekjaa
def swapP (p : Pl) : Pl := (p.1, p.2.2, p.2.1)
theorem both_swap : ∀ (n : Nat) (l r : List (Int × Int)), l.length + r.length ≤ n → bothF r l = (bothF l r).map swapP
  | _, [], r, _ => by rw [both_nil', both_nil]; rfl
  | _, p :: l, [], _ => by rw [both_nil', both_nil]; rfl
  | 0, _ :: _, _ :: _, h => by simp at h
  | n + 1, p :: l, q :: r, h => by
    simp only [List.length_cons] at h
    rw [bothF, bothF]
    by_cases c : p.1 < q.1
    · rw [if_neg (by omega), if_pos c, if_pos c]
      exact both_swap n l (q :: r) (by simp only [List.length_cons]; omega)
    · by_cases c2 : q.1 < p.1
      · rw [if_pos c2, if_neg c, if_pos c2]
        exact both_swap n (p :: l) r (by simp only [List.length_cons]; omega)
      · rw [if_neg c2, if_neg c, if_neg c, if_neg c2, both_swap n l r (by omega), List.map_cons]
        have : p.1 = q.1 := by omega
        simp only [swapP, this]
theorem stretch_turn (s : List Ck) (p : Pl) : stretchF (s.map turnC) (swapP p) = (stretchF s p).map turnC := by
  rcases s.eq_nil_or_concat with rfl | ⟨m, c, rfl⟩
  · rfl
  · rw [List.concat_eq_append, List.map_append, List.map_cons, List.map_nil, stretch_snoc, stretch_snoc]
    have e : (turnC c).1 = c.1 := rfl
    rw [e]
    by_cases h : c.1 = true
    · rw [if_pos h, if_pos h, List.map_append]
      rfl
    · rw [if_neg h, if_neg h, List.map_append, List.map_append]
      rfl
theorem swap_inj {p q : Pl} : swapP p = swapP q ↔ p = q := by
  obtain ⟨p1, p2, p3⟩ := p
  obtain ⟨q1, q2, q3⟩ := q
  simp only [swapP, Prod.mk.injEq]
  exact ⟨fun ⟨h1, h2, h3⟩ => ⟨h1, h3, h2⟩, fun ⟨h1, h2, h3⟩ => ⟨h1, h3, h2⟩⟩
theorem btw_swap (p q : Pl) : btw (swapP p) (swapP q) = turnC (btw p q) := rfl
theorem of_swap (ends : Pl) : ∀ (M : List Pl) (s : List Ck) (t : Pl), ofK (swapP ends) (M.map swapP) (s.map turnC) (swapP t) = (ofK ends M s t).map turnC
  | [], s, t => by
    rw [List.map_nil, ofK, ofK]
    by_cases h : t = ends
    · rw [if_pos h, if_pos (swap_inj.2 h)]
    · rw [if_neg h, if_neg (fun e => h (swap_inj.1 e)), List.map_append, btw_swap]
      rfl
  | p :: M, s, t => by
    rw [List.map_cons, ofK, ofK, ← of_swap ends M]
    have e : (if swapP p = swapP t then s.map turnC else s.map turnC ++ [btw (swapP t) (swapP p)]) = (if p = t then s else s ++ [btw t p]).map turnC := by
      by_cases h : p = t
      · rw [if_pos h, if_pos (swap_inj.2 h)]
      · rw [if_neg h, if_neg (fun e => h (swap_inj.1 e)), List.map_append, btw_swap]
        rfl
    rw [e, stretch_turn]
    rfl
theorem fit_swap (a b c : Int) (l r : List (Int × Int)) : fitK a c b r l = fitK a b c l r := by
  unfold fitK
  have e : decide (0 ≤ a ∧ 0 ≤ c ∧ 0 ≤ b) = decide (0 ≤ a ∧ 0 ≤ b ∧ 0 ≤ c) := decide_eq_decide.2 (by omega)
  rw [e, Bool.and_comm (riseB a c (-1) (-1) r)]
/-! ### each from where the one ahead ends -/
def fromP (c : Ck) : Pl := (c.2.1.1, c.2.2.1.1, c.2.2.2.1)
def toP (c : Ck) : Pl := (c.2.1.2, c.2.2.1.2, c.2.2.2.2)
def leP (p q : Pl) : Prop := p.1 ≤ q.1 ∧ p.2.1 ≤ q.2.1 ∧ p.2.2 ≤ q.2.2
def chF : Pl → Option Bool → List Ck → Pl → Prop
  | t, _, [], e => t = e
  | t, o, c :: l, e => fromP c = t ∧ leP t (toP c) ∧ t ≠ toP c ∧ o ≠ some c.1 ∧ chF (toP c) (some c.1) l e
def lastO : Option Bool → List Ck → Option Bool
  | o, [] => o
  | _, c :: l => lastO (some c.1) l
theorem lastO_snoc (c : Ck) : ∀ (o : Option Bool) (s : List Ck), lastO o (s ++ [c]) = some c.1
  | _, [] => rfl
  | _, d :: s => lastO_snoc c (some d.1) s
theorem ch_snoc {e : Pl} {c : Ck} : ∀ {t : Pl} {o : Option Bool} {s : List Ck}, chF t o (s ++ [c]) e ↔ chF t o s (fromP c) ∧ leP (fromP c) (toP c) ∧ fromP c ≠ toP c ∧ lastO o s ≠ some c.1 ∧ toP c = e
  | t, o, [] => by
    show (fromP c = t ∧ leP t (toP c) ∧ t ≠ toP c ∧ o ≠ some c.1 ∧ toP c = e) ↔ (t = fromP c ∧ leP (fromP c) (toP c) ∧ fromP c ≠ toP c ∧ o ≠ some c.1 ∧ toP c = e)
    constructor
    · rintro ⟨rfl, h⟩; exact ⟨rfl, h⟩
    · rintro ⟨rfl, h⟩; exact ⟨rfl, h⟩
  | t, o, d :: s => by
    have ih := ch_snoc (e := e) (c := c) (t := toP d) (o := some d.1) (s := s)
    show (fromP d = t ∧ leP t (toP d) ∧ t ≠ toP d ∧ o ≠ some d.1 ∧ chF (toP d) (some d.1) (s ++ [c]) e) ↔ ((fromP d = t ∧ leP t (toP d) ∧ t ≠ toP d ∧ o ≠ some d.1 ∧ chF (toP d) (some d.1) s (fromP c)) ∧ leP (fromP c) (toP c) ∧ fromP c ≠ toP c ∧ lastO (some d.1) s ≠ some c.1 ∧ toP c = e)
    rw [ih]
    constructor
    · rintro ⟨h1, h2, h3, h4, h5, h6⟩; exact ⟨⟨h1, h2, h3, h4, h5⟩, h6⟩
    · rintro ⟨⟨h1, h2, h3, h4, h5⟩, h6⟩; exact ⟨h1, h2, h3, h4, h5, h6⟩
theorem leP_trans {p q r : Pl} (h : leP p q) (k : leP q r) : leP p r := ⟨Int.le_trans h.1 k.1, Int.le_trans h.2.1 k.2.1, Int.le_trans h.2.2 k.2.2⟩
theorem leP_refl (p : Pl) : leP p p := ⟨Int.le_refl _, Int.le_refl _, Int.le_refl _⟩
theorem ch_le : ∀ {t : Pl} {o : Option Bool} {s : List Ck} {e : Pl}, chF t o s e → leP t e
  | t, _, [], _, h => by rw [show t = _ from h]; exact leP_refl _
  | _, _, _ :: _, _, ⟨_, h2, _, _, h5⟩ => leP_trans h2 (ch_le h5)
/-- Places that rise from here on, all ahead of the ends. -/
def upM (ends : Pl) : Pl → List Pl → Prop
  | t, [] => leP t ends
  | t, p :: M => leP t p ∧ upM ends (nextP p) M
theorem both_up {a b c : Int} : ∀ (n : Nat) (l r : List (Int × Int)) (u v u' w : Int) (t : Pl), l.length + r.length ≤ n → riseB a b u v l = true → riseB a c u' w r = true → (t.1 ≤ u + 1 ∨ t.1 ≤ u' + 1) → t.2.1 ≤ v + 1 → t.2.2 ≤ w + 1 → leP t (a, b, c) → upM (a, b, c) t (bothF l r)
  | _, [], r, _, _, _, _, t, _, _, _, _, _, _, h => by rw [both_nil']; exact h
  | _, p :: l, [], _, _, _, _, t, _, _, _, _, _, _, h => by rw [both_nil]; exact h
  | 0, _ :: _, _ :: _, _, _, _, _, _, h, _, _, _, _, _, _ => by simp at h
  | n + 1, p :: l, q :: r, u, v, u', w, t, h, hl, hr, h1, h2, h3, h4 => by
    simp only [List.length_cons] at h
    obtain ⟨l1, l2⟩ := rise_tail hl
    obtain ⟨r1, r2⟩ := rise_tail hr
    rw [bothF]
    by_cases e1 : p.1 < q.1
    · rw [if_pos e1]
      exact both_up n l (q :: r) p.1 p.2 u' w t (by simp only [List.length_cons]; omega) l2 hr (by omega) (by omega) h3 h4
    · by_cases e2 : q.1 < p.1
      · rw [if_neg e1, if_pos e2]
        exact both_up n (p :: l) r u v q.1 q.2 t (by simp only [List.length_cons]; omega) hl r2 (by omega) h2 (by omega) h4
      · rw [if_neg e1, if_neg e2]
        refine ⟨⟨?_, ?_, ?_⟩, both_up n l r p.1 p.2 q.1 q.2 _ (by omega) l2 r2 (.inl (Int.le_refl _)) (Int.le_refl _) (Int.le_refl _) ⟨?_, ?_, ?_⟩⟩
        · show t.1 ≤ p.1
          omega
        · show t.2.1 ≤ p.2
          omega
        · show t.2.2 ≤ q.2
          omega
        · show p.1 + 1 ≤ a
          omega
        · show p.2 + 1 ≤ b
          omega
        · show q.2 + 1 ≤ c
          omega
theorem nextP_ne (p q : Pl) (h : leP p q) : p ≠ nextP q := fun e => by
  have h1 : p.1 = q.1 + 1 := congrArg Prod.fst e
  have := h.1
  omega
theorem le_nextP (p : Pl) : leP p (nextP p) := ⟨Int.le_of_lt (Int.lt_succ _), Int.le_of_lt (Int.lt_succ _), Int.le_of_lt (Int.lt_succ _)⟩
theorem ch_stretch {s : List Ck} {t : Pl} (h : chF (0, 0, 0) none s t) : chF (0, 0, 0) none (stretchF s t) (nextP t) ∧ lastO none (stretchF s t) = some true := by
  rcases s.eq_nil_or_concat with rfl | ⟨m, c, rfl⟩
  · have h : (0, 0, 0) = t := h
    subst h
    exact ⟨⟨rfl, le_nextP _, nextP_ne _ _ (leP_refl _), by simp, rfl⟩, rfl⟩
  · rw [List.concat_eq_append] at h ⊢
    rw [stretch_snoc]
    by_cases hc : c.1 = true
    · rw [if_pos hc]
      obtain ⟨h1, h2, h3, h4, h5⟩ := ch_snoc.1 h
      refine ⟨ch_snoc.2 ⟨h1, ?_, ?_, ?_, rfl⟩, lastO_snoc _ _ _⟩
      · exact leP_trans (h5 ▸ h2) (le_nextP t)
      · exact nextP_ne _ t (h5 ▸ h2)
      · rw [hc] at h4; exact h4
    · rw [if_neg hc]
      refine ⟨ch_snoc.2 ⟨h, le_nextP t, nextP_ne _ t (leP_refl _), ?_, rfl⟩, lastO_snoc _ _ _⟩
      rw [lastO_snoc]
      intro e
      exact hc (Option.some.inj e)
theorem ch_of (ends : Pl) : ∀ (M : List Pl) (s : List Ck) (t : Pl), chF (0, 0, 0) none s t → lastO none s ≠ some false → upM ends t M → chF (0, 0, 0) none (ofK ends M s t) ends
  | [], s, t, h, hl, hu => by
    rw [ofK]
    by_cases e : t = ends
    · rw [if_pos e, ← e]; exact h
    · rw [if_neg e]
      exact ch_snoc.2 ⟨h, hu, e, hl, rfl⟩
  | p :: M, s, t, h, hl, hu => by
    rw [ofK]
    by_cases e : p = t
    · rw [if_pos e, e]
      obtain ⟨h1, h2⟩ := ch_stretch h
      exact ch_of ends M _ _ h1 (by rw [h2]; simp) (e ▸ hu.2)
    · rw [if_neg e]
      obtain ⟨h1, h2⟩ := ch_stretch (s := s ++ [btw t p]) (t := p) (ch_snoc.2 ⟨h, hu.1, fun e2 => e e2.symm, hl, rfl⟩)
      exact ch_of ends M _ _ h1 (by rw [h2]; simp) hu.2
theorem ch_all {a b c : Int} {l r : List (Int × Int)} (h : fitK a b c l r = true) : chF (0, 0, 0) none (ofK (a, b, c) (bothF l r) [] (0, 0, 0)) (a, b, c) := by
  unfold fitK at h
  simp only [Bool.and_eq_true, decide_eq_true_eq] at h
  obtain ⟨⟨h1, h2, h3⟩, h4, h5⟩ := h
  exact ch_of (a, b, c) _ _ _ rfl (by simp [lastO]) (both_up _ l r (-1) (-1) (-1) (-1) (0, 0, 0) (Nat.le_refl _) h4 h5 (.inl (Int.le_refl _)) (Int.le_refl _) (Int.le_refl _) ⟨h1, h2, h3⟩)
theorem of_turned {a b c : Int} {l r : List (Int × Int)} : ofK (a, c, b) (bothF r l) [] (0, 0, 0) = (ofK (a, b, c) (bothF l r) [] (0, 0, 0)).map turnC := by
  rw [both_swap _ l r (Nat.le_refl _)]
  exact of_swap (a, b, c) (bothF l r) [] (0, 0, 0)
theorem small_in (n : Int) : -1 ≤ smallN n ∧ smallN n ≤ 60 := by
  unfold smallN
  by_cases h : 60 < n
  · rw [if_pos h, Int.tmod_eq_emod_of_nonneg (by omega)]
    omega
  · rw [if_neg h]
    omega
end Go.Proofs.Ytpbccamaipekjaa
