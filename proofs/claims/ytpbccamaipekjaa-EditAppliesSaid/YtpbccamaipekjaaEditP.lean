/-
  Scripts: the plain facts.
-/
import Derived.Test.YtpbccamaipekjaaEditS
set_option linter.unusedSimpArgs false
set_option linter.unusedVariables false
namespace Go.Proofs.Ytpbccamaipekjaa
/-! ### equal numbers, equal texts -/
theorem num_pre : ∀ (l ks : List (List UInt8)), ∃ m, (numL ks l).1 = ks ++ m
  | [], ks => ⟨[], by simp [numL]⟩
  | x :: l, ks => by
    obtain ⟨m, hm⟩ := num_pre l (if x ∈ ks then ks else ks ++ [x])
    by_cases h : x ∈ ks
    · rw [if_pos h] at hm
      exact ⟨m, by simp only [numL]; rw [if_pos h]; exact hm⟩
    · rw [if_neg h] at hm
      exact ⟨[x] ++ m, by simp only [numL]; rw [if_neg h, hm, List.append_assoc]⟩
theorem num_at : ∀ (l ks : List (List UInt8)) (i : Nat), i < l.length → l.getD i [] ∈ (numL ks l).1 ∧ (numL ks l).2.getD i 0 = ((numL ks l).1.idxOf (l.getD i []) : Int)
  | x :: l, ks, 0, _ => by
    obtain ⟨m, hm⟩ := num_pre l (if x ∈ ks then ks else ks ++ [x])
    simp only [numL, List.getD_cons_zero]
    rw [hm]
    by_cases h : x ∈ ks
    · rw [if_pos h]
      exact ⟨List.mem_append_left _ h, by rw [List.idxOf_append, if_pos h]⟩
    · rw [if_neg h]
      refine ⟨by simp, ?_⟩
      rw [List.append_assoc, List.idxOf_append, if_neg h, List.idxOf_eq_length h]
      simp
  | x :: l, ks, i + 1, h => by
    simp only [numL, List.getD_cons_succ]
    exact num_at l _ i (by simpa using h)
theorem num_eq {a b : List (List UInt8)} {p q : Nat} (hp : p < a.length) (hq : q < b.length) (h : (numA a b).getD p 0 = (numB a b).getD q 0) : a.getD p [] = b.getD q [] := by
  obtain ⟨h1, h2⟩ := num_at a [] p hp
  obtain ⟨h3, h4⟩ := num_at b (numL [] a).1 q hq
  have e1 : numA a b = (numL [] a).2 := rfl
  have e2 : numB a b = (numL (numL [] a).1 b).2 := rfl
  rw [e1, e2, h2, h4] at h
  obtain ⟨m, hm⟩ := num_pre b (numL [] a).1
  have h5 : (numL (numL [] a).1 b).1.idxOf (a.getD p []) = (numL [] a).1.idxOf (a.getD p []) := by rw [hm, List.idxOf_append, if_pos h1]
  have h6 : a.getD p [] ∈ (numL (numL [] a).1 b).1 := by rw [hm]; exact List.mem_append_left _ h1
  rw [← h5] at h
  have h7 : (numL (numL [] a).1 b).1.idxOf (a.getD p []) = (numL (numL [] a).1 b).1.idxOf (b.getD q []) := by omega
  have g1 := List.getElem_idxOf (List.idxOf_lt_length_of_mem h6)
  have g2 := List.getElem_idxOf (List.idxOf_lt_length_of_mem h3)
  rw [← g1, ← g2]
  simp only [h7]
/-! ### what a script leads from and to -/
theorem lessL_put (s : List (Int × List (List UInt8))) (k j : Int) (ts : List (List UInt8)) : lessL j (putL s k ts) = lessL j s ++ if k = j then [] else ts := by
  by_cases h : ts.length = 0
  · obtain rfl := List.length_eq_zero_iff.1 h
    rw [putL_nil]
    simp
  · rcases s.eq_nil_or_concat with rfl | ⟨m, x, rfl⟩
    · rw [putL_first h]
      simp [lessL]
    · rw [List.concat_eq_append]
      by_cases hk : x.1 = k
      · rw [putL_same h hk, lessL_snoc, lessL_snoc, hk]
        by_cases e : k = j
        · simp [e]
        · simp [e]
      · rw [putL_new h hk, lessL_snoc]
theorem countL_put (s : List (Int × List (List UInt8))) (k j : Int) (ts : List (List UInt8)) : countL j (putL s k ts) = countL j s + if k = j then ts.length else 0 := by
  by_cases h : ts.length = 0
  · obtain rfl := List.length_eq_zero_iff.1 h
    rw [putL_nil]
    simp
  · rcases s.eq_nil_or_concat with rfl | ⟨m, x, rfl⟩
    · rw [putL_first h]
      by_cases e : k = j
      · simp [countL, e]
      · simp [countL, e]
    · rw [List.concat_eq_append]
      by_cases hk : x.1 = k
      · rw [putL_same h hk, countL_snoc, countL_snoc, hk]
        by_cases e : k = j
        · simp [e]; omega
        · simp [e]
      · rw [putL_new h hk, countL_snoc]
theorem cutL_drop {α : Type} (a : List α) {i j : Nat} (h : i ≤ j) : cutL a i j ++ a.drop j = a.drop i := by
  unfold cutL
  rw [List.drop_take]
  have : a.drop j = (a.drop i).drop (j - i) := by rw [List.drop_drop]; congr 1; omega
  rw [this, List.take_append_drop]
theorem drop_one {a : List (List UInt8)} {i : Nat} (h : i < a.length) : a.drop i = a.getD i [] :: a.drop (i + 1) := by
  rw [List.drop_eq_getElem_cons h, ← gd_lt a [] h]
theorem cutL_one {a : List (List UInt8)} {i : Nat} (h : i < a.length) : cutL a i (i + 1) = [a.getD i []] := by rw [cutL_more (Nat.le_refl _) h, cutL_self, List.nil_append]
theorem of_leads {a b : List (List UInt8)} : ∀ (l : List (Int × Int)) (u w : Nat) (s : List (Int × List (List UInt8))), u ≤ a.length → w ≤ b.length → rgt (numA a b) (numB a b) ((u : Int) - 1) ((w : Int) - 1) l = true →
    lessL 2 (ofG a b l u w s) = lessL 2 s ++ a.drop u ∧ lessL 1 (ofG a b l u w s) = lessL 1 s ++ b.drop w ∧ countL 0 (ofG a b l u w s) = countL 0 s + l.length ∧
      countL 0 (ofG a b l u w s) + countL 1 (ofG a b l u w s) = countL 0 s + countL 1 s + (a.length - u) ∧ countL 0 (ofG a b l u w s) + countL 2 (ofG a b l u w s) = countL 0 s + countL 2 s + (b.length - w)
  | [], u, w, s, hu, hw, _ => by
    refine ⟨?_, ?_, ?_, ?_, ?_⟩
    · simp [ofG, lessL_put]
    · simp [ofG, lessL_put]
    · simp [ofG, countL_put]
    · simp [ofG, countL_put]; omega
    · simp [ofG, countL_put]; omega
  | (x, y) :: l, u, w, s, hu, hw, h => by
    rw [rgt] at h
    simp only [Bool.and_eq_true, decide_eq_true_eq] at h
    obtain ⟨⟨c1, c2, c3, c4, c5⟩, h⟩ := h
    obtain ⟨p, rfl⟩ : ∃ p : Nat, x = p := ⟨x.toNat, by omega⟩
    obtain ⟨q, rfl⟩ : ∃ q : Nat, y = q := ⟨y.toNat, by omega⟩
    rw [numA_len] at c3
    rw [numB_len] at c4
    have hp : p < a.length := by omega
    have hq : q < b.length := by omega
    simp only [Int.toNat_natCast] at c5
    have he := num_eq hp hq c5
    obtain ⟨i1, i2, i3, i4, i5⟩ := of_leads (a := a) (b := b) l (p + 1) (q + 1) (putL (putL (putL s 1 (cutL a u p)) 2 (cutL b w q)) 0 (cutL a p (p + 1))) (by omega) (by omega) (by
      rw [show ((p + 1 : Nat) : Int) - 1 = (p : Int) by omega, show ((q + 1 : Nat) : Int) - 1 = (q : Int) by omega]; exact h)
    rw [ofG]
    simp only [Int.toNat_natCast]
    have g1 := cutL_len a (i := u) (j := p) (by omega)
    have g2 := cutL_len b (i := w) (j := q) (by omega)
    rw [i4, i5, i1, i2, i3]
    rw [cutL_one hp]
    refine ⟨?_, ?_, ?_, ?_, ?_⟩
    · simp only [lessL_put]
      rw [← cutL_drop a (i := u) (j := p) (by omega), drop_one hp]
      simp
    · simp only [lessL_put]
      rw [← cutL_drop b (i := w) (j := q) (by omega), drop_one hq, he]
      simp
    · simp only [countL_put, List.length_cons]
      simp
      omega
    · simp only [countL_put]
      simp
      omega
    · simp only [countL_put]
      simp
      omega
theorem of_all {a b : List (List UInt8)} {l : List (Int × Int)} (h : rgt (numA a b) (numB a b) (-1) (-1) l = true) :
    lessL 2 (ofG a b l 0 0 []) = a ∧ lessL 1 (ofG a b l 0 0 []) = b ∧ countL 0 (ofG a b l 0 0 []) = l.length ∧ countL 0 (ofG a b l 0 0 []) + countL 1 (ofG a b l 0 0 []) = a.length ∧ countL 0 (ofG a b l 0 0 []) + countL 2 (ofG a b l 0 0 []) = b.length := by
  have := of_leads (a := a) (b := b) l 0 0 [] (Nat.zero_le _) (Nat.zero_le _) h
  simpa [lessL, countL] using this
/-! ### the way back -/
def hk : List (Int × List (List UInt8)) → Int
  | [] => -1
  | t :: _ => t.1
theorem backL_cons {s : Int × List (List UInt8)} : ∀ {l : List (Int × List (List UInt8))}, ¬ (s.1 = 1 ∧ hk l = 2) → backL (s :: l) = turnS s :: backL l
  | [], _ => rfl
  | t :: l, h => by
    rw [backL]
    exact if_neg h
theorem backL_pair {s t : Int × List (List UInt8)} {l : List (Int × List (List UInt8))} (h : s.1 = 1) (h2 : t.1 = 2) : backL (s :: t :: l) = turnS t :: turnS s :: backL l := by
  rw [backL, if_pos ⟨h, h2⟩]
theorem turnK2 (k : Int) : turnK (turnK k) = k := by
  unfold turnK
  by_cases h : k = 1
  · subst h; rfl
  · by_cases h2 : k = 2
    · subst h2; rfl
    · rw [if_neg h, if_neg h2, if_neg h, if_neg h2]
theorem turnS2 (s : Int × List (List UInt8)) : turnS (turnS s) = s := by
  unfold turnS
  rw [turnK2]
theorem turnK_eq1 {k : Int} : turnK k = 1 ↔ k = 2 := by
  unfold turnK
  by_cases h : k = 1
  · subst h; simp
  · by_cases h2 : k = 2
    · subst h2; simp
    · rw [if_neg h, if_neg h2]; simp [h, h2]
theorem turnK_eq2 {k : Int} : turnK k = 2 ↔ k = 1 := by
  unfold turnK
  by_cases h : k = 1
  · subst h; simp
  · by_cases h2 : k = 2
    · subst h2; simp
    · rw [if_neg h, if_neg h2]; simp [h, h2]
theorem lessL_cons (j : Int) (s : Int × List (List UInt8)) (l : List (Int × List (List UInt8))) : lessL j (s :: l) = (if s.1 = j then [] else s.2) ++ lessL j l := rfl
theorem back_less : ∀ (n : Nat) (l : List (Int × List (List UInt8))), l.length ≤ n → lessL 2 (backL l) = lessL 1 l ∧ lessL 1 (backL l) = lessL 2 l ∧ (backL l).length = l.length ∧ ∀ x ∈ backL l, turnS x ∈ l
  | _, [], _ => ⟨rfl, rfl, rfl, fun x hx => by cases hx⟩
  | 0, s :: l, h => by simp at h
  | n + 1, s :: l, h => by
    by_cases c : s.1 = 1 ∧ hk l = 2
    · match l, c, h with
      | t :: l, ⟨c1, c2⟩, h =>
        have c2 : t.1 = 2 := c2
        obtain ⟨i1, i2, i3, i4⟩ := back_less n l (by simp at h; omega)
        rw [backL_pair c1 c2]
        have e1 : (turnS s).1 = 2 := turnK_eq2.2 c1
        have e2 : (turnS t).1 = 1 := turnK_eq1.2 c2
        refine ⟨?_, ?_, by simp [i3], fun x hx => ?_⟩
        · simp only [lessL_cons, e1, e2, c1, c2, i1]
          rfl
        · simp only [lessL_cons, e1, e2, c1, c2, i2]
          simp [turnS]
        · rcases List.mem_cons.1 hx with rfl | hx
          · rw [turnS2]; simp
          · rcases List.mem_cons.1 hx with rfl | hx
            · rw [turnS2]; simp
            · exact List.mem_cons_of_mem _ (List.mem_cons_of_mem _ (i4 x hx))
    · obtain ⟨i1, i2, i3, i4⟩ := back_less n l (by simp at h; omega)
      rw [backL_cons c]
      refine ⟨?_, ?_, by simp [i3], fun x hx => ?_⟩
      · simp only [lessL_cons, i1]
        congr 1
        show (if turnK s.1 = 2 then [] else s.2) = _
        simp only [turnK_eq2]
      · simp only [lessL_cons, i2]
        congr 1
        show (if turnK s.1 = 1 then [] else s.2) = _
        simp only [turnK_eq1]
      · rcases List.mem_cons.1 hx with rfl | hx
        · rw [turnS2]; simp
        · exact List.mem_cons_of_mem _ (i4 x hx)
theorem hk_back0 {l : List (Int × List (List UInt8))} (h : hk l = 0) : hk (backL l) = 0 := by
  match l, h with
  | s :: l, h =>
    have h : s.1 = 0 := h
    rw [backL_cons (fun c => by omega)]
    show turnK s.1 = 0
    rw [h]
    rfl
theorem followsB_iff {x y : Int} : followsB x y = true ↔ x ≠ y ∧ ¬ (x = 2 ∧ y = 1) := by
  unfold followsB
  by_cases h1 : x = 2 <;> by_cases h2 : y = 1 <;> simp [h1, h2]
theorem stepOK_iff {s : Int × List (List UInt8)} : stepOK s = true ↔ (s.1 = 0 ∨ s.1 = 1 ∨ s.1 = 2) ∧ s.2.length ≠ 0 := by
  unfold stepOK
  rw [decide_eq_true_eq]
  omega
theorem rightE_cons {k : Int} {s : Int × List (List UInt8)} {l : List (Int × List (List UInt8))} : rightE k (s :: l) = true ↔ ((s.1 = 0 ∨ s.1 = 1 ∨ s.1 = 2) ∧ s.2.length ≠ 0) ∧ (k ≠ s.1 ∧ ¬ (k = 2 ∧ s.1 = 1)) ∧ rightE s.1 l = true := by
  rw [rightE, Bool.and_eq_true, Bool.and_eq_true, stepOK_iff, followsB_iff]
theorem rightE_hk {k : Int} {l : List (Int × List (List UInt8))} (h : rightE k l = true) (hl : l ≠ []) : (hk l = 0 ∨ hk l = 1 ∨ hk l = 2) ∧ k ≠ hk l ∧ ¬ (k = 2 ∧ hk l = 1) := by
  match l, hl, h with
  | s :: l, _, h =>
    obtain ⟨h1, h2, _⟩ := rightE_cons.1 h
    exact ⟨h1.1, h2⟩
theorem back_right : ∀ (n : Nat) (l : List (Int × List (List UInt8))), l.length ≤ n → (∀ k, (k = 0 ∨ k = -1) → rightE k l = true → rightE k (backL l) = true ∧ backL (backL l) = l) ∧
    (∀ k k', rightE k l = true → (l = [] ∨ hk l = 0) → k' ≠ 0 → rightE k' (backL l) = true ∧ backL (backL l) = l)
  | _, [], _ => ⟨fun _ _ _ => ⟨rfl, rfl⟩, fun _ _ _ _ _ => ⟨rfl, rfl⟩⟩
  | 0, s :: l, h => by simp at h
  | n + 1, s :: l, h => by
    have hl : l.length ≤ n := by simp at h; omega
    obtain ⟨ihB, ihA⟩ := back_right n l hl
    have zero : ∀ k', s.1 = 0 → s.2.length ≠ 0 → rightE s.1 l = true → k' ≠ 0 → rightE k' (backL (s :: l)) = true ∧ backL (backL (s :: l)) = s :: l := fun k' h0 hne hr hk' => by
      rw [backL_cons (fun c => by omega)]
      rw [h0] at hr
      obtain ⟨j1, j2⟩ := ihB 0 (.inl rfl) hr
      have e : (turnS s).1 = 0 := by show turnK s.1 = 0; rw [h0]; rfl
      refine ⟨rightE_cons.2 ⟨⟨.inl e, hne⟩, ⟨by omega, by omega⟩, by rw [e]; exact j1⟩, ?_⟩
      rw [backL_cons (fun c => by omega), turnS2, j2]
    refine ⟨fun k hk0 hr => ?_, fun k k' hr h0 hk' => ?_⟩
    · obtain ⟨⟨hs, hne⟩, hf, hr⟩ := rightE_cons.1 hr
      rcases hs with hs | hs | hs
      · exact zero k hs hne hr (by omega)
      · by_cases c : hk l = 2
        · match l, c, hr, ihA, hl with
          | t :: r, c, hr, _, hl =>
            have c : t.1 = 2 := c
            obtain ⟨⟨_, hne2⟩, _, hr2⟩ := rightE_cons.1 hr
            obtain ⟨_, ihA2⟩ := back_right n r (by simp at hl; omega)
            rw [c] at hr2
            have h0 : r = [] ∨ hk r = 0 := by
              rcases r with _ | ⟨x, r⟩
              · exact .inl rfl
              · have := rightE_hk hr2 (by simp)
                exact .inr (by omega)
            have e1 : (turnS s).1 = 2 := turnK_eq2.2 hs
            have e2 : (turnS t).1 = 1 := turnK_eq1.2 c
            obtain ⟨j1, j2⟩ := ihA2 2 2 hr2 h0 (by decide)
            rw [backL_pair hs c]
            refine ⟨rightE_cons.2 ⟨⟨.inr (.inl e2), hne2⟩, ⟨by omega, by omega⟩, rightE_cons.2 ⟨⟨.inr (.inr e1), hne⟩, ⟨by omega, by omega⟩, by rw [e1]; exact j1⟩⟩, ?_⟩
            rw [backL_pair e2 e1, turnS2, turnS2, j2]
        · have h0 : l = [] ∨ hk l = 0 := by
            rcases l with _ | ⟨x, r⟩
            · exact .inl rfl
            · have := rightE_hk hr (by simp)
              exact .inr (by omega)
          rw [backL_cons (fun hh => c hh.2)]
          have e1 : (turnS s).1 = 2 := turnK_eq2.2 hs
          obtain ⟨j1, j2⟩ := ihA s.1 2 hr h0 (by decide)
          refine ⟨rightE_cons.2 ⟨⟨.inr (.inr e1), hne⟩, ⟨by omega, by omega⟩, by rw [e1]; exact j1⟩, ?_⟩
          rw [backL_cons (fun hh => by omega), turnS2, j2]
      · have h0 : l = [] ∨ hk l = 0 := by
          rcases l with _ | ⟨x, r⟩
          · exact .inl rfl
          · have := rightE_hk hr (by simp)
            exact .inr (by omega)
        rw [backL_cons (fun hh => by omega)]
        have e1 : (turnS s).1 = 1 := turnK_eq1.2 hs
        obtain ⟨j1, j2⟩ := ihA s.1 1 hr h0 (by decide)
        refine ⟨rightE_cons.2 ⟨⟨.inr (.inl e1), hne⟩, ⟨by omega, by omega⟩, by rw [e1]; exact j1⟩, ?_⟩
        rw [backL_cons (fun hh => by
          rcases h0 with rfl | h0
          · have := hh.2
            simp [backL, hk] at this
          · have := hk_back0 h0
            omega), turnS2, j2]
    · obtain ⟨⟨hs, hne⟩, hf, hr⟩ := rightE_cons.1 hr
      have h0 : s.1 = 0 := by
        rcases h0 with h0 | h0
        · cases h0
        · exact h0
      exact zero k' h0 hne hr hk'
theorem back_all {l : List (Int × List (List UInt8))} (h : rightE (-1) l = true) : rightE (-1) (backL l) = true ∧ backL (backL l) = l := (back_right l.length l (Nat.le_refl _)).1 (-1) (.inr rfl) h
theorem right_side {k : Int} : ∀ {l : List (Int × List (List UInt8))}, rightE k l = true → sideL 1 l = lessL 2 l ∧ sideL 2 l = lessL 1 l := by
  intro l
  induction l generalizing k with
  | nil => exact fun _ => ⟨rfl, rfl⟩
  | cons s l ih =>
    intro h
    obtain ⟨⟨hs, _⟩, _, hr⟩ := rightE_cons.1 h
    obtain ⟨j1, j2⟩ := ih hr
    have e1 : ∀ j, sideL j (s :: l) = (if s.1 = 0 ∨ s.1 = j then s.2 else []) ++ sideL j l := fun _ => rfl
    rw [e1, e1, lessL_cons, lessL_cons, j1, j2]
    rcases hs with hs | hs | hs <;> simp [hs]
theorem right_kinds {k : Int} : ∀ {l : List (Int × List (List UInt8))}, rightE k l = true → ∀ s ∈ l, 0 ≤ s.1 ∧ s.1 ≤ 2 := by
  intro l
  induction l generalizing k with
  | nil => exact fun _ s hs => by cases hs
  | cons t l ih =>
    intro h s hs
    obtain ⟨⟨ht, _⟩, _, hr⟩ := rightE_cons.1 h
    rcases List.mem_cons.1 hs with rfl | hs
    · omega
    · exact ih hr s hs
theorem less_mem {j : Int} : ∀ {l : List (Int × List (List UInt8))} {s : Int × List (List UInt8)}, s ∈ l → s.1 ≠ j → s.2.length ≤ (lessL j l).length
  | t :: l, s, h, hj => by
    rw [lessL_cons, List.length_append]
    rcases List.mem_cons.1 h with rfl | h
    · rw [if_neg hj]; omega
    · have := less_mem h hj
      omega
theorem of_len {a b : List (List UInt8)} : ∀ (l : List (Int × Int)) (u w : Nat) (s : List (Int × List (List UInt8))), (ofG a b l u w s).length ≤ s.length + 3 * l.length + 2
  | [], u, w, s => by
    rw [ofG]
    have h1 := putL_len s 1 (a.drop u)
    have h2 := putL_len (putL s 1 (a.drop u)) 2 (b.drop w)
    simp only [List.length_nil]
    omega
  | p :: l, u, w, s => by
    rw [ofG]
    have h1 := putL_len s 1 (cutL a u p.1.toNat)
    have h2 := putL_len (putL s 1 (cutL a u p.1.toNat)) 2 (cutL b w p.2.toNat)
    have h3 := putL_len (putL (putL s 1 (cutL a u p.1.toNat)) 2 (cutL b w p.2.toNat)) 0 (cutL a p.1.toNat (p.1.toNat + 1))
    have h4 := of_len (a := a) (b := b) l (p.1.toNat + 1) (p.2.toNat + 1) (putL (putL (putL s 1 (cutL a u p.1.toNat)) 2 (cutL b w p.2.toNat)) 0 (cutL a p.1.toNat (p.1.toNat + 1)))
    simp only [List.length_cons]
    omega
theorem back_len (l : List (Int × List (List UInt8))) : (backL l).length = l.length := (back_less l.length l (Nat.le_refl _)).2.2.1
theorem back_mem {l : List (Int × List (List UInt8))} {m : Nat} (h : ∀ s ∈ l, s.2.length ≤ m) : ∀ s ∈ backL l, s.2.length ≤ m := fun s hs => h (turnS s) ((back_less l.length l (Nat.le_refl _)).2.2.2 s hs)
theorem back_l2 (l : List (Int × List (List UInt8))) : lessL 2 (backL l) = lessL 1 l := (back_less l.length l (Nat.le_refl _)).1
theorem back_l1 (l : List (Int × List (List UInt8))) : lessL 1 (backL l) = lessL 2 l := (back_less l.length l (Nat.le_refl _)).2.1
end Go.Proofs.Ytpbccamaipekjaa
