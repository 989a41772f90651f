/-
  Part 5 of what the proof rests on: values that are told, code that is walked, what comes out.
-/
import Derived.Test.YthpjjjnbkfnghaaGreatDoorMq4
set_option linter.unusedSimpArgs false
set_option linter.unusedVariables false
namespace Go.Proofs.YthpjjjnbkfnghaaGreatDoor
theorem idx_in {l m : List BS} {x : BS} (h : x ∈ l) : (l ++ m).idxOf x = l.idxOf x := by rw [List.idxOf_append, if_pos h]
theorem idx_out {l m : List BS} {x : BS} (h : ¬ x ∈ l) : (l ++ m).idxOf x = m.idxOf x + l.length := by rw [List.idxOf_append, if_neg h]
theorem numL_fin : ∀ (l ks : List BS), ks.Nodup → (numL ks l).1.Nodup ∧ (∃ m, (numL ks l).1 = ks ++ m) ∧ (∀ x ∈ l, x ∈ (numL ks l).1) ∧ (numL ks l).2 = l.map fun x => (((numL ks l).1.idxOf x : Nat) : Int)
  | [], ks, h => ⟨h, ⟨[], by simp [numL]⟩, fun _ h => by simp at h, rfl⟩
  | x :: l, ks, h => by
    have hk : (if x ∈ ks then ks else ks ++ [x]).Nodup := by
      split
      · exact h
      · rename_i hx
        rw [List.nodup_append]
        refine ⟨h, by simp, fun a ha b hb e => ?_⟩
        simp at hb
        exact hx (by rw [← hb, ← e]; exact ha)
    have hx : x ∈ (if x ∈ ks then ks else ks ++ [x]) := by
      split
      · assumption
      · simp
    have hi : (if x ∈ ks then ks else ks ++ [x]).idxOf x = ks.idxOf x := by
      split
      · rfl
      · rename_i hx
        rw [idx_out hx, List.idxOf_cons_self, List.idxOf_eq_length hx, Nat.zero_add]
    have hm : ∃ m, (if x ∈ ks then ks else ks ++ [x]) = ks ++ m := by
      split
      · exact ⟨[], by simp⟩
      · exact ⟨[x], rfl⟩
    obtain ⟨i1, ⟨m, i2⟩, i3, i4⟩ := numL_fin l (if x ∈ ks then ks else ks ++ [x]) hk
    obtain ⟨m', hm⟩ := hm
    simp only [numL]
    refine ⟨i1, ⟨m' ++ m, by rw [i2, hm, List.append_assoc]⟩, fun y hy => ?_, ?_⟩
    · rcases List.mem_cons.1 hy with rfl | hy
      · rw [i2]; exact List.mem_append_left _ hx
      · exact i3 y hy
    · rw [List.map_cons, i4]
      congr 1
      rw [i2, idx_in hx, hi]
theorem idx_inj {K : List BS} {x y : BS} (hx : x ∈ K) (hy : y ∈ K) (h : K.idxOf x = K.idxOf y) : x = y := by
  have h1 := List.idxOf_lt_length_of_mem hx
  have h2 := List.idxOf_lt_length_of_mem hy
  have e1 : K[K.idxOf x] = x := List.getElem_idxOf h1
  have e2 : K[K.idxOf y] = y := List.getElem_idxOf h2
  rw [← e1, ← e2]
  congr 1
theorem num_three (a b c : List BS) : ∃ φ : BS → Int, numF [] [a, b, c] = [a.map φ, b.map φ, c.map φ] ∧ ∀ x y, (x ∈ a ∨ x ∈ b ∨ x ∈ c) → (y ∈ a ∨ y ∈ b ∨ y ∈ c) → φ x = φ y → x = y := by
  obtain ⟨a1, ⟨ma, a2⟩, a3, a4⟩ := numL_fin a [] List.nodup_nil
  obtain ⟨b1, ⟨mb, b2⟩, b3, b4⟩ := numL_fin b (numL [] a).1 a1
  obtain ⟨c1, ⟨mc, c2⟩, c3, c4⟩ := numL_fin c (numL (numL [] a).1 b).1 b1
  generalize hKa : (numL [] a).1 = Ka at *
  generalize hKb : (numL Ka b).1 = Kb at *
  generalize hKc : (numL Kb c).1 = Kc at *
  have ea : ∀ x ∈ a, Kc.idxOf x = Ka.idxOf x := fun x hx => by
    rw [c2, idx_in (by rw [b2]; exact List.mem_append_left _ (a3 x hx)), b2, idx_in (a3 x hx)]
  have eb : ∀ x ∈ b, Kc.idxOf x = Kb.idxOf x := fun x hx => by
    rw [c2, idx_in (b3 x hx)]
  have hin : ∀ x, (x ∈ a ∨ x ∈ b ∨ x ∈ c) → x ∈ Kc := fun x hx => by
    rcases hx with h | h | h
    · rw [c2, b2]; exact List.mem_append_left _ (List.mem_append_left _ (a3 x h))
    · rw [c2]; exact List.mem_append_left _ (b3 x h)
    · exact c3 x h
  refine ⟨fun x => ((Kc.idxOf x : Nat) : Int), ?_, fun x y hx hy e => idx_inj (hin x hx) (hin y hy) (Int.ofNat.inj e)⟩
  simp only [numF]
  rw [hKa, hKb, a4, b4, c4]
  congr 1
  · exact List.map_congr_left fun x hx => by rw [ea x hx]
  · congr 1
    exact List.map_congr_left fun x hx => by rw [eb x hx]
theorem rgt_rise {a b : List Int} : ∀ {l : List (Int × Int)} {u v : Int}, rgt a b u v l = true → riseB a.length b.length u v l = true
  | [], _, _, _ => rfl
  | p :: l, u, v, h => by
    rw [rgt, Bool.and_eq_true, decide_eq_true_eq] at h
    rw [riseB, rgt_rise h.2, Bool.and_true, decide_eq_true_eq]
    exact ⟨h.1.1, h.1.2.1, h.1.2.2.1, h.1.2.2.2.1⟩
theorem rgt_mem {a b : List Int} : ∀ {l : List (Int × Int)} {u v : Int}, rgt a b u v l = true → ∀ p ∈ l, u < p.1 ∧ v < p.2 ∧ p.1 < a.length ∧ p.2 < b.length ∧ a.getD p.1.toNat 0 = b.getD p.2.toNat 0
  | q :: l, u, v, h, p, hp => by
    rw [rgt, Bool.and_eq_true, decide_eq_true_eq] at h
    rcases List.mem_cons.1 hp with rfl | hp
    · exact h.1
    · obtain ⟨g1, g2, g3⟩ := rgt_mem h.2 p hp
      exact ⟨by omega, by omega, g3⟩
theorem map_getD {α : Type} (φ : BS → α) (d : α) {l : List BS} {k : Nat} (h : k < l.length) : (l.map φ).getD k d = φ (l.getD k []) := by
  rw [gd_lt _ _ (by simpa using h), gd_lt _ _ h, List.getElem_map]
theorem getD_mem {l : List BS} {k : Nat} (h : k < l.length) : l.getD k [] ∈ l := by
  rw [gd_lt _ _ h]
  exact List.getElem_mem h
abbrev Fl := List BS × List BS × List BS
def atP (f : Fl) (p : Pl) : Prop := (0 ≤ p.1 ∧ p.1 < f.1.length) ∧ (0 ≤ p.2.1 ∧ p.2.1 < f.2.1.length) ∧ (0 ≤ p.2.2 ∧ p.2.2 < f.2.2.length) ∧ f.2.1.getD p.2.1.toNat [] = f.1.getD p.1.toNat [] ∧ f.2.2.getD p.2.2.toNat [] = f.1.getD p.1.toNat []
def mtch (f : Fl) (l r : List (Int × Int)) : Prop := rgt ((numF [] [f.1, f.2.1, f.2.2]).getD 0 []) ((numF [] [f.1, f.2.1, f.2.2]).getD 1 []) (-1) (-1) l = true ∧ rgt ((numF [] [f.1, f.2.1, f.2.2]).getD 0 []) ((numF [] [f.1, f.2.1, f.2.2]).getD 2 []) (-1) (-1) r = true
theorem mtch_fit {f : Fl} {l r : List (Int × Int)} (h : mtch f l r) : fitK f.1.length f.2.1.length f.2.2.length l r = true := by
  obtain ⟨φ, e, _⟩ := num_three f.1 f.2.1 f.2.2
  unfold mtch at h
  rw [e] at h
  have h1 := rgt_rise h.1
  have h2 := rgt_rise h.2
  simp only [List.getD_cons_zero, List.getD_cons_succ, List.length_map] at h1 h2
  unfold fitK
  rw [h1, h2]
  simp
theorem mtch_at {f : Fl} {l r : List (Int × Int)} (h : mtch f l r) : ∀ p ∈ bothF l r, atP f p := fun x hx => by
  obtain ⟨p, hp, q, hq, e1, rfl⟩ := both_mem _ l r (Nat.le_refl _) x hx
  obtain ⟨φ, e, inj⟩ := num_three f.1 f.2.1 f.2.2
  unfold mtch at h
  rw [e] at h
  obtain ⟨a1, a2, a3, a4, a5⟩ := rgt_mem h.1 p hp
  obtain ⟨b1, b2, b3, b4, b5⟩ := rgt_mem h.2 q hq
  simp only [List.getD_cons_zero, List.getD_cons_succ, List.length_map] at a3 a4 a5 b3 b4 b5
  have k1 : p.1.toNat < f.1.length := by omega
  have k2 : p.2.toNat < f.2.1.length := by omega
  have k3 : q.2.toNat < f.2.2.length := by omega
  rw [map_getD φ 0 k1, map_getD φ 0 k2] at a5
  rw [← e1, map_getD φ 0 k1, map_getD φ 0 k3] at b5
  refine ⟨⟨show (0 : Int) ≤ p.1 by omega, a3⟩, ⟨show (0 : Int) ≤ p.2 by omega, a4⟩, ⟨show (0 : Int) ≤ q.2 by omega, b4⟩, ?_, ?_⟩
  · exact (inj _ _ (.inl (getD_mem k1)) (.inr (.inl (getD_mem k2))) a5).symm
  · exact (inj _ _ (.inl (getD_mem k1)) (.inr (.inr (getD_mem k3))) b5).symm
def addP (p : Pl) (n : Nat) : Pl := (p.1 + n, p.2.1 + n, p.2.2 + n)
def goodC (f : Fl) (c : Ck) : Prop := c.1 = true → ∃ n : Nat, toP c = addP (fromP c) n ∧ ∀ k, k < n → atP f (addP (fromP c) k)
theorem good_stretch {f : Fl} {s : List Ck} {p : Pl} (h : ∀ c ∈ s, goodC f c) (hc : chF (0, 0, 0) none s p) (hp : atP f p) : ∀ c ∈ stretchF s p, goodC f c := by
  have one : goodC f (true, (p.1, p.1 + 1), (p.2.1, p.2.1 + 1), (p.2.2, p.2.2 + 1)) := fun _ => ⟨1, rfl, fun k hk => by
    obtain rfl : k = 0 := by omega
    have : addP p 0 = p := by simp [addP]
    show atP f (addP p 0)
    rw [this]
    exact hp⟩
  rcases s.eq_nil_or_concat with rfl | ⟨m, d, rfl⟩
  · rw [stretch_nil]
    intro c hc
    simp only [List.mem_singleton] at hc
    subst hc
    exact one
  · rw [List.concat_eq_append] at h hc ⊢
    rw [stretch_snoc]
    by_cases hd : d.1 = true
    · rw [if_pos hd]
      obtain ⟨_, _, _, _, e⟩ := ch_snoc.1 hc
      obtain ⟨n, e2, g⟩ := h d (by simp) hd
      intro c hc
      rcases List.mem_append.1 hc with hc | hc
      · exact h c (by simp [hc])
      · simp only [List.mem_singleton] at hc
        subst hc
        rw [e] at e2
        refine fun _ => ⟨n + 1, ?_, fun k hk => ?_⟩
        · rw [e2]
          show (_, _, _) = (_, _, _)
          simp only [addP, fromP, Int.natCast_add, Int.add_assoc]
          rfl
        · show atP f (addP (fromP d) k)
          rcases Nat.lt_or_ge k n with g1 | g1
          · exact g k g1
          · obtain rfl : k = n := by omega
            rw [← e2]
            exact hp
    · rw [if_neg hd]
      intro c hc
      rcases List.mem_append.1 hc with hc | hc
      · exact h c hc
      · simp only [List.mem_singleton] at hc
        subst hc
        exact one
theorem good_of {f : Fl} (ends : Pl) : ∀ (M : List Pl) (s : List Ck) (t : Pl), chF (0, 0, 0) none s t → lastO none s ≠ some false → upM ends t M → (∀ p ∈ M, atP f p) → (∀ c ∈ s, goodC f c) → ∀ c ∈ ofK ends M s t, goodC f c
  | [], s, t, h, hl, hu, hM, hs => by
    rw [ofK]
    by_cases e : t = ends
    · rw [if_pos e]; exact hs
    · rw [if_neg e]
      intro c hc
      rcases List.mem_append.1 hc with hc | hc
      · exact hs c hc
      · simp only [List.mem_singleton] at hc
        subst hc
        exact fun h => by cases h
  | p :: M, s, t, h, hl, hu, hM, hs => by
    rw [ofK]
    by_cases e : p = t
    · rw [if_pos e, e]
      obtain ⟨h1, h2⟩ := ch_stretch h
      exact good_of ends M _ _ h1 (by rw [h2]; simp) (e ▸ hu.2) (fun q hq => hM q (List.mem_cons_of_mem _ hq)) (good_stretch hs h (e ▸ hM p (List.mem_cons_self ..)))
    · rw [if_neg e]
      have hc := ch_snoc (e := p) (c := btw t p) (t := (0, 0, 0)) (o := none) (s := s) |>.2 ⟨h, hu.1, fun e2 => e e2.symm, hl, rfl⟩
      obtain ⟨h1, h2⟩ := ch_stretch (s := s ++ [btw t p]) (t := p) hc
      refine good_of ends M _ _ h1 (by rw [h2]; simp) hu.2 (fun q hq => hM q (List.mem_cons_of_mem _ hq)) (good_stretch (fun c hc => ?_) hc (hM p (List.mem_cons_self ..)))
      rcases List.mem_append.1 hc with hc | hc
      · exact hs c hc
      · simp only [List.mem_singleton] at hc
        subst hc
        exact fun h => by cases h
def cksF (f : Fl) (l r : List (Int × Int)) : List Ck := ofK (f.1.length, f.2.1.length, f.2.2.length) (bothF l r) [] (0, 0, 0)
def endP (f : Fl) : Pl := (f.1.length, f.2.1.length, f.2.2.length)
theorem cks_ch {f : Fl} {l r : List (Int × Int)} (h : mtch f l r) : chF (0, 0, 0) none (cksF f l r) (endP f) := ch_all (mtch_fit h)
theorem cks_good {f : Fl} {l r : List (Int × Int)} (h : mtch f l r) : ∀ c ∈ cksF f l r, goodC f c := by
  have hf := mtch_fit h
  unfold fitK at hf
  simp only [Bool.and_eq_true, decide_eq_true_eq] at hf
  obtain ⟨⟨h1, h2, h3⟩, h4, h5⟩ := hf
  exact good_of (endP f) _ _ _ rfl (by simp [lastO]) (both_up _ l r (-1) (-1) (-1) (-1) (0, 0, 0) (Nat.le_refl _) h4 h5 (.inl (Int.le_refl _)) (Int.le_refl _) (Int.le_refl _) ⟨h1, h2, h3⟩) (mtch_at h) (fun c hc => by simp at hc)
def cutB (f : Fl) (c : Ck) : List BS := cutS c.2.1 f.1
def cutO (f : Fl) (c : Ck) : List BS := cutS c.2.2.1 f.2.1
def cutT (f : Fl) (c : Ck) : List BS := cutS c.2.2.2 f.2.2
theorem cutS_in {s : Sp} {l : List BS} (h1 : 0 ≤ s.1) (h2 : s.1 ≤ s.2) (h3 : s.2 ≤ l.length) : cutS s l = cutL l s.1.toNat s.2.toNat := by
  unfold cutS
  rw [if_neg (by omega)]
theorem cutL_len' {α : Type} (a : List α) {i j : Nat} (h : j ≤ a.length) : (cutL a i j).length = j - i := by simp [cutL]; omega
theorem cutL_at {a : List BS} {i j k : Nat} (h : k < j - i) (hj : j ≤ a.length) : (cutL a i j).getD k [] = a.getD (i + k) [] := by
  simp [cutL, List.getD, List.getElem?_take, show i + k < j by omega]
theorem cutL_mem {a : List BS} {i j : Nat} {x : BS} (hj : j ≤ a.length) (h : x ∈ cutL a i j) : ∃ k, i ≤ k ∧ k < j ∧ x = a.getD k [] := by
  obtain ⟨k, hk, e⟩ := List.getElem_of_mem h
  have hk' : k < j - i := by rw [cutL_len' a hj] at hk; exact hk
  refine ⟨i + k, by omega, by omega, ?_⟩
  rw [← cutL_at hk' hj, gd_lt _ _ hk, e]
structure Cmp (g : Ck → Sp) (h : Pl → Int) : Prop where
  fro : ∀ c, (g c).1 = h (fromP c)
  too : ∀ c, (g c).2 = h (toP c)
  mono : ∀ p q, leP p q → h p ≤ h q
  add : ∀ p (n : Nat), h (addP p n) = h p + n
  zero : h (0, 0, 0) = 0
theorem cmpB : Cmp (fun c => c.2.1) (fun p => p.1) := ⟨fun _ => rfl, fun _ => rfl, fun _ _ h => h.1, fun _ _ => rfl, rfl⟩
theorem cmpO : Cmp (fun c => c.2.2.1) (fun p => p.2.1) := ⟨fun _ => rfl, fun _ => rfl, fun _ _ h => h.2.1, fun _ _ => rfl, rfl⟩
theorem cmpT : Cmp (fun c => c.2.2.2) (fun p => p.2.2) := ⟨fun _ => rfl, fun _ => rfl, fun _ _ h => h.2.2, fun _ _ => rfl, rfl⟩
theorem cutL_join {α : Type} (a : List α) {i j k : Nat} (h1 : i ≤ j) (h2 : j ≤ k) : cutL a i j ++ cutL a j k = cutL a i k := by
  unfold cutL
  have e : a.take j = (a.take k).take j := by rw [List.take_take]; congr 1; omega
  rw [e]
  generalize a.take k = b
  rw [List.drop_take]
  have : b.drop j = (b.drop i).drop (j - i) := by rw [List.drop_drop]; congr 1; omega
  rw [this, List.take_append_drop]
theorem span_join {g : Ck → Sp} {h : Pl → Int} (hg : Cmp g h) {l : List BS} : ∀ {L : List Ck} {t : Pl} {o : Option Bool} {e : Pl}, chF t o L e → 0 ≤ h t → h e ≤ l.length → (L.map fun c => cutS (g c) l).flatten = cutL l (h t).toNat (h e).toNat
  | [], t, _, e, hc, _, _ => by
    have : t = e := hc
    subst this
    simp [cutL]
  | c :: L, t, o, e, ⟨h1, h2, h3, h4, h5⟩, h6, h7 => by
    have m1 := hg.mono _ _ h2
    have m2 := hg.mono _ _ (ch_le h5)
    rw [List.map_cons, List.flatten_cons, span_join hg h5 (by omega) h7, cutS_in (by rw [hg.fro, h1]; exact h6) (by rw [hg.fro, hg.too, h1]; exact m1) (by rw [hg.too]; omega), hg.fro, hg.too, h1]
    exact cutL_join l (by omega) (by omega)
theorem span_all {g : Ck → Sp} {h : Pl → Int} (hg : Cmp g h) {l : List BS} {L : List Ck} {e : Pl} (hc : chF (0, 0, 0) none L e) (he : h e = l.length) : (L.map fun c => cutS (g c) l).flatten = l := by
  rw [span_join hg hc (by rw [hg.zero]; exact Int.le_refl _) (by omega), hg.zero, he]
  simp [cutL]
theorem ch_in : ∀ {L : List Ck} {t : Pl} {o : Option Bool} {e : Pl}, chF t o L e → ∀ c ∈ L, leP t (fromP c) ∧ leP (fromP c) (toP c) ∧ leP (toP c) e
  | c :: L, t, o, e, ⟨h1, h2, h3, h4, h5⟩, d, hd => by
    rcases List.mem_cons.1 hd with rfl | hd
    · exact ⟨by rw [h1]; exact leP_refl _, by rw [h1]; exact h2, ch_le h5⟩
    · obtain ⟨g1, g2, g3⟩ := ch_in h5 d hd
      exact ⟨leP_trans h2 g1, g2, g3⟩
def inF (f : Fl) (c : Ck) : Prop := leP (0, 0, 0) (fromP c) ∧ leP (fromP c) (toP c) ∧ leP (toP c) (endP f)
theorem cutB_in {f : Fl} {c : Ck} (h : inF f c) : cutB f c = cutL f.1 c.2.1.1.toNat c.2.1.2.toNat := cutS_in h.1.1 h.2.1.1 h.2.2.1
theorem cutO_in {f : Fl} {c : Ck} (h : inF f c) : cutO f c = cutL f.2.1 c.2.2.1.1.toNat c.2.2.1.2.toNat := cutS_in h.1.2.1 h.2.1.2.1 h.2.2.2.1
theorem cutT_in {f : Fl} {c : Ck} (h : inF f c) : cutT f c = cutL f.2.2 c.2.2.2.1.toNat c.2.2.2.2.toNat := cutS_in h.1.2.2 h.2.1.2.2 h.2.2.2.2
theorem good_same {f : Fl} {c : Ck} (h : inF f c) (hg : goodC f c) (hs : c.1 = true) : cutO f c = cutB f c ∧ cutT f c = cutB f c := by
  obtain ⟨n, e, g⟩ := hg hs
  have e1 : c.2.1.2 = c.2.1.1 + n := congrArg (fun p : Pl => p.1) e
  have e2 : c.2.2.1.2 = c.2.2.1.1 + n := congrArg (fun p : Pl => p.2.1) e
  have e3 : c.2.2.2.2 = c.2.2.2.1 + n := congrArg (fun p : Pl => p.2.2) e
  have a1 : (0 : Int) ≤ c.2.1.1 := h.1.1
  have a2 : (0 : Int) ≤ c.2.2.1.1 := h.1.2.1
  have a3 : (0 : Int) ≤ c.2.2.2.1 := h.1.2.2
  have b1 : c.2.1.2 ≤ f.1.length := h.2.2.1
  have b2 : c.2.2.1.2 ≤ f.2.1.length := h.2.2.2.1
  have b3 : c.2.2.2.2 ≤ f.2.2.length := h.2.2.2.2
  rw [cutB_in h, cutO_in h, cutT_in h]
  have l1 := cutL_len' f.1 (i := c.2.1.1.toNat) (j := c.2.1.2.toNat) (by omega)
  have l2 := cutL_len' f.2.1 (i := c.2.2.1.1.toNat) (j := c.2.2.1.2.toNat) (by omega)
  have l3 := cutL_len' f.2.2 (i := c.2.2.2.1.toNat) (j := c.2.2.2.2.toNat) (by omega)
  have key : ∀ k, k < n → f.2.1.getD (c.2.2.1.1.toNat + k) [] = f.1.getD (c.2.1.1.toNat + k) [] ∧ f.2.2.getD (c.2.2.2.1.toNat + k) [] = f.1.getD (c.2.1.1.toNat + k) [] := fun k hk => by
    obtain ⟨_, _, _, g4, g5⟩ := g k hk
    have q1 : (addP (fromP c) k).1.toNat = c.2.1.1.toNat + k := by show (c.2.1.1 + (k : Int)).toNat = _; omega
    have q2 : (addP (fromP c) k).2.1.toNat = c.2.2.1.1.toNat + k := by show (c.2.2.1.1 + (k : Int)).toNat = _; omega
    have q3 : (addP (fromP c) k).2.2.toNat = c.2.2.2.1.toNat + k := by show (c.2.2.2.1 + (k : Int)).toNat = _; omega
    rw [q1, q2] at g4
    rw [q1, q3] at g5
    exact ⟨g4, g5⟩
  constructor
  · refine list_ext_getD [] (by omega) fun k hk => ?_
    rw [cutL_at (by omega) (by omega), cutL_at (by omega) (by omega)]
    exact (key k (by omega)).1
  · refine list_ext_getD [] (by omega) fun k hk => ?_
    rw [cutL_at (by omega) (by omega), cutL_at (by omega) (by omega)]
    exact (key k (by omega)).2
def wholeF (f : Fl) : Prop := wholeL f.1 = true ∧ wholeL f.2.1 = true ∧ wholeL f.2.2 = true
theorem whole_ends {l : List BS} (h : wholeL l = true) {k : Nat} (hk : k + 1 < l.length) : endsL (l.getD k []) = true := ((wholeL_iff l).1 h k (by omega)).2 hk
def allEnd (f : Fl) (c : Ck) : Prop := ∀ x, x ∈ cutB f c ∨ x ∈ cutO f c ∨ x ∈ cutT f c → endsL x = true
theorem cut_ends {l : List BS} (hw : wholeL l = true) {i j : Nat} (h : j < l.length) : ∀ x ∈ cutL l i j, endsL x = true := fun x hx => by
  obtain ⟨k, h1, h2, rfl⟩ := cutL_mem (by omega) hx
  exact whole_ends hw (by omega)
theorem ch_ends {f : Fl} (hw : wholeF f) : ∀ (L : List Ck) (t : Pl) (o : Option Bool), chF t o L (endP f) → leP (0, 0, 0) t → (∀ c ∈ L, goodC f c) → ∀ c ∈ L.dropLast, allEnd f c
  | [], _, _, _, _, _, _, h => by simp at h
  | [c], _, _, _, _, _, _, h => by simp at h
  | c :: d :: L, t, o, hc, h0, hg, x, hx => by
    have hx : x = c ∨ x ∈ (d :: L).dropLast := by simpa using hx
    obtain ⟨h1, h2, h3, h4, h5⟩ := hc
    have h5' := h5
    obtain ⟨k1, k2, k3, k4, k5⟩ := h5
    rcases hx with rfl | hx
    · have hin : inF f x := ⟨by rw [h1]; exact h0, by rw [h1]; exact h2, ch_le h5'⟩
      have hle := ch_le k5
      have z1 : (0 : Int) ≤ (toP x).1 := Int.le_trans h0.1 h2.1
      have z2 : (0 : Int) ≤ (toP x).2.1 := Int.le_trans h0.2.1 h2.2.1
      have z3 : (0 : Int) ≤ (toP x).2.2 := Int.le_trans h0.2.2 h2.2.2
      have w1 : (toP x).1 ≤ (toP d).1 := k2.1
      have w2 : (toP x).2.1 ≤ (toP d).2.1 := k2.2.1
      have w3 : (toP x).2.2 ≤ (toP d).2.2 := k2.2.2
      have v1 : (toP d).1 ≤ f.1.length := hle.1
      have v2 : (toP d).2.1 ≤ f.2.1.length := hle.2.1
      have v3 : (toP d).2.2 ≤ f.2.2.length := hle.2.2
      cases hs : x.1 with
      | true =>
        obtain ⟨e1, e2⟩ := good_same hin (hg x (by simp)) hs
        have hall : ∀ y ∈ cutB f x, endsL y = true := by
          by_cases c1 : (toP x).1 < (toP d).1
          · rw [cutB_in hin]
            exact cut_ends hw.1 (by show (toP x).1.toNat < _; omega)
          · by_cases c2 : (toP x).2.1 < (toP d).2.1
            · rw [← e1, cutO_in hin]
              exact cut_ends hw.2.1 (by show (toP x).2.1.toNat < _; omega)
            · by_cases c3 : (toP x).2.2 < (toP d).2.2
              · rw [← e2, cutT_in hin]
                exact cut_ends hw.2.2 (by show (toP x).2.2.toNat < _; omega)
              · exact absurd (show toP x = toP d from Prod.ext (by omega) (Prod.ext (by omega) (by omega))) k3
        intro y hy
        rw [e1, e2] at hy
        rcases hy with hy | hy | hy
        · exact hall y hy
        · exact hall y hy
        · exact hall y hy
      | false =>
        have hd : d.1 = true := by
          cases hd : d.1 with
          | true => rfl
          | false => rw [hs, hd] at k4; exact absurd rfl k4
        obtain ⟨n, e, _⟩ := hg d (by simp) hd
        rw [k1] at e
        have hn : 0 < n := by
          rcases Nat.eq_zero_or_pos n with rfl | h
          · exact absurd (show toP x = toP d by rw [e]; simp [addP]) k3
          · exact h
        have u1 : (toP d).1 = (toP x).1 + n := congrArg (fun p : Pl => p.1) e
        have u2 : (toP d).2.1 = (toP x).2.1 + n := congrArg (fun p : Pl => p.2.1) e
        have u3 : (toP d).2.2 = (toP x).2.2 + n := congrArg (fun p : Pl => p.2.2) e
        intro y hy
        rcases hy with hy | hy | hy
        · rw [cutB_in hin] at hy
          exact cut_ends hw.1 (by show (toP x).1.toNat < _; omega) y hy
        · rw [cutO_in hin] at hy
          exact cut_ends hw.2.1 (by show (toP x).2.1.toNat < _; omega) y hy
        · rw [cutT_in hin] at hy
          exact cut_ends hw.2.2 (by show (toP x).2.2.toNat < _; omega) y hy
    · exact ch_ends hw (d :: L) (toP c) (some c.1) h5' (leP_trans h0 h2) (fun e he => hg e (List.mem_cons_of_mem _ he)) x hx
end Go.Proofs.YthpjjjnbkfnghaaGreatDoor
set_option linter.unusedSimpArgs false
set_option linter.unusedVariables false
namespace Go.Proofs.YthpjjjnbkfnghaaGreatDoor
def clsF (f : Fl) (c : Ck) : Int := classK c f.1 f.2.1 f.2.2
def hoistF (st : Int) (l r : List BS) : Nat × Nat := if st = 2 then (ahd l r, bhd (l.drop (ahd l r)) (r.drop (ahd l r))) else (0, 0)
theorem hoist_le (st : Int) (l r : List BS) : (hoistF st l r).1 + (hoistF st l r).2 ≤ l.length ∧ (hoistF st l r).1 + (hoistF st l r).2 ≤ r.length := by
  unfold hoistF
  split
  · have h1 := ahd_le l r
    have h2 := bhd_le (l.drop (ahd l r)) (r.drop (ahd l r))
    simp only [List.length_drop] at h2
    simp only
    omega
  · simp
def confP (f : Fl) (c : Ck) (st : Int) (lb : BS × BS × BS) : Pt :=
  (lb.1, (if st = 0 then [] else lb.2.1), lb.2.2, true, [], (cutL (cutO f c) (hoistF st (cutO f c) (cutT f c)).1 ((cutO f c).length - (hoistF st (cutO f c) (cutT f c)).2)).flatten,
    (if st = 0 then [] else (cutB f c).flatten), (cutL (cutT f c) (hoistF st (cutO f c) (cutT f c)).1 ((cutT f c).length - (hoistF st (cutO f c) (cutT f c)).2)).flatten, decide (st ≠ 0))
def confL (f : Fl) (c : Ck) (st : Int) (lb : BS × BS × BS) : List Pt :=
  [textP ((cutO f c).take (hoistF st (cutO f c) (cutT f c)).1).flatten, confP f c st lb, textP ((cutO f c).drop ((cutO f c).length - (hoistF st (cutO f c) (cutT f c)).2)).flatten]
def sideF (f : Fl) (c : Ck) (k fav : Int) : List BS := if k = 0 then cutB f c else if k = 2 then cutT f c else if k = 4 ∧ fav = 3 then cutT f c else cutO f c
def ckPs (f : Fl) (st : Int) (lb : BS × BS × BS) (fav : Int) (c : Ck) : List Pt := if clsF f c = 4 ∧ fav = 0 then confL f c st lb else [textP (sideF f c (clsF f c) fav).flatten]
def styOK (n : Int) : Bool := decide (n = 0) || (decide (n = 1) || decide (n = 2))
def favOK (n : Int) : Bool := decide (n = 0) || (decide (n = 1) || decide (n = 3))
def plainLb (lb : BS × BS × BS) : Bool := plainB lb.1 && (plainB lb.2.1 && plainB lb.2.2)
def docF (f : Fl) (L : List Ck) (st : Int) (lb : BS × BS × BS) (fav : Int) : List Pt × Int :=
  if (styOK st && favOK fav) = false then ([], 5) else if plainLb lb = false then ([], 3) else (ofD (L.flatMap (ckPs f st lb fav)), 0)
def cntF (f : Fl) (L : List Ck) : Nat := (L.filter fun c => decide (clsF f c = 4)).length
theorem flat_ends {l : List BS} (h : ∀ x ∈ l, endsL x = true) : l.flatten = [] ∨ endsL l.flatten = true := by
  rcases l.eq_nil_or_concat with rfl | ⟨m, x, rfl⟩
  · exact .inl rfl
  · right
    rw [List.concat_eq_append, List.flatten_append]
    have hx := h x (by simp)
    have : [x].flatten = x := by simp
    rw [this, ends_app (fun e => by rw [e] at hx; simp [endsL] at hx)]
    exact hx
theorem confP_ok {f : Fl} {c : Ck} {st : Int} {lb : BS × BS × BS} (h : plainLb lb = true) : confD (confP f c st lb) = true := by
  unfold plainLb at h
  simp only [Bool.and_eq_true] at h
  unfold confD confP plainD
  simp only [Bool.and_eq_true, Bool.or_eq_true, decide_eq_true_eq]
  refine ⟨trivial, trivial, ?_, h.1, ?_, h.2.2⟩
  · by_cases e : st = 0
    · rw [if_pos e, if_pos e]
      exact .inr ⟨rfl, rfl⟩
    · exact .inl e
  · split
    · rfl
    · exact h.2.1
theorem ckPs_or {f : Fl} {st : Int} {lb : BS × BS × BS} {fav : Int} (h : plainLb lb = true) (c : Ck) : ∀ p ∈ ckPs f st lb fav c, confD p = true ∨ isTextD p = true := by
  unfold ckPs
  split
  · intro p hp
    unfold confL at hp
    simp only [List.mem_cons, List.not_mem_nil, or_false] at hp
    rcases hp with rfl | rfl | rfl
    · exact .inr (isText_textP _)
    · exact .inl (confP_ok h)
    · exact .inr (isText_textP _)
  · intro p hp
    simp only [List.mem_singleton] at hp
    subst hp
    exact .inr (isText_textP _)
theorem side_end {f : Fl} {c : Ck} (h : allEnd f c) (k fav : Int) : ∀ x ∈ sideF f c k fav, endsL x = true := by
  intro x hx
  unfold sideF at hx
  split at hx
  · exact h x (.inl hx)
  · split at hx
    · exact h x (.inr (.inr hx))
    · split at hx
      · exact h x (.inr (.inr hx))
      · exact h x (.inr (.inl hx))
theorem ckPs_end {f : Fl} {st : Int} {lb : BS × BS × BS} {fav : Int} {c : Ck} (hp : plainLb lb = true) (h : allEnd f c) : ∀ p ∈ ckPs f st lb fav c, confD p = true ∨ (isTextD p = true ∧ (txP p = [] ∨ endsL (txP p) = true)) := by
  unfold ckPs
  split
  · intro p hpm
    unfold confL at hpm
    simp only [List.mem_cons, List.not_mem_nil, or_false] at hpm
    rcases hpm with rfl | rfl | rfl
    · exact .inr ⟨isText_textP _, flat_ends fun x hx => h x (.inr (.inl (List.mem_of_mem_take hx)))⟩
    · exact .inl (confP_ok hp)
    · exact .inr ⟨isText_textP _, flat_ends fun x hx => h x (.inr (.inl (List.mem_of_mem_drop hx)))⟩
  · intro p hpm
    simp only [List.mem_singleton] at hpm
    subst hpm
    exact .inr ⟨isText_textP _, flat_ends (side_end h _ _)⟩
theorem cls_cases (f : Fl) (c : Ck) : (clsF f c = 0 ∧ c.1 = true) ∨ (c.1 = false ∧ (clsF f c = 2 ∧ cutO f c = cutB f c ∨ clsF f c = 1 ∧ cutT f c = cutB f c ∨ clsF f c = 3 ∧ cutO f c = cutT f c ∨ clsF f c = 4 ∧ cutO f c ≠ cutB f c ∧ cutT f c ≠ cutB f c ∧ cutO f c ≠ cutT f c)) := by
  unfold clsF classK
  cases h : c.1 with
  | true => exact .inl ⟨rfl, rfl⟩
  | false =>
    refine .inr ⟨rfl, ?_⟩
    rw [if_neg (by simp)]
    by_cases h1 : cutS c.2.2.1 f.2.1 = cutS c.2.1 f.1
    · rw [if_pos h1]; exact .inl ⟨rfl, h1⟩
    · rw [if_neg h1]
      by_cases h2 : cutS c.2.2.2 f.2.2 = cutS c.2.1 f.1
      · rw [if_pos h2]; exact .inr (.inl ⟨rfl, h2⟩)
      · rw [if_neg h2]
        by_cases h3 : cutS c.2.2.1 f.2.1 = cutS c.2.2.2 f.2.2
        · rw [if_pos h3]; exact .inr (.inr (.inl ⟨rfl, h3⟩))
        · rw [if_neg h3]; exact .inr (.inr (.inr ⟨rfl, h1, h2, h3⟩))
theorem cls_four {f : Fl} {c : Ck} (h : clsF f c = 4) : cutO f c ≠ cutT f c := by
  rcases cls_cases f c with ⟨h1, _⟩ | ⟨_, ⟨h1, _⟩ | ⟨h1, _⟩ | ⟨h1, _⟩ | ⟨_, _, _, h2⟩⟩
  · omega
  · omega
  · omega
  · omega
  · exact h2
theorem ahead_end {f : Fl} (hw : wholeF f) {c : Ck} (hin : inF f c) (hne : cutO f c ≠ cutT f c) : ∀ x ∈ (cutO f c).take (ahd (cutO f c) (cutT f c)), endsL x = true := by
  intro x hx
  have hle := ahd_le (cutO f c) (cutT f c)
  have hsp := (ahd_spec [] (cutO f c) (cutT f c)).1
  have b2 : c.2.2.1.2 ≤ f.2.1.length := hin.2.2.2.1
  have b3 : c.2.2.2.2 ≤ f.2.2.length := hin.2.2.2.2
  have a2 : (0 : Int) ≤ c.2.2.1.1 := hin.1.2.1
  have a3 : (0 : Int) ≤ c.2.2.2.1 := hin.1.2.2
  obtain ⟨k, hk, e⟩ := List.getElem_of_mem hx
  rw [List.length_take] at hk
  rw [List.getElem_take] at e
  have e' : (cutO f c).getD k [] = x := by rw [gd_lt _ _ (by omega)]; exact e
  have lO : (cutO f c).length = c.2.2.1.2.toNat - c.2.2.1.1.toNat := by rw [cutO_in hin]; exact cutL_len' _ (by omega)
  have lT : (cutT f c).length = c.2.2.2.2.toNat - c.2.2.2.1.toNat := by rw [cutT_in hin]; exact cutL_len' _ (by omega)
  rcases Nat.lt_or_ge (ahd (cutO f c) (cutT f c)) (cutO f c).length with g | g
  · rw [← e', cutO_in hin, cutL_at (by omega) (by omega)]
    exact whole_ends hw.2.1 (by omega)
  · rcases Nat.lt_or_ge (ahd (cutO f c) (cutT f c)) (cutT f c).length with g2 | g2
    · rw [← e', hsp k (by omega), cutT_in hin, cutL_at (by omega) (by omega)]
      exact whole_ends hw.2.2 (by omega)
    · exact absurd (ahd_all (by omega) (by omega)) hne
theorem ckPs_ne (f : Fl) (st : Int) (lb : BS × BS × BS) (fav : Int) (c : Ck) : ckPs f st lb fav c ≠ [] := by
  unfold ckPs
  split
  · simp [confL]
  · simp
theorem ckPs_last {f : Fl} (hw : wholeF f) {st : Int} {lb : BS × BS × BS} {fav : Int} {c : Ck} (hp : plainLb lb = true) (hin : inF f c) : ∀ p ∈ (ckPs f st lb fav c).dropLast, confD p = true ∨ (isTextD p = true ∧ (txP p = [] ∨ endsL (txP p) = true)) := by
  unfold ckPs
  split
  · rename_i hc
    intro p hpm
    unfold confL at hpm
    have hpm : p = textP ((cutO f c).take (hoistF st (cutO f c) (cutT f c)).1).flatten ∨ p = confP f c st lb := by simpa using hpm
    rcases hpm with rfl | rfl
    · refine .inr ⟨isText_textP _, flat_ends fun x hx => ?_⟩
      unfold hoistF at hx
      split at hx
      · exact ahead_end hw hin (cls_four hc.1) x hx
      · simp at hx
    · exact .inl (confP_ok hp)
  · intro p hpm
    simp at hpm
theorem dropLast_app {α : Type} (a b : List α) (h : b ≠ []) : (a ++ b).dropLast = a ++ b.dropLast := by
  rw [List.dropLast_append_of_ne_nil h]
theorem doc_right {f : Fl} (hw : wholeF f) {L : List Ck} (hc : chF (0, 0, 0) none L (endP f)) (hg : ∀ c ∈ L, goodC f c) {st : Int} {lb : BS × BS × BS} {fav : Int} (hp : plainLb lb = true) : rightD (ofD (L.flatMap (ckPs f st lb fav))) = true := by
  refine of_right (fun p h => ?_) (fun p h => ?_)
  · obtain ⟨c, _, hc2⟩ := List.mem_flatMap.1 h
    exact ckPs_or hp c p hc2
  · have hends := ch_ends hw L (0, 0, 0) none hc (leP_refl _) hg
    have hin := ch_in hc
    rcases L.eq_nil_or_concat with rfl | ⟨m, c, rfl⟩
    · simp at h
    · rw [List.concat_eq_append] at h hends hin
      rw [List.flatMap_append, dropLast_app _ _ (by simpa using ckPs_ne f st lb fav c)] at h
      rcases List.mem_append.1 h with h | h
      · obtain ⟨d, hd, hd2⟩ := List.mem_flatMap.1 h
        exact ckPs_end hp (hends d (by simpa using hd)) p hd2
      · have h : p ∈ (ckPs f st lb fav c).dropLast := by simpa using h
        exact ckPs_last hw hp (hin c (by simp)) p h
theorem confl_app (a b : List Pt) : conflD (a ++ b) = conflD a + conflD b := by simp [conflD]
theorem ckPs_confl (f : Fl) (st : Int) (lb : BS × BS × BS) (c : Ck) : conflD (ckPs f st lb 0 c) = if clsF f c = 4 then 1 else 0 := by
  unfold ckPs
  by_cases h : clsF f c = 4
  · rw [if_pos ⟨h, rfl⟩, if_pos h]
    rfl
  · rw [if_neg (fun e => h e.1), if_neg h]
    rfl
theorem cnt_cons (f : Fl) (c : Ck) (L : List Ck) : cntF f (c :: L) = (if clsF f c = 4 then 1 else 0) + cntF f L := by
  unfold cntF
  rw [List.filter_cons]
  by_cases h : clsF f c = 4
  · rw [if_pos (by simpa using h), if_pos h, List.length_cons]; omega
  · rw [if_neg (by simpa using h), if_neg h]; omega
theorem cnt_snoc (f : Fl) (c : Ck) (L : List Ck) : cntF f (L ++ [c]) = cntF f L + (if clsF f c = 4 then 1 else 0) := by
  unfold cntF
  rw [List.filter_append, List.length_append]
  congr 1
  rw [List.filter_cons]
  by_cases h : clsF f c = 4
  · rw [if_pos (by simpa using h), if_pos h]; rfl
  · rw [if_neg (by simpa using h), if_neg h]; rfl
theorem doc_confl (f : Fl) (st : Int) (lb : BS × BS × BS) : ∀ L : List Ck, conflD (L.flatMap (ckPs f st lb 0)) = cntF f L
  | [] => rfl
  | c :: L => by
    rw [List.flatMap_cons, confl_app, ckPs_confl, doc_confl f st lb L, cnt_cons]
end Go.Proofs.YthpjjjnbkfnghaaGreatDoor
set_option linter.unusedSimpArgs false
set_option linter.unusedVariables false
set_option maxRecDepth 100000
set_option maxHeartbeats 2000000
namespace Go.Proofs.YthpjjjnbkfnghaaGreatDoor
open Go
attribute [local irreducible] AW AVle ASle RowLe
@[go_sem] theorem kCell_str (l : Array UInt8) : kCell (.string ⟨l⟩) = .st l.toList := rfl
theorem ends_drop (a : List UInt8) : (decide (1 ≤ (a.length : Int)) && decide (List.drop ((a.length : Int) - 1).toNat a = [10])) = endsL a := by
  unfold endsL
  have e : ((a.length : Int) - 1).toNat = a.length - 1 := by omega
  rw [e, Bool.eq_iff_iff]
  simp only [Bool.and_eq_true, decide_eq_true_eq]
  rcases a.eq_nil_or_concat with rfl | ⟨m, c, rfl⟩
  · simp
  · rw [List.concat_eq_append]
    have e2 : (m ++ [c]).length - 1 = m.length := by simp
    rw [e2, List.drop_left]
    simp
    omega
def sHasSufL : Spec := Spec.f2 kS kS (fun a b => a.length ≤ 100000000000 ∧ b = [10]) (fun a _ => kB.enc (endsL a))
theorem okHasSufL : SpecOK Tryz.prog 149 sHasSufL := by
  refine SpecOK.f2 Tryz.func149 rfl (by decide) Tryz.results149 Tryz.ntmps149 (by decide) fun a b ⟨ha, h⟩ => ?_
  have hΓ : GOK Tryz.prog (gam []) := GOK.nil
  subst h
  refine AW.of hΓ mixed [] _ _ _ rfl ?_
  simp only [go_sem]
  exact ⟨by omega, by omega, ends_drop a⟩
def sHasSuf : Spec := Spec.f2 kS kS (fun a b => a.length ≤ 100000000000 ∧ b = [10]) (fun a _ => kB.enc (endsL a))
theorem okHasSuf : SpecOK Tryz.prog 91 sHasSuf := by
  refine SpecOK.f2 Tryz.func91 rfl (by decide) Tryz.results91 Tryz.ntmps91 (by decide) fun a b ⟨ha, h⟩ => ?_
  have hΓ : GOK Tryz.prog (gam [(149, sHasSufL)]) := (.cons okHasSufL .nil)
  subst h
  refine AW.of hΓ mixed [] _ _ _ rfl ?_
  simp only [go_sem, sHasSufL]
  exact ha
theorem isText_iff (ll bl rl : BS) (h : Bool) (t l b r : BS) (hb : Bool) : isTextD (ll, bl, rl, h, t, l, b, r, hb) = true ↔ ll = [] ∧ bl = [] ∧ rl = [] ∧ h = false ∧ l = [] ∧ b = [] ∧ r = [] ∧ hb = false := by
  simp [isTextD, textP, txP]
def sIsText : Spec := Spec.f1 (kA ePt) (fun _ => True) (fun p => kB.enc (isTextD p))
theorem okIsText : SpecOK Tryz.prog 178 sIsText := by
  refine SpecOK.f1 Tryz.func178 rfl (by decide) Tryz.results178 Tryz.ntmps178 (by decide) fun p _ => ?_
  have hΓ : GOK Tryz.prog (gam []) := GOK.nil
  obtain ⟨ll, bl, rl, h, t, l, b, r, hb⟩ := p
  refine AW.of hΓ mixed [] _ _ _ rfl ?_
  simp only [go_sem]
  rw [Bool.eq_iff_iff, isText_iff]
  simp only [Bool.and_eq_true, decide_eq_true_eq, and_assoc]
theorem pt_le {ll bl rl : BS} {h : Bool} {t l b r : BS} {hb : Bool} {c : Nat → AV} (h0 : c 0 = .st ll) (h1 : c 1 = .st bl) (h2 : c 2 = .st rl) (h3 : c 3 = .val (.bool h)) (h4 : c 4 = .st t) (h5 : c 5 = .st l) (h6 : c 6 = .st b) (h7 : c 7 = .st r) (h8 : c 8 = .val (.bool hb)) :
    AVle (.ag 9 c) (.ag 9 (ePt.enc (ll, bl, rl, h, t, l, b, r, hb))) := AVle.ag fun j hj => AVle.of_eq (match j, hj with
  | 0, _ => h0
  | 1, _ => h1
  | 2, _ => h2
  | 3, _ => h3
  | 4, _ => h4
  | 5, _ => h5
  | 6, _ => h6
  | 7, _ => h7
  | 8, _ => h8)
theorem pt_eta (p : Pt) : (p.1, p.2.1, p.2.2.1, p.2.2.2.1, p.2.2.2.2.1, p.2.2.2.2.2.1, p.2.2.2.2.2.2.1, p.2.2.2.2.2.2.2.1, p.2.2.2.2.2.2.2.2) = p := rfl
end Go.Proofs.YthpjjjnbkfnghaaGreatDoor
set_option linter.unusedSimpArgs false
set_option linter.unusedVariables false
set_option maxRecDepth 100000
set_option maxHeartbeats 2000000
namespace Go.Proofs.YthpjjjnbkfnghaaGreatDoor
open Go
attribute [local irreducible] AW AVle ASle RowLe
def sContains : Spec := Spec.f2 kS kS (fun _ b => b = [10]) (fun a _ => kB.enc (!plainB a))
theorem okContains : SpecOK Tryz.prog 197 sContains := by
  refine SpecOK.f2 Tryz.func197 rfl (by decide) Tryz.results197 Tryz.ntmps197 (by decide) fun a b h => ?_
  have hΓ : GOK Tryz.prog (gam [(109, sIndex1)]) := (.cons okIndex1 .nil)
  subst h
  refine AW.of hΓ mixed [] _ _ _ rfl ?_
  simp only [go_sem, sIndex1]
  exact plain_ix a
def sPlainL : Spec := Spec.f1 (kA eLb) (fun l => l.1.length ≤ 1000000000 ∧ l.2.1.length ≤ 1000000000 ∧ l.2.2.length ≤ 1000000000) (fun l => kB.enc (plainB l.1 && (plainB l.2.1 && plainB l.2.2)))
theorem okPlainL : SpecOK Tryz.prog 150 sPlainL := by
  refine SpecOK.f1 Tryz.func150 rfl (by decide) Tryz.results150 Tryz.ntmps150 (by decide) fun l ⟨h1, h2, h3⟩ => ?_
  have hΓ : GOK Tryz.prog (gam [(197, sContains)]) := (.cons okContains .nil)
  obtain ⟨a, b, c⟩ := l
  simp only at h1 h2 h3
  refine AW.of hΓ mixed [] _ _ _ rfl ?_
  simp only [go_sem, sContains, plain_app]
  refine ⟨by omega, by omega, ?_⟩
  rw [Bool.not_not, Bool.and_assoc]
def okPt (p : Pt) : Prop := (p.1.length ≤ 1000000000 ∧ p.2.1.length ≤ 1000000000 ∧ p.2.2.1.length ≤ 1000000000) ∧ (txP p).length ≤ 100000000 ∧ p.2.2.2.2.2.1.length ≤ 100000000 ∧ p.2.2.2.2.2.2.1.length ≤ 100000000 ∧ p.2.2.2.2.2.2.2.1.length ≤ 100000000
def sIsConf : Spec := Spec.f1 (kA ePt) okPt (fun p => kB.enc (confD p))
theorem okIsConf : SpecOK Tryz.prog 173 sIsConf := by
  refine SpecOK.f1 Tryz.func173 rfl (by decide) Tryz.results173 Tryz.ntmps173 (by decide) fun p ⟨⟨h1, h2, h3⟩, _⟩ => ?_
  have hΓ : GOK Tryz.prog (gam [(150, sPlainL)]) := (.cons okPlainL .nil)
  obtain ⟨ll, bl, rl, h, t, l, b, r, hb⟩ := p
  simp only at h1 h2 h3
  refine AW.of hΓ mixed [] _ _ _ rfl ?_
  simp only [go_sem, sPlainL]
  refine ⟨fun h h' => ?_, fun _ => ⟨h1, h2, h3⟩, ?_⟩
  · rw [h.1, h.2, h']
    rfl
  · unfold confD plainD
    simp only [Bool.and_assoc]
def sAhead : Spec := Spec.f2 (kA ePt) kB (fun p _ => okPt p) (fun p b => kB.enc (aheadD p b))
theorem okAhead : SpecOK Tryz.prog 174 sAhead := by
  refine SpecOK.f2 Tryz.func174 rfl (by decide) Tryz.results174 Tryz.ntmps174 (by decide) fun p an ⟨_, h1, _⟩ => ?_
  have hΓ : GOK Tryz.prog (gam [(178, sIsText), (91, sHasSuf)]) := (.cons okIsText (.cons okHasSuf .nil))
  obtain ⟨ll, bl, rl, h, t, l, b, r, hb⟩ := p
  simp only [txP] at h1
  refine AW.of hΓ mixed [] _ _ _ rfl ?_
  simp only [go_sem, sIsText, sHasSuf]
  refine ⟨fun _ => by omega, fun h h' => ?_, ?_⟩
  · rw [h.1, decide_eq_true h.2]
    simpa using h'
  · unfold aheadD
    simp only [Bool.and_assoc]
theorem right_no {l : List Pt} {i : Nat} (h : i < l.length) (h2 : okAt l i = false) : rightD l = false := decide_eq_false fun hh => by
  rw [hh i h] at h2
  cases h2
theorem right_yes {l : List Pt} (h : ∀ i, i < l.length → okAt l i = true) : rightD l = true := decide_eq_true h
def sRightD : Spec := Spec.f1 (kL ePt) (fun l => l.length < 100000000 ∧ ∀ p ∈ l, okPt p) (fun l => kB.enc (rightD l))
theorem okRightD : SpecOK Tryz.prog 125 sRightD := by
  refine SpecOK.f1 Tryz.func125 rfl (by decide) Tryz.results125 Tryz.ntmps125 (by decide) fun l ⟨hl, hp⟩ => ?_
  have hΓ : GOK Tryz.prog (gam [(173, sIsConf), (174, sAhead)]) := (.cons okIsConf (.cons okAhead .nil))
  refine AW.of hΓ mixed [] _ _ _ rfl ?_
  simp only [go_sem, sIsConf, sAhead]
  refine AW.round (α := { x : Nat × Nat × Nat // x.1 ≤ l.length ∧ ∀ k, k < x.1 → okAt l k = true })
    (fun x => ⟨[(0, sL ePt l), (5, sL ePt l), (6, .val (.int .i64 l.length)), (7, .val (.int .i64 x.1.1))], [], 42, x.1.2.2, x.1.2.1, []⟩) (fun x => l.length - x.1.1) ⟨(0, 0, 0), Nat.zero_le _, fun k hk => absurd hk (Nat.not_lt_zero _)⟩ ?_ ?_
  · simp only [go_sem, sIsConf, sAhead]
  · rintro ⟨⟨i, nx, tp⟩, hi, hk⟩
    simp only at hi hk
    rcases Nat.lt_or_ge i l.length with hlt | hge
    · have hlI : ((i : Int) < (l.length : Nat)) = True := eq_true (by omega)
      have e1 : ((i : Int) - 1).toNat = i - 1 := by omega
      have e2 : ((i : Int) < (l.length : Nat) - 1) = (i + 1 < l.length) := propext (by omega)
      have e3 : (0 < (i : Int)) = (0 < i) := propext (by omega)
      have hok : okAt l i = ((hkP (l.getD i ePt.dflt) || (decide (i = 0) || hkP (l.getD (i - 1) ePt.dflt))) && (confD (l.getD i ePt.dflt) || aheadD (l.getD i ePt.dflt) (decide (i + 1 < l.length)))) := rfl
      have hpi : okPt (l.getD i ePt.dflt) := by
        rw [gd_lt l _ hlt]
        exact hp _ (List.getElem_mem _)
      generalize hpe : l.getD i ePt.dflt = p at *
      refine AW.of hΓ mixed [99999] _ _ _ rfl ?_
      simp only [go_sem, sIsConf, sAhead, hlI, e1, e2, e3, hpe, pt_eta]
      generalize hqe : l.getD (i - 1) ePt.dflt = q at *
      refine ⟨by omega, fun _ => by omega, fun _ => by omega, fun h => ?_, fun h => ⟨hpi, fun _ => by omega, fun _ => hpi, fun h2 => ?_, fun h2 => ⟨by omega, ⟨(i + 1, nx + 1, 0), by dsimp only; omega, fun k hk' => ?_⟩, ⟨Nat.le_refl _, by dsimp only; omega⟩, by dsimp only; omega⟩⟩⟩
      · refine (right_no hlt ?_).symm
        obtain ⟨⟨h1, h2⟩, h3⟩ := h
        simp only [Bool.not_eq_true'] at h1 h3
        rw [hok]
        simp only [hkP, h1, h3, decide_eq_false (show ¬ i = 0 by omega)]
        rfl
      · refine (right_no hlt ?_).symm
        simp only [Bool.not_eq_true'] at h2
        rw [hok, h2.1, h2.2, Bool.or_self, Bool.and_false]
      · dsimp only at hk'
        rcases Nat.lt_or_ge k i with h' | h'
        · exact hk k h'
        · obtain rfl : k = i := by omega
          rw [hok, Bool.and_eq_true]
          refine ⟨?_, ?_⟩
          · simp only [hkP, Bool.or_eq_true, decide_eq_true_eq]
            by_cases c : p.2.2.2.1 = true
            · exact .inl c
            · by_cases c2 : k = 0
              · exact .inr (.inl c2)
              · have := h ⟨by simpa using c, by omega⟩
                exact .inr (.inr (by simpa using this))
          · cases c : confD p with
            | true => rfl
            | false =>
              have := h2 (by rw [c]; rfl)
              simpa using this
    · have hlI : ((i : Int) < (l.length : Nat)) = False := eq_false (by omega)
      refine AW.of hΓ mixed [99999] _ _ _ rfl ?_
      simp only [go_sem, sIsConf, sAhead, hlI]
      exact (right_yes fun k hk' => hk k (by omega)).symm
theorem foldMax_le {α : Type} {m : Nat} (f : α → Nat) : ∀ (l : List α) (n : Nat), n ≤ m → (∀ x ∈ l, f x ≤ m) → l.foldl (fun n x => max n (f x)) n ≤ m
  | [], n, h, _ => h
  | x :: l, n, h, h2 => foldMax_le f l (max n (f x)) (Nat.max_le.2 ⟨h, h2 x (List.mem_cons_self ..)⟩) fun y hy => h2 y (List.mem_cons_of_mem _ hy)
theorem longL_le {l : List BS} {m : Nat} (h : ∀ x ∈ l, x.length ≤ m) : longL l ≤ m := foldMax_le runL l 0 (Nat.zero_le _) fun x hx => Nat.le_trans (runL_le x) (h x hx)
theorem split_mem {s x : BS} (h : x ∈ splitL s) : x.length ≤ s.length := by
  have := (List.sublist_flatten_of_mem h).length_le
  rwa [splitL_flat] at this
theorem longT_le {l : List BS} {m : Nat} (h : ∀ x ∈ l, x.length ≤ m) : longT l ≤ m := foldMax_le (fun s => longL (splitL s)) l 0 (Nat.zero_le _) fun x hx => Nat.le_trans (longL_le fun y hy => split_mem hy) (h x hx)
theorem okLs_split {s : BS} (h : s.length ≤ 100000000) : okLs (splitL s) := by
  refine ⟨?_, ?_⟩
  · have := splitL_len s
    omega
  · rw [splitL_flat]
    omega
def sLongestD : Spec := Spec.f1 (kL eS) (fun l => l.length < 100000000 ∧ ∀ s ∈ l, s.length ≤ 100000000) (fun l => kI.enc (longT l))
theorem okLongestD : SpecOK Tryz.prog 151 sLongestD := by
  refine SpecOK.f1 Tryz.func151 rfl (by decide) Tryz.results151 Tryz.ntmps151 (by decide) fun l ⟨hl, hs⟩ => ?_
  have hΓ : GOK Tryz.prog (gam [(26, sSplit), (198, sLongest)]) := (.cons okSplit (.cons okLongest .nil))
  refine AW.of hΓ mixed [] _ _ _ rfl ?_
  simp only [go_sem, sSplit, sLongest]
  refine AW.round (α := { x : Nat × Nat × Nat // x.1 ≤ l.length })
    (fun x => ⟨[(3, .val (.int .i64 (longT (l.take x.1.1)))), (6, sL eS l), (7, .val (.int .i64 l.length)), (8, .val (.int .i64 x.1.1))], [], 20, x.1.2.2, x.1.2.1, []⟩) (fun x => l.length - x.1.1) ⟨(0, 0, 0), Nat.zero_le _⟩ ?_ ?_
  · simp only [go_sem, sSplit, sLongest]
    rfl
  · rintro ⟨⟨i, nx, tp⟩, hi⟩
    simp only at hi
    refine AW.of hΓ mixed [99999] _ _ _ rfl ?_
    simp only [go_sem, sSplit, sLongest]
    refine ⟨fun hlt => ?_, fun hge => ?_⟩
    · have hlt' : i < l.length := by omega
      have h1 : (l.getD i []).length ≤ 100000000 := by
        rw [gd_lt l _ hlt']
        exact hs _ (List.getElem_mem _)
      have e := longT_snoc (l.take i) (l.getD i [])
      rw [← take_snoc l [] hlt'] at e
      refine ⟨by omega, h1, okLs_split h1, by omega, ⟨(i + 1, nx, 0), by dsimp only; omega⟩, ⟨Nat.le_refl _, ?_, by dsimp only; omega⟩, by dsimp only; omega⟩
      dsimp only
      rw [e, show ([splitL (l.getD i [])] : List (List BS)).flatten = splitL (l.getD i []) by simp]
      omega
    · obtain rfl : i = l.length := by omega
      rw [List.take_length]
def sWidthD : Spec := Spec.f2 kI (kL eS) (fun _ l => l.length < 100000000 ∧ ∀ s ∈ l, s.length ≤ 100000000) (fun n l => kI.enc (max n ((longT l : Nat) + 1)))
theorem okWidthD : SpecOK Tryz.prog 98 sWidthD := by
  refine SpecOK.f2 Tryz.func98 rfl (by decide) Tryz.results98 Tryz.ntmps98 (by decide) fun n l ⟨hl, hs⟩ => ?_
  have hΓ : GOK Tryz.prog (gam [(151, sLongestD)]) := (.cons okLongestD .nil)
  refine AW.of hΓ mixed [] _ _ _ rfl ?_
  simp only [go_sem, sLongestD]
  have := longT_le hs
  exact ⟨⟨hl, hs⟩, by omega, by omega⟩
def sFitsD : Spec := Spec.f2 (kL ePt) kI (fun l _ => l.length < 100000000 ∧ ∀ p ∈ l, okPt p) (fun l w => kB.enc (fitsD l w))
theorem okFitsD : SpecOK Tryz.prog 126 sFitsD := by
  refine SpecOK.f2 Tryz.func126 rfl (by decide) Tryz.results126 Tryz.ntmps126 (by decide) fun l w ⟨hl, hp⟩ => ?_
  have hΓ : GOK Tryz.prog (gam [(151, sLongestD)]) := (.cons okLongestD .nil)
  refine AW.of hΓ mixed [] _ _ _ rfl ?_
  simp only [go_sem, sLongestD]
  refine ⟨fun h => (by unfold fitsD; rw [decide_eq_false (by omega)]; rfl), fun h => ?_⟩
  refine AW.round (α := { x : Nat × Nat × Nat // x.1 ≤ l.length ∧ ∀ k, k < x.1 → (longT (fourP (l.getD k ePt.dflt)) : Int) < w })
    (fun x => ⟨[(1, .val (.int .i64 w)), (9, sL ePt l), (10, .val (.int .i64 l.length)), (11, .val (.int .i64 x.1.1))], [], 28, x.1.2.2, x.1.2.1, []⟩) (fun x => l.length - x.1.1) ⟨(0, 0, 0), Nat.zero_le _, fun k hk => absurd hk (Nat.not_lt_zero _)⟩ ?_ ?_
  · simp only [go_sem, sLongestD]
  · rintro ⟨⟨i, nx, tp⟩, hi, hk⟩
    simp only at hi hk
    refine AW.of hΓ mixed [99999] _ _ _ rfl ?_
    simp only [go_sem, sLongestD]
    have e4 : ∀ p : Pt, [p.2.2.2.2.1, p.2.2.2.2.2.1, p.2.2.2.2.2.2.1, p.2.2.2.2.2.2.2.1] = fourP p := fun _ => rfl
    simp only [e4]
    refine ⟨fun hlt => ?_, fun hge => ?_⟩
    · have hlt' : i < l.length := by omega
      have hm : l.getD i ePt.dflt ∈ l := by
        rw [gd_lt l _ hlt']
        exact List.getElem_mem _
      have h4 := (hp _ hm).2
      refine ⟨by omega, ⟨h4.1, h4.2.1, h4.2.2.1, h4.2.2.2⟩, fun hw => ?_, fun hw => ⟨by omega, ⟨(i + 1, nx + 1, 0), by dsimp only; omega, fun k hk' => ?_⟩, ⟨Nat.le_refl _, by dsimp only; omega⟩, by dsimp only; omega⟩⟩
      · unfold fitsD
        rw [decide_eq_false (p := ∀ p ∈ l, _) (fun hh => by have := hh _ hm; omega), Bool.and_false]
      · dsimp only at hk'
        rcases Nat.lt_or_ge k i with h' | h'
        · exact hk k h'
        · obtain rfl : k = i := by omega
          omega
    · unfold fitsD
      rw [decide_eq_true (by omega), decide_eq_true (p := ∀ p ∈ l, _) fun p hp' => ?_]
      · rfl
      · obtain ⟨k, hk', rfl⟩ := List.getElem_of_mem hp'
        have := hk k (by omega)
        rwa [gd_lt l _ hk'] at this
end Go.Proofs.YthpjjjnbkfnghaaGreatDoor
set_option linter.unusedSimpArgs false
set_option linter.unusedVariables false
set_option maxRecDepth 100000
namespace Go.Proofs.YthpjjjnbkfnghaaGreatDoor
open Go
abbrev Mk := Int × Bool × BS
instance : DecidableEq Mk := inferInstance
abbrev eMk : El Mk := eP eU (eP eB eS)
def wideM (w : Int) : Bool := decide (1 ≤ w) && decide (w ≤ 1073741824)
def signI (k : Int) : Prop := k = 60 ∨ k = 124 ∨ k = 61 ∨ k = 62
def tailM (f : Bool) (l : BS) : BS := (if f = true then [33] else []) ++ ((if l = [] then [] else 32 :: l) ++ [10])
def lineM (m : Mk) (w : Int) : BS := List.replicate w.toNat (UInt8.ofNat m.1.toNat) ++ tailM m.2.1 m.2.2
theorem tailM_len (f : Bool) (l : BS) : (tailM f l).length ≤ l.length + 3 := by
  unfold tailM
  cases f <;> by_cases h : l = [] <;> simp [h]
theorem lineM_len (m : Mk) (w : Int) : (lineM m w).length ≤ w.toNat + (m.2.2.length + 3) := by
  unfold lineM
  have := tailM_len m.2.1 m.2.2
  simp only [List.length_append, List.length_replicate]
  omega
theorem wide_iff {w : Int} : wideM w = true ↔ 1 ≤ w ∧ w ≤ 1073741824 := by simp [wideM]
end Go.Proofs.YthpjjjnbkfnghaaGreatDoor
set_option linter.unusedSimpArgs false
set_option linter.unusedVariables false
set_option maxRecDepth 100000
set_option maxHeartbeats 2000000
namespace Go.Proofs.YthpjjjnbkfnghaaGreatDoor
open Go
attribute [local irreducible] AW AVle ASle RowLe
def sRepeat : Spec := Spec.f2 kS kI (fun a n => a.length = 1 ∧ 0 ≤ n ∧ n ≤ 100000000000) (fun a n => kS.enc (List.replicate n.toNat (a.getD 0 0)))
theorem okRepeat : SpecOK Tryz.prog 212 sRepeat := by
  refine SpecOK.raw Tryz.func212 rfl (by decide) fun args hp w L vs hL ha => ?_
  match args, hp with
  | [x, y], hp =>
    obtain ⟨h1, h2, h3, h4, h5⟩ := hp
    cases ha with
    | cons hx hr => cases hr with
      | cons hy hr => cases hr with
        | nil =>
          have ex := okGet h1 hx
          have ey := okGet h2 hy
          obtain rfl := ex
          obtain rfl := ey
          rw [show sRepeat.res [x, y] = kS.enc (List.replicate (kI.dec y).toNat ((kS.dec x).getD 0 0)) from rfl]
          generalize kS.dec x = a at *
          generalize kI.dec y = n at *
          obtain ⟨k, rfl⟩ := Int.eq_ofNat_of_zero_le h4
          have hsz : (⟨a.toArray⟩ : ByteArray).size = 1 := by simpa [ByteArray.size] using h3
          refine (Tryz.strings_Repeat ⟨a.toArray⟩ k w (by omega) (by rw [hsz]; omega)).mono ?_
          rintro e w' ⟨rfl, hb⟩
          refine ⟨_, rfl, Fr.of_below hb _, ?_⟩
          obtain ⟨c, rfl⟩ : ∃ c, a = [c] := by
            match a, h3 with
            | [c], _ => exact ⟨c, rfl⟩
          show Value.string _ = Value.string _
          rw [show ([c] : List UInt8) = List.replicate 1 c from rfl, Lib.repeatL_replicate, Nat.mul_one]
          rfl
def sIsWidth : Spec := Spec.f1 kI (fun _ => True) (fun w => kB.enc (wideM w))
theorem okIsWidth : SpecOK Tryz.prog 124 sIsWidth := by
  refine SpecOK.f1 Tryz.func124 rfl (by decide) Tryz.results124 Tryz.ntmps124 (by decide) fun w _ => ?_
  have hΓ : GOK Tryz.prog (gam []) := GOK.nil
  refine AW.of hΓ mixed [] _ _ _ rfl ?_
  simp only [go_sem]
  rfl
def sLineI : Spec := Spec.f2 (kA eMk) kI (fun m w => signI m.1 ∧ 0 ≤ w ∧ w ≤ 10000000000 ∧ m.2.2.length ≤ 10000000000) (fun m w => kS.enc (lineM m w))
theorem okLineI : SpecOK Tryz.prog 175 sLineI := by
  refine SpecOK.f2 Tryz.func175 rfl (by decide) Tryz.results175 Tryz.ntmps175 (by decide) fun m w ⟨hk, hw1, hw2, hl⟩ => ?_
  have hΓ : GOK Tryz.prog (gam [(212, sRepeat)]) := (.cons okRepeat .nil)
  obtain ⟨k, f, l⟩ := m
  simp only at hk hl
  have e1 : Utf8.encode (IntKind.i32.wrap k) = ⟨([UInt8.ofNat k.toNat] : List UInt8).toArray⟩ := by
    rcases hk with rfl | rfl | rfl | rfl <;> rfl
  cases f
  all_goals (
    by_cases h : l = []
    all_goals (
      refine AW.of hΓ mixed [] _ _ _ rfl ?_
      simp only [go_sem, sRepeat, h]
      refine AW.fork ?_
      refine AW.of hΓ mixed [] _ _ _ rfl ?_
      simp only [go_sem, sRepeat, h]
      refine AW.fork ?_
      refine AW.of hΓ mixed [] _ _ _ rfl ?_
      simp only [go_sem, sRepeat, h]
      try refine ⟨by omega, by omega, ?_⟩
      refine AW.fork (AW.regionO hΓ [false, false, false, true] ?_)
      simp only [go_sem, sRepeat, h]
      refine rune_wp rfl (by rw [Tryz.underlying21]; rfl) Tryz.underlying9 rfl e1 (Nat.lt_of_lt_of_le (by decide : 19 < 25) (Nat.le_refl _)) ?_
      simp only [go_sem, sRepeat, h]
      refine ⟨by omega, by omega, by omega, ?_⟩
      refine AW.of hΓ mixed [] _ _ _ rfl ?_
      simp only [go_sem, sRepeat, h]
      simp [lineM, tailM, h]))
end Go.Proofs.YthpjjjnbkfnghaaGreatDoor
set_option linter.unusedSimpArgs false
set_option linter.unusedVariables false
set_option maxRecDepth 100000
set_option maxHeartbeats 2000000
namespace Go.Proofs.YthpjjjnbkfnghaaGreatDoor
open Go
attribute [local irreducible] AW AVle ASle RowLe
def lackM (s : BS) : Bool := decide (s ≠ []) && !endsL s
def sideM (s : BS) : BS := if lackM s = true then s ++ [10] else s
theorem sideM_len (s : BS) : (sideM s).length ≤ s.length + 1 := by
  unfold sideM
  split
  · simp
  · omega
theorem sideM_ge (s : BS) : s.length ≤ (sideM s).length := by
  unfold sideM
  split
  · simp
  · omega
def sPrSide0 : MSpec := sBld fun xs a r => ∃ s : BS, xs = [.st s] ∧ a = sideM s ∧ r = kB.enc (lackM s) ∧ s.length ≤ 1000000000
theorem okPrSide0 : MethOK Tryz.prog 176 sPrSide0 := by
  refine MethOK.mk Tryz.func176 rfl (by decide) Tryz.results176 Tryz.ntmps176 ?_
  rintro args hp top nx K ⟨f, v, u, l, xs, a, r, rfl, ⟨s, rfl, rfl, rfl, hs⟩, rfl, rfl, hl, hK⟩
  have hΓ : GOK Tryz.prog (gam [(88, sWriteS), (91, sHasSuf)]) := (.cons okWriteS (.cons okHasSuf .nil))
  refine ⟨Nat.le_of_ble_eq_true rfl, AW.late ?_⟩
  have hge := sideM_ge s
  refine AW.of hΓ mixed [99999] _ _ _ rfl ?_
  simp only [go_sem, sWriteS, sHasSuf]
  refine write_go rfl (by decide) (RowLe.refl _) (RowLe.refl _) (by decide) (by omega) fun u1 n1 g1 h1 => ?_
  simp only [go_sem, sWriteS, sHasSuf]
  have hlk : (decide ¬s = [] && !endsL s) = lackM s := rfl
  refine ⟨fun _ => by omega, fun hc => ?_, fun hc => ?_⟩
  · have hk : lackM s = true := by
      rw [← hlk, decide_eq_true hc.1, hc.2]
      rfl
    have ha : sideM s = s ++ [10] := if_pos hk
    rw [hk] at hK
    rw [ha] at hl hK
    rw [List.length_append] at hl
    simp only [len_cons, len_nil] at hl
    refine write_go (by simp [Nat.add_assoc]) (by decide) (RowLe.refl _) (RowLe.refl _) (by decide) (by simp; omega) fun u2 n2 g2 h2 => ?_
    simp only [go_sem, sWriteS, sHasSuf]
    refine ⟨_, toFitsV (fun p => p) (l := [(4, .val (.bool true))]) (r := [(0, .box v 138 2 (bldC true 0 v 1 u2 (l ++ (s ++ [10])).length)), (1, rowB u2 (l ++ (s ++ [10])))]) (sz := 20) (top := 2) (nx := n2) (df := []) ?_, ?_⟩
    · simp only [go_sem, sWriteS, sHasSuf, hc.1, hc.2]
      exact ⟨bld_len (by omega), rowB_eq (by simp)⟩
    · simp only [go_sem, sWriteS, sHasSuf]
      have := hK u2 n2 (by omega) (by omega)
      simp only [List.length_append, len_cons, len_nil] at this
      exact this
  · have hk : lackM s = false := by
      rw [← hlk]
      by_cases h0 : s = []
      · rw [decide_eq_false (by simpa using h0), Bool.false_and]
      · rw [hc h0, Bool.and_false]
    have ha : sideM s = s := if_neg (by rw [hk]; simp)
    rw [hk] at hK
    rw [ha] at hl hK
    rw [hlk, hk]
    refine ⟨_, toFitsV (fun p => p) (l := [(4, .val (.bool false))]) (r := [(0, .box v 138 2 (bldC true 0 v 1 u1 (l ++ s).length)), (1, rowB u1 (l ++ s))]) (sz := 20) (top := 2) (nx := n1) (df := []) ?_, ?_⟩
    · simp only [go_sem, sWriteS, sHasSuf]
      exact ⟨RowLe.refl _, RowLe.refl _⟩
    · simp only [go_sem, sWriteS, sHasSuf]
      have := hK u1 n1 (by omega) (by omega)
      simp only [List.length_append, len_cons, len_nil] at this
      exact this
def sPrSide : MSpec := framed sPrSide0
theorem okPrSide : MethOK Tryz.prog 176 sPrSide := okPrSide0.frame
def printP (w : Int) (p : Pt) : BS :=
  if hkP p = true then
    lineM (60, false, p.1) w ++ (sideM p.2.2.2.2.2.1 ++ (if p.2.2.2.2.2.2.2.2 = true then
        lineM (124, lackM p.2.2.2.2.2.1, p.2.1) w ++ (sideM p.2.2.2.2.2.2.1 ++ (lineM (61, lackM p.2.2.2.2.2.2.1, []) w ++ (sideM p.2.2.2.2.2.2.2.1 ++ lineM (62, lackM p.2.2.2.2.2.2.2.1, p.2.2.1) w)))
      else lineM (61, lackM p.2.2.2.2.2.1, []) w ++ (sideM p.2.2.2.2.2.2.2.1 ++ lineM (62, lackM p.2.2.2.2.2.2.2.1, p.2.2.1) w)))
  else txP p
def sPrConf0 : MSpec := sBld fun xs a r => ∃ (p : Pt) (w : Int), xs = [(kA ePt).enc p, .val (.int .i64 w)] ∧ a = printP w p ∧ r = .val (.tuple #[]) ∧ hkP p = true ∧ okPt p ∧ 0 ≤ w ∧ w ≤ 10000000000
theorem okPrConf0 : MethOK Tryz.prog 127 sPrConf0 := by
  refine MethOK.mk Tryz.func127 rfl (by decide) Tryz.results127 Tryz.ntmps127 ?_
  rintro args hp top nx K ⟨f, v, u, l, xs, a, r, rfl, ⟨p, w, rfl, rfl, rfl, hh, hp, hw1, hw2⟩, rfl, rfl, hl, hK⟩
  have hΓ : GOK Tryz.prog (gam [(88, sWriteS), (176, sPrSide), (175, sLineI)]) := (.cons okWriteS (.cons okPrSide (.cons okLineI .nil)))
  refine ⟨Nat.le_of_ble_eq_true rfl, AW.late ?_⟩
  obtain ⟨ll, bl, rl, h, t, lf, b, r, hb⟩ := p
  obtain ⟨⟨p1, p2, p3⟩, p4, p5, p6, p7⟩ := hp
  simp only [txP] at p1 p2 p3 p4 p5 p6 p7
  unfold printP at hl hK
  rw [if_pos hh] at hl hK
  simp only at hl hK
  generalize ha1 : lineM (60, false, ll) w = a1 at *
  generalize ha2 : sideM lf = a2 at *
  generalize ha3 : lineM (124, lackM lf, bl) w = a3 at *
  generalize ha4 : sideM b = a4 at *
  generalize ha6 : sideM r = a6 at *
  generalize ha7 : lineM (62, lackM r, rl) w = a7 at *
  refine AW.of hΓ mixed [0] _ _ _ rfl ?_
  simp only [go_sem, sWriteS, sPrSide, sLineI]
  refine AW.cut ⟨[(0, .pt 0 v 0), (2, .val (.int .i64 w)), (4, .pt 2 nx 0)], [(0, .box v 138 2 (bldC f 0 v 1 u l.length)), (1, rowB u l), (2, .box nx 179 9 (ePt.enc (ll, bl, rl, h, t, lf, b, r, hb)))], 53, 3, nx + 1, []⟩ ?_ ?_
  · simp only [go_sem, sWriteS, sPrSide, sLineI]
    exact ⟨RowLe.refl _, RowLe.refl _, RowLe.refl _⟩
  refine AW.still 4 2 nx 179 9 _ rfl rfl (fun j hj => match j, hj with | 0, _ => rfl | 1, _ => rfl | 2, _ => rfl | 3, _ => rfl | 4, _ => rfl | 5, _ => rfl | 6, _ => rfl | 7, _ => rfl | 8, _ => rfl) ?_
  refine AW.of hΓ mixed [99999] _ _ _ rfl ?_
  simp only [go_sem, sWriteS, sPrSide, sLineI, ha1]
  cases hb with
  | true =>
    simp only [if_true] at hl hK
    generalize ha5 : lineM (61, lackM b, []) w = a5 at *
    rw [show a1 ++ (a2 ++ (a3 ++ (a4 ++ (a5 ++ (a6 ++ a7))))) = a1 ++ a2 ++ a3 ++ a4 ++ a5 ++ a6 ++ a7 by simp only [List.append_assoc]] at hl hK
    have hl : l.length + a1.length + a2.length + a3.length + a4.length + a5.length + a6.length + a7.length ≤ 100000000000 := by
      simp only [List.length_append] at hl
      omega
    refine ⟨⟨.inl rfl, hw1, hw2, by omega⟩, write_go rfl (by decide) (RowLe.refl _) (RowLe.refl _) (by decide) (by omega) fun u1 n1 g1 h1 => ?_⟩
    simp only [go_sem, sWriteS, sPrSide, sLineI]
    refine bld_go ⟨lf, rfl, ha2.symm, rfl, by omega⟩ (by simp [Nat.add_assoc]) (by decide) (RowLe.refl _) (RowLe.refl _) (by decide) (by simp; omega) fun u2 n2 g2 h2 => ?_
    simp only [go_sem, sWriteS, sPrSide, sLineI]
    rw [ha3]
    refine ⟨⟨.inr (.inl rfl), hw1, hw2, by omega⟩, write_go (by simp [Nat.add_assoc]) (by decide) (RowLe.refl _) (RowLe.refl _) (by decide) (by simp; omega) fun u3 n3 g3 h3 => ?_⟩
    simp only [go_sem, sWriteS, sPrSide, sLineI]
    refine bld_go ⟨b, rfl, ha4.symm, rfl, by omega⟩ (by simp [Nat.add_assoc]) (by decide) (RowLe.refl _) (RowLe.refl _) (by decide) (by simp; omega) fun u4 n4 g4 h4 => ?_
    simp only [go_sem, sWriteS, sPrSide, sLineI, ha5]
    refine ⟨⟨.inr (.inr (.inl rfl)), hw1, hw2⟩, write_go (by simp [Nat.add_assoc]) (by decide) (RowLe.refl _) (RowLe.refl _) (by decide) (by simp; omega) fun u5 n5 g5 h5 => ?_⟩
    simp only [go_sem, sWriteS, sPrSide, sLineI]
    refine bld_go ⟨r, rfl, ha6.symm, rfl, by omega⟩ (by simp [Nat.add_assoc]) (by decide) (RowLe.refl _) (RowLe.refl _) (by decide) (by simp; omega) fun u6 n6 g6 h6 => ?_
    simp only [go_sem, sWriteS, sPrSide, sLineI, ha7]
    refine ⟨⟨.inr (.inr (.inr rfl)), hw1, hw2, by omega⟩, write_go (by simp [Nat.add_assoc]) (by decide) (RowLe.refl _) (RowLe.refl _) (by decide) (by simp; omega) fun u7 n7 g7 h7 => ?_⟩
    simp only [go_sem, sWriteS, sPrSide, sLineI]
    refine ⟨_, toFitsV (fun p => p) (l := []) (r := [(0, .box v 138 2 (bldC true 0 v 1 u7 (l ++ (a1 ++ a2 ++ a3 ++ a4 ++ a5 ++ a6 ++ a7)).length)), (1, rowB u7 (l ++ (a1 ++ a2 ++ a3 ++ a4 ++ a5 ++ a6 ++ a7)))]) (sz := 53) (top := 2) (nx := n7) (df := []) ?_, ?_⟩
    · simp only [go_sem, sWriteS, sPrSide, sLineI]
      exact ⟨bld_len (by simp [Nat.add_assoc]), rowB_eq (by simp)⟩
    · simp only [go_sem, sWriteS, sPrSide, sLineI]
      have := hK u7 n7 (by omega) (by omega)
      simp only [List.length_append, len_cons, len_nil] at this
      exact this
  | false =>
    have e0 : (if false = true then a3 ++ (a4 ++ (lineM (61, lackM b, []) w ++ (a6 ++ a7))) else lineM (61, lackM lf, []) w ++ (a6 ++ a7)) = lineM (61, lackM lf, []) w ++ (a6 ++ a7) := if_neg (by simp)
    rw [e0] at hl hK
    generalize ha5 : lineM (61, lackM lf, []) w = a5 at *
    rw [show a1 ++ (a2 ++ (a5 ++ (a6 ++ a7))) = a1 ++ a2 ++ a5 ++ a6 ++ a7 by simp only [List.append_assoc]] at hl hK
    have hl : l.length + a1.length + a2.length + a5.length + a6.length + a7.length ≤ 100000000000 := by
      simp only [List.length_append] at hl
      omega
    refine ⟨⟨.inl rfl, hw1, hw2, by omega⟩, write_go rfl (by decide) (RowLe.refl _) (RowLe.refl _) (by decide) (by omega) fun u1 n1 g1 h1 => ?_⟩
    simp only [go_sem, sWriteS, sPrSide, sLineI]
    refine bld_go ⟨lf, rfl, ha2.symm, rfl, by omega⟩ (by simp) (by decide) (RowLe.refl _) (RowLe.refl _) (by decide) (by simp; omega) fun u2 n2 g2 h2 => ?_
    simp only [go_sem, sWriteS, sPrSide, sLineI, ha5]
    refine ⟨⟨.inr (.inr (.inl rfl)), hw1, hw2⟩, write_go (by simp [Nat.add_assoc]) (by decide) (RowLe.refl _) (RowLe.refl _) (by decide) (by simp; omega) fun u5 n5 g5 h5 => ?_⟩
    simp only [go_sem, sWriteS, sPrSide, sLineI]
    refine bld_go ⟨r, rfl, ha6.symm, rfl, by omega⟩ (by simp [Nat.add_assoc]) (by decide) (RowLe.refl _) (RowLe.refl _) (by decide) (by simp; omega) fun u6 n6 g6 h6 => ?_
    simp only [go_sem, sWriteS, sPrSide, sLineI, ha7]
    refine ⟨⟨.inr (.inr (.inr rfl)), hw1, hw2, by omega⟩, write_go (by simp [Nat.add_assoc]) (by decide) (RowLe.refl _) (RowLe.refl _) (by decide) (by simp; omega) fun u7 n7 g7 h7 => ?_⟩
    simp only [go_sem, sWriteS, sPrSide, sLineI]
    refine ⟨_, toFitsV (fun p => p) (l := []) (r := [(0, .box v 138 2 (bldC true 0 v 1 u7 (l ++ (a1 ++ a2 ++ a5 ++ a6 ++ a7)).length)), (1, rowB u7 (l ++ (a1 ++ a2 ++ a5 ++ a6 ++ a7)))]) (sz := 53) (top := 2) (nx := n7) (df := []) ?_, ?_⟩
    · simp only [go_sem, sWriteS, sPrSide, sLineI]
      exact ⟨bld_len (by simp [Nat.add_assoc]), rowB_eq (by simp)⟩
    · simp only [go_sem, sWriteS, sPrSide, sLineI]
      have := hK u7 n7 (by omega) (by omega)
      simp only [List.length_append, len_cons, len_nil] at this
      exact this
def sPrConf : MSpec := framed sPrConf0
theorem okPrConf : MethOK Tryz.prog 127 sPrConf := okPrConf0.frame
def printL (w : Int) (d : List Pt) : BS := (d.map (printP w)).flatten
theorem printL_snoc (w : Int) (l : List Pt) (p : Pt) : printL w (l ++ [p]) = printL w l ++ printP w p := by simp [printL]
theorem printL_take (w : Int) (d : List Pt) (i : Nat) : (printL w (d.take i)).length ≤ (printL w d).length := by
  have h : printL w d = printL w (d.take i) ++ printL w (d.drop i) := by
    unfold printL
    rw [← List.flatten_append, ← List.map_append, List.take_append_drop]
  rw [h, List.length_append]
  omega
theorem conf_of {d : List Pt} {i : Nat} (h : rightD d = true) (hi : i < d.length) (hh : hkP (d.getD i ePt.dflt) = false) : isTextD (d.getD i ePt.dflt) = true ∧ txP (d.getD i ePt.dflt) ≠ [] := by
  have h1 := of_decide_eq_true h i hi
  unfold okAt at h1
  simp only [Bool.and_eq_true, Bool.or_eq_true] at h1
  rcases h1.2 with h2 | h2
  · unfold confD at h2
    simp only [Bool.and_eq_true] at h2
    rw [show hkP (d.getD i ePt.dflt) = (d.getD i ePt.dflt).2.2.2.1 from rfl] at hh
    rw [h2.1] at hh
    cases hh
  · unfold aheadD at h2
    simp only [Bool.and_eq_true, decide_eq_true_eq] at h2
    exact ⟨h2.1, h2.2.1⟩
theorem printL_ne {w : Int} {d : List Pt} (hw : wideM w = true) (h : rightD d = true) (h0 : d ≠ []) : printL w d ≠ [] := by
  have hi : 0 < d.length := List.length_pos_iff.2 h0
  have hn : printP w (d.getD 0 ePt.dflt) ≠ [] := by
    unfold printP
    cases hh : hkP (d.getD 0 ePt.dflt) with
    | true =>
      rw [if_pos rfl]
      have hw2 := wide_iff.1 hw
      obtain ⟨n, hn⟩ : ∃ n, w.toNat = n + 1 := ⟨w.toNat - 1, by omega⟩
      unfold lineM
      rw [hn, List.replicate_succ]
      simp
    | false =>
      rw [if_neg (by simp)]
      exact (conf_of h hi hh).2
  cases d with
  | nil => exact absurd rfl h0
  | cons p d =>
    intro e
    unfold printL at e
    simp only [List.map_cons, List.flatten_cons, List.append_eq_nil_iff] at e
    exact hn e.1
def printR (d : List Pt) (w : Int) : BS × Int := if wideM w = false then ([], 4) else if rightD d = false then ([], 11) else if fitsD d w = false then ([], 4) else (printL w d, 0)
def sPrintM : Spec := Spec.f2 (kL ePt) kI (fun d w => (d.length < 100000000 ∧ ∀ p ∈ d, okPt p) ∧ (wideM w = true → (printL w d).length ≤ 90000000000)) (fun d w => tu2 (kS.enc (printR d w).1) (kI.enc (printR d w).2))
theorem okPrintM : SpecOK Tryz.prog 75 sPrintM := by
  refine SpecOK.f2 Tryz.func75 rfl (by decide) Tryz.results75 Tryz.ntmps75 (by decide) fun d w ⟨⟨hd1, hd2⟩, hd3⟩ => ?_
  have hΓ : GOK Tryz.prog (gam [(124, sIsWidth), (125, sRightD), (126, sFitsD), (127, sPrConf), (88, sWriteS), (92, sStr)]) := (.cons okIsWidth (.cons okRightD (.cons okFitsD (.cons okPrConf (.cons okWriteS (.cons okStr .nil))))))
  unfold printR
  by_cases hw : wideM w = false
  · refine AW.of hΓ mixed [] _ _ _ rfl ?_
    simp only [go_sem, sIsWidth, sRightD, sFitsD, sPrConf, sWriteS, sStr, hw]
  have hw' : wideM w = true := by simpa using hw
  have hw2 := wide_iff.1 hw'
  rw [if_neg hw]
  by_cases hr : rightD d = false
  · refine AW.of hΓ mixed [] _ _ _ rfl ?_
    simp only [go_sem, sIsWidth, sRightD, sFitsD, sPrConf, sWriteS, sStr, hw', hr]
    exact ⟨hd1, hd2⟩
  have hr' : rightD d = true := by simpa using hr
  rw [if_neg hr]
  by_cases hf : fitsD d w = false
  · refine AW.of hΓ mixed [] _ _ _ rfl ?_
    simp only [go_sem, sIsWidth, sRightD, sFitsD, sPrConf, sWriteS, sStr, hw', hr', hf]
    exact ⟨hd1, hd2⟩
  have hf' : fitsD d w = true := by simpa using hf
  rw [if_neg hf]
  refine AW.of hΓ mixed [0] _ _ _ rfl ?_
  simp only [go_sem, sIsWidth, sRightD, sFitsD, sPrConf, sWriteS, sStr]
  refine AW.seqTo (fun _ : Unit => Sh.st ⟨[(0, sL ePt d), (1, .val (.int .i64 w))], [], 38, 0, 0, []⟩) ?_ fun _ => ?_
  · refine AW.of hΓ mixed [] _ _ _ rfl ?_
    simp only [go_sem, sIsWidth, sRightD, sFitsD, sPrConf, sWriteS, sStr, hw', hr', hf']
    refine ⟨⟨hd1, hd2⟩, ⟨hd1, hd2⟩, (), toFits ?_⟩
    simp only [go_sem, sIsWidth, sRightD, sFitsD, sPrConf, sWriteS, sStr]
  refine AW.fork (AW.regionO hΓ [true] ?_)
  simp only [go_sem, sIsWidth, sRightD, sFitsD, sPrConf, sWriteS, sStr]
  refine alloc_wp rfl zero138 (Nat.lt_of_lt_of_le (by decide : 6 < 38) (Nat.le_refl _)) ?_
  simp only [go_sem, sIsWidth, sRightD, sFitsD, sPrConf, sWriteS, sStr]
  by_cases h0 : d = []
  · subst h0
    refine AW.cut ⟨[(0, sL ePt []), (1, .val (.int .i64 w)), (6, .pt 0 0 0)], [(0, .box 0 138 2 bld0)], 38, 1, 1, []⟩ ?_ ?_
    · simp only [go_sem, sIsWidth, sRightD, sFitsD, sPrConf, sWriteS, sStr]
      refine RowLe.box fun j hj => ?_
      match j, hj with
      | 0, _ => exact AVle.refl _
      | 1, _ => exact AVle.refl _
    refine AW.of hΓ mixed [] _ _ _ rfl ?_
    simp only [go_sem, sIsWidth, sRightD, sFitsD, sPrConf, sWriteS, sStr]
    refine AW.round (α := Nat) (fun nx => ⟨[(6, .pt 0 0 0), (22, sL ePt []), (23, .val (.int .i64 0)), (24, .val (.int .i64 0))], [(0, .box 0 138 2 bld0)], 38, 1, nx, []⟩) (fun _ => 0) 1 ?_ ?_
    · simp only [go_sem, sIsWidth, sRightD, sFitsD, sPrConf, sWriteS, sStr]
      exact RowLe.refl _
    · intro nx
      refine AW.of hΓ mixed [99999] _ _ _ rfl ?_
      simp only [go_sem, sIsWidth, sRightD, sFitsD, sPrConf, sWriteS, sStr]
      exact .inr ⟨0, 0, rfl, rfl, rfl⟩
  · refine AW.cut ⟨[(0, sL ePt d), (1, .val (.int .i64 w)), (6, .pt 0 0 0)], [(0, .box 0 138 2 fun j => if j = 0 then .val (.pointer none) else .em)], 38, 1, 1, []⟩ ?_ ?_
    · simp only [go_sem, sIsWidth, sRightD, sFitsD, sPrConf, sWriteS, sStr]
      refine RowLe.box fun j hj => ?_
      match j, hj with
      | 0, _ => exact AVle.refl _
      | 1, _ => exact nil_em
    refine AW.adoptB (q := 0) 1 5 1 (byteC []) rfl rfl ?_
    refine AW.cut ⟨[(0, sL ePt d), (1, .val (.int .i64 w)), (6, .pt 0 0 0)], [(0, .box 0 138 2 (bldC false 0 0 1 1 0)), (1, rowB 1 [])], 38, 2, 2, []⟩ ?_ ?_
    · simp only [go_sem, sIsWidth, sRightD, sFitsD, sPrConf, sWriteS, sStr]
      refine ⟨RowLe.box fun j hj => ?_, RowLe.refl _⟩
      match j, hj with
      | 0, _ => exact AVle.refl _
      | 1, _ => exact AVle.refl _
    refine AW.of hΓ mixed [] _ _ _ rfl ?_
    simp only [go_sem, sIsWidth, sRightD, sFitsD, sPrConf, sWriteS, sStr]
    refine AW.round (α := { x : Nat × Bool × Nat × Nat // x.1 ≤ d.length })
      (fun x => ⟨[(1, .val (.int .i64 w)), (6, .pt 0 0 0), (22, sL ePt d), (23, .val (.int .i64 d.length)), (24, .val (.int .i64 x.1.1))],
        [(0, .box 0 138 2 (bldC x.1.2.1 0 0 1 x.1.2.2.1 (printL w (d.take x.1.1)).length)), (1, rowB x.1.2.2.1 (printL w (d.take x.1.1)))], 38, 2, x.1.2.2.2, []⟩) (fun x => d.length - x.1.1) ⟨(0, false, 1, 2), Nat.zero_le _⟩ ?_ ?_
    · simp only [go_sem, sIsWidth, sRightD, sFitsD, sPrConf, sWriteS, sStr]
      exact ⟨RowLe.refl _, RowLe.refl _⟩
    · rintro ⟨⟨i, f, u, nx⟩, hi⟩
      simp only at hi
      refine AW.of hΓ mixed [10, 99999] _ _ _ rfl ?_
      simp only [go_sem, sIsWidth, sRightD, sFitsD, sPrConf, sWriteS, sStr]
      refine ⟨fun hlt => ⟨by omega, ?_⟩, fun hge => ?_⟩
      · have hlt' : i < d.length := by omega
        have hpi : okPt (d.getD i ePt.dflt) := by
          rw [gd_lt d _ hlt']
          exact hd2 _ (List.getElem_mem _)
        have hcf := conf_of (i := i) hr' hlt'
        have hsn := printL_snoc w (d.take i) (d.getD i ePt.dflt)
        rw [← take_snoc d ePt.dflt hlt'] at hsn
        have htl := printL_take w d (i + 1)
        have hd3 := hd3 hw'
        rw [hsn, List.length_append] at htl
        generalize hpe : d.getD i ePt.dflt = p at *
        refine AW.cut ⟨[(1, .val (.int .i64 w)), (6, .pt 0 0 0), (8, .pt 2 nx 0), (22, sL ePt d), (23, .val (.int .i64 d.length)), (24, .val (.int .i64 i))],
          [(0, .box 0 138 2 (bldC f 0 0 1 u (printL w (d.take i)).length)), (1, rowB u (printL w (d.take i))), (2, .box nx 179 9 (ePt.enc p))], 38, 3, nx + 1, []⟩ ?_ ?_
        · simp only [go_sem, sIsWidth, sRightD, sFitsD, sPrConf, sWriteS, sStr]
          exact ⟨RowLe.refl _, RowLe.refl _, RowLe.box fun j hj => AVle.of_eq (stC_in (Nat.zero_le _) (by omega))⟩
        refine AW.still 8 2 nx 179 9 _ rfl rfl (fun j hj => match j, hj with | 0, _ => rfl | 1, _ => rfl | 2, _ => rfl | 3, _ => rfl | 4, _ => rfl | 5, _ => rfl | 6, _ => rfl | 7, _ => rfl | 8, _ => rfl) ?_
        generalize hte : printL w (d.take i) = t at *
        refine AW.of hΓ mixed [99999] _ _ _ rfl ?_
        simp only [go_sem, sIsWidth, sRightD, sFitsD, sPrConf, sWriteS, sStr, pt_eta]
        refine ⟨fun hc => ?_, fun hc => ?_⟩
        · refine bld_go ⟨p, w, rfl, rfl, rfl, hc, hpi, by omega, by omega⟩ rfl (by decide) (RowLe.refl _) (RowLe.refl _) (by decide) (by omega) fun u1 n1 g1 h1 => ?_
          simp only [go_sem, sIsWidth, sRightD, sFitsD, sPrConf, sWriteS, sStr]
          refine ⟨by omega, ⟨(i + 1, true, u1, n1), by dsimp only; omega⟩, ⟨Nat.le_refl _, by dsimp only; omega, bld_len ?_, rowB_eq ?_⟩, by dsimp only; omega⟩
          · dsimp only
            rw [hsn, List.length_append]
          · dsimp only
            rw [hsn]
        · have htx : printP w p = p.2.2.2.2.1 := if_neg (by rw [show hkP p = p.2.2.2.1 from rfl, hc]; simp)
          rw [htx] at htl hsn
          refine write_go rfl (by decide) (RowLe.refl _) (RowLe.refl _) (by decide) (by omega) fun u1 n1 g1 h1 => ?_
          simp only [go_sem, sIsWidth, sRightD, sFitsD, sPrConf, sWriteS, sStr]
          refine ⟨by omega, ⟨(i + 1, true, u1, n1), by dsimp only; omega⟩, ⟨Nat.le_refl _, by dsimp only; omega, bld_len ?_, rowB_eq ?_⟩, by dsimp only; omega⟩
          · dsimp only
            rw [hsn, List.length_append]
          · dsimp only
            rw [hsn]
      · obtain rfl : i = d.length := by omega
        rw [List.take_length]
        refine .inl ⟨f, 0, 0, 1, u, printL w d, rfl, rfl, rfl, printL_ne hw' hr' h0, by have := hd3 hw'; omega, rfl⟩
end Go.Proofs.YthpjjjnbkfnghaaGreatDoor
set_option linter.unusedSimpArgs false
set_option linter.unusedVariables false
set_option maxRecDepth 100000
set_option maxHeartbeats 2000000
namespace Go.Proofs.YthpjjjnbkfnghaaGreatDoor
open Go
attribute [local irreducible] AW AVle ASle RowLe
theorem rangeMap (l : List BS) : (List.range l.length).map (fun i => l.getD i []) = l := by
  refine list_ext_getD [] (by simp) fun t ht => ?_
  simp at ht
  simp [List.getD, ht]
def sWith0 : MSpec := fun args hp top nx K => ∃ (d : List Pt) (v : Nat) (ts : List BS) (u : Nat), args = [.ow 0 v d.length, .ow 1 u ts.length] ∧ hp = rws [(0, rowL v 179 ePt d), (1, rowL u 9 eS ts)] ∧ top = 2 ∧ d.length < 100000000 ∧ okLs ts ∧
  ∀ v' nx', (v' = v ∨ nx ≤ v') → nx ≤ nx' → K (.ow 0 v' (withD d ts).length) (rws [(0, rowL v' 179 ePt (withD d ts)), (1, rowL u 9 eS ts)]) 2 nx'
theorem okWith0 : MethOK Tryz.prog 179 sWith0 := by
  refine MethOK.mk Tryz.func179 rfl (by decide) Tryz.results179 Tryz.ntmps179 ?_
  rintro args hp top nx K ⟨d, v, ts, u, rfl, rfl, rfl, hl, hts, hK⟩
  have hΓ : GOK Tryz.prog (gam [(53, sJoin)]) := (.cons okJoin .nil)
  refine ⟨Nat.le_of_ble_eq_true rfl, AW.late ?_⟩
  refine AW.of hΓ mixed [99999] _ _ _ rfl ?_
  simp only [go_sem, sJoin, rangeMap]
  refine ⟨hts, fun h => ⟨by omega, ?_⟩, fun h => ?_⟩
  · have e : withD d ts = d ++ [textP ts.flatten] := if_neg h
    refine ⟨_, toFitsV (fun p => p) (l := [(4, .ow 0 nx (d.length + 1))]) (r := [(0, rowL nx 179 ePt (withD d ts)), (1, rowL u 9 eS ts)]) (sz := 16) (top := 2) (nx := nx + 1) (df := []) ?_, ?_⟩
    · rw [e]
      simp only [go_sem, sJoin]
      refine ⟨row_app1 (E := ePt) rfl rfl rfl rfl (by simp) fun j hj => ?_, RowLe.refl _⟩
      match j, hj with
      | 0, _ => exact AVle.refl _
      | 1, _ => exact AVle.refl _
      | 2, _ => exact AVle.refl _
      | 3, _ => exact AVle.refl _
      | 4, _ => exact AVle.refl _
      | 5, _ => exact AVle.refl _
      | 6, _ => exact AVle.refl _
      | 7, _ => exact AVle.refl _
      | 8, _ => exact AVle.refl _
    · simp only [go_sem, sJoin]
      have := hK nx (nx + 1) (.inr (Nat.le_refl _)) (by omega)
      rwa [show (withD d ts).length = d.length + 1 by rw [e]; simp] at this
  · have e : withD d ts = d := if_pos (Decidable.not_not.1 h)
    refine ⟨_, ASle.refl _, ?_⟩
    simp only [go_sem, sJoin]
    have := hK v nx (.inl rfl) (Nat.le_refl _)
    rwa [e] at this
def sWith : MSpec := framed sWith0
theorem okWith : MethOK Tryz.prog 179 sWith := okWith0.frame
theorem rows_two {hp : Nat → Row} {p q : Nat} {r s : Row} (h : RowLe (hp p) r) (h2 : RowLe (hp q) s) : ∀ (i o : Nat), [p, q][i]? = some o → RowLe (hp o) (rws [(0, r), (1, s)] i) := by
  intro i o hq
  match i with
  | 0 =>
    simp only [List.getElem?_cons_zero, Option.some.injEq] at hq
    subst hq
    exact h
  | 1 =>
    simp only [List.getElem?_cons_succ, List.getElem?_cons_zero, Option.some.injEq] at hq
    subst hq
    exact h2
  | i + 2 => simp at hq
theorem with_go {d : List Pt} {ts : List BS} {p q v u n m : Nat} {hp : Nat → Row} {top nx : Nat} {K : AV → (Nat → Row) → Nat → Nat → Prop} (hn : n = d.length) (hm : m = ts.length) (hpq : p ≠ q)
    (hr : RowLe (hp p) (rowL v 179 ePt d)) (hr2 : RowLe (hp q) (rowL u 9 eS ts)) (ht : p < top ∧ q < top) (hl : d.length < 100000000) (hts : okLs ts)
    (hK : ∀ v' nx', nx ≤ nx' → K (.ow p v' (withD d ts).length) (updR (updR hp p (rowL v' 179 ePt (withD d ts))) q (rowL u 9 eS ts)) top nx') :
    sWith [.ow p v n, .ow q u m] hp top nx K := by
  subst hn hm
  have e1 : (hp p).ver = some v := hr.vers.symm
  have e2 : (hp q).ver = some u := hr2.vers.symm
  refine ⟨[p, q], [.ow 0 v d.length, .ow 1 u ts.length], rws [(0, rowL v 179 ePt d), (1, rowL u 9 eS ts)], by simp [hpq], by simp; omega, .cons AVle.ow (.cons AVle.ow .nil), rows_two hr hr2, fun i hi => rws_top (top := 2) (by simp) i (by simpa using hi), d, v, ts, u, rfl, rfl, rfl, hl, hts, fun v' nx' h1 h3 => ?_⟩
  refine ⟨.ow p v' (withD d ts).length, _, AVle.ow, fun i o ho => ?_, fun o ho => ?_, fun o ho w hv => ?_, hK v' nx' h3⟩
  · match i with
    | 0 =>
      simp only [List.getElem?_cons_zero, Option.some.injEq] at ho
      subst ho
      rw [updR_ne _ _ hpq, updR_at]
      exact RowLe.refl _
    | 1 =>
      simp only [List.getElem?_cons_succ, List.getElem?_cons_zero, Option.some.injEq] at ho
      subst ho
      rw [updR_at]
      exact RowLe.refl _
    | i + 2 => simp at ho
  · simp only [List.mem_cons, List.not_mem_nil, or_false, not_or] at ho
    rw [updR_ne _ _ ho.2, updR_ne _ _ ho.1]
  · simp only [List.mem_cons, List.not_mem_nil, or_false] at ho
    rcases ho with rfl | rfl
    · rw [updR_ne _ _ hpq, updR_at] at hv
      have : some v' = some w := hv
      obtain rfl := Option.some.inj this
      rcases h1 with rfl | h1
      · exact .inl e1
      · exact .inr h1
    · rw [updR_at] at hv
      have : some u = some w := hv
      obtain rfl := Option.some.inj this
      exact .inl e2
theorem with_len (d : List Pt) (ts : List BS) : (withD d ts).length ≤ d.length + ts.length := by
  unfold withD
  split
  · omega
  · rename_i h
    have : 0 < ts.length := List.length_pos_iff.2 fun e => h (by rw [e]; rfl)
    simp only [List.length_append, List.length_cons, List.length_nil]
    omega
def sOfD : Spec := Spec.f1 (kL ePt) (fun l => l.length < 100000000 ∧ sumT l ≤ 1000000000) (fun l => sL ePt (ofD l))
theorem okOfD : SpecOK Tryz.prog 134 sOfD := by
  refine SpecOK.f1 Tryz.func134 rfl (by decide) Tryz.results134 Tryz.ntmps134 (by decide) fun l ⟨hl, hs⟩ => ?_
  have hΓ : GOK Tryz.prog (gam [(178, sIsText), (179, sWith)]) := (.cons okIsText (.cons okWith .nil))
  refine AW.of hΓ mixed [2, 200008] _ _ _ rfl ?_
  simp only [go_sem, sIsText, sWith]
  refine AW.adopt 3 179 9 (fun i => ePt.enc (([] : List Pt).getD i ePt.dflt)) rfl ?_
  refine AW.adopt 4 9 1 (fun i => eS.enc (([] : List BS).getD i [])) rfl ?_
  refine AW.of hΓ mixed [3, 200008] _ _ _ rfl ?_
  simp only [go_sem, sIsText, sWith]
  refine AW.block (AW.roundL (α := { x : Nat × List Pt × List BS × Nat × Nat × Nat // x.1 ≤ l.length ∧ ofD l = ofGo (l.drop x.1) x.2.1 x.2.2.1 ∧ x.2.1.length + x.2.2.1.length ≤ x.1 ∧ x.2.2.1.length ≤ x.1 ∧ x.2.2.1.flatten.length ≤ sumT (l.take x.1) })
    (fun x => (Sh.mk [(3, .ow 0 x.1.2.2.2.1 x.1.2.1.length), (4, .ow 1 x.1.2.2.2.2.1 x.1.2.2.1.length), (7, sL ePt l), (8, .val (.int .i64 l.length)), (9, .val (.int .i64 x.1.1))]
      [(0, rowL x.1.2.2.2.1 179 ePt x.1.2.1), (1, rowL x.1.2.2.2.2.1 9 eS x.1.2.2.1)] 30 2 x.1.2.2.2.2.2 []).st) (fun x => l.length - x.1.1) ⟨(0, [], [], 0, 1, 2), Nat.zero_le _, rfl, by simp, by simp, by simp⟩ ?_ ?_)
  · refine Sh.fitsV.le (σ := fun p => p) ?_
    simp only [go_sem, sIsText, sWith]
    exact ⟨RowLe.refl _, RowLe.refl _⟩
  · rintro ⟨⟨i, d, ts, v, u, nx⟩, hi, he, hd, ht, hs2⟩
    simp only at hi he hd ht hs2
    refine AW.of hΓ mixed [5, 99999, 200008] _ _ _ rfl ?_
    simp only [go_sem, sIsText, sWith]
    have hst := sumT_take l i
    refine ⟨fun hil => ⟨by omega, ?_⟩, fun hil => ?_⟩
    · have hlt : i < l.length := by omega
      have hdr : l.drop i = l.getD i ePt.dflt :: l.drop (i + 1) := by
        rw [List.drop_eq_getElem_cons hlt, ← gd_lt l ePt.dflt hlt]
      have hsum : sumT (l.take (i + 1)) = sumT (l.take i) + (txP (l.getD i ePt.dflt)).length := by
        rw [take_snoc l ePt.dflt hlt, sumT_app, sumT_one]
      have hst1 := sumT_take l (i + 1)
      rw [hdr, ofGo] at he
      generalize hpe : l.getD i ePt.dflt = p at *
      refine AW.cut ⟨[(3, .ow 0 v d.length), (4, .ow 1 u ts.length), (6, .pt 2 nx 0), (7, sL ePt l), (8, .val (.int .i64 l.length)), (9, .val (.int .i64 i))],
        [(0, rowL v 179 ePt d), (1, rowL u 9 eS ts), (2, .box nx 179 9 (ePt.enc p))], 30, 3, nx + 1, []⟩ ?_ ?_
      · simp only [go_sem, sIsText, sWith]
        exact ⟨RowLe.refl _, RowLe.refl _, RowLe.box fun j hj => AVle.of_eq (stC_in (Nat.zero_le _) (by omega))⟩
      refine AW.still 6 2 nx 179 9 _ rfl rfl (fun j hj => match j, hj with | 0, _ => rfl | 1, _ => rfl | 2, _ => rfl | 3, _ => rfl | 4, _ => rfl | 5, _ => rfl | 6, _ => rfl | 7, _ => rfl | 8, _ => rfl) ?_
      refine AW.of hΓ mixed [99999, 200008] _ _ _ rfl ?_
      simp only [go_sem, sIsText, sWith, pt_eta]
      refine ⟨fun hp => ⟨by omega, by omega, ⟨(i + 1, d, ts ++ [txP p], v, nx + 1, nx + 1 + 1), by dsimp only; omega, ?_, by simp; omega, by simp; omega, ?_⟩, ?_, by dsimp only; omega⟩, fun hp => ?_⟩
      · dsimp only
        rw [he, if_pos hp]
      · dsimp only
        rw [hsum, List.flatten_append, List.length_append]
        exact Nat.add_le_add hs2 (by simp)
      · refine toFitsV (fun p => p) ?_
        simp only [go_sem, sIsText, sWith]
        refine ⟨by omega, RowLe.refl _, ?_⟩
        exact row_app1 (E := eS) rfl rfl rfl rfl (by simp) fun j hj => AVle.refl _
      · rw [if_neg (by simp [hp])] at he
        refine AW.drawZ hΓ mixed 2 [3, 4] [3, 4] [] (by decide +kernel) ?_
        simp only [go_sem, sIsText, sWith]
        have hwl := with_len d ts
        refine with_go rfl rfl (by decide) (RowLe.refl _) (RowLe.refl _) (by decide) (by omega) ⟨by omega, by omega⟩ fun v1 n1 h1 => ?_
        generalize withD d ts = w at *
        simp only [go_sem, sIsText, sWith]
        refine ⟨by omega, by omega, ⟨(i + 1, w ++ [p], [], n1, n1 + 1, n1 + 2), by dsimp only; omega, he, by simp; omega, by simp, by simp⟩, ?_, by dsimp only; omega⟩
        refine (ASle.adopt (s := 4) 9 1 (fun i => eS.enc (([] : List BS).getD i [])) rfl).trans (toFitsV (fun p => if p = 1 then 3 else p) ?_)
        simp only [go_sem, sIsText, sWith]
        exact ⟨by omega, row_app1 (E := ePt) rfl rfl rfl rfl (by simp) fun j hj => AVle.refl _, RowLe.refl _⟩
    · obtain rfl : i = l.length := by omega
      rw [List.drop_length, ofGo] at he
      have hwl := with_len d ts
      refine with_go rfl rfl (by decide) (RowLe.refl _) (RowLe.refl _) (by decide) (by omega) ⟨by omega, by omega⟩ fun v1 n1 h1 => ?_
      generalize withD d ts = w at *
      simp only [go_sem, sIsText, sWith]
      rw [he]
      exact vw_all (E := ePt) rfl rfl rfl
end Go.Proofs.YthpjjjnbkfnghaaGreatDoor
set_option linter.unusedSimpArgs false
set_option linter.unusedVariables false
set_option maxRecDepth 100000
set_option maxHeartbeats 2000000
namespace Go.Proofs.YthpjjjnbkfnghaaGreatDoor
open Go
attribute [local irreducible] AW AVle ASle RowLe
def lenP (p : Pt) : Nat := p.2.2.2.2.1.length + p.2.2.2.2.2.1.length + p.2.2.2.2.2.2.1.length + p.2.2.2.2.2.2.2.1.length + p.1.length + p.2.1.length + p.2.2.1.length
def sumP (l : List Pt) : Nat := (l.map lenP).sum
theorem sumP_mem {l : List Pt} {p : Pt} (h : p ∈ l) : lenP p ≤ sumP l := by
  induction l with
  | nil => cases h
  | cons t l ih =>
    have e : sumP (t :: l) = lenP t + sumP l := by simp [sumP]
    rcases List.mem_cons.1 h with rfl | h
    · omega
    · have := ih h
      omega
end Go.Proofs.YthpjjjnbkfnghaaGreatDoor
set_option linter.unusedSimpArgs false
set_option linter.unusedVariables false
set_option maxRecDepth 100000
set_option maxHeartbeats 2000000
namespace Go.Proofs.YthpjjjnbkfnghaaGreatDoor
open Go
attribute [local irreducible] AW AVle ASle RowLe
theorem printP_len (w : Int) (p : Pt) : (printP w p).length ≤ 4 * w.toNat + lenP p + 15 := by
  obtain ⟨ll, bl, rl, h, x, lf, b, r, hb⟩ := p
  unfold printP lenP
  simp only [hkP, txP]
  have h1 := lineM_len (60, false, ll) w
  have h2 := lineM_len (124, lackM lf, bl) w
  have h3 := lineM_len (61, lackM b, []) w
  have h4 := lineM_len (62, lackM r, rl) w
  have h5 := lineM_len (61, lackM lf, []) w
  have h6 := sideM_len lf
  have h7 := sideM_len b
  have h8 := sideM_len r
  simp only at h1 h2 h3 h4 h5
  simp only [List.length_nil] at h3 h5
  by_cases hh : h = true
  · rw [if_pos hh]
    by_cases hh2 : hb = true
    · rw [if_pos hh2]
      simp only [List.length_append]
      omega
    · rw [if_neg hh2]
      simp only [List.length_append]
      omega
  · rw [if_neg hh]
    omega
theorem printL_len (w : Int) : ∀ (d : List Pt), (printL w d).length ≤ d.length * (4 * w.toNat + 15) + sumP d
  | [] => by simp [printL]
  | p :: d => by
    have h1 := printL_len w d
    have h2 := printP_len w p
    have e : sumP (p :: d) = lenP p + sumP d := by simp [sumP]
    have e2 : printL w (p :: d) = printP w p ++ printL w d := by simp [printL]
    rw [e2, List.length_append, e, List.length_cons, Nat.succ_mul]
    omega
end Go.Proofs.YthpjjjnbkfnghaaGreatDoor
set_option linter.unusedSimpArgs false
set_option linter.unusedVariables false
set_option maxRecDepth 100000
namespace Go.Proofs.YthpjjjnbkfnghaaGreatDoor
open Go
theorem splitL_app {a : BS} (b : BS) (h : a = [] ∨ endsL a = true) : splitL (a ++ b) = splitL a ++ splitL b := by
  induction a with
  | nil => rfl
  | cons x a ih =>
    by_cases ha : a = []
    · subst ha
      have hx : x = 10 := by
        rcases h with h | h
        · cases h
        · simpa [endsL] using h
      subst hx
      rfl
    · have h' : endsL a = true := by
        rcases h with h | h
        · cases h
        · unfold endsL at h ⊢
          rw [List.getLast?_cons_of_ne_nil ha] at h
          exact h
      have := ih (.inr h')
      rw [List.cons_append]
      simp only [splitL]
      by_cases hx : x = 10
      · rw [if_pos hx, if_pos hx, this]
        rfl
      · rw [if_neg hx, if_neg hx, this]
        cases hs : splitL a with
        | nil =>
          have := splitL_flat a
          rw [hs] at this
          exact absurd this.symm ha
        | cons y ys => rfl
theorem longL_mem {l : List BS} {x : BS} (h : x ∈ l) : runL x ≤ longL l := by
  have key : ∀ (l : List BS) (n : Nat), (∀ x ∈ l, runL x ≤ l.foldl (fun n x => max n (runL x)) n) ∧ n ≤ l.foldl (fun n x => max n (runL x)) n := by
    intro l
    induction l with
    | nil => intro n; exact ⟨fun x h => by simp at h, Nat.le_refl _⟩
    | cons y l ih =>
      intro n
      obtain ⟨h1, h2⟩ := ih (max n (runL y))
      refine ⟨fun x hx => ?_, Nat.le_trans (Nat.le_max_left ..) h2⟩
      rcases List.mem_cons.1 hx with rfl | hx
      · exact Nat.le_trans (Nat.le_max_right ..) h2
      · exact h1 x hx
  exact (key l 0).1 x h
end Go.Proofs.YthpjjjnbkfnghaaGreatDoor
set_option linter.unusedVariables false
namespace Go.Proofs.YthpjjjnbkfnghaaGreatDoor
section
variable (a b : List Int)
def dst (x y : Nat) : Int := (x : Int) + y - 2 * tabL a b x y
def onD (e : Nat) (k : Int) (x : Int) : Prop := 0 ≤ x ∧ k ≤ x ∧ x ≤ a.length ∧ x - k ≤ b.length ∧ dst a b x.toNat (x - k).toNat < e
def topD (e : Nat) (k : Int) (v : Int) : Prop := (v = -1 ∧ ∀ x, ¬ onD a b e k x) ∨ (onD a b e k v ∧ ∀ x, onD a b e k x → x ≤ v)
end
section
variable {a b : List Int}
theorem dst_right (x y : Nat) : dst a b (x + 1) y ≤ dst a b x y + 1 ∧ dst a b x y ≤ dst a b (x + 1) y + 1 := by
  have := tabL_right (a := a) (b := b) x y
  simp only [dst]; omega
theorem dst_down (x y : Nat) : dst a b x (y + 1) ≤ dst a b x y + 1 ∧ dst a b x y ≤ dst a b x (y + 1) + 1 := by
  have := tabL_down (a := a) (b := b) x y
  simp only [dst]; omega
theorem dst_diag (x y : Nat) : dst a b x y ≤ dst a b (x + 1) (y + 1) := by
  have := tabL_diag (a := a) (b := b) x y
  simp only [dst]; omega
theorem dst_eq {x y : Nat} (h : a.getD x 0 = b.getD y 0) : dst a b (x + 1) (y + 1) = dst a b x y := by
  simp only [dst, tabL_eq h]; omega
theorem dst_ne {x y : Nat} (h : a.getD x 0 ≠ b.getD y 0) : dst a b (x + 1) (y + 1) = dst a b x (y + 1) + 1 ∨ dst a b (x + 1) (y + 1) = dst a b (x + 1) y + 1 := by
  simp only [dst, tabL_ne h]; omega
theorem dst_nonneg (x y : Nat) : 0 ≤ dst a b x y := by
  have := tabL_le (a := a) (b := b) x y
  simp only [dst]; omega
theorem dst_abs (x y : Nat) : (x : Int) - y ≤ dst a b x y ∧ (y : Int) - x ≤ dst a b x y := by
  have := tabL_le (a := a) (b := b) x y
  simp only [dst]; omega
theorem dst_0 (y : Nat) : dst a b 0 y = y := by simp [dst, tabL_0]
theorem dst_i0 (x : Nat) : dst a b x 0 = x := by simp [dst, tabL_i0]
theorem onD_less {e : Nat} {k x : Int} (h : onD a b e k (x + 1)) (h0 : 0 ≤ x) (hk : k ≤ x) : onD a b e k x := by
  obtain ⟨h1, h2, h3, h4, h5⟩ := h
  refine ⟨h0, hk, by omega, by omega, ?_⟩
  have e1 : (x + 1).toNat = x.toNat + 1 := by omega
  have e2 : (x + 1 - k).toNat = (x - k).toNat + 1 := by omega
  rw [e1, e2] at h5
  have := dst_diag (a := a) (b := b) x.toNat (x - k).toNat
  omega
theorem onD_down {e : Nat} {k : Int} : ∀ (n : Nat) (x y : Int), (x - y).toNat ≤ n → y ≤ x → onD a b e k x → 0 ≤ y → k ≤ y → onD a b e k y
  | 0, x, y, hn, hy, h, _, _ => by
    have : y = x := by omega
    subst this; exact h
  | n + 1, x, y, hn, hy, h, h0, hk => by
    rcases Int.lt_or_eq_of_le hy with g | g
    · exact onD_down n (x - 1) y (by omega) (by omega) (onD_less (by simpa using h) (by omega) (by omega)) h0 hk
    · subst g; exact h
theorem onD_le {e : Nat} {k x y : Int} (hy : y ≤ x) (h : onD a b e k x) (h0 : 0 ≤ y) (hk : k ≤ y) : onD a b e k y := onD_down _ x y (Nat.le_refl _) hy h h0 hk
theorem topD_ge {e : Nat} {k v x : Int} (h : topD a b e k v) (hx : onD a b e k x) : x ≤ v := by
  rcases h with ⟨_, h⟩ | ⟨_, h⟩
  · exact absurd hx (h x)
  · exact h x hx
theorem topD_on {e : Nat} {k v : Int} (h : topD a b e k v) (hv : 0 ≤ v) : onD a b e k v := by
  rcases h with ⟨h, _⟩ | ⟨h, _⟩
  · omega
  · exact h
theorem topD_m1 {e : Nat} {k v : Int} (h : topD a b e k v) : -1 ≤ v := by
  rcases h with ⟨h, _⟩ | ⟨h, _⟩
  · omega
  · have := h.1; omega
def startD (a b : List Int) (u v k : Int) : Int := min (min (max (u + 1) v) a.length) (b.length + k)
theorem start_ok {d : Nat} {k u v : Int} (hk : -(b.length : Int) ≤ k ∧ k ≤ a.length) (hd : -(d : Int) ≤ k ∧ k ≤ d) (hu : topD a b d (k - 1) u) (hv : topD a b d (k + 1) v) :
    0 ≤ startD a b u v k ∧ k ≤ startD a b u v k ∧ startD a b u v k ≤ a.length ∧ startD a b u v k - k ≤ b.length ∧ onD a b (d + 1) k (startD a b u v k) := by
  have hu1 := topD_m1 hu
  have hv1 := topD_m1 hv
  have hup : 0 < k → k - 1 ≤ u := fun h => by
    refine topD_ge hu ⟨by omega, by omega, by omega, by omega, ?_⟩
    have e : (k - 1 - (k - 1)).toNat = 0 := by omega
    rw [e, dst_i0]
    omega
  have h0 : 0 ≤ startD a b u v k := by unfold startD; omega
  have h1 : k ≤ startD a b u v k := by
    rcases Int.lt_or_le 0 k with h | h
    · have := hup h; unfold startD; omega
    · omega
  have h2 : startD a b u v k ≤ a.length := by unfold startD; omega
  have h3 : startD a b u v k - k ≤ b.length := by unfold startD; omega
  refine ⟨h0, h1, h2, h3, h0, h1, h2, h3, ?_⟩
  rcases Int.le_total v (u + 1) with hw | hw
  · -- from the diagonal below
    rcases Int.lt_or_le u 0 with hu0 | hu0
    · have hk0 : k ≤ 0 := by
        rcases Int.lt_or_le 0 k with h | h
        · have := hup h; omega
        · exact h
      have e : startD a b u v k = 0 := by unfold startD; omega
      rw [e]
      show dst a b 0 _ < _
      rw [dst_0]
      omega
    · obtain ⟨g1, g2, g3, g4, g5⟩ := topD_on hu hu0
      rcases Int.lt_or_le u a.length with hn | hn
      · have e : startD a b u v k = u + 1 := by unfold startD; omega
        have e1 : (u + 1).toNat = u.toNat + 1 := by omega
        have e2 : (u + 1 - k).toNat = (u - (k - 1)).toNat := by omega
        rw [e, e1, e2]
        have := (dst_right (a := a) (b := b) u.toNat (u - (k - 1)).toNat).1
        omega
      · have e : startD a b u v k = u := by unfold startD; omega
        have e2 : (u - (k - 1)).toNat = (u - k).toNat + 1 := by omega
        rw [e]
        rw [e2] at g5
        have := (dst_down (a := a) (b := b) u.toNat (u - k).toNat).2
        omega
  · -- from the diagonal above
    obtain ⟨g1, g2, g3, g4, g5⟩ := topD_on hv (by omega)
    rcases Int.lt_or_le (v - k) (b.length + 1) with hm | hm
    · have e : startD a b u v k = v := by unfold startD; omega
      have e2 : (v - k).toNat = (v - (k + 1)).toNat + 1 := by omega
      rw [e, e2]
      have := (dst_down (a := a) (b := b) v.toNat (v - (k + 1)).toNat).1
      omega
    · have e : startD a b u v k = v - 1 := by unfold startD; omega
      have e1 : v.toNat = (v - 1).toNat + 1 := by omega
      have e2 : (v - 1 - k).toNat = (v - (k + 1)).toNat := by omega
      rw [e, e2]
      rw [e1] at g5
      have := (dst_right (a := a) (b := b) (v - 1).toNat (v - (k + 1)).toNat).2
      omega
theorem onD_snake {e : Nat} {k x : Int} (h : onD a b e k x) : ∀ n : Nat, n ≤ ahd (a.drop x.toNat) (b.drop (x - k).toNat) → onD a b e k (x + n)
  | 0, _ => by simpa using h
  | n + 1, hn => by
    obtain ⟨h1, h2, h3, h4, h5⟩ := onD_snake h n (by omega)
    have hs := (ahd_spec (0 : Int) (a.drop x.toNat) (b.drop (x - k).toNat)).1 n (by omega)
    have hl := ahd_le (a.drop x.toNat) (b.drop (x - k).toNat)
    simp only [List.length_drop] at hl
    have hx := h.1
    have hxk := h.2.1
    have e0 : ((n + 1 : Nat) : Int) = (n : Int) + 1 := by omega
    have e1 : (x + (n + 1 : Nat)).toNat = (x + n).toNat + 1 := by omega
    have e2 : (x + (n + 1 : Nat) - k).toNat = (x + n - k).toNat + 1 := by omega
    refine ⟨by omega, by omega, by omega, by omega, ?_⟩
    rw [e1, e2, dst_eq]
    · exact h5
    · have g1 : (a.drop x.toNat).getD n 0 = a.getD (x + n).toNat 0 := by
        have : (x + n).toNat = x.toNat + n := by omega
        simp [List.getD, this]
      have g2 : (b.drop (x - k).toNat).getD n 0 = b.getD (x + n - k).toNat 0 := by
        have : (x + n - k).toNat = (x - k).toNat + n := by omega
        simp [List.getD, this]
      rw [← g1, ← g2]
      exact hs
theorem adv_top {d : Nat} {k u v : Int} (hk : -(b.length : Int) ≤ k ∧ k ≤ a.length) (hd : -(d : Int) ≤ k ∧ k ≤ d) (hu : topD a b d (k - 1) u) (hv : topD a b d (k + 1) v) :
    topD a b (d + 1) k (startD a b u v k + ahd (a.drop (startD a b u v k).toNat) (b.drop (startD a b u v k - k).toNat)) := by
  obtain ⟨h0, h1, h2, h3, h4⟩ := start_ok hk hd hu hv
  have hge : ∀ x : Int, x ≤ a.length → x - k ≤ b.length → x ≤ u + 1 ∨ x ≤ v → x ≤ startD a b u v k := fun x g1 g2 g3 => by unfold startD; omega
  generalize startD a b u v k = x1 at *
  have hs := onD_snake h4 _ (Nat.le_refl _)
  have hstop := (ahd_spec (0 : Int) (a.drop x1.toNat) (b.drop (x1 - k).toNat)).2
  simp only [List.length_drop] at hstop
  generalize hsn : ahd (a.drop x1.toNat) (b.drop (x1 - k).toNat) = s at *
  refine .inr ⟨hs, fun x hx => ?_⟩
  rcases Int.lt_or_le (x1 + s) x with g | g
  · exfalso
    have hn := onD_le (y := x1 + s + 1) (by omega) hx (by omega) (by omega)
    obtain ⟨p1, p2, p3, p4, p5⟩ := hn
    have hne : a.getD (x1 + s).toNat 0 ≠ b.getD (x1 + s - k).toNat 0 := by
      have := hstop (by omega) (by omega)
      have g1 : (a.drop x1.toNat).getD s 0 = a.getD (x1 + s).toNat 0 := by
        have : (x1 + s).toNat = x1.toNat + s := by omega
        simp [List.getD, this]
      have g2 : (b.drop (x1 - k).toNat).getD s 0 = b.getD (x1 + s - k).toNat 0 := by
        have : (x1 + s - k).toNat = (x1 - k).toNat + s := by omega
        simp [List.getD, this]
      rwa [g1, g2] at this
    have e1 : (x1 + s + 1).toNat = (x1 + s).toNat + 1 := by omega
    have e2 : (x1 + s + 1 - k).toNat = (x1 + s - k).toNat + 1 := by omega
    rw [e1, e2] at p5
    rcases dst_ne hne with q | q
    · have : onD a b d (k - 1) (x1 + s) := ⟨by omega, by omega, by omega, by omega, by
        have e3 : (x1 + s - (k - 1)).toNat = (x1 + s - k).toNat + 1 := by omega
        rw [e3]; omega⟩
      have := topD_ge hu this
      have := hge (x1 + s + 1) (by omega) (by omega) (.inl (by omega))
      omega
    · have : onD a b d (k + 1) (x1 + s + 1) := ⟨by omega, by omega, by omega, by omega, by
        have e3 : (x1 + s + 1 - (k + 1)).toNat = (x1 + s - k).toNat := by omega
        rw [e3, e1]; omega⟩
      have := topD_ge hv this
      have := hge (x1 + s + 1) (by omega) (by omega) (.inr (by omega))
      omega
  · exact g
theorem top_parity {e : Nat} {k v : Int} (h : topD a b e k v) (hp : (k - e) % 2 ≠ 0) : topD a b (e + 1) k v := by
  have key : ∀ x, onD a b (e + 1) k x → onD a b e k x := by
    rintro x ⟨h1, h2, h3, h4, h5⟩
    refine ⟨h1, h2, h3, h4, ?_⟩
    have : dst a b x.toNat (x - k).toNat = 2 * x - k - 2 * tabL a b x.toNat (x - k).toNat := by simp only [dst]; omega
    omega
  rcases h with ⟨h, g⟩ | ⟨h, g⟩
  · exact .inl ⟨h, fun x hx => g x (key x hx)⟩
  · obtain ⟨h1, h2, h3, h4, h5⟩ := h
    exact .inr ⟨⟨h1, h2, h3, h4, by omega⟩, fun x hx => g x (key x hx)⟩
theorem top_out {e : Nat} {k : Int} (h : k < -(b.length : Int) ∨ (a.length : Int) < k ∨ (e : Int) ≤ k ∨ (e : Int) ≤ -k) : topD a b e k (-1) := by
  refine .inl ⟨rfl, ?_⟩
  rintro x ⟨h1, h2, h3, h4, h5⟩
  have := dst_abs (a := a) (b := b) x.toNat (x - k).toNat
  omega
end
end Go.Proofs.YthpjjjnbkfnghaaGreatDoor
set_option linter.unusedVariables false
namespace Go.Proofs.YthpjjjnbkfnghaaGreatDoor
def rch (m : Nat) (far : List Int) (k : Int) : Int := far.getD (k + m + 1).toNat 0
def advF (a b far : List Int) (k : Int) : Option (Int × List Int) :=
  if 0 ≤ startD a b (rch b.length far (k - 1)) (rch b.length far (k + 1)) k ∧ k ≤ startD a b (rch b.length far (k - 1)) (rch b.length far (k + 1)) k ∧ -(b.length : Int) ≤ k ∧ k ≤ a.length ∧ far.length = a.length + b.length + 3 then
    some (startD a b (rch b.length far (k - 1)) (rch b.length far (k + 1)) k + ahd (a.drop (startD a b (rch b.length far (k - 1)) (rch b.length far (k + 1)) k).toNat) (b.drop (startD a b (rch b.length far (k - 1)) (rch b.length far (k + 1)) k - k).toNat),
      far.set (k + b.length + 1).toNat (startD a b (rch b.length far (k - 1)) (rch b.length far (k + 1)) k + ahd (a.drop (startD a b (rch b.length far (k - 1)) (rch b.length far (k + 1)) k).toNat) (b.drop (startD a b (rch b.length far (k - 1)) (rch b.length far (k + 1)) k - k).toNat)))
  else none
def stepF (a b : List Int) (chk : Bool) (other : List Int) (high : Int) : Nat → Int → List Int → Option (Sum (Int × Int) (List Int))
  | 0, _, _ => none
  | f + 1, k, far => if k ≤ high then
      match advF a b far k with
      | none => none
      | some (x, far') => if chk = true ∧ (a.length : Int) ≤ x + rch b.length other (a.length - b.length - k) then some (.inl (x, x - k)) else stepF a b chk other high f (k + 2) far'
    else some (.inr far)
def lowD (d : Nat) (m : Nat) : Int := if (d : Int) > m then -(m : Int) + ((d : Int) - m).tmod 2 else -(d : Int)
def highD (d : Nat) (n : Nat) : Int := if (d : Int) > n then (n : Int) - ((d : Int) - n).tmod 2 else d
def oddD (n m : Nat) : Bool := decide (((n : Int) - m).tmod 2 ≠ 0)
def midF (a b : List Int) : Nat → Nat → List Int → List Int → Option (Int × Int)
  | 0, _, _, _ => none
  | f + 1, d, fwd, bwd => match stepF a b (oddD a.length b.length) bwd (highD d a.length) (a.length + b.length + 3) (lowD d b.length) fwd with
    | none => none
    | some (.inl p) => some p
    | some (.inr fwd') => match stepF a.reverse b.reverse (!oddD a.length b.length) fwd' (highD d a.length) (a.length + b.length + 3) (lowD d b.length) bwd with
      | none => none
      | some (.inl p) => some (a.length - p.1, b.length - p.2)
      | some (.inr bwd') => midF a b f (d + 1) fwd' bwd'
section
variable {a b : List Int}
theorem rch_set {far : List Int} {m : Nat} {k k' x : Int} (hl : (k + m + 1).toNat < far.length) (h0 : 0 ≤ k + m + 1) (h1 : 0 ≤ k' + m + 1) : rch m (far.set (k + m + 1).toNat x) k' = if k' = k then x else rch m far k' := by
  unfold rch
  by_cases h : k' = k
  · subst h; simp [List.getD, hl]
  · rw [if_neg h]
    have : (k + m + 1).toNat ≠ (k' + m + 1).toNat := by omega
    simp [List.getD, List.getElem?_set_ne this]
def midTop (a b : List Int) (d : Nat) (k : Int) (far : List Int) : Prop :=
  far.length = a.length + b.length + 3 ∧ ∀ k', -(b.length : Int) - 1 ≤ k' → k' ≤ a.length + 1 → topD a b (if (k' - d) % 2 = 0 ∧ k' < k then d + 1 else d) k' (rch b.length far k')
def allTop (a b : List Int) (e : Nat) (far : List Int) : Prop :=
  far.length = a.length + b.length + 3 ∧ ∀ k', -(b.length : Int) - 1 ≤ k' → k' ≤ a.length + 1 → topD a b e k' (rch b.length far k')
theorem tmod2 (n : Int) (h : 0 ≤ n) : n.tmod 2 = n % 2 := by rw [Int.tmod_eq_emod_of_nonneg h]
theorem low_facts (d m : Nat) : -(d : Int) ≤ lowD d m ∧ -(m : Int) ≤ lowD d m ∧ (lowD d m - d) % 2 = 0 ∧ (∀ k : Int, (k - d) % 2 = 0 → -(d : Int) ≤ k → -(m : Int) ≤ k → lowD d m ≤ k) ∧ lowD d m ≤ 1 := by
  unfold lowD
  split
  · rw [tmod2 _ (by omega)]
    refine ⟨by omega, by omega, by omega, fun k h1 h2 h3 => by omega, by omega⟩
  · refine ⟨by omega, by omega, by omega, fun k h1 h2 h3 => by omega, by omega⟩
theorem high_facts (d n : Nat) : highD d n ≤ d ∧ highD d n ≤ n ∧ (highD d n - d) % 2 = 0 ∧ (∀ k : Int, (k - d) % 2 = 0 → k ≤ d → k ≤ n → k ≤ highD d n) := by
  unfold highD
  split
  · rw [tmod2 _ (by omega)]
    refine ⟨by omega, by omega, by omega, fun k h1 h2 h3 => by omega⟩
  · refine ⟨by omega, by omega, by omega, fun k h1 h2 h3 => by omega⟩
theorem top_uniq {e : Nat} {k u v : Int} (h : topD a b e k u) (g : topD a b e k v) : u = v := by
  rcases h with ⟨h1, h2⟩ | ⟨h1, h2⟩
  · rcases g with ⟨g1, g2⟩ | ⟨g1, g2⟩
    · omega
    · exact absurd g1 (h2 v)
  · rcases g with ⟨g1, g2⟩ | ⟨g1, g2⟩
    · exact absurd h1 (g2 u)
    · have := h2 v g1
      have := g2 u h1
      omega
theorem adv_spec {d : Nat} {k : Int} {far : List Int} (h : midTop a b d k far) (hp : (k - d) % 2 = 0) (h1 : -(d : Int) ≤ k ∧ k ≤ d) (h2 : -(b.length : Int) ≤ k ∧ k ≤ a.length) :
    ∃ x far', advF a b far k = some (x, far') ∧ topD a b (d + 1) k x ∧ 0 ≤ x ∧ midTop a b d (k + 2) far' ∧ rch b.length far' k = x := by
  obtain ⟨hl, ht⟩ := h
  have hu := ht (k - 1) (by omega) (by omega)
  rw [if_neg (by omega)] at hu
  have hv := ht (k + 1) (by omega) (by omega)
  rw [if_neg (by omega)] at hv
  obtain ⟨s0, s1, _, _, _⟩ := start_ok h2 h1 hu hv
  have hx := adv_top h2 h1 hu hv
  refine ⟨_, _, if_pos ⟨s0, s1, h2.1, h2.2, hl⟩, hx, by omega, ⟨by simpa using hl, fun k' g1 g2 => ?_⟩, ?_⟩
  · rw [rch_set (by omega) (by omega) (by omega)]
    by_cases e : k' = k
    · subst e
      rw [if_pos rfl, if_pos ⟨hp, by omega⟩]
      exact hx
    · rw [if_neg e]
      have := ht k' g1 g2
      by_cases c : (k' - d) % 2 = 0 ∧ k' < k
      · rw [if_pos c] at this
        rw [if_pos ⟨c.1, by omega⟩]
        exact this
      · rw [if_neg c] at this
        rw [if_neg (by omega)]
        exact this
  · rw [rch_set (by omega) (by omega) (by omega), if_pos rfl]
theorem step_spec {d : Nat} {chk : Bool} {other : List Int} : ∀ (f : Nat) (k : Int) (far : List Int), midTop a b d k far → (k - d) % 2 = 0 → -(d : Int) ≤ k → -(b.length : Int) ≤ k → highD d a.length - k + 3 ≤ f → k ≤ highD d a.length + 2 →
    (∀ k' : Int, (k' - d) % 2 = 0 → lowD d b.length ≤ k' → k' < k → chk = true → ¬ ((a.length : Int) ≤ rch b.length far k' + rch b.length other (a.length - b.length - k'))) →
    (∃ x k', stepF a b chk other (highD d a.length) f k far = some (.inl (x, x - k')) ∧ chk = true ∧ topD a b (d + 1) k' x ∧ 0 ≤ x ∧ -(b.length : Int) ≤ k' ∧ k' ≤ a.length ∧ (a.length : Int) ≤ x + rch b.length other (a.length - b.length - k')) ∨
    (∃ far', stepF a b chk other (highD d a.length) f k far = some (.inr far') ∧ allTop a b (d + 1) far' ∧
      ∀ k' : Int, (k' - d) % 2 = 0 → lowD d b.length ≤ k' → k' ≤ highD d a.length → chk = true → ¬ ((a.length : Int) ≤ rch b.length far' k' + rch b.length other (a.length - b.length - k')))
  | 0, k, far, h, hp, h1, h2, hf, hf2, hno => by omega
  | f + 1, k, far, h, hp, h1, h2, hf, hf2, hno => by
    obtain ⟨g1, g2, g3, g4⟩ := high_facts d a.length
    by_cases hk : k ≤ highD d a.length
    · obtain ⟨x, far', e, hx, hx0, hm, hr⟩ := adv_spec h hp ⟨h1, by omega⟩ ⟨h2, by omega⟩
      have hstep : stepF a b chk other (highD d a.length) (f + 1) k far = if chk = true ∧ (a.length : Int) ≤ x + rch b.length other (a.length - b.length - k) then some (.inl (x, x - k)) else stepF a b chk other (highD d a.length) f (k + 2) far' := by
        rw [stepF, if_pos hk, e]
      by_cases hc : chk = true ∧ (a.length : Int) ≤ x + rch b.length other (a.length - b.length - k)
      · rw [hstep, if_pos hc]
        exact .inl ⟨x, k, rfl, hc.1, hx, hx0, h2, by omega, hc.2⟩
      · rw [hstep, if_neg hc]
        refine step_spec f (k + 2) far' hm (by omega) (by omega) (by omega) (by omega) (by omega) fun k' p1 p2 p3 p4 => ?_
        rcases Int.lt_or_le k' k with q | q
        · have hl := h.1
          have hr' : rch b.length far' k' = rch b.length far k' := by
            unfold advF at e
            split at e
            · simp only [Option.some.injEq, Prod.mk.injEq] at e
              obtain ⟨_, rfl⟩ := e
              have := low_facts d b.length
              rw [rch_set (by omega) (by omega) (by omega), if_neg (by omega)]
            · cases e
          rw [hr']
          exact hno k' p1 p2 q p4
        · have : k' = k := by omega
          subst this
          rw [hr]
          exact fun hh => hc ⟨p4, hh⟩
    · have hstep : stepF a b chk other (highD d a.length) (f + 1) k far = some (.inr far) := by rw [stepF, if_neg hk]
      refine .inr ⟨far, hstep, ⟨h.1, fun k' p1 p2 => ?_⟩, fun k' p1 p2 p3 p4 => hno k' p1 p2 (by omega) p4⟩
      have := h.2 k' p1 p2
      by_cases c : (k' - d) % 2 = 0 ∧ k' < k
      · rw [if_pos c] at this; exact this
      · rw [if_neg c] at this
        by_cases c1 : (k' - d) % 2 = 0
        · -- too far out
          have hge : k ≤ k' := by omega
          have hout : (d : Int) < k' ∨ (a.length : Int) < k' := by
            rcases Int.lt_or_le (d : Int) k' with q | q
            · exact .inl q
            · rcases Int.lt_or_le (a.length : Int) k' with q2 | q2
              · exact .inr q2
              · have := g4 k' c1 q q2; omega
          have e1 := top_uniq this (top_out (a := a) (b := b) (by omega))
          rw [e1]
          exact top_out (by omega)
        · exact top_parity this c1
theorem len_rev (l : List Int) : l.reverse.length = l.length := List.length_reverse
def dstR (a b : List Int) (x y : Nat) : Int := dst a.reverse b.reverse (a.length - x) (b.length - y)
theorem dst_lcs {x y : Nat} (hx : x ≤ a.length) (hy : y ≤ b.length) : dst a b x y = (x : Int) + y - 2 * lcsN (a.take x) (b.take y) := by rw [dst, tabL_lcs hx hy]
theorem dstR_lcs {x y : Nat} (hx : x ≤ a.length) (hy : y ≤ b.length) : dstR a b x y = ((a.length : Int) - x) + (b.length - y) - 2 * lcsN (a.drop x) (b.drop y) := by
  unfold dstR
  rw [dst_lcs (by simp) (by simp), List.take_reverse, List.take_reverse, lcsN_rev]
  have e1 : a.length - (a.length - x) = x := by omega
  have e2 : b.length - (b.length - y) = y := by omega
  rw [e1, e2]
  omega
theorem dst_sum {x y : Nat} (hx : x ≤ a.length) (hy : y ≤ b.length) : dst a b a.length b.length ≤ dst a b x y + dstR a b x y := by
  rw [dst_lcs (Nat.le_refl _) (Nat.le_refl _), dst_lcs hx hy, dstR_lcs hx hy]
  have := lcsN_append (a.take x) (a.drop x) (b.take y) (b.drop y)
  simp only [List.take_append_drop, List.take_length] at this ⊢
  omega
theorem mid_place : ∀ (n i k : Nat), i + k ≤ n → i ≤ a.length → k ≤ b.length → ∀ t : Nat, (t : Int) ≤ dst a b i k → ∃ x y, x ≤ i ∧ y ≤ k ∧ dst a b x y = t ∧ lcsN ((a.take i).drop x) ((b.take k).drop y) + tabL a b x y ≥ tabL a b i k
  | n, 0, k, hn, hi, hk, t, ht => by
    rw [dst_0] at ht
    exact ⟨0, t, Nat.le_refl _, by omega, dst_0 _, by simp [tabL_0]⟩
  | n, i + 1, 0, hn, hi, hk, t, ht => by
    rw [dst_i0] at ht
    exact ⟨t, 0, by omega, Nat.le_refl _, dst_i0 _, by simp [tabL_i0]⟩
  | 0, i + 1, k + 1, hn, _, _, _, _ => by omega
  | n + 1, i + 1, k + 1, hn, hi, hk, t, ht => by
    rcases Int.lt_or_eq_of_le ht with hlt | heq
    · by_cases h : a.getD i 0 = b.getD k 0
      · rw [dst_eq h] at ht hlt
        obtain ⟨x, y, hx, hy, h1, h2⟩ := mid_place n i k (by omega) (by omega) (by omega) t ht
        refine ⟨x, y, by omega, by omega, h1, ?_⟩
        rw [tabL_eq h, take_snoc' (by omega), take_snoc' (by omega), List.drop_append_of_le_length (by simp; omega), List.drop_append_of_le_length (by simp; omega), h, lcsN_behind]
        simp only [List.length_cons, List.length_nil]
        omega
      · rcases dst_ne h with e | e
        · rw [e] at hlt
          obtain ⟨x, y, hx, hy, h1, h2⟩ := mid_place n i (k + 1) (by omega) (by omega) hk t (by omega)
          refine ⟨x, y, by omega, hy, h1, ?_⟩
          have e2 : tabL a b (i + 1) (k + 1) = tabL a b i (k + 1) := by simp only [dst] at e; omega
          rw [e2, take_snoc' (l := a) (by omega), List.drop_append_of_le_length (by simp; omega)]
          have := lcsN_append ((a.take i).drop x) [a.getD i 0] ((b.take (k + 1)).drop y) []
          simp only [List.append_nil, lcsN_nil'] at this
          omega
        · rw [e] at hlt
          obtain ⟨x, y, hx, hy, h1, h2⟩ := mid_place n (i + 1) k (by omega) hi (by omega) t (by omega)
          refine ⟨x, y, hx, by omega, h1, ?_⟩
          have e2 : tabL a b (i + 1) (k + 1) = tabL a b (i + 1) k := by simp only [dst] at e; omega
          rw [e2, take_snoc' (l := b) (by omega), List.drop_append_of_le_length (l₁ := b.take k) (by simp; omega)]
          have := lcsN_append ((a.take (i + 1)).drop x) [] ((b.take k).drop y) [b.getD k 0]
          simp only [List.append_nil, lcsN_nil] at this
          omega
    · refine ⟨i + 1, k + 1, Nat.le_refl _, Nat.le_refl _, heq.symm, ?_⟩
      omega
theorem mid_at (t : Nat) (ht : (t : Int) ≤ dst a b a.length b.length) : ∃ x y, x ≤ a.length ∧ y ≤ b.length ∧ dst a b x y = t ∧ dst a b x y + dstR a b x y = dst a b a.length b.length := by
  obtain ⟨x, y, hx, hy, h1, h2⟩ := mid_place _ a.length b.length (Nat.le_refl _) (Nat.le_refl _) (Nat.le_refl _) t ht
  refine ⟨x, y, hx, hy, h1, ?_⟩
  have := dst_sum hx hy
  rw [dstR_lcs hx hy]
  rw [dstR_lcs hx hy] at this
  simp only [List.take_length] at h2
  simp only [dst] at this ⊢
  omega
theorem meet_at {e1 e2 : Nat} {k x x' : Int} (h1 : topD a b e1 k x) (h2 : topD a.reverse b.reverse e2 (a.length - b.length - k) x') (hx : 0 ≤ x) (hm : (a.length : Int) ≤ x + x') :
    ∃ p q : Nat, (p : Int) = x ∧ (q : Int) = x - k ∧ p ≤ a.length ∧ q ≤ b.length ∧ dst a b p q < e1 ∧ dstR a b p q < e2 := by
  obtain ⟨g1, g2, g3, g4, g5⟩ := topD_on h1 hx
  have hb := topD_on h2 (by omega)
  have hb2 := onD_le (y := a.length - x) (by omega) hb (by omega) (by omega)
  obtain ⟨_, _, _, _, q5⟩ := hb2
  refine ⟨x.toNat, (x - k).toNat, by omega, by omega, by omega, by omega, g5, ?_⟩
  unfold dstR
  have e3 : ((a.length : Int) - x).toNat = a.length - x.toNat := by omega
  have e4 : ((a.length : Int) - x - (a.length - b.length - k)).toNat = b.length - (x - k).toNat := by omega
  rw [e3, e4] at q5
  exact q5
theorem no_meet {d e2 : Nat} {far other : List Int} (hd : allTop a b (d + 1) far) (ho : allTop a.reverse b.reverse e2 other)
    (hno : ∀ k' : Int, (k' - d) % 2 = 0 → lowD d b.length ≤ k' → k' ≤ highD d a.length → ¬ ((a.length : Int) ≤ rch b.length far k' + rch b.length other (a.length - b.length - k'))) (he : e2 = d ∨ e2 = d + 1) :
    dst a b a.length b.length ≠ d + e2 - 1 := by
  intro h
  have hn := dst_nonneg (a := a) (b := b) a.length b.length
  obtain ⟨x, y, hx, hy, h1, h2⟩ := mid_at (a := a) (b := b) d (by omega)
  have hab := dst_abs (a := a) (b := b) x y
  have hpar : ((x : Int) - y - d) % 2 = 0 := by simp only [dst] at h1; omega
  have hlo := (low_facts d b.length).2.2.2.1 (x - y) hpar (by omega) (by omega)
  have hhi := (high_facts d a.length).2.2.2 (x - y) hpar (by omega) (by omega)
  refine hno (x - y) hpar hlo hhi ?_
  have t1 := topD_ge (hd.2 (x - y) (by omega) (by omega)) (x := x) ⟨by omega, by omega, by omega, by omega, by
    have e1 : (x : Int).toNat = x := by omega
    have e2 : ((x : Int) - (x - y)).toNat = y := by omega
    rw [e1, e2]; omega⟩
  have ho2 := ho.2 (a.length - b.length - (x - y)) (by simp only [len_rev]; omega) (by simp only [len_rev]; omega)
  simp only [len_rev] at ho2
  have t2 := topD_ge ho2 (x := a.length - x) ⟨by omega, by omega, by simp only [len_rev]; omega, by simp only [len_rev]; omega, by
    have e3 : ((a.length : Int) - x).toNat = a.length - x := by omega
    have e4 : ((a.length : Int) - x - (a.length - b.length - (x - y))).toNat = b.length - y := by omega
    rw [e3, e4]
    have : dstR a b x y = dst a.reverse b.reverse (a.length - x) (b.length - y) := rfl
    omega⟩
  omega
end
end Go.Proofs.YthpjjjnbkfnghaaGreatDoor
set_option linter.unusedVariables false
namespace Go.Proofs.YthpjjjnbkfnghaaGreatDoor
section
variable {a b : List Int}
theorem odd_iff : oddD a.length b.length = true ↔ (dst a b a.length b.length) % 2 = 1 := by
  unfold oddD
  rw [decide_eq_true_eq]
  have h : ((a.length : Int) - b.length).tmod 2 ≠ 0 ↔ ((a.length : Int) - b.length) % 2 ≠ 0 := by
    rw [ne_eq, ne_eq, ← Int.dvd_iff_tmod_eq_zero, ← Int.dvd_iff_emod_eq_zero]
  rw [h]
  simp only [dst]
  omega
theorem dst_rev : dst a.reverse b.reverse a.length b.length = dst a b a.length b.length := by
  have h1 := dst_lcs (a := a) (b := b) (Nat.le_refl _) (Nat.le_refl _)
  have h2 := dst_lcs (a := a.reverse) (b := b.reverse) (x := a.length) (y := b.length) (by simp) (by simp)
  rw [h1, h2, List.take_of_length_le (by simp), List.take_of_length_le (by simp), List.take_length, List.take_length, lcsN_rev]
theorem allTop_mid {d : Nat} {far : List Int} (h : allTop a b d far) : midTop a b d (lowD d b.length) far := by
  refine ⟨h.1, fun k' h1 h2 => ?_⟩
  have := h.2 k' h1 h2
  have hl := low_facts d b.length
  split
  · rename_i c
    rcases Int.lt_or_le k' (-(d : Int)) with g | g
    · rw [top_uniq this (top_out (a := a) (b := b) (by omega))]; exact top_out (by omega)
    · rcases Int.lt_or_le k' (-(b.length : Int)) with g2 | g2
      · rw [top_uniq this (top_out (a := a) (b := b) (by omega))]; exact top_out (by omega)
      · have := hl.2.2.2.1 k' c.1 g g2; omega
  · exact this
theorem mid_spec : ∀ (f d : Nat) (fwd bwd : List Int), allTop a b d fwd → allTop a.reverse b.reverse d bwd →
    ((dst a b a.length b.length) % 2 = 1 → 2 * (d : Int) - 1 ≤ dst a b a.length b.length) → ((dst a b a.length b.length) % 2 = 0 → 2 * (d : Int) ≤ dst a b a.length b.length) → dst a b a.length b.length + 1 < 2 * ((d : Int) + f) →
    ∃ p q : Nat, midF a b f d fwd bwd = some ((p : Int), (q : Int)) ∧ p ≤ a.length ∧ q ≤ b.length ∧ dst a b p q + dstR a b p q = dst a b a.length b.length ∧ dst a b p q ≤ dstR a b p q + 1 ∧ dstR a b p q ≤ dst a b p q
  | 0, d, fwd, bwd, hF, hB, ho, he, hf => by omega
  | f + 1, d, fwd, bwd, hF, hB, ho, he, hf => by
    have hl := low_facts d b.length
    have hh := high_facts d a.length
    have hhge : -1 ≤ highD d a.length := by
      unfold highD
      split
      · rw [tmod2 _ (by omega)]; omega
      · omega
    have hodd := odd_iff (a := a) (b := b)
    rcases step_spec (d := d) (chk := oddD a.length b.length) (other := bwd) (a.length + b.length + 3) (lowD d b.length) fwd (allTop_mid hF) hl.2.2.1 hl.1 hl.2.1 (by omega) (by omega) (fun k' _ _ h _ => by omega) with
      ⟨x, k', e, hc, ht, hx0, k1, k2, hm⟩ | ⟨fwd', e, hF', hno⟩
    · -- met, forth
      have ho1 := hodd.1 hc
      have hb := hB.2 (a.length - b.length - k') (by simp only [len_rev]; omega) (by simp only [len_rev]; omega)
      simp only [len_rev] at hb
      obtain ⟨p, q, hp, hq, p1, q1, g1, g2⟩ := meet_at ht hb hx0 hm
      have hs := dst_sum p1 q1
      have := ho ho1
      refine ⟨p, q, ?_, p1, q1, by omega, by omega, by omega⟩
      rw [midF, e]
      simp only [hp, hq]
    · have hlr := low_facts d b.reverse.length
      have hhr := high_facts d a.reverse.length
      simp only [len_rev] at hlr hhr
      have hl2 : lowD d b.length = lowD d b.reverse.length := by rw [len_rev]
      have hh2 : highD d a.length = highD d a.reverse.length := by rw [len_rev]
      rcases step_spec (a := a.reverse) (b := b.reverse) (d := d) (chk := !oddD a.length b.length) (other := fwd') (a.length + b.length + 3) (lowD d b.reverse.length) bwd (allTop_mid hB) (by simp only [len_rev]; exact hlr.2.2.1) (by simp only [len_rev]; exact hlr.1) (by simp only [len_rev]; exact hlr.2.1)
          (by simp only [len_rev]; omega) (by simp only [len_rev]; omega) (fun k' _ _ h _ => by omega) with
        ⟨x, k', e2, hc, ht, hx0, k1, k2, hm⟩ | ⟨bwd', e2, hB', hno2⟩
      · -- met, back
        simp only [len_rev] at e2 k1 k2 hm
        have hne : ¬ oddD a.length b.length = true := by simpa using hc
        have ho1 : ¬ (dst a b a.length b.length) % 2 = 1 := fun h => hne (hodd.2 h)
        have hb := hF'.2 (a.length - b.length - k') (by omega) (by omega)
        have ht2 : topD a.reverse.reverse b.reverse.reverse (d + 1) (a.reverse.length - b.reverse.length - k') (rch b.length fwd' (a.length - b.length - k')) := by
          simpa using hb
        obtain ⟨p, q, hp, hq, p1, q1, g1, g2⟩ := meet_at ht ht2 hx0 (by simp only [len_rev]; exact hm)
        simp only [len_rev] at p1 q1
        have e3 : dstR a.reverse b.reverse p q = dst a b (a.length - p) (b.length - q) := by
          unfold dstR; simp
        have e4 : dst a.reverse b.reverse p q = dstR a b (a.length - p) (b.length - q) := by
          unfold dstR
          rw [show a.length - (a.length - p) = p by omega, show b.length - (b.length - q) = q by omega]
        rw [e3] at g2
        rw [e4] at g1
        have hs := dst_sum (a := a) (b := b) (x := a.length - p) (y := b.length - q) (by omega) (by omega)
        have := he (by omega)
        refine ⟨a.length - p, b.length - q, ?_, by omega, by omega, by omega, by omega, by omega⟩
        have e2' : stepF a.reverse b.reverse (!oddD a.length b.length) fwd' (highD d a.length) (a.length + b.length + 3) (lowD d b.length) bwd = some (.inl (x, x - k')) := e2
        rw [midF, e]
        simp only
        rw [e2']
        simp only
        congr 2 <;> omega
      · -- none
        simp only [len_rev] at e2
        have hB2 : allTop a.reverse b.reverse (d + 1) bwd' := hB'
        have n1 : oddD a.length b.length = true → dst a b a.length b.length ≠ d + d - 1 := fun hc => by
          have := no_meet (e2 := d) hF' hB (fun k' h1 h2 h3 => hno k' h1 h2 h3 hc) (.inl rfl)
          exact this
        have n2 : oddD a.length b.length = false → dst a b a.length b.length ≠ d + (d + 1) - 1 := fun hc => by
          have hFr : allTop a.reverse.reverse b.reverse.reverse (d + 1) fwd' := by simpa using hF'
          have := no_meet (a := a.reverse) (b := b.reverse) (e2 := d + 1) hB' hFr (fun k' h1 h2 h3 => hno2 k' h1 h2 h3 (by simp [hc])) (.inr rfl)
          simp only [len_rev] at this
          rw [dst_rev] at this
          exact this
        obtain ⟨p, q, g1, g2⟩ := mid_spec f (d + 1) fwd' bwd' hF' hB' (fun h => by
            have := n1 (hodd.2 h)
            have := ho h
            omega) (fun h => by
            have := n2 (by
              cases hc : oddD a.length b.length with
              | false => rfl
              | true => have := hodd.1 hc; omega)
            have := he h
            omega) (by omega)
        refine ⟨p, q, ?_, g2⟩
        rw [midF, e]
        simp only
        rw [e2]
        exact g1
end
end Go.Proofs.YthpjjjnbkfnghaaGreatDoor
set_option linter.unusedVariables false
namespace Go.Proofs.YthpjjjnbkfnghaaGreatDoor
def prs (i j : Int) (n : Nat) : List (Int × Int) := (List.range n).map fun r : Nat => (i + (r : Int), j + (r : Int))
def shP (i j : Int) (l : List (Int × Int)) : List (Int × Int) := l.map fun p => (i + p.1, j + p.2)
def startR (n : Nat) : List Int := List.replicate n (-1)
def bh (a b : List Int) : Nat := bhd (a.drop (ahd a b)) (b.drop (ahd a b))
def core (a b : List Int) : List Int := (a.drop (ahd a b)).take (a.length - ahd a b - bh a b)
def coreR (a b : List Int) : List Int := (b.drop (ahd a b)).take (b.length - ahd a b - bh a b)
def cutF (a b : List Int) : Option (Int × Int) := midF a b (a.length + b.length + 1) 0 (startR (a.length + b.length + 3)) (startR (a.length + b.length + 3))
def stepP (g : List Int → List Int → List (Int × Int)) (a b : List Int) : List (Int × Int) :=
  if (core a b).length ≠ 0 ∧ (coreR a b).length ≠ 0 then
    match cutF (core a b) (coreR a b) with
    | none => []
    | some pq =>
      shP (ahd a b) (ahd a b) (g ((core a b).take pq.1.toNat) ((coreR a b).take pq.2.toNat)) ++
      shP (ahd a b + pq.1) (ahd a b + pq.2) (g ((core a b).drop pq.1.toNat) ((coreR a b).drop pq.2.toNat))
  else []
def findF : Nat → List Int → List Int → List (Int × Int)
  | 0, _, _ => []
  | f + 1, a, b => prs 0 0 (ahd a b) ++ (stepP (findF f) a b ++ prs ((a.length : Int) - bh a b) ((b.length : Int) - bh a b) (bh a b))
theorem findF_succ (f : Nat) (a b : List Int) : findF (f + 1) a b = prs 0 0 (ahd a b) ++ (stepP (findF f) a b ++ prs ((a.length : Int) - bh a b) ((b.length : Int) - bh a b) (bh a b)) := rfl
section
variable {a b : List Int}
theorem bh_le : ahd a b + bh a b ≤ a.length ∧ ahd a b + bh a b ≤ b.length := by
  have h1 := ahd_le a b
  have h2 := bhd_le (a.drop (ahd a b)) (b.drop (ahd a b))
  simp only [List.length_drop] at h2
  unfold bh
  omega
theorem core_len : (core a b).length = a.length - ahd a b - bh a b ∧ (coreR a b).length = b.length - ahd a b - bh a b := by
  have := bh_le (a := a) (b := b)
  constructor <;> simp only [core, coreR, List.length_take, List.length_drop] <;> omega
theorem core_split : a = a.take (ahd a b) ++ (core a b ++ a.drop (a.length - bh a b)) := by
  have h := bh_le (a := a) (b := b)
  rw [show a.drop (a.length - bh a b) = (a.drop (ahd a b)).drop (a.length - ahd a b - bh a b) by rw [List.drop_drop]; congr 1; omega]
  rw [core, List.take_append_drop, List.take_append_drop]
theorem coreR_split : b = b.take (ahd a b) ++ (coreR a b ++ b.drop (b.length - bh a b)) := by
  have h := bh_le (a := a) (b := b)
  rw [show b.drop (b.length - bh a b) = (b.drop (ahd a b)).drop (b.length - ahd a b - bh a b) by rw [List.drop_drop]; congr 1; omega]
  rw [coreR, List.take_append_drop, List.take_append_drop]
theorem getD_drop' (l : List Int) (i k : Nat) : (l.drop i).getD k 0 = l.getD (i + k) 0 := by simp [List.getD]
theorem getD_take' (l : List Int) {i k : Nat} (h : k < i) : (l.take i).getD k 0 = l.getD k 0 := by simp [List.getD, h]
theorem heads_same : a.take (ahd a b) = b.take (ahd a b) := by
  have h := bh_le (a := a) (b := b)
  refine list_ext_getD 0 (by simp only [List.length_take]; omega) fun k hk => ?_
  simp only [List.length_take] at hk
  rw [getD_take' _ (by omega), getD_take' _ (by omega)]
  exact (ahd_spec 0 a b).1 k (by omega)
theorem tails_same : a.drop (a.length - bh a b) = b.drop (b.length - bh a b) := by
  have h := bh_le (a := a) (b := b)
  refine list_ext_getD 0 (by simp only [List.length_drop]; omega) fun k hk => ?_
  simp only [List.length_drop] at hk
  rw [getD_drop', getD_drop']
  have := (bhd_spec 0 (a.drop (ahd a b)) (b.drop (ahd a b))).1 (bh a b - 1 - k) (by unfold bh at *; omega)
  simp only [List.length_drop, getD_drop'] at this
  rw [show ahd a b + (a.length - ahd a b - 1 - (bh a b - 1 - k)) = a.length - bh a b + k by omega,
    show ahd a b + (b.length - ahd a b - 1 - (bh a b - 1 - k)) = b.length - bh a b + k by omega] at this
  exact this
theorem core_ends (h1 : (core a b).length ≠ 0) (h2 : (coreR a b).length ≠ 0) :
    (core a b).getD 0 0 ≠ (coreR a b).getD 0 0 ∧ (core a b).getD ((core a b).length - 1) 0 ≠ (coreR a b).getD ((coreR a b).length - 1) 0 := by
  have h := bh_le (a := a) (b := b)
  have hl := core_len (a := a) (b := b)
  rw [hl.1] at h1
  rw [hl.2] at h2
  constructor
  · rw [core, coreR, getD_take' _ (by omega), getD_take' _ (by omega), getD_drop', getD_drop']
    exact (ahd_spec 0 a b).2 (by omega) (by omega)
  · rw [hl.1, hl.2, core, coreR, getD_take' _ (by omega), getD_take' _ (by omega), getD_drop', getD_drop']
    have := (bhd_spec 0 (a.drop (ahd a b)) (b.drop (ahd a b))).2 (by simp only [List.length_drop]; unfold bh at *; omega) (by simp only [List.length_drop]; unfold bh at *; omega)
    simp only [List.length_drop, getD_drop'] at this
    change a.getD (ahd a b + (a.length - ahd a b - 1 - bh a b)) 0 ≠ b.getD (ahd a b + (b.length - ahd a b - 1 - bh a b)) 0 at this
    rw [show a.length - ahd a b - 1 - bh a b = a.length - ahd a b - bh a b - 1 by omega, show b.length - ahd a b - 1 - bh a b = b.length - ahd a b - bh a b - 1 by omega] at this
    exact this
theorem lcs_core : lcsN a b = ahd a b + lcsN (core a b) (coreR a b) + bh a b := by
  have h := bh_le (a := a) (b := b)
  have e1 := core_split (a := a) (b := b)
  have e2 := coreR_split (a := a) (b := b)
  rw [← heads_same, ← tails_same] at e2
  have : lcsN a b = lcsN (a.take (ahd a b) ++ (core a b ++ a.drop (a.length - bh a b))) (a.take (ahd a b) ++ (coreR a b ++ a.drop (a.length - bh a b))) := by
    rw [← e1, ← e2]
  rw [this, lcsN_ahead, lcsN_behind]
  simp only [List.length_take, List.length_drop]
  omega
end
theorem sub_one {a b : List Int} (h : a.Sublist b) (hl : b.length = a.length + 1) : ∃ u v z, a = u ++ v ∧ b = u ++ z :: v := by
  induction h with
  | slnil => simp at hl
  | @cons l1 l2 x h ih =>
    simp only [List.length_cons] at hl
    have := h.eq_of_length (by omega)
    subst this
    exact ⟨[], l1, x, rfl, rfl⟩
  | @cons_cons l1 l2 x h ih =>
    simp only [List.length_cons] at hl
    obtain ⟨u, v, z, e1, e2⟩ := ih (by omega)
    exact ⟨x :: u, v, z, by rw [e1]; rfl, by rw [e2]; rfl⟩
theorem one_end {a b : List Int} (h : a.Sublist b) (hl : b.length = a.length + 1) (h0 : a.length ≠ 0) :
    a.getD 0 0 = b.getD 0 0 ∨ a.getD (a.length - 1) 0 = b.getD (b.length - 1) 0 := by
  obtain ⟨u, v, z, rfl, rfl⟩ := sub_one h hl
  cases u with
  | cons x u => left; rfl
  | nil =>
    right
    simp only [List.nil_append, List.length_cons] at h0 ⊢
    rw [show v.length + 1 - 1 = (v.length - 1) + 1 by omega]
    rfl
theorem two_apart {a b : List Int} (h1 : a.length ≠ 0) (h2 : b.length ≠ 0) (h3 : a.getD 0 0 ≠ b.getD 0 0) (h4 : a.getD (a.length - 1) 0 ≠ b.getD (b.length - 1) 0) :
    2 ≤ dst a b a.length b.length := by
  obtain ⟨c, g1, g2, g3⟩ := lcsN_some a b
  have l1 := g1.length_le
  have l2 := g2.length_le
  have hd : dst a b a.length b.length = (a.length : Int) + b.length - 2 * c.length := by rw [dst, g3]; rfl
  rw [hd]
  by_cases e1 : a.length = c.length
  · have := g1.eq_of_length e1.symm
    subst this
    by_cases e2 : b.length = c.length
    · have := g2.eq_of_length e2.symm
      subst this
      exact absurd rfl h3
    · by_cases e3 : b.length = c.length + 1
      · rcases one_end g2 e3 h1 with g | g
        · exact absurd g h3
        · exact absurd g h4
      · omega
  · by_cases e2 : b.length = c.length
    · have := g2.eq_of_length e2.symm
      subst this
      by_cases e3 : a.length = c.length + 1
      · rcases one_end g1 e3 h2 with g | g
        · exact absurd g.symm h3
        · exact absurd g.symm h4
      · omega
    · omega
theorem start_top (a b : List Int) : allTop a b 0 (startR (a.length + b.length + 3)) := by
  refine ⟨by simp [startR], fun k h1 h2 => .inl ⟨?_, fun x h => ?_⟩⟩
  · unfold rch startR
    simp only [List.getD]
    rw [List.getElem?_replicate, if_pos (by omega)]
    rfl
  · have := h.2.2.2.2
    have := dst_nonneg (a := a) (b := b) x.toNat (x - k).toNat
    omega
theorem cut_spec {a b : List Int} (h1 : a.length ≠ 0) (h2 : b.length ≠ 0) (h3 : a.getD 0 0 ≠ b.getD 0 0) (h4 : a.getD (a.length - 1) 0 ≠ b.getD (b.length - 1) 0) :
    ∃ p q : Nat, cutF a b = some ((p : Int), (q : Int)) ∧ p ≤ a.length ∧ q ≤ b.length ∧ 0 < p + q ∧ p + q < a.length + b.length ∧ lcsN (a.take p) (b.take q) + lcsN (a.drop p) (b.drop q) = lcsN a b := by
  have ht := two_apart h1 h2 h3 h4
  have hle := (tabL_le (a := a) (b := b) a.length b.length)
  have hd : dst a b a.length b.length = (a.length : Int) + b.length - 2 * lcsN a b := rfl
  have s2 := start_top a.reverse b.reverse
  simp only [len_rev] at s2
  obtain ⟨p, q, e, p1, q1, g1, g2, g3⟩ := mid_spec (a := a) (b := b) (a.length + b.length + 1) 0 _ _ (start_top a b) s2 (fun _ => by omega) (fun _ => by omega) (by omega)
  have e1 := dst_lcs (a := a) (b := b) p1 q1
  have e2 := dstR_lcs (a := a) (b := b) p1 q1
  refine ⟨p, q, e, p1, q1, ?_, ?_, by omega⟩
  · have := (lcsN_le (a.take p) (b.take q))
    omega
  · have : ¬ (p = a.length ∧ q = b.length) := fun ⟨x, y⟩ => by
      subst x; subst y
      simp only [List.drop_length, lcsN_nil] at e2
      omega
    omega
def inM (a b : List Int) (p : Int × Int) : Prop := 0 ≤ p.1 ∧ p.1 < a.length ∧ 0 ≤ p.2 ∧ p.2 < b.length ∧ a.getD p.1.toNat 0 = b.getD p.2.toNat 0
def isM (a b : List Int) (l : List (Int × Int)) : Prop := l.Pairwise (fun p q => p.1 < q.1 ∧ p.2 < q.2) ∧ ∀ p ∈ l, inM a b p
theorem isM_nil (a b : List Int) : isM a b [] := ⟨.nil, fun _ h => nomatch h⟩
theorem shP_len (i j : Int) (l : List (Int × Int)) : (shP i j l).length = l.length := by simp [shP]
theorem prs_len (i j : Int) (n : Nat) : (prs i j n).length = n := by simp [prs]
theorem shP_shP (i j i' j' : Int) (l : List (Int × Int)) : shP i j (shP i' j' l) = shP (i + i') (j + j') l := by
  simp only [shP, List.map_map]
  refine List.map_congr_left fun p _ => ?_
  simp only [Function.comp]
  congr 1 <;> omega
theorem shP_app (i j : Int) (l l' : List (Int × Int)) : shP i j (l ++ l') = shP i j l ++ shP i j l' := by simp [shP]
theorem shP_prs (i j i' j' : Int) (n : Nat) : shP i j (prs i' j' n) = prs (i + i') (j + j') n := by
  simp only [shP, prs, List.map_map]
  refine List.map_congr_left fun p _ => ?_
  simp only [Function.comp]
  congr 1 <;> omega
theorem shP_0 (l : List (Int × Int)) : shP 0 0 l = l := by
  simp only [shP, Int.zero_add]
  exact List.map_id l
theorem isM_app {a b a' b' : List Int} {l l' : List (Int × Int)} (h : isM a b l) (h' : isM a' b' l') : isM (a ++ a') (b ++ b') (l ++ shP a.length b.length l') := by
  constructor
  · refine List.pairwise_append.2 ⟨h.1, ?_, fun p hp q hq => ?_⟩
    · exact List.pairwise_map.2 (h'.1.imp fun {p q} hpq => by dsimp only; omega)
    · obtain ⟨r, hr, rfl⟩ := List.mem_map.1 hq
      have h1 := h.2 p hp
      have h2 := h'.2 r hr
      unfold inM at h1 h2
      dsimp only
      omega
  · intro p hp
    rcases List.mem_append.1 hp with hp | hp
    · have h1 := h.2 p hp
      unfold inM at *
      simp only [List.length_append]
      refine ⟨by omega, by omega, by omega, by omega, ?_⟩
      simp only [List.getD]
      rw [List.getElem?_append_left (by omega), List.getElem?_append_left (by omega)]
      exact h1.2.2.2.2
    · obtain ⟨r, hr, rfl⟩ := List.mem_map.1 hp
      have h1 := h'.2 r hr
      unfold inM at *
      simp only [List.length_append]
      refine ⟨by omega, by omega, by omega, by omega, ?_⟩
      simp only [List.getD]
      rw [List.getElem?_append_right (by omega), List.getElem?_append_right (by omega)]
      rw [show (a.length + r.1).toNat - a.length = r.1.toNat by omega, show (b.length + r.2).toNat - b.length = r.2.toNat by omega]
      exact h1.2.2.2.2
theorem isM_prs (a : List Int) : isM a a (prs 0 0 a.length) := by
  constructor
  · refine List.pairwise_map.2 (List.pairwise_lt_range.imp fun {p q} hpq => by dsimp only; omega)
  · intro p hp
    obtain ⟨r, hr, rfl⟩ := List.mem_map.1 hp
    have := List.mem_range.1 hr
    unfold inM
    dsimp only
    refine ⟨by omega, by omega, by omega, by omega, rfl⟩
theorem find_spec : ∀ (f : Nat) (a b : List Int), a.length + b.length < f →
    isM a b (findF f a b) ∧ (findF f a b).length = lcsN a b ∧ ∀ f', a.length + b.length < f' → findF f' a b = findF f a b
  | 0, a, b, h => by omega
  | f + 1, a, b, h => by
    have hb := bh_le (a := a) (b := b)
    have hl := core_len (a := a) (b := b)
    have e1 := core_split (a := a) (b := b)
    have e2 := coreR_split (a := a) (b := b)
    have hh := heads_same (a := a) (b := b)
    have ht := tails_same (a := a) (b := b)
    have hc := lcs_core (a := a) (b := b)
    have key : ∀ m, isM (core a b) (coreR a b) m → isM a b (prs 0 0 (ahd a b) ++ (shP (ahd a b) (ahd a b) m ++ prs ((a.length : Int) - bh a b) ((b.length : Int) - bh a b) (bh a b))) := by
      intro m hm
      have k1 := isM_prs (a.take (ahd a b))
      have k2 := isM_prs (a.drop (a.length - bh a b))
      have k3 := isM_app k1 (isM_app hm k2)
      simp only [List.length_take, List.length_drop, shP_app, shP_prs] at k3
      rw [Nat.min_eq_left (by omega), show a.length - (a.length - bh a b) = bh a b by omega] at k3
      rw [show a.take (ahd a b) ++ (coreR a b ++ a.drop (a.length - bh a b)) = b by rw [hh, ht]; exact e2.symm] at k3
      rw [← e1] at k3
      rw [show ((ahd a b : Nat) : Int) + ((core a b).length + 0) = a.length - bh a b by omega, show ((ahd a b : Nat) : Int) + ((coreR a b).length + 0) = b.length - bh a b by omega] at k3
      exact k3
    by_cases c : (core a b).length ≠ 0 ∧ (coreR a b).length ≠ 0
    · have hce := core_ends c.1 c.2
      obtain ⟨p, q, e, p1, q1, g1, g2, g3⟩ := cut_spec c.1 c.2 hce.1 hce.2
      have r1 := find_spec f ((core a b).take p) ((coreR a b).take q) (by simp only [List.length_take]; omega)
      have r2 := find_spec f ((core a b).drop p) ((coreR a b).drop q) (by simp only [List.length_drop]; omega)
      have ef : ∀ f', findF (f' + 1) a b = prs 0 0 (ahd a b) ++ (shP (ahd a b) (ahd a b) (findF f' ((core a b).take p) ((coreR a b).take q) ++ shP p q (findF f' ((core a b).drop p) ((coreR a b).drop q))) ++ prs ((a.length : Int) - bh a b) ((b.length : Int) - bh a b) (bh a b)) := fun f' => by
        rw [findF_succ, stepP, if_pos c, e]
        simp only [Int.toNat_natCast, shP_app, shP_shP]
      rw [ef]
      refine ⟨key _ ?_, ?_, fun f' hf' => ?_⟩
      · have := isM_app r1.1 r2.1
        simp only [List.length_take] at this
        rw [List.take_append_drop, List.take_append_drop, Nat.min_eq_left p1, Nat.min_eq_left q1] at this
        exact this
      · simp only [List.length_append, prs_len, shP_len, r1.2.1, r2.2.1]
        omega
      · cases f' with
        | zero => omega
        | succ f' =>
          rw [ef, r1.2.2 f' (by simp only [List.length_take]; omega), r2.2.2 f' (by simp only [List.length_drop]; omega)]
    · have ef : ∀ f', findF (f' + 1) a b = prs 0 0 (ahd a b) ++ (shP (ahd a b) (ahd a b) [] ++ prs ((a.length : Int) - bh a b) ((b.length : Int) - bh a b) (bh a b)) := fun f' => by
        rw [findF_succ, stepP, if_neg c]; rfl
      rw [ef]
      refine ⟨key _ (isM_nil _ _), ?_, fun f' hf' => ?_⟩
      · simp only [List.length_append, prs_len, shP_len, List.length_nil]
        rw [hc]
        have : lcsN (core a b) (coreR a b) = 0 := by
          have := lcsN_le (core a b) (coreR a b)
          omega
        omega
      · cases f' with
        | zero => omega
        | succ f' => rw [ef]
end Go.Proofs.YthpjjjnbkfnghaaGreatDoor
set_option linter.unusedVariables false
namespace Go.Proofs.YthpjjjnbkfnghaaGreatDoor
def plc (q : Int → Bool) : Int → List Int → List Int
  | _, [] => []
  | i, x :: l => if q x then i :: plc q (i + 1) l else plc q (i + 1) l
def shI (a b : List Int) : List Int := a.filter fun x => b.contains x
def shQ (a b : List Int) : List Int := plc (fun x => b.contains x) 0 a
theorem plc_snoc (q : Int → Bool) (x : Int) : ∀ (i : Int) (l : List Int), plc q i (l ++ [x]) = plc q i l ++ (if q x then [i + l.length] else [])
  | i, [] => by simp [plc]
  | i, y :: l => by
    have := plc_snoc q x (i + 1) l
    simp only [List.cons_append, plc, List.length_cons]
    rw [this, show i + 1 + (l.length : Int) = i + ((l.length + 1 : Nat) : Int) by omega]
    split <;> rfl
theorem plc_len (q : Int → Bool) : ∀ (i : Int) (l : List Int), (plc q i l).length = (l.filter q).length
  | i, [] => rfl
  | i, y :: l => by
    have := plc_len q (i + 1) l
    simp only [plc, List.filter_cons]
    split <;> simp [this]
theorem plc_mem (q : Int → Bool) : ∀ (i : Int) (l : List Int), ∀ p ∈ plc q i l, i ≤ p ∧ p < i + l.length
  | i, [], p, h => nomatch h
  | i, y :: l, p, h => by
    have := plc_mem q (i + 1) l p
    simp only [plc] at h
    simp only [List.length_cons]
    split at h
    · rcases List.mem_cons.1 h with h | h
      · omega
      · have := this h; omega
    · have := this h; omega
theorem plc_rise (q : Int → Bool) : ∀ (i : Int) (l : List Int), (plc q i l).Pairwise (· < ·)
  | i, [] => .nil
  | i, y :: l => by
    have := plc_rise q (i + 1) l
    simp only [plc]
    split
    · exact .cons (fun p hp => by have := plc_mem q (i + 1) l p hp; omega) this
    · exact this
theorem plc_at (q : Int → Bool) : ∀ (i : Int) (l : List Int) (k : Nat), k < (l.filter q).length → l.getD ((plc q i l).getD k 0 - i).toNat 0 = (l.filter q).getD k 0
  | i, [], k, h => by simp at h
  | i, y :: l, k, h => by
    simp only [plc, List.filter_cons] at h ⊢
    split at h
    · rename_i c
      simp only [c, if_true]
      cases k with
      | zero => simp
      | succ k =>
        simp only [List.length_cons] at h
        have := plc_at q (i + 1) l k (by omega)
        have hm := plc_mem q (i + 1) l ((plc q (i + 1) l).getD k 0) (by
          rw [gd_lt _ _ (by rw [plc_len]; omega)]; exact List.getElem_mem _)
        simp only [List.getD_cons_succ]
        rw [show ((plc q (i + 1) l).getD k 0 - i).toNat = ((plc q (i + 1) l).getD k 0 - (i + 1)).toNat + 1 by omega, List.getD_cons_succ]
        exact this
    · rename_i c
      simp only [c]
      have := plc_at q (i + 1) l k h
      have hm := plc_mem q (i + 1) l ((plc q (i + 1) l).getD k 0) (by
        rw [gd_lt _ _ (by rw [plc_len]; omega)]; exact List.getElem_mem _)
      simp only [Bool.false_eq_true, if_false]
      rw [show ((plc q (i + 1) l).getD k 0 - i).toNat = ((plc q (i + 1) l).getD k 0 - (i + 1)).toNat + 1 by omega, List.getD_cons_succ]
      exact this
theorem plc_lt {q : Int → Bool} {i : Int} {l : List Int} {k k' : Nat} (h : k < k') (h' : k' < (l.filter q).length) : (plc q i l).getD k 0 < (plc q i l).getD k' 0 := by
  have := List.pairwise_iff_getElem.1 (plc_rise q i l) k k' (by rw [plc_len]; omega) (by rw [plc_len]; omega) h
  rw [gd_lt _ _ (by rw [plc_len]; omega), gd_lt _ _ (by rw [plc_len]; omega)]
  exact this
def mapM (pa pb : List Int) (l : List (Int × Int)) : List (Int × Int) := l.map fun p => (pa.getD p.1.toNat 0, pb.getD p.2.toNat 0)
def matchF (a b : List Int) : List (Int × Int) := mapM (shQ a b) (shQ b a) (findF ((shI a b).length + (shI b a).length + 1) (shI a b) (shI b a))
theorem lcs_shared (a b : List Int) : lcsN (shI a b) (shI b a) = lcsN a b := by
  obtain ⟨c, h1, h2, h3⟩ := lcsN_some a b
  refine lcsN_eq ⟨c, ?_, ?_, h3⟩ fun d g1 g2 => ?_
  · have := h1.filter fun x => b.contains x
    rwa [List.filter_eq_self.2 fun x hx => by simpa using h2.subset hx] at this
  · have := h2.filter fun x => a.contains x
    rwa [List.filter_eq_self.2 fun x hx => by simpa using h1.subset hx] at this
  · exact lcsN_max (g1.trans List.filter_sublist) (g2.trans List.filter_sublist)
theorem match_spec (a b : List Int) : isM a b (matchF a b) ∧ (matchF a b).length = lcsN a b := by
  have h := find_spec ((shI a b).length + (shI b a).length + 1) (shI a b) (shI b a) (by omega)
  refine ⟨⟨?_, ?_⟩, by simp only [matchF, mapM, List.length_map]; rw [h.2.1, lcs_shared]⟩
  · refine List.pairwise_map.2 (h.1.1.imp_of_mem fun {p q} hp hq hpq => ?_)
    have h1 := h.1.2 p hp
    have h2 := h.1.2 q hq
    unfold inM shI at h1 h2
    exact ⟨plc_lt (by omega) (by omega), plc_lt (by omega) (by omega)⟩
  · intro p hp
    obtain ⟨r, hr, rfl⟩ := List.mem_map.1 hp
    have h1 := h.1.2 r hr
    unfold inM shI at h1
    have ma := plc_mem (fun x => b.contains x) 0 a ((shQ a b).getD r.1.toNat 0) (by
      unfold shQ
      rw [gd_lt _ _ (by rw [plc_len]; omega)]; exact List.getElem_mem _)
    have mb := plc_mem (fun x => a.contains x) 0 b ((shQ b a).getD r.2.toNat 0) (by
      unfold shQ
      rw [gd_lt _ _ (by rw [plc_len]; omega)]; exact List.getElem_mem _)
    have ea := plc_at (fun x => b.contains x) 0 a r.1.toNat (by omega)
    have eb := plc_at (fun x => a.contains x) 0 b r.2.toNat (by omega)
    unfold inM
    dsimp only
    refine ⟨by omega, by omega, by omega, by omega, ?_⟩
    rw [Int.sub_zero] at ea eb
    unfold shQ
    rw [ea, eb]
    exact h1.2.2.2.2
theorem rgt_isM {a b : List Int} : ∀ (l : List (Int × Int)) (u v : Int), isM a b l → (∀ p ∈ l, u < p.1 ∧ v < p.2) → rgt a b u v l = true
  | [], _, _, _, _ => rfl
  | p :: l, u, v, h, hu => by
    have h1 := h.2 p (List.mem_cons_self ..)
    have h2 := hu p (List.mem_cons_self ..)
    unfold inM at h1
    rw [rgt, Bool.and_eq_true, decide_eq_true_eq]
    refine ⟨⟨h2.1, h2.2, h1.2.1, h1.2.2.2.1, h1.2.2.2.2⟩, rgt_isM l _ _ ⟨(List.pairwise_cons.1 h.1).2, fun q hq => h.2 q (List.mem_cons_of_mem _ hq)⟩ fun q hq => (List.pairwise_cons.1 h.1).1 q hq⟩
theorem rgt_match (a b : List Int) : rgt a b (-1) (-1) (matchF a b) = true :=
  rgt_isM _ _ _ (match_spec a b).1 fun p hp => by have := (match_spec a b).1.2 p hp; unfold inM at this; omega
def distF (a b : List Int) : Int := a.length + b.length - 2 * (matchF a b).length
theorem distF_eq (a b : List Int) : distF a b = a.length + b.length - 2 * lcsN a b := by rw [distF, (match_spec a b).2]
end Go.Proofs.YthpjjjnbkfnghaaGreatDoor
set_option linter.unusedSimpArgs false
set_option linter.unusedVariables false
namespace Go.Proofs.YthpjjjnbkfnghaaGreatDoor
theorem num_two (a b : List BS) : ∃ φ : BS → Int, numA a b = a.map φ ∧ numB a b = b.map φ ∧ ∀ x y, (x ∈ a ∨ x ∈ b) → (y ∈ a ∨ y ∈ b) → φ x = φ y → x = y := by
  obtain ⟨φ, e, inj⟩ := num_three a b []
  simp only [numF, List.map_nil, List.cons.injEq] at e
  refine ⟨φ, ?_, ?_, fun x y hx hy => inj x y (hx.elim .inl fun h => .inr (.inl h)) (hy.elim .inl fun h => .inr (.inl h))⟩
  · unfold numA
    simp only [numF, List.getD_cons_zero]
    exact e.1
  · unfold numB
    simp only [numF, List.getD_cons_zero, List.getD_cons_succ]
    exact e.2.1
theorem tab_map {x y : List BS} {φ ψ : BS → Int} (h : ∀ u v, u ∈ x → v ∈ y → (φ u = φ v ↔ ψ u = ψ v)) : ∀ (n i k : Nat), i + k ≤ n → i ≤ x.length → k ≤ y.length → tabL (x.map φ) (y.map φ) i k = tabL (x.map ψ) (y.map ψ) i k
  | _, 0, k, _, _, _ => by rw [tabL_0, tabL_0]
  | _, i + 1, 0, _, _, _ => by rw [tabL_i0, tabL_i0]
  | 0, i + 1, k + 1, hn, _, _ => by omega
  | n + 1, i + 1, k + 1, hn, hi, hk => by
    have e1 := tab_map h n i k (by omega) (by omega) (by omega)
    have e2 := tab_map h n i (k + 1) (by omega) (by omega) hk
    have e3 := tab_map h n (i + 1) k (by omega) hi (by omega)
    have hx := map_getD φ 0 (show i < x.length by omega)
    have hy := map_getD φ 0 (show k < y.length by omega)
    have hx' := map_getD ψ 0 (show i < x.length by omega)
    have hy' := map_getD ψ 0 (show k < y.length by omega)
    have hh := h _ _ (getD_mem (show i < x.length by omega)) (getD_mem (show k < y.length by omega))
    by_cases c : φ (x.getD i []) = φ (y.getD k [])
    · rw [tabL_eq (by rw [hx, hy]; exact c), tabL_eq (by rw [hx', hy']; exact hh.1 c), e1]
    · rw [tabL_ne (by rw [hx, hy]; exact c), tabL_ne (by rw [hx', hy']; exact fun d => c (hh.2 d)), e2, e3]
theorem lcs_map {x y : List BS} {φ ψ : BS → Int} (h : ∀ u v, u ∈ x → v ∈ y → (φ u = φ v ↔ ψ u = ψ v)) : lcsN (x.map φ) (y.map φ) = lcsN (x.map ψ) (y.map ψ) := by
  unfold lcsN
  simp only [List.length_map]
  exact tab_map h _ _ _ (Nat.le_refl _) (Nat.le_refl _) (Nat.le_refl _)
theorem rgt_map {x y : List BS} {φ ψ : BS → Int} (h : ∀ u v, u ∈ x → v ∈ y → (φ u = φ v ↔ ψ u = ψ v)) : ∀ (l : List (Int × Int)) (u v : Int), -1 ≤ u → -1 ≤ v → rgt (x.map φ) (y.map φ) u v l = true → rgt (x.map ψ) (y.map ψ) u v l = true
  | [], _, _, _, _, _ => rfl
  | p :: l, u, v, hu, hv, g => by
    rw [rgt, Bool.and_eq_true, decide_eq_true_eq] at g ⊢
    obtain ⟨⟨g1, g2, g3, g4, g5⟩, g6⟩ := g
    simp only [List.length_map] at g3 g4
    have k1 : p.1.toNat < x.length := by omega
    have k2 : p.2.toNat < y.length := by omega
    rw [map_getD φ 0 k1, map_getD φ 0 k2] at g5
    refine ⟨⟨g1, g2, by simpa using g3, by simpa using g4, ?_⟩, rgt_map h l _ _ (by omega) (by omega) g6⟩
    rw [map_getD ψ 0 k1, map_getD ψ 0 k2]
    exact (h _ _ (getD_mem k1) (getD_mem k2)).1 g5
def prsF (x y : List BS) : List (Int × Int) := matchF (numA x y) (numB x y)
theorem prs_by {x y : List BS} {φ : BS → Int} (inj : ∀ u v, u ∈ x → v ∈ y → φ u = φ v → u = v) : rgt (x.map φ) (y.map φ) (-1) (-1) (prsF x y) = true ∧ (prsF x y).length = lcsN (x.map φ) (y.map φ) := by
  obtain ⟨ψ, e1, e2, i2⟩ := num_two x y
  have h : ∀ u v, u ∈ x → v ∈ y → (ψ u = ψ v ↔ φ u = φ v) := fun u v hu hv => ⟨fun e => by rw [i2 u v (.inl hu) (.inr hv) e], fun e => by rw [inj u v hu hv e]⟩
  unfold prsF
  rw [e1, e2]
  exact ⟨rgt_map h _ _ _ (Int.le_refl _) (Int.le_refl _) (rgt_match _ _), by rw [(match_spec _ _).2, lcs_map h]⟩
theorem prsF_len (x y : List BS) : (prsF x y).length ≤ x.length ∧ (prsF x y).length ≤ y.length := by
  unfold prsF
  rw [(match_spec _ _).2]
  have := lcsN_le (numA x y) (numB x y)
  rw [numA_len, numB_len] at this
  exact this
theorem prs_three (f : Fl) : mtch f (prsF f.1 f.2.1) (prsF f.1 f.2.2) ∧ (prsF f.1 f.2.1).length = lcsN ((numF [] [f.1, f.2.1, f.2.2]).getD 0 []) ((numF [] [f.1, f.2.1, f.2.2]).getD 1 []) ∧ (prsF f.1 f.2.2).length = lcsN ((numF [] [f.1, f.2.1, f.2.2]).getD 0 []) ((numF [] [f.1, f.2.1, f.2.2]).getD 2 []) := by
  obtain ⟨φ, e, inj⟩ := num_three f.1 f.2.1 f.2.2
  have h1 := prs_by (x := f.1) (y := f.2.1) (φ := φ) fun u v hu hv => inj u v (.inl hu) (.inr (.inl hv))
  have h2 := prs_by (x := f.1) (y := f.2.2) (φ := φ) fun u v hu hv => inj u v (.inl hu) (.inr (.inr hv))
  unfold mtch
  rw [e]
  simp only [List.getD_cons_zero, List.getD_cons_succ]
  exact ⟨⟨h1.1, h2.1⟩, h1.2, h2.2⟩
def mrgK (f : Fl) : List Ck := cksF f (prsF f.1 f.2.1) (prsF f.1 f.2.2)
theorem mrg_ch (f : Fl) : chF (0, 0, 0) none (mrgK f) (endP f) := cks_ch (prs_three f).1
theorem mrg_good (f : Fl) : ∀ c ∈ mrgK f, goodC f c := cks_good (prs_three f).1
theorem longL_leM {l : List BS} {n : Nat} (h : ∀ x ∈ l, runL x ≤ n) : longL l ≤ n := by
  unfold longL
  have key : ∀ (l : List BS) (m : Nat), m ≤ n → (∀ x ∈ l, runL x ≤ n) → l.foldl (fun n x => max n (runL x)) m ≤ n := by
    intro l
    induction l with
    | nil => exact fun m hm _ => hm
    | cons x l ih =>
      intro m hm hl
      rw [List.foldl_cons]
      exact ih _ (Nat.max_le.2 ⟨hm, hl x (List.mem_cons_self ..)⟩) fun y hy => hl y (List.mem_cons_of_mem _ hy)
  exact key l 0 (Nat.zero_le _) h
theorem longT_leM {l : List BS} {n : Nat} (h : ∀ s ∈ l, longL (splitL s) ≤ n) : longT l ≤ n := by
  unfold longT
  have key : ∀ (l : List BS) (m : Nat), m ≤ n → (∀ x ∈ l, longL (splitL x) ≤ n) → l.foldl (fun n s => max n (longL (splitL s))) m ≤ n := by
    intro l
    induction l with
    | nil => exact fun m hm _ => hm
    | cons x l ih =>
      intro m hm hl
      rw [List.foldl_cons]
      exact ih _ (Nat.max_le.2 ⟨hm, hl x (List.mem_cons_self ..)⟩) fun y hy => hl y (List.mem_cons_of_mem _ hy)
  exact key l 0 (Nat.zero_le _) h
theorem longT_mem {l : List BS} {s : BS} (h : s ∈ l) : longL (splitL s) ≤ longT l := by
  unfold longT
  have key : ∀ (l : List BS) (m : Nat), m ≤ l.foldl (fun n s => max n (longL (splitL s))) m ∧ ∀ s ∈ l, longL (splitL s) ≤ l.foldl (fun n s => max n (longL (splitL s))) m := by
    intro l
    induction l with
    | nil => exact fun m => ⟨Nat.le_refl _, fun s hs => by simp at hs⟩
    | cons x l ih =>
      intro m
      rw [List.foldl_cons]
      obtain ⟨h1, h2⟩ := ih (max m (longL (splitL x)))
      refine ⟨by omega, fun s hs => ?_⟩
      rcases List.mem_cons.1 hs with rfl | hs
      · omega
      · exact h2 s hs
  exact (key l 0).2 s h
def shrt (m : Nat) (s : BS) : Prop := ∀ x ∈ splitL s, runL x < m
def ftP (m : Nat) (p : Pt) : Prop := ∀ s ∈ fourP p, shrt m s
theorem shrt_nil (m : Nat) : shrt m [] := fun x hx => by simp [splitL] at hx
theorem ft_text {m : Nat} {t : BS} (h : shrt m t) : ftP m (textP t) := by
  intro s hs
  simp only [fourP, textP, List.mem_cons, List.not_mem_nil, or_false] at hs
  rcases hs with rfl | rfl | rfl | rfl
  · exact h
  · exact shrt_nil m
  · exact shrt_nil m
  · exact shrt_nil m
theorem ft_tx {m : Nat} {p : Pt} (h : ftP m p) : shrt m (txP p) := h _ (by simp [fourP, txP])
theorem shrt_app {m : Nat} {a b : BS} (ha : shrt m a) (hb : shrt m b) (he : a = [] ∨ endsL a = true) : shrt m (a ++ b) := by
  intro x hx
  rw [splitL_app b he] at hx
  rcases List.mem_append.1 hx with hx | hx
  · exact ha x hx
  · exact hb x hx
theorem Sr_last {m : List Pt} {q : Pt} (h : SrP (m ++ [q])) (hq : isTextD q = true) : endsL (txP q) = true := by
  have := h m.length (by simp)
  unfold okS at this
  rw [snocPt] at this
  simp only [Bool.and_eq_true, Bool.or_eq_true] at this
  rcases this.2 with h1 | h1
  · rw [conf_noText h1] at hq; cases hq
  · unfold aheadD at h1
    simp only [Bool.and_eq_true, Bool.or_eq_true] at h1
    simpa using h1.2.2
theorem join_ft {m : Nat} {out : List Pt} {p : Pt} (h : ∀ q ∈ out, ftP m q) (hs : SrP out) (hp : ftP m p) : ∀ q ∈ joinR out p, ftP m q := by
  cases ht : isTextD p with
  | false =>
    rw [join_no ht]
    intro q hq
    rcases List.mem_append.1 hq with hq | hq
    · exact h q hq
    · simp only [List.mem_singleton] at hq
      subst hq
      exact hp
  | true =>
    rcases join_cases out p ht with ⟨_, e⟩ | ⟨h0, ⟨n, q, rfl, hq, e⟩ | ⟨hl, e⟩⟩
    · rw [e]; exact h
    · rw [e]
      intro r hr
      rcases List.mem_append.1 hr with hr | hr
      · exact h r (List.mem_append_left _ hr)
      · simp only [List.mem_singleton] at hr
        subst hr
        exact ft_text (shrt_app (ft_tx (h q (by simp))) (ft_tx hp) (.inr (Sr_last hs hq)))
    · rw [e]
      intro q hq
      rcases List.mem_append.1 hq with hq | hq
      · exact h q hq
      · simp only [List.mem_singleton] at hq
        subst hq
        exact hp
theorem fold_ft {m : Nat} : ∀ (l out : List Pt), SrP out → (∀ q ∈ out, ftP m q) → (∀ p ∈ l, confD p = true ∨ (isTextD p = true ∧ (txP p = [] ∨ endsL (txP p) = true))) → (∀ p ∈ l, ftP m p) → ∀ q ∈ l.foldl joinR out, ftP m q
  | [], _, _, h, _, _ => h
  | p :: l, out, hs, h, hl, hf => fold_ft l _ (join_Sr hs (hl p (List.mem_cons_self ..))) (join_ft h hs (hf p (List.mem_cons_self ..))) (fun q hq => hl q (List.mem_cons_of_mem p hq)) fun q hq => hf q (List.mem_cons_of_mem p hq)
theorem of_ft {m : Nat} {l : List Pt} (h2 : ∀ p ∈ l.dropLast, confD p = true ∨ (isTextD p = true ∧ (txP p = [] ∨ endsL (txP p) = true))) (hf : ∀ p ∈ l, ftP m p) : ∀ q ∈ ofD l, ftP m q := by
  rw [ofD_eq]
  rcases l.eq_nil_or_concat with rfl | ⟨n, p, rfl⟩
  · intro q hq; simp at hq
  · rw [List.concat_eq_append] at *
    rw [List.dropLast_concat] at h2
    rw [List.foldl_append]
    exact join_ft (fold_ft n [] (fun i hi => by simp at hi) (fun q hq => by simp at hq) h2 fun q hq => hf q (by simp [hq])) (fold_Sr n [] (fun i hi => by simp at hi) h2) (hf p (by simp))
theorem fits_ft {m : Nat} (hm : 0 < m) {d : List Pt} (h : ∀ p ∈ d, ftP m p) : fitsD d m = true := by
  unfold fitsD
  rw [Bool.and_eq_true, decide_eq_true_eq, decide_eq_true_eq]
  refine ⟨by omega, fun p hp => ?_⟩
  have := longT_leM (l := fourP p) (n := m - 1) fun s hs => longL_leM fun x hx => by
    have := h p hp s hs x hx
    omega
  omega
theorem whole_cut {l : List BS} (h : wholeL l = true) (i j : Nat) (hj : j ≤ l.length) : wholeL (cutL l i j) = true := by
  rw [wholeL_iff] at h ⊢
  intro k hk
  rw [cutL_len' l hj] at hk ⊢
  rw [cutL_at hk hj]
  obtain ⟨h1, h2⟩ := h (i + k) (by omega)
  exact ⟨h1, fun h3 => h2 (by omega)⟩
theorem whole_take {l : List BS} (h : wholeL l = true) {n : Nat} (hn : n ≤ l.length) : wholeL (l.take n) = true := by
  have := whole_cut h 0 n hn
  simpa [cutL] using this
theorem whole_drop {l : List BS} (h : wholeL l = true) (n : Nat) : wholeL (l.drop n) = true := by
  have := whole_cut h n l.length (Nat.le_refl _)
  simpa [cutL] using this
theorem whole_cutS {l : List BS} (h : wholeL l = true) (s : Sp) : wholeL (cutS s l) = true := by
  unfold cutS
  split
  · rfl
  · rename_i hc
    exact whole_cut h _ _ (by omega)
theorem cutS_mem {l : List BS} {s : Sp} {x : BS} (h : x ∈ cutS s l) : x ∈ l := by
  unfold cutS at h
  split at h
  · simp at h
  · exact List.mem_of_mem_take (List.mem_of_mem_drop h)
theorem shrt_whole {m : Nat} {l : List BS} (hw : wholeL l = true) (h : ∀ x ∈ l, runL x < m) : shrt m l.flatten := by
  unfold shrt
  rw [wholeL_split l hw]
  exact h
def shF (m : Nat) (f : Fl) : Prop := (∀ x ∈ f.1, runL x < m) ∧ (∀ x ∈ f.2.1, runL x < m) ∧ ∀ x ∈ f.2.2, runL x < m
theorem ckPs_ft {m : Nat} {f : Fl} (hw : wholeF f) (hs : shF m f) (st : Int) (lb : BS × BS × BS) (v : Int) (c : Ck) : ∀ p ∈ ckPs f st lb v c, ftP m p := by
  have wB : wholeL (cutB f c) = true := whole_cutS hw.1 _
  have wO : wholeL (cutO f c) = true := whole_cutS hw.2.1 _
  have wT : wholeL (cutT f c) = true := whole_cutS hw.2.2 _
  have sB : ∀ x ∈ cutB f c, runL x < m := fun x hx => hs.1 x (cutS_mem hx)
  have sO : ∀ x ∈ cutO f c, runL x < m := fun x hx => hs.2.1 x (cutS_mem hx)
  have sT : ∀ x ∈ cutT f c, runL x < m := fun x hx => hs.2.2 x (cutS_mem hx)
  unfold ckPs
  split
  · have hh := hoist_le st (cutO f c) (cutT f c)
    intro p hp
    simp only [confL, List.mem_cons, List.not_mem_nil, or_false] at hp
    rcases hp with rfl | rfl | rfl
    · exact ft_text (shrt_whole (whole_take wO (by omega)) fun x hx => sO x (List.mem_of_mem_take hx))
    · intro s hs
      simp only [fourP, confP, List.mem_cons, List.not_mem_nil, or_false] at hs
      rcases hs with rfl | rfl | rfl | rfl
      · exact shrt_nil m
      · exact shrt_whole (whole_cut wO _ _ (by omega)) fun x hx => sO x (List.mem_of_mem_take (List.mem_of_mem_drop hx))
      · split
        · exact shrt_nil m
        · exact shrt_whole wB sB
      · exact shrt_whole (whole_cut wT _ _ (by omega)) fun x hx => sT x (List.mem_of_mem_take (List.mem_of_mem_drop hx))
    · exact ft_text (shrt_whole (whole_drop wO _) fun x hx => sO x (List.mem_of_mem_drop hx))
  · intro p hp
    simp only [List.mem_singleton] at hp
    subst hp
    refine ft_text ?_
    unfold sideF
    split
    · exact shrt_whole wB sB
    · split
      · exact shrt_whole wT sT
      · split
        · exact shrt_whole wT sT
        · exact shrt_whole wO sO
theorem doc_fits {m : Nat} (hm : 0 < m) {f : Fl} (hw : wholeF f) (hs : shF m f) {L : List Ck} (hc : chF (0, 0, 0) none L (endP f)) (hg : ∀ c ∈ L, goodC f c) {st : Int} {lb : BS × BS × BS} {v : Int} (hp : plainLb lb = true) : fitsD (ofD (L.flatMap (ckPs f st lb v))) m = true := by
  refine fits_ft hm (of_ft (fun p h => ?_) fun p h => ?_)
  · have hends := ch_ends hw L (0, 0, 0) none hc (leP_refl _) hg
    have hin := ch_in hc
    rcases L.eq_nil_or_concat with rfl | ⟨n, c, rfl⟩
    · simp at h
    · rw [List.concat_eq_append] at h hends hin
      rw [List.flatMap_append, dropLast_app _ _ (by simpa using ckPs_ne f st lb v c)] at h
      rcases List.mem_append.1 h with h | h
      · obtain ⟨d, hd, hd2⟩ := List.mem_flatMap.1 h
        exact ckPs_end hp (hends d (by simpa using hd)) p hd2
      · have h : p ∈ (ckPs f st lb v c).dropLast := by simpa using h
        exact ckPs_last hw hp (hin c (by simp)) p h
  · obtain ⟨c, _, hc2⟩ := List.mem_flatMap.1 h
    exact ckPs_ft hw hs st lb v c p hc2
theorem spanO (f : Fl) : ((mrgK f).map (cutO f)).flatten = f.2.1 := span_all cmpO (mrg_ch f) rfl
theorem spanT (f : Fl) : ((mrgK f).map (cutT f)).flatten = f.2.2 := span_all cmpT (mrg_ch f) rfl
theorem spanB (f : Fl) : ((mrgK f).map (cutB f)).flatten = f.1 := span_all cmpB (mrg_ch f) rfl
theorem cut3 {O : List BS} {u j : Nat} (h : u ≤ j) : (O.take u).flatten.length + (cutL O u j).flatten.length + (O.drop j).flatten.length = O.flatten.length := by
  have e : O.take u ++ cutL O u j ++ O.drop j = O := by
    have h1 : O.take u = cutL O 0 u := by simp [cutL]
    have h2 : cutL O 0 j = O.take j := by simp [cutL]
    rw [h1, cutL_join O (Nat.zero_le _) h, h2, List.take_append_drop]
  have := congrArg (fun l : List BS => l.flatten.length) e
  simp only [List.flatten_append, List.length_append] at this
  exact this
theorem sumT_le {f : Fl} (st : Int) (lb : BS × BS × BS) (v : Int) (c : Ck) : sumT (ckPs f st lb v c) ≤ (cutB f c).flatten.length + (cutO f c).flatten.length + (cutT f c).flatten.length := by
  unfold ckPs
  split
  · have hh := hoist_le st (cutO f c) (cutT f c)
    have e : sumT (confL f c st lb) = ((cutO f c).take (hoistF st (cutO f c) (cutT f c)).1).flatten.length + ((cutO f c).drop ((cutO f c).length - (hoistF st (cutO f c) (cutT f c)).2)).flatten.length := by
      unfold sumT confL
      simp [textP, txP, confP]
    have e2 := cut3 (O := cutO f c) (u := (hoistF st (cutO f c) (cutT f c)).1) (j := (cutO f c).length - (hoistF st (cutO f c) (cutT f c)).2) (by omega)
    rw [e]
    omega
  · rw [sumT_one]
    show (sideF f c (clsF f c) v).flatten.length ≤ _
    unfold sideF
    split
    · omega
    · split
      · omega
      · split <;> omega
theorem sumT_mrg (f : Fl) (st : Int) (lb : BS × BS × BS) (v : Int) : sumT ((mrgK f).flatMap (ckPs f st lb v)) ≤ f.1.flatten.length + f.2.1.flatten.length + f.2.2.flatten.length := by
  have key : ∀ L : List Ck, sumT (L.flatMap (ckPs f st lb v)) ≤ (L.map (cutB f)).flatten.flatten.length + (L.map (cutO f)).flatten.flatten.length + (L.map (cutT f)).flatten.flatten.length := by
    intro L
    induction L with
    | nil => simp [sumT]
    | cons c L ih =>
      have := sumT_le (f := f) st lb v c
      simp only [List.flatMap_cons, sumT_app, List.map_cons, List.flatten_cons, List.flatten_append, List.length_append]
      omega
  have := key (mrgK f)
  rw [spanB, spanO, spanT] at this
  exact this
end Go.Proofs.YthpjjjnbkfnghaaGreatDoor
set_option linter.unusedSimpArgs false
set_option linter.unusedVariables false
set_option maxRecDepth 100000
set_option maxHeartbeats 2000000
namespace Go.Proofs.YthpjjjnbkfnghaaGreatDoor
open Go
attribute [local irreducible] AW AVle ASle RowLe
abbrev eFl : El Fl := eP (eL eS) (eP (eL eS) (eL eS))
def okFl (f : Fl) : Prop := (f.1.length ≤ 10000000 ∧ f.1.flatten.length ≤ 10000000) ∧ (f.2.1.length ≤ 10000000 ∧ f.2.1.flatten.length ≤ 10000000) ∧ f.2.2.length ≤ 10000000 ∧ f.2.2.flatten.length ≤ 10000000
def sIsSty : Spec := Spec.f1 kI (fun _ => True) (fun n => kB.enc (styOK n))
theorem okIsSty : SpecOK Tryz.prog 157 sIsSty := by
  refine SpecOK.f1 Tryz.func157 rfl (by decide) Tryz.results157 Tryz.ntmps157 (by decide) fun n _ => ?_
  have hΓ : GOK Tryz.prog (gam []) := GOK.nil
  refine AW.of hΓ mixed [] _ _ _ rfl ?_
  simp only [go_sem]
  refine ⟨fun h => by rw [decide_eq_false h]; rfl, fun h => by rw [h]; rfl, ?_⟩
  unfold styOK
  rw [Bool.or_assoc]
def sIsFav : Spec := Spec.f1 kI (fun _ => True) (fun n => kB.enc (favOK n))
theorem okIsFav : SpecOK Tryz.prog 158 sIsFav := by
  refine SpecOK.f1 Tryz.func158 rfl (by decide) Tryz.results158 Tryz.ntmps158 (by decide) fun n _ => ?_
  have hΓ : GOK Tryz.prog (gam []) := GOK.nil
  refine AW.of hΓ mixed [] _ _ _ rfl ?_
  simp only [go_sem]
  refine ⟨fun h => by rw [decide_eq_false h]; rfl, fun h => by rw [h]; rfl, ?_⟩
  unfold favOK
  rw [Bool.or_assoc]
def sTextB : Spec := Spec.f1 (kL eS) okLs (fun l => (kA ePt).enc (textP l.flatten))
theorem okTextB : SpecOK Tryz.prog 161 sTextB := by
  refine SpecOK.f1 Tryz.func161 rfl (by decide) Tryz.results161 Tryz.ntmps161 (by decide) fun l hl => ?_
  have hΓ : GOK Tryz.prog (gam [(53, sJoin)]) := (.cons okJoin .nil)
  refine AW.of hΓ mixed [] _ _ _ rfl ?_
  simp only [go_sem, sJoin]
  exact ⟨hl, pt_le rfl rfl rfl rfl rfl rfl rfl rfl rfl⟩
def sSideB : Spec := Spec.f4 (kA eFl) (kA eCk) kI kI (fun f _ _ _ => okFl f) (fun f c k v => sL eS (sideF f c k v))
theorem okSideB : SpecOK Tryz.prog 162 sSideB := by
  refine SpecOK.f4 Tryz.func162 rfl (by decide) Tryz.results162 Tryz.ntmps162 (by decide) fun f c k v ⟨hf1, hf2, hf3⟩ => ?_
  have hΓ : GOK Tryz.prog (gam [(199, sCutK)]) := (.cons okCutK .nil)
  obtain ⟨fb, fl, fr⟩ := f
  obtain ⟨cs, ⟨cb1, cb2⟩, ⟨cl1, cl2⟩, cr1, cr2⟩ := c
  dsimp only at hf1 hf2 hf3
  unfold sideF cutB cutT cutO
  refine AW.of hΓ mixed [99999] _ _ _ rfl ?_
  simp only [go_sem, sCutK]
  refine ⟨fun h => ⟨by omega, by rw [if_pos h]; exact AVle.refl _⟩, fun h => ⟨fun h2 => ⟨by omega, by rw [if_neg h, if_pos h2]; exact AVle.refl _⟩, fun h2 => ⟨fun h3 => ⟨fun h4 => ⟨by omega, by rw [if_neg h, if_neg h2, if_pos ⟨h3, h4⟩]; exact AVle.refl _⟩, fun h4 => ⟨by omega, by rw [if_neg h, if_neg h2, if_neg fun e => h4 e.2]; exact AVle.refl _⟩⟩, fun h3 => ⟨by omega, by rw [if_neg h, if_neg h2, if_neg fun e => h3 e.1]; exact AVle.refl _⟩⟩⟩⟩
def sHoistB : Spec := Spec.f2 (kL eS) (kL eS) (fun a b => a.length < 1000000000 ∧ b.length < 1000000000) (fun a b => tu2 (kI.enc (ahd a b)) (kI.enc (bhd (a.drop (ahd a b)) (b.drop (ahd a b)))))
theorem okHoistB : SpecOK Tryz.prog 201 sHoistB := by
  refine SpecOK.f2 Tryz.func201 rfl (by decide) Tryz.results201 Tryz.ntmps201 (by decide) fun a b ⟨ha, hb⟩ => ?_
  have hΓ : GOK Tryz.prog (gam [(231, sEndsS)]) := (.cons okEndsS .nil)
  refine AW.of hΓ mixed [] _ _ _ rfl ?_
  simp only [go_sem, sEndsS]
  exact ⟨ha, hb⟩
theorem sub_flat {a b : List BS} (h : a.Sublist b) : a.flatten.length ≤ b.flatten.length := by
  induction h with
  | slnil => exact Nat.le_refl _
  | cons x _ ih => rw [List.flatten_cons, List.length_append]; omega
  | cons_cons x _ ih => rw [List.flatten_cons, List.flatten_cons, List.length_append, List.length_append]; omega
theorem okLs_sub {a b : List BS} (h : a.Sublist b) (h1 : b.length ≤ 10000000) (h2 : b.flatten.length ≤ 10000000) : okLs a := by
  have := h.length_le
  have := sub_flat h
  exact ⟨by omega, by omega⟩
theorem cutS_sub (s : Sp) (l : List BS) : (cutS s l).Sublist l := by
  unfold cutS
  split
  · exact List.nil_sublist _
  · exact (List.drop_sublist _ _).trans (List.take_sublist _ _)
theorem pt_box {ver ety : Nat} {ll bl rl : BS} {h : Bool} {t l b r : BS} {hb : Bool} {c : Nat → AV} (h0 : c 0 = .st ll) (h1 : c 1 = .st bl) (h2 : c 2 = .st rl) (h3 : c 3 = .val (.bool h)) (h4 : c 4 = .st t) (h5 : c 5 = .st l) (h6 : c 6 = .st b) (h7 : c 7 = .st r) (h8 : c 8 = .val (.bool hb)) :
    RowLe (.box ver ety 9 c) (.box ver ety 9 (ePt.enc (ll, bl, rl, h, t, l, b, r, hb))) :=
  RowLe.box fun j hj => AVle.of_eq (match j, hj with
    | 0, _ => h0
    | 1, _ => h1
    | 2, _ => h2
    | 3, _ => h3
    | 4, _ => h4
    | 5, _ => h5
    | 6, _ => h6
    | 7, _ => h7
    | 8, _ => h8)
theorem sn_parts {l : List (Nat → AV)} {L : List Pt} {n : Nat} (hn : n = L.length) (h : ∀ i, i < n → ∀ j, j < 9 → AVle (l.getD i (fun _ => .any) j) (ePt.enc (L.getD i ePt.dflt) j)) : AVle (.sn n 9 fun i => l.getD i fun _ => .any) (sL ePt L) := by
  subst hn
  exact AVle.sn h
def sConflB : Spec := Spec.f4 (kA eFl) (kA eCk) kI (kA eLb) (fun f _ _ _ => okFl f) (fun f c st lb => sL ePt (confL f c st lb))
theorem okConflB : SpecOK Tryz.prog 160 sConflB := by
  refine SpecOK.f4 Tryz.func160 rfl (by decide) Tryz.results160 Tryz.ntmps160 (by decide) fun f c st lb ⟨hf1, hf2, hf3⟩ => ?_
  have hΓ : GOK Tryz.prog (gam [(199, sCutK), (201, sHoistB), (53, sJoin), (161, sTextB)]) := (.cons okCutK (.cons okHoistB (.cons okJoin (.cons okTextB .nil))))
  obtain ⟨fb, fl, fr⟩ := f
  obtain ⟨cs, ⟨cb1, cb2⟩, ⟨cl1, cl2⟩, cr1, cr2⟩ := c
  obtain ⟨lb1, lb2, lb3⟩ := lb
  dsimp only at hf1 hf2 hf3
  refine AW.of hΓ mixed [0] _ _ _ rfl ?_
  simp only [go_sem, sCutK, sHoistB, sJoin, sTextB]
  refine AW.still 4 0 0 150 3 _ rfl rfl (fun j hj => match j, hj with | 0, _ => rfl | 1, _ => rfl | 2, _ => rfl) ?_
  refine AW.still 5 1 1 216 7 _ rfl rfl (fun j hj => match j, hj with | 0, _ => rfl | 1, _ => rfl | 2, _ => rfl | 3, _ => rfl | 4, _ => rfl | 5, _ => rfl | 6, _ => rfl) ?_
  refine AW.still 7 2 2 73 3 _ rfl rfl (fun j hj => match j, hj with | 0, _ => rfl | 1, _ => rfl | 2, _ => rfl) ?_
  have g1 := cutS_sub (cb1, cb2) fb
  have g2 := cutS_sub (cl1, cl2) fl
  have g3 := cutS_sub (cr1, cr2) fr
  unfold confL confP cutO cutT cutB
  refine AW.of hΓ mixed [2] _ _ _ rfl ?_
  simp only [go_sem, sCutK, sHoistB, sJoin, sTextB]
  refine ⟨by omega, by omega, ?_⟩
  generalize cutS (cl1, cl2) fl = O at *
  generalize cutS (cr1, cr2) fr = T at *
  have hO := okLs_sub g2 hf2.1 hf2.2
  have hT := okLs_sub g3 hf3.1 hf3.2
  have hB := okLs_sub g1 hf1.1 hf1.2
  have hh := hoist_le st O T
  have i1 := g2.length_le
  have i2 := g3.length_le
  refine AW.cut ⟨[(2, .val (.int .i64 st)), (4, .ps 3 (eFl.enc (fb, fl, fr))), (5, .ps 7 (eCk.enc (cs, (cb1, cb2), (cl1, cl2), cr1, cr2))), (7, .ps 3 (eLb.enc (lb1, lb2, lb3))), (9, sL eS O), (10, sL eS T), (11, .val (.int .i64 0)), (12, .val (.int .i64 0))], [], 74, 3, 3, []⟩ ?_ ?_
  · simp only [go_sem, sCutK, sHoistB, sJoin, sTextB]
  refine AW.seqTo (fun _ : Unit => Sh.st ⟨[(2, .val (.int .i64 st)), (4, .ps 3 (eFl.enc (fb, fl, fr))), (5, .ps 7 (eCk.enc (cs, (cb1, cb2), (cl1, cl2), cr1, cr2))), (7, .ps 3 (eLb.enc (lb1, lb2, lb3))), (9, sL eS O), (10, sL eS T), (11, .val (.int .i64 (hoistF st O T).1)), (12, .val (.int .i64 (hoistF st O T).2))], [], 74, 3, 3, []⟩) ?_ fun _ => ?_
  · refine AW.of hΓ mixed [99999] _ _ _ rfl ?_
    simp only [go_sem, sCutK, sHoistB, sJoin, sTextB]
    refine ⟨fun h2 => ⟨⟨by omega, by omega⟩, (), toFits ?_⟩, fun h2 => ⟨(), toFits ?_⟩⟩
    · unfold hoistF
      rw [if_pos h2]
      simp only [go_sem, sCutK, sHoistB, sJoin, sTextB]
    · unfold hoistF
      rw [if_neg h2]
      simp only [go_sem, sCutK, sHoistB, sJoin, sTextB]
  generalize hoistF st O T = h at *
  obtain ⟨u, v⟩ := h
  dsimp only at hh ⊢
  have eO : (List.range (((O.length : Int) - (v : Int)).toNat - u)).map (fun i => O.getD (u + i) []) = cutL O u (O.length - v) := by
    rw [cut_map (by omega), show ((O.length : Int) - (v : Int)).toNat - u = O.length - v - u by omega]
  have eT : (List.range (((T.length : Int) - (v : Int)).toNat - u)).map (fun i => T.getD (u + i) []) = cutL T u (T.length - v) := by
    rw [cut_map (by omega), show ((T.length : Int) - (v : Int)).toNat - u = T.length - v - u by omega]
  have sO : (cutL O u (O.length - v)).Sublist O := (List.drop_sublist _ _).trans (List.take_sublist _ _)
  have sT : (cutL T u (T.length - v)).Sublist T := (List.drop_sublist _ _).trans (List.take_sublist _ _)
  have kO : okLs (cutL O u (O.length - v)) := okLs_sub (sO.trans g2) hf2.1 hf2.2
  have kT : okLs (cutL T u (T.length - v)) := okLs_sub (sT.trans g3) hf3.1 hf3.2
  have kA1 : okLs (O.take u) := okLs_sub ((List.take_sublist _ _).trans g2) hf2.1 hf2.2
  have kA2 : okLs (O.drop (O.length - v)) := okLs_sub ((List.drop_sublist _ _).trans g2) hf2.1 hf2.2
  refine AW.of hΓ mixed [6] _ _ _ rfl ?_
  simp only [go_sem, sCutK, sHoistB, sJoin, sTextB, eO, eT]
  refine ⟨⟨by omega, by omega⟩, ⟨by omega, by omega, by omega⟩, kO, ⟨by omega, by omega⟩, ⟨by omega, by omega, by omega⟩, kT, ?_⟩
  generalize (cutL O u (O.length - v)).flatten = X at *
  generalize (cutL T u (T.length - v)).flatten = Y at *
  refine AW.cut ⟨[(2, .val (.int .i64 st)), (4, .ps 3 (eFl.enc (fb, fl, fr))), (5, .ps 7 (eCk.enc (cs, (cb1, cb2), (cl1, cl2), cr1, cr2))), (9, sL eS O), (11, .val (.int .i64 u)), (12, .val (.int .i64 v)), (13, .val (.int .i64 ((O.length : Int) - v))), (14, .pt 3 3 0)],
    [(3, .box 3 179 9 (ePt.enc (lb1, lb2, lb3, true, [], X, [], Y, false)))], 74, 4, 4, []⟩ ?_ ?_
  · simp only [go_sem, sCutK, sHoistB, sJoin, sTextB]
    exact pt_box rfl rfl rfl rfl rfl rfl rfl rfl rfl
  refine AW.seqTo (fun _ : Unit => Sh.st ⟨[(9, sL eS O), (11, .val (.int .i64 u)), (12, .val (.int .i64 v)), (13, .val (.int .i64 ((O.length : Int) - v))), (14, .pt 3 3 0)],
    [(3, .box 3 179 9 (ePt.enc (lb1, (if st = 0 then [] else lb2), lb3, true, [], X, (if st = 0 then [] else (cutS (cb1, cb2) fb).flatten), Y, decide (st ≠ 0))))], 74, 4, 4, []⟩) ?_ fun _ => ?_
  · refine AW.of hΓ mixed [99999] _ _ _ rfl ?_
    simp only [go_sem, sCutK, sHoistB, sJoin, sTextB]
    refine ⟨fun h0 => ⟨(), toFits ?_⟩, fun h0 => ⟨by omega, hB, (), toFits ?_⟩⟩
    · subst h0
      simp only [go_sem, sCutK, sHoistB, sJoin, sTextB]
      exact pt_box rfl rfl rfl rfl rfl rfl rfl rfl rfl
    · rw [if_neg h0, if_neg h0, decide_eq_true h0]
      simp only [go_sem, sCutK, sHoistB, sJoin, sTextB]
      exact pt_box rfl rfl rfl rfl rfl rfl rfl rfl rfl
  have eA1 : (List.range (u - 0)).map (fun i => O.getD i []) = O.take u := by
    refine list_ext_getD [] (by simp; omega) fun k hk => ?_
    have hk : k < u := by simpa using hk
    simp [List.getD, List.getElem?_take, hk]
  have eA2 : (List.range (O.length - ((O.length : Int) - (v : Int)).toNat)).map (fun i => O.getD (((O.length : Int) - (v : Int)).toNat + i) []) = O.drop (O.length - v) := by
    have e : ((O.length : Int) - (v : Int)).toNat = O.length - v := by omega
    rw [e]
    refine list_ext_getD [] (by simp) fun k hk => ?_
    have hk : k < O.length - (O.length - v) := by simpa using hk
    simp [List.getD, hk]
    rw [List.getElem?_eq_getElem (by omega)]
    rfl
  refine AW.of hΓ mixed [] _ _ _ rfl ?_
  simp only [go_sem, sCutK, sHoistB, sJoin, sTextB, eA1, eA2]
  refine ⟨⟨by omega, by omega⟩, kA1, ⟨by omega, by omega, by omega⟩, kA2, ?_⟩
  exact sn_parts rfl fun i hi j hj => match i, hi with
    | 0, _ => AVle.refl _
    | 1, _ => AVle.refl _
    | 2, _ => AVle.refl _
end Go.Proofs.YthpjjjnbkfnghaaGreatDoor
set_option linter.unusedSimpArgs false
set_option linter.unusedVariables false
set_option maxRecDepth 100000
set_option maxHeartbeats 2000000
namespace Go.Proofs.YthpjjjnbkfnghaaGreatDoor
open Go
attribute [local irreducible] AW AVle ASle RowLe
theorem textP_sum (t : BS) : sumT [textP t] = t.length := by rw [sumT_one]; rfl
theorem cut_len (s : Sp) {l : List BS} (h : l.flatten.length ≤ 10000000) : (cutS s l).flatten.length ≤ 10000000 := Nat.le_trans (sub_flat (cutS_sub s l)) h
theorem ckPs_len (f : Fl) (st : Int) (lb : BS × BS × BS) (v : Int) (c : Ck) : (ckPs f st lb v c).length ≤ 3 := by
  unfold ckPs
  split
  · exact Nat.le_refl 3
  · exact Nat.le_of_ble_eq_true rfl
theorem ckPs_sum {f : Fl} (hf : okFl f) (st : Int) (lb : BS × BS × BS) (v : Int) (c : Ck) : sumT (ckPs f st lb v c) ≤ 20000000 := by
  obtain ⟨h1, h2, h3⟩ := hf
  have c1 : (cutB f c).flatten.length ≤ 10000000 := cut_len _ h1.2
  have c2 : (cutO f c).flatten.length ≤ 10000000 := cut_len _ h2.2
  have c3 : (cutT f c).flatten.length ≤ 10000000 := cut_len _ h3.2
  unfold ckPs
  split
  · unfold confL
    have e1 : ∀ a b d : Pt, sumT [a, b, d] = (txP a).length + (txP b).length + (txP d).length := fun a b d => by
      rw [show [a, b, d] = [a] ++ ([b] ++ [d]) from rfl, sumT_app, sumT_app, sumT_one, sumT_one, sumT_one]
      omega
    rw [e1]
    have s1 := sub_flat (List.take_sublist (hoistF st (cutO f c) (cutT f c)).1 (cutO f c))
    have s2 := sub_flat (List.drop_sublist ((cutO f c).length - (hoistF st (cutO f c) (cutT f c)).2) (cutO f c))
    have z : (txP (confP f c st lb)).length = 0 := rfl
    have z1 : ∀ t : BS, (txP (textP t)).length = t.length := fun _ => rfl
    rw [z, z1, z1]
    omega
  · rw [textP_sum]
    unfold sideF
    split
    · omega
    · split
      · omega
      · split <;> omega
theorem flat_sum {f : Fl} (hf : okFl f) (st : Int) (lb : BS × BS × BS) (v : Int) : ∀ L : List Ck, sumT (L.flatMap (ckPs f st lb v)) ≤ 20000000 * L.length ∧ (L.flatMap (ckPs f st lb v)).length ≤ 3 * L.length
  | [] => by simp [sumT]
  | c :: L => by
    obtain ⟨h1, h2⟩ := flat_sum hf st lb v L
    have h3 := ckPs_sum hf st lb v c
    have h4 := ckPs_len f st lb v c
    rw [List.flatMap_cons, sumT_app, List.length_append, List.length_cons]
    omega
def okLb (lb : BS × BS × BS) : Prop := lb.1.length ≤ 100000000 ∧ lb.2.1.length ≤ 100000000 ∧ lb.2.2.length ≤ 100000000
def sDocB : Spec := Spec.f5 (kA eFl) (kL eCk) kI (kA eLb) kI (fun f L st lb v => (okFl f ∧ L.length ≤ 10000 ∧ sumT (L.flatMap (ckPs f st lb v)) ≤ 1000000000) ∧ okLb lb) (fun f L st lb v => tu2 (sL ePt (docF f L st lb v).1) (kI.enc (docF f L st lb v).2))
theorem okDocB : SpecOK Tryz.prog 100 sDocB := by
  refine SpecOK.f5 Tryz.func100 rfl (by decide) Tryz.results100 Tryz.ntmps100 (by decide) fun f L st lb v ⟨⟨hf, hL, hsum⟩, hlb1, hlb2, hlb3⟩ => ?_
  have hΓ : GOK Tryz.prog (gam [(157, sIsSty), (158, sIsFav), (150, sPlainL), (159, sClassK), (160, sConflB), (162, sSideB), (161, sTextB), (134, sOfD)]) := (.cons okIsSty (.cons okIsFav (.cons okPlainL (.cons okClassK (.cons okConflB (.cons okSideB (.cons okTextB (.cons okOfD .nil))))))))
  have hff := hf
  obtain ⟨fb, fl, fr⟩ := f
  obtain ⟨lb1, lb2, lb3⟩ := lb
  obtain ⟨hf1, hf2, hf3⟩ := hff
  dsimp only at hf1 hf2 hf3 hlb1 hlb2 hlb3
  have fs := fun j => flat_sum hf st (lb1, lb2, lb3) v (L.take j)
  have d5 : (styOK st && favOK v) = false → docF (fb, fl, fr) L st (lb1, lb2, lb3) v = ([], 5) := fun h => by unfold docF; rw [if_pos h]
  have d3 : (styOK st && favOK v) = true → plainLb (lb1, lb2, lb3) = false → docF (fb, fl, fr) L st (lb1, lb2, lb3) v = ([], 3) := fun h h2 => by unfold docF; rw [if_neg (by rw [h]; simp), if_pos h2]
  have d0 : (styOK st && favOK v) = true → plainLb (lb1, lb2, lb3) = true → docF (fb, fl, fr) L st (lb1, lb2, lb3) v = (ofD (L.flatMap (ckPs (fb, fl, fr) st (lb1, lb2, lb3) v)), 0) := fun h h2 => by unfold docF; rw [if_neg (by rw [h]; simp), if_neg (by rw [h2]; simp)]
  refine AW.of hΓ mixed [0] _ _ _ rfl ?_
  simp only [go_sem]
  refine AW.still 5 0 0 150 3 _ rfl rfl (fun j hj => match j, hj with | 0, _ => rfl | 1, _ => rfl | 2, _ => rfl) ?_
  refine AW.still 8 1 1 73 3 _ rfl rfl (fun j hj => match j, hj with | 0, _ => rfl | 1, _ => rfl | 2, _ => rfl) ?_
  cases h1 : styOK st with
  | false =>
    rw [d5 (by rw [h1]; rfl)]
    refine AW.of hΓ mixed [] _ _ _ rfl ?_
    simp only [go_sem, sIsSty, sIsFav, sPlainL, sClassK, sConflB, sSideB, sTextB, sOfD, h1]
    exact em_sL _
  | true =>
    cases h2 : favOK v with
    | false =>
      rw [d5 (by rw [h1, h2]; rfl)]
      refine AW.of hΓ mixed [] _ _ _ rfl ?_
      simp only [go_sem, sIsSty, sIsFav, sPlainL, sClassK, sConflB, sSideB, sTextB, sOfD, h1, h2]
      exact em_sL _
    | true =>
      cases hp : plainLb (lb1, lb2, lb3) with
      | false =>
        rw [d3 (by rw [h1, h2]; rfl) hp]
        unfold plainLb at hp
        dsimp only at hp
        refine AW.of hΓ mixed [] _ _ _ rfl ?_
        simp only [go_sem, sIsSty, sIsFav, sPlainL, sClassK, sConflB, sSideB, sTextB, sOfD, h1, h2, hp]
        exact ⟨⟨by omega, by omega, by omega⟩, em_sL _⟩
      | true =>
        rw [d0 (by rw [h1, h2]; rfl) hp]
        unfold plainLb at hp
        dsimp only at hp
        refine AW.of hΓ mixed [5] _ _ _ rfl ?_
        simp only [go_sem, sIsSty, sIsFav, sPlainL, sClassK, sConflB, sSideB, sTextB, sOfD, h1, h2, hp]
        refine ⟨⟨by omega, by omega, by omega⟩, ?_⟩
        refine AW.adopt 12 179 9 (fun i => ePt.enc (([] : List Pt).getD i ePt.dflt)) rfl ?_
        refine AW.seqTo (fun x : Nat × Nat => Sh.st ⟨[(12, .ow 2 x.1 (L.flatMap (ckPs (fb, fl, fr) st (lb1, lb2, lb3) v)).length)], [(2, rowL x.1 179 ePt (L.flatMap (ckPs (fb, fl, fr) st (lb1, lb2, lb3) v)))], 66, 3, x.2, []⟩) ?_ fun ⟨u, nx⟩ => ?_
        rotate_left
        · have fL := flat_sum hf st (lb1, lb2, lb3) v L
          generalize L.flatMap (ckPs (fb, fl, fr) st (lb1, lb2, lb3) v) = S at *
          refine AW.freeze 2 u 179 9 S.length (fun i => ePt.enc (S.getD i ePt.dflt)) rfl (fun _ _ j hj => match j, hj with | 0, _ => rfl | 1, _ => rfl | 2, _ => rfl | 3, _ => rfl | 4, _ => rfl | 5, _ => rfl | 6, _ => rfl | 7, _ => rfl | 8, _ => rfl) ?_
          refine AW.cut ⟨[(12, sL ePt S)], [], 66, 3, nx, []⟩ ?_ ?_
          · simp only [go_sem, sIsSty, sIsFav, sPlainL, sClassK, sConflB, sSideB, sTextB, sOfD]
            exact vw_all (E := ePt) rfl rfl rfl
          refine AW.of hΓ mixed [] _ _ _ rfl ?_
          simp only [go_sem, sIsSty, sIsFav, sPlainL, sClassK, sConflB, sSideB, sTextB, sOfD]
          exact ⟨by omega, by omega⟩
        refine AW.of hΓ mixed [] _ _ _ rfl ?_
        simp only [go_sem, sIsSty, sIsFav, sPlainL, sClassK, sConflB, sSideB, sTextB, sOfD]
        refine AW.round (α := { x : Nat × List Pt × Nat × Nat // x.1 ≤ L.length ∧ x.2.1 = (L.take x.1).flatMap (ckPs (fb, fl, fr) st (lb1, lb2, lb3) v) })
          (fun x => ⟨[(2, .val (.int .i64 st)), (4, .val (.int .i64 v)), (5, .ps 3 (eFl.enc (fb, fl, fr))), (8, .ps 3 (eLb.enc (lb1, lb2, lb3))), (12, .ow 2 x.1.2.2.1 x.1.2.1.length), (27, sL eCk L), (28, .val (.int .i64 L.length)), (29, .val (.int .i64 x.1.1))],
            [(2, rowL x.1.2.2.1 179 ePt x.1.2.1)], 66, 3, x.1.2.2.2, []⟩) (fun x => L.length - x.1.1) ⟨(0, [], 2, 3), Nat.zero_le _, rfl⟩ ?_ ?_
        · simp only [go_sem, sIsSty, sIsFav, sPlainL, sClassK, sConflB, sSideB, sTextB, sOfD]
          exact RowLe.refl _
        · rintro ⟨⟨i, S, u, nx⟩, hi, hS⟩
          simp only at hi hS
          have fi := fs i
          rw [← hS, List.length_take] at fi
          refine AW.of hΓ mixed [8, 99999] _ _ _ rfl ?_
          simp only [go_sem, sIsSty, sIsFav, sPlainL, sClassK, sConflB, sSideB, sTextB, sOfD]
          refine ⟨fun hlt => ⟨by omega, ?_⟩, fun hge => ?_⟩
          · have hlt' : i < L.length := by omega
            have hsn : (L.take (i + 1)).flatMap (ckPs (fb, fl, fr) st (lb1, lb2, lb3) v) = S ++ ckPs (fb, fl, fr) st (lb1, lb2, lb3) v (L.getD i eCk.dflt) := by
              rw [take_snoc L eCk.dflt hlt', List.flatMap_append, ← hS]
              simp
            generalize L.getD i eCk.dflt = c at *
            obtain ⟨cs, ⟨cb1, cb2⟩, ⟨cl1, cl2⟩, cr1, cr2⟩ := c
            have hcl := ckPs_len (fb, fl, fr) st (lb1, lb2, lb3) v (cs, (cb1, cb2), (cl1, cl2), cr1, cr2)
            have hcs : ckPs (fb, fl, fr) st (lb1, lb2, lb3) v (cs, (cb1, cb2), (cl1, cl2), cr1, cr2) = if clsF (fb, fl, fr) (cs, (cb1, cb2), (cl1, cl2), cr1, cr2) = 4 ∧ v = 0 then confL (fb, fl, fr) (cs, (cb1, cb2), (cl1, cl2), cr1, cr2) st (lb1, lb2, lb3) else [textP (sideF (fb, fl, fr) (cs, (cb1, cb2), (cl1, cl2), cr1, cr2) (clsF (fb, fl, fr) (cs, (cb1, cb2), (cl1, cl2), cr1, cr2)) v).flatten] := rfl
            have hsd : okLs (sideF (fb, fl, fr) (cs, (cb1, cb2), (cl1, cl2), cr1, cr2) (clsF (fb, fl, fr) (cs, (cb1, cb2), (cl1, cl2), cr1, cr2)) v) := by
              unfold sideF
              split
              · exact okLs_sub (cutS_sub _ _) hf1.1 hf1.2
              · split
                · exact okLs_sub (cutS_sub _ _) hf3.1 hf3.2
                · split
                  · exact okLs_sub (cutS_sub _ _) hf3.1 hf3.2
                  · exact okLs_sub (cutS_sub _ _) hf2.1 hf2.2
            have hcc : classK (cs, (cb1, cb2), (cl1, cl2), cr1, cr2) fb fl fr = clsF (fb, fl, fr) (cs, (cb1, cb2), (cl1, cl2), cr1, cr2) := rfl
            generalize clsF (fb, fl, fr) (cs, (cb1, cb2), (cl1, cl2), cr1, cr2) = k at *
            refine AW.cut ⟨[(2, .val (.int .i64 st)), (4, .val (.int .i64 v)), (5, .ps 3 (eFl.enc (fb, fl, fr))), (8, .ps 3 (eLb.enc (lb1, lb2, lb3))), (12, .ow 2 u S.length), (14, .pt 3 nx 0), (27, sL eCk L), (28, .val (.int .i64 L.length)), (29, .val (.int .i64 i))],
              [(2, rowL u 179 ePt S), (3, .box nx 216 7 (eCk.enc (cs, (cb1, cb2), (cl1, cl2), cr1, cr2)))], 66, 4, nx + 1, []⟩ ?_ ?_
            · simp only [go_sem, sIsSty, sIsFav, sPlainL, sClassK, sConflB, sSideB, sTextB, sOfD]
              exact ⟨RowLe.refl _, box_st⟩
            refine AW.still 14 3 nx 216 7 _ rfl rfl (fun j hj => match j, hj with | 0, _ => rfl | 1, _ => rfl | 2, _ => rfl | 3, _ => rfl | 4, _ => rfl | 5, _ => rfl | 6, _ => rfl) ?_
            refine AW.of hΓ mixed [99999] _ _ _ rfl ?_
            simp only [go_sem, sIsSty, sIsFav, sPlainL, sClassK, sConflB, sSideB, sTextB, sOfD, hcc]
            refine ⟨⟨by omega, by omega, by omega⟩, fun hk => ?_, fun hk => ?_⟩
            · rw [if_pos hk] at hcs
              rw [hcs] at hsn hcl
              refine ⟨hf, by omega, ⟨by omega, by omega⟩, ⟨(i + 1, S ++ confL (fb, fl, fr) (cs, (cb1, cb2), (cl1, cl2), cr1, cr2) st (lb1, lb2, lb3), nx + 1, nx + 2), by dsimp only; omega, hsn.symm⟩, ⟨Nat.le_refl _, ⟨⟨rfl, by dsimp only; rw [List.length_append]⟩, by dsimp only; omega⟩, ?_⟩, by dsimp only; omega⟩
              exact row_app (E := ePt) rfl rfl rfl rfl (by simp) fun i _ j _ => AVle.refl _
            · rw [if_neg (fun e => hk e.1 e.2)] at hcs
              rw [hcs] at hsn hcl
              refine ⟨hf, hsd, by omega, ⟨by omega, by omega⟩, ⟨(i + 1, S ++ [textP (sideF (fb, fl, fr) (cs, (cb1, cb2), (cl1, cl2), cr1, cr2) k v).flatten], nx + 1, nx + 2), by dsimp only; omega, hsn.symm⟩, ⟨Nat.le_refl _, ⟨⟨rfl, by simp⟩, by dsimp only; omega⟩, ?_⟩, by dsimp only; omega⟩
              exact row_app1 (E := ePt) rfl rfl rfl rfl (by simp) fun j _ => AVle.refl _
          · obtain rfl : i = L.length := by omega
            rw [List.take_length] at hS
            refine ⟨(u, nx), toFits ?_⟩
            rw [← hS]
            simp only [go_sem, sIsSty, sIsFav, sPlainL, sClassK, sConflB, sSideB, sTextB, sOfD]
            exact RowLe.refl _
theorem cnt_le (f : Fl) (L : List Ck) : cntF f L ≤ L.length := List.length_filter_le _ _
def sCountB : Spec := Spec.f2 (kA eFl) (kL eCk) (fun f L => okFl f ∧ L.length ≤ 10000) (fun f L => kI.enc (cntF f L))
theorem okCountB : SpecOK Tryz.prog 101 sCountB := by
  refine SpecOK.f2 Tryz.func101 rfl (by decide) Tryz.results101 Tryz.ntmps101 (by decide) fun f L ⟨hf, hL⟩ => ?_
  have hΓ : GOK Tryz.prog (gam [(159, sClassK)]) := (.cons okClassK .nil)
  have hff := hf
  obtain ⟨fb, fl, fr⟩ := f
  obtain ⟨hf1, hf2, hf3⟩ := hff
  dsimp only at hf1 hf2 hf3
  refine AW.of hΓ mixed [0] _ _ _ rfl ?_
  simp only [go_sem, sClassK]
  refine AW.still 2 0 0 150 3 _ rfl rfl (fun j hj => match j, hj with | 0, _ => rfl | 1, _ => rfl | 2, _ => rfl) ?_
  refine AW.of hΓ mixed [] _ _ _ rfl ?_
  simp only [go_sem, sClassK]
  refine AW.round (α := { x : Nat × Nat // x.1 ≤ L.length })
    (fun x => ⟨[(2, .ps 3 (eFl.enc (fb, fl, fr))), (5, .val (.int .i64 (cntF (fb, fl, fr) (L.take x.1.1)))), (8, sL eCk L), (9, .val (.int .i64 L.length)), (10, .val (.int .i64 x.1.1))], [], 27, 1, x.1.2, []⟩) (fun x => L.length - x.1.1) ⟨(0, 1), Nat.zero_le _⟩ ?_ ?_
  · simp only [go_sem, sClassK]
    rfl
  · rintro ⟨⟨i, nx⟩, hi⟩
    simp only at hi
    have hcn := cnt_le (fb, fl, fr) (L.take i)
    rw [List.length_take] at hcn
    refine AW.of hΓ mixed [4, 99999] _ _ _ rfl ?_
    simp only [go_sem, sClassK]
    refine ⟨fun hlt => ⟨by omega, ?_⟩, fun hge => ?_⟩
    · have hlt' : i < L.length := by omega
      have hsn := cnt_snoc (fb, fl, fr) (L.getD i eCk.dflt) (L.take i)
      rw [← take_snoc L eCk.dflt hlt'] at hsn
      generalize L.getD i eCk.dflt = c at *
      obtain ⟨cs, ⟨cb1, cb2⟩, ⟨cl1, cl2⟩, cr1, cr2⟩ := c
      have hcc : classK (cs, (cb1, cb2), (cl1, cl2), cr1, cr2) fb fl fr = clsF (fb, fl, fr) (cs, (cb1, cb2), (cl1, cl2), cr1, cr2) := rfl
      generalize clsF (fb, fl, fr) (cs, (cb1, cb2), (cl1, cl2), cr1, cr2) = k at *
      refine AW.cut ⟨[(2, .ps 3 (eFl.enc (fb, fl, fr))), (5, .val (.int .i64 (cntF (fb, fl, fr) (L.take i)))), (7, .pt 1 nx 0), (8, sL eCk L), (9, .val (.int .i64 L.length)), (10, .val (.int .i64 i))],
        [(1, .box nx 216 7 (eCk.enc (cs, (cb1, cb2), (cl1, cl2), cr1, cr2)))], 27, 2, nx + 1, []⟩ ?_ ?_
      · simp only [go_sem, sClassK]
        exact box_st
      refine AW.still 7 1 nx 216 7 _ rfl rfl (fun j hj => match j, hj with | 0, _ => rfl | 1, _ => rfl | 2, _ => rfl | 3, _ => rfl | 4, _ => rfl | 5, _ => rfl | 6, _ => rfl) ?_
      refine AW.of hΓ mixed [99999] _ _ _ rfl ?_
      simp only [go_sem, sClassK, hcc]
      refine ⟨⟨by omega, by omega, by omega⟩, fun hk => ⟨⟨by omega, by omega⟩, ⟨by omega, by omega⟩, ⟨(i + 1, nx + 1), by dsimp only; omega⟩, ⟨Nat.le_refl _, ?_, by dsimp only; omega⟩, by dsimp only; omega⟩, fun hk => ⟨⟨by omega, by omega⟩, ⟨(i + 1, nx + 1), by dsimp only; omega⟩, ⟨Nat.le_refl _, ?_, by dsimp only; omega⟩, by dsimp only; omega⟩⟩
      · dsimp only
        rw [hsn, if_pos hk]
        omega
      · dsimp only
        rw [hsn, if_neg hk]
        omega
    · obtain rfl : i = L.length := by omega
      rw [List.take_length]
end Go.Proofs.YthpjjjnbkfnghaaGreatDoor
set_option linter.unusedSimpArgs false
set_option linter.unusedVariables false
namespace Go.Proofs.YthpjjjnbkfnghaaGreatDoor
open Go
theorem sumP_app (a b : List Pt) : sumP (a ++ b) = sumP a + sumP b := by simp [sumP]
theorem sumP_one (p : Pt) : sumP [p] = lenP p := by simp [sumP]
theorem len_textP (t : BS) : lenP (textP t) = t.length := by
  show t.length + 0 + 0 + 0 + 0 + 0 + 0 = _
  omega
theorem join_sumP (out : List Pt) (p : Pt) : sumP (joinR out p) ≤ sumP out + lenP p := by
  cases hp : isTextD p with
  | false => rw [join_no hp, sumP_app, sumP_one]; exact Nat.le_refl _
  | true =>
    rcases join_cases out p hp with ⟨_, e⟩ | ⟨_, ⟨m, q, rfl, hq, e⟩ | ⟨_, e⟩⟩
    · rw [e]; omega
    · rw [e, sumP_app, sumP_app, sumP_one, sumP_one, len_textP, List.length_append]
      have h1 : (txP q).length ≤ lenP q := by unfold lenP txP; omega
      have h2 : (txP p).length ≤ lenP p := by unfold lenP txP; omega
      omega
    · rw [e, sumP_app, sumP_one]; exact Nat.le_refl _
theorem fold_sumP : ∀ (l out : List Pt), sumP (l.foldl joinR out) ≤ sumP out + sumP l
  | [], _ => by simp [sumP]
  | p :: l, out => by
    have h1 := fold_sumP l (joinR out p)
    have h2 := join_sumP out p
    have h3 : sumP (p :: l) = lenP p + sumP l := by simp [sumP]
    rw [List.foldl_cons]
    omega
theorem of_sumP (l : List Pt) : sumP (ofD l) ≤ sumP l := by
  rw [ofD_eq]
  have := fold_sumP l []
  have e : sumP [] = 0 := rfl
  omega
theorem sum_okPt {d : List Pt} (h : sumP d ≤ 100000000) : ∀ p ∈ d, okPt p := fun p hp => by
  have := sumP_mem hp
  unfold lenP at this
  unfold okPt txP
  omega
end Go.Proofs.YthpjjjnbkfnghaaGreatDoor
set_option linter.unusedSimpArgs false
set_option linter.unusedVariables false
set_option maxRecDepth 100000
set_option maxHeartbeats 4000000
namespace Go.Proofs.YthpjjjnbkfnghaaGreatDoor
open Go
attribute [local irreducible] AW AVle ASle RowLe
theorem keeps_sL {α : Type} {E : El α} {l : List α} {j i : Nat} {row : Row} {r : List (Nat × AV × Row)} {st : AS} : keeps j ((i, sL E l, row) :: r) st = keeps j r st := rfl
def filesF (a b c : BS) : Fl := (splitL a, splitL b, splitL c)
end Go.Proofs.YthpjjjnbkfnghaaGreatDoor
set_option linter.unusedSimpArgs false
set_option linter.unusedVariables false
set_option maxRecDepth 100000
namespace Go.Proofs.YthpjjjnbkfnghaaGreatDoor
open Go
theorem of_lenM (ends : Pl) : ∀ (M : List Pl) (s : List Ck) (t : Pl), (ofK ends M s t).length ≤ s.length + 2 * M.length + 1
  | [], s, t => by
    rw [ofK]
    split
    · omega
    · simp
  | p :: M, s, t => by
    rw [ofK]
    have h1 := stretch_len (if p = t then s else s ++ [btw t p]) p
    have h2 : (if p = t then s else s ++ [btw t p]).length ≤ s.length + 1 := by
      split
      · omega
      · simp
    have h3 := of_lenM ends M (stretchF (if p = t then s else s ++ [btw t p]) p) (nextP p)
    simp only [List.length_cons]
    omega
theorem mrgK_len (f : Fl) : (mrgK f).length ≤ 2 * f.1.length + 1 ∧ (mrgK f).length ≤ 2 * f.2.1.length + 1 := by
  have h1 := of_lenM (f.1.length, f.2.1.length, f.2.2.length) (bothF (prsF f.1 f.2.1) (prsF f.1 f.2.2)) [] (0, 0, 0)
  have h2 := both_len _ (prsF f.1 f.2.1) (prsF f.1 f.2.2) (Nat.le_refl _)
  have h3 := prsF_len f.1 f.2.1
  unfold mrgK cksF
  simp only [List.length_nil] at h1
  omega
def lbN (lb : BS × BS × BS) : Nat := lb.1.length + lb.2.1.length + lb.2.2.length
theorem sumP_ck {f : Fl} (st : Int) (lb : BS × BS × BS) (v : Int) (c : Ck) : sumP (ckPs f st lb v c) ≤ (cutB f c).flatten.length + (cutO f c).flatten.length + (cutT f c).flatten.length + lbN lb := by
  unfold ckPs
  split
  · have hh := hoist_le st (cutO f c) (cutT f c)
    have e1 : ∀ a b d : Pt, sumP [a, b, d] = lenP a + lenP b + lenP d := fun a b d => by
      rw [show [a, b, d] = [a] ++ ([b] ++ [d]) from rfl, sumP_app, sumP_app, sumP_one, sumP_one, sumP_one]
      omega
    have e2 := cut3 (O := cutO f c) (u := (hoistF st (cutO f c) (cutT f c)).1) (j := (cutO f c).length - (hoistF st (cutO f c) (cutT f c)).2) (by omega)
    have e3 := cut3 (O := cutT f c) (u := (hoistF st (cutO f c) (cutT f c)).1) (j := (cutT f c).length - (hoistF st (cutO f c) (cutT f c)).2) (by omega)
    have s5 : (if st = 0 then [] else (cutB f c).flatten).length ≤ (cutB f c).flatten.length := by
      split
      · exact Nat.zero_le _
      · exact Nat.le_refl _
    have s6 : (if st = 0 then [] else lb.2.1).length ≤ lb.2.1.length := by
      split
      · exact Nat.zero_le _
      · exact Nat.le_refl _
    unfold confL
    rw [e1, len_textP, len_textP]
    unfold lenP confP lbN
    dsimp only
    simp only [List.length_nil]
    omega
  · rw [sumP_one, len_textP]
    unfold sideF
    split
    · omega
    · split
      · omega
      · split <;> omega
theorem sumP_mrg (f : Fl) (st : Int) (lb : BS × BS × BS) (v : Int) : sumP ((mrgK f).flatMap (ckPs f st lb v)) ≤ f.1.flatten.length + f.2.1.flatten.length + f.2.2.flatten.length + (mrgK f).length * lbN lb := by
  have key : ∀ L : List Ck, sumP (L.flatMap (ckPs f st lb v)) ≤ (L.map (cutB f)).flatten.flatten.length + (L.map (cutO f)).flatten.flatten.length + (L.map (cutT f)).flatten.flatten.length + L.length * lbN lb := by
    intro L
    induction L with
    | nil => simp [sumP]
    | cons c L ih =>
      have := sumP_ck (f := f) st lb v c
      simp only [List.flatMap_cons, sumP_app, List.map_cons, List.flatten_cons, List.flatten_append, List.length_append, List.length_cons, Nat.succ_mul]
      omega
  have := key (mrgK f)
  rw [spanB, spanO, spanT] at this
  exact this
theorem flat_three (f : Fl) (st : Int) (lb : BS × BS × BS) (v : Int) : ∀ L : List Ck, (L.flatMap (ckPs f st lb v)).length ≤ 3 * L.length
  | [] => by simp
  | c :: L => by
    have h1 := flat_three f st lb v L
    have h4 := ckPs_len f st lb v c
    rw [List.flatMap_cons, List.length_append, List.length_cons]
    omega
def mrgW (w : Int) (a b c : BS) : Int := max w ((longT [a, b, c] : Nat) + 1)
def mrgD (a b c : BS) (st : Int) (lb : BS × BS × BS) (v : Int) : List Pt := ofD ((mrgK (filesF a b c)).flatMap (ckPs (filesF a b c) st lb v))
def okM (a b c : BS) : Prop := (a.length ≤ 3000000 ∧ b.length ≤ 3000000 ∧ c.length ≤ 3000000 ∧ ((splitL a).length ≤ 300 ∨ (splitL b).length ≤ 300)) ∨ (a.length ≤ 20000 ∧ b.length ≤ 20000 ∧ c.length ≤ 20000 ∧ ((splitL a).length ≤ 4700 ∨ (splitL b).length ≤ 4700))
theorem okM_len {a b c : BS} (h : okM a b c) : a.length ≤ 3000000 ∧ b.length ≤ 3000000 ∧ c.length ≤ 3000000 := by
  rcases h with ⟨h1, h2, h3, _⟩ | ⟨h1, h2, h3, _⟩
  · exact ⟨h1, h2, h3⟩
  · exact ⟨by omega, by omega, by omega⟩
theorem fits_mono {d : List Pt} {m w : Int} (h : fitsD d m = true) (hw : m ≤ w) : fitsD d w = true := by
  unfold fitsD at h ⊢
  rw [Bool.and_eq_true, decide_eq_true_eq, decide_eq_true_eq] at h ⊢
  exact ⟨by omega, fun p hp => by have := h.2 p hp; omega⟩
theorem files_w (a b c : BS) : wholeF (filesF a b c) := ⟨wholeL_splitL _ a (Nat.le_refl _), wholeL_splitL _ b (Nat.le_refl _), wholeL_splitL _ c (Nat.le_refl _)⟩
theorem files_sh (a b c : BS) : shF (longT [a, b, c] + 1) (filesF a b c) := by
  have key : ∀ s ∈ [a, b, c], ∀ x ∈ splitL s, runL x < longT [a, b, c] + 1 := fun s hs x hx => by
    have h1 := longL_mem hx
    have h2 := longT_mem hs
    omega
  exact ⟨key a (by simp), key b (by simp), key c (by simp)⟩
theorem files_flat (a b c : BS) : (filesF a b c).1.flatten = a ∧ (filesF a b c).2.1.flatten = b ∧ (filesF a b c).2.2.flatten = c := ⟨splitL_flat a, splitL_flat b, splitL_flat c⟩
theorem longT_bnd {a b c : BS} {n : Nat} (ha : a.length ≤ n) (hb : b.length ≤ n) (hc : c.length ≤ n) : longT [a, b, c] ≤ n := by
  refine longT_leM fun s hs => longL_leM fun x hx => ?_
  have h1 := runL_le x
  have h2 : x.length ≤ s.length := by
    have h3 : x.length ≤ (splitL s).flatten.length := by
      have := List.sublist_flatten_of_mem hx
      exact this.length_le
    rw [splitL_flat] at h3
    exact h3
  simp only [List.mem_cons, List.not_mem_nil, or_false] at hs
  rcases hs with rfl | rfl | rfl <;> omega
structure MrgF (a b c : BS) (w st : Int) (lb : BS × BS × BS) (v : Int) : Prop where
  ok : okFl (filesF a b c)
  len : (mrgK (filesF a b c)).length ≤ 9401
  sum : sumT ((mrgK (filesF a b c)).flatMap (ckPs (filesF a b c) st lb v)) ≤ 1000000000
  right : rightD (mrgD a b c st lb v) = true
  fits : fitsD (mrgD a b c st lb v) (mrgW w a b c) = true
  wide : wideM (mrgW w a b c) = true
  wle : mrgW w a b c ≤ 3000001
  dlen : (mrgD a b c st lb v).length ≤ 28203
  sump : sumP (mrgD a b c st lb v) ≤ 40000000
  pr : (printL (mrgW w a b c) (mrgD a b c st lb v)).length ≤ 90000000000
  confl : v = 0 → conflD (mrgD a b c st lb v) = cntF (filesF a b c) (mrgK (filesF a b c))
theorem mrg_facts {a b c : BS} (h : okM a b c) {w : Int} (hw : 7 ≤ w ∧ w ≤ 64) (st : Int) {lb : BS × BS × BS} (hl : lbN lb ≤ 3000) (hp : plainLb lb = true) (v : Int) : MrgF a b c w st lb v := by
  obtain ⟨h1, h2, h3⟩ := okM_len h
  have l1 := splitL_len a
  have l2 := splitL_len b
  have l3 := splitL_len c
  have e1 := mrgK_len (filesF a b c)
  have e2 : (filesF a b c).1.length = (splitL a).length := rfl
  have e3 : (filesF a b c).2.1.length = (splitL b).length := rfl
  obtain ⟨f1, f2, f3⟩ := files_flat a b c
  have hk2 : ((mrgK (filesF a b c)).length ≤ 601) ∨ ((mrgK (filesF a b c)).length ≤ 9401 ∧ a.length ≤ 20000 ∧ b.length ≤ 20000 ∧ c.length ≤ 20000) := by
    rcases h with ⟨_, _, _, g⟩ | ⟨g1, g2, g3, g⟩
    · exact .inl (by omega)
    · exact .inr ⟨by omega, g1, g2, g3⟩
  have hk : (mrgK (filesF a b c)).length ≤ 9401 := by omega
  have hT := sumT_mrg (filesF a b c) st lb v
  have hS := sumP_mrg (filesF a b c) st lb v
  have h3' := flat_three (filesF a b c) st lb v (mrgK (filesF a b c))
  have hD := (ofD_sum ((mrgK (filesF a b c)).flatMap (ckPs (filesF a b c) st lb v))).2
  have hE := of_sumP ((mrgK (filesF a b c)).flatMap (ckPs (filesF a b c) st lb v))
  have hm : (mrgK (filesF a b c)).length * lbN lb ≤ 9401 * 3000 := Nat.mul_le_mul hk hl
  rw [f1, f2, f3] at hT hS
  have hlT := longT_bnd h1 h2 h3
  have hW : 1 ≤ mrgW w a b c ∧ mrgW w a b c ≤ 3000001 := by unfold mrgW; omega
  have hdl : (mrgD a b c st lb v).length ≤ 28203 := by unfold mrgD; omega
  have hdl2 : ((mrgD a b c st lb v).length ≤ 1803) ∨ mrgW w a b c ≤ 20001 := by
    rcases hk2 with g | ⟨_, g1, g2, g3⟩
    · exact .inl (by unfold mrgD; omega)
    · have := longT_bnd g1 g2 g3
      exact .inr (by unfold mrgW; omega)
  have hsp : sumP (mrgD a b c st lb v) ≤ 40000000 := by unfold mrgD; omega
  have hfit := doc_fits (m := longT [a, b, c] + 1) (Nat.succ_pos _) (files_w a b c) (files_sh a b c) (mrg_ch _) (mrg_good _) (st := st) (v := v) hp
  refine ⟨⟨⟨by omega, ?_⟩, ⟨by omega, ?_⟩, ?_, ?_⟩, hk, by omega, doc_right (files_w a b c) (mrg_ch _) (mrg_good _) hp, fits_mono hfit (by unfold mrgW; omega), ?_, hW.2, hdl, hsp, ?_, fun hv => ?_⟩
  · rw [f1]; omega
  · rw [f2]; omega
  · show (splitL c).length ≤ _; omega
  · rw [f3]; omega
  · rw [wide_iff]; omega
  · have q1 := printL_len (mrgW w a b c) (mrgD a b c st lb v)
    have q2 : (mrgD a b c st lb v).length * (4 * (mrgW w a b c).toNat + 15) ≤ 1803 * (4 * 3000001 + 15) := by
      rcases hdl2 with g | g
      · exact Nat.mul_le_mul g (by omega)
      · exact Nat.le_trans (Nat.mul_le_mul hdl (show 4 * (mrgW w a b c).toNat + 15 ≤ 80019 by omega)) (by decide)
    omega
  · subst hv
    unfold mrgD
    rw [of_confl, doc_confl]
theorem mrg_text {a b c : BS} {w st : Int} {lb : BS × BS × BS} {v : Int} (h : MrgF a b c w st lb v) : printR (mrgD a b c st lb v) (mrgW w a b c) = (printL (mrgW w a b c) (mrgD a b c st lb v), 0) := by
  unfold printR
  rw [if_neg (by rw [h.wide]; simp), if_neg (by rw [h.right]; simp), if_neg (by rw [h.fits]; simp)]
theorem doc_mrg {a b c : BS} {st : Int} {lb : BS × BS × BS} {v : Int} (h1 : (styOK st && favOK v) = true) (h2 : plainLb lb = true) : docF (filesF a b c) (mrgK (filesF a b c)) st lb v = (mrgD a b c st lb v, 0) := by
  unfold docF
  rw [if_neg (by rw [h1]; simp), if_neg (by rw [h2]; simp)]
  rfl
end Go.Proofs.YthpjjjnbkfnghaaGreatDoor
set_option linter.unusedSimpArgs false
set_option linter.unusedVariables false
set_option maxRecDepth 100000
set_option maxHeartbeats 2000000
namespace Go.Proofs.YthpjjjnbkfnghaaGreatDoor
open Go
attribute [local irreducible] AW AVle ASle RowLe
def wAV (x y z : AV) : AV := .ag 3 fun j => if j = 0 then x else if j = 1 then y else z
def kW : Kd (List Int × List Int × List Int) where
  enc w := wAV (sL eI w.1) (sL eI w.2.1) (sL eI w.2.2)
  dec | .ag _ c => (gL eI (c 0), gL eI (c 1), gL eI (c 2))
      | _ => ([], [], [])
  law w := by simp only [wAV, Nat.one_ne_zero, if_true, if_false, (by decide : (2 : Nat) ≠ 0), (by decide : (2 : Nat) ≠ 1), gL_sL]
theorem kW_ok {a b f : List Int} {c : Nat → AV} (h0 : AVle (c 0) (sL eI a)) (h1 : AVle (c 1) (sL eI b)) (h2 : AVle (c 2) (sL eI f)) (e0 : gL eI (c 0) = a) (e1 : gL eI (c 1) = b) (e2 : gL eI (c 2) = f) : kW.ok (.ag 3 c) := by
  subst e0 e1 e2
  refine AVle.ag fun j hj => ?_
  match j, hj with
  | 0, _ => exact h0
  | 1, _ => exact h1
  | 2, _ => exact h2
theorem kW_dec (c : Nat → AV) : kW.dec (.ag 3 c) = (gL eI (c 0), gL eI (c 1), gL eI (c 2)) := rfl

def big (n : Int) : Prop := 0 ≤ n ∧ n < 1000000000
def sDiagonals : Spec := Spec.f3 kI kI kI (fun d n m => big d ∧ big n ∧ big m) (fun d n m => tu2 (kI.enc (lowD d.toNat m.toNat)) (kI.enc (highD d.toNat n.toNat)))
theorem okDiagonals : SpecOK Tryz.prog 221 sDiagonals := by
  refine SpecOK.f3 Tryz.func221 rfl (by decide) Tryz.results221 Tryz.ntmps221 (by decide) fun d n m hd => ?_
  have hΓ : GOK Tryz.prog (gam []) := GOK.nil
  obtain ⟨⟨h1, h2⟩, ⟨h3, h4⟩, h5, h6⟩ := hd
  have hl : lowD d.toNat m.toNat = if m < d then -m + (d - m).tmod 2 else -d := by
    unfold lowD
    rw [Int.toNat_of_nonneg h1, Int.toNat_of_nonneg h5]
  have hh : highD d.toNat n.toNat = if n < d then n - (d - n).tmod 2 else d := by
    unfold highD
    rw [Int.toNat_of_nonneg h1, Int.toNat_of_nonneg h3]
  have t1 : m < d → (d - m).tmod 2 = (d - m) % 2 := fun h => tmod2 _ (by omega)
  have t2 : n < d → (d - n).tmod 2 = (d - n) % 2 := fun h => tmod2 _ (by omega)
  have b1 : m < d → 0 ≤ (d - m).tmod 2 ∧ (d - m).tmod 2 ≤ 1 := fun h => by rw [t1 h]; omega
  have b2 : n < d → 0 ≤ (d - n).tmod 2 ∧ (d - n).tmod 2 ≤ 1 := fun h => by rw [t2 h]; omega
  rw [hl, hh]
  refine AW.of hΓ mixed [99999] _ _ _ rfl ?_
  simp only [go_sem]
  clear hl hh t1 t2
  generalize (d - m).tmod 2 = r1 at *
  generalize (d - n).tmod 2 = r2 at *
  refine ⟨by omega, fun g1 => ?_, fun g1 => ?_⟩
  · have := b1 g1
    simp only [if_pos g1]
    refine ⟨by omega, by omega, by omega, fun g2 => ?_, fun g2 => ?_⟩
    · have := b2 g2
      simp only [if_pos g2]
      exact ⟨by omega, by omega, by trivial, by trivial⟩
    · simp only [if_neg g2]
      exact ⟨by trivial, by trivial⟩
  · simp only [if_neg g1]
    refine ⟨fun g2 => ?_, fun g2 => ?_⟩
    · have := b2 g2
      simp only [if_pos g2]
      exact ⟨by omega, by omega, by trivial, by trivial⟩
    · simp only [if_neg g2]
      exact ⟨by trivial, by trivial⟩
def sReached : Spec := Spec.f2 kW kI (fun w k => -(w.2.1.length : Int) - 1 ≤ k ∧ k ≤ w.1.length + 1 ∧ w.2.2.length = w.1.length + w.2.1.length + 3 ∧ w.2.2.length < 1000000000) (fun w k => kI.enc (rch w.2.1.length w.2.2 k))
theorem okReached : SpecOK Tryz.prog 223 sReached := by
  refine SpecOK.f2 Tryz.func223 rfl (by decide) Tryz.results223 Tryz.ntmps223 (by decide) fun w k hd => ?_
  have hΓ : GOK Tryz.prog (gam []) := GOK.nil
  obtain ⟨a, b, far⟩ := w
  simp only at hd
  refine AW.of hΓ mixed [99999] _ _ _ rfl ?_
  simp only [go_sem, kW, wAV]
  exact ⟨by omega, by omega, by omega, rfl⟩
def okFar (far : List Int) : Prop := ∀ y ∈ far, -1 ≤ y ∧ y < 1000000000
theorem gL_part (l r : List Int) : gL eI (.sn l.length 1 fun i => eI.enc ((l ++ r).getD i 0)) = l := by
  unfold gL
  simp only [eI.law]
  apply List.ext_getElem
  · simp
  · intro i h1 h2
    simp [List.getD, List.getElem?_append_left h2, List.getElem?_eq_getElem h2]
theorem part_le (l r : List Int) : AVle (.sn l.length 1 fun i => eI.enc ((l ++ r).getD i 0)) (sL eI l) :=
  vw_row (E := eI) rfl rfl (by simp) (by simp)
def sAdvance0 : MSpec := fun args hp top nx K => ∃ a b far rest k ver x far', args = [wAV (sL eI a) (sL eI b) (.ow 0 ver far.length), kI.enc k] ∧ hp = rws [(0, rowL ver 3 eI (far ++ rest))] ∧ top = 1 ∧
  okFar far ∧ a.length < 100000000 ∧ b.length < 100000000 ∧ advF a b far k = some (x, far') ∧ ∀ hp' top' nx', RowLe (hp' 0) (rowL ver 3 eI (far' ++ rest)) → nx ≤ nx' → K (kI.enc x) hp' top' nx'
theorem okAdvance0 : MethOK Tryz.prog 222 sAdvance0 := by
  refine MethOK.mk Tryz.func222 rfl (by decide) Tryz.results222 Tryz.ntmps222 ?_
  rintro args hp top nx K ⟨a, b, far, rest, k, ver, x, far', rfl, rfl, rfl, hfar, ha, hb, hadv, hK⟩
  have hΓ : GOK Tryz.prog (gam [(223, sReached)]) := (.cons okReached .nil)
  refine ⟨Nat.le_of_ble_eq_true rfl, ?_⟩
  unfold advF at hadv
  split at hadv
  · rename_i hc
    obtain ⟨c1, c2, c3, c4, c5⟩ := hc
    have hr : ∀ j : Int, -(b.length : Int) - 1 ≤ j → j ≤ a.length + 1 → -1 ≤ rch b.length far j ∧ rch b.length far j < 1000000000 := fun j h1 h2 => by
      unfold rch
      rw [gd_lt _ _ (by omega)]
      exact hfar _ (List.getElem_mem _)
    have hu := hr (k - 1) (by omega) (by omega)
    have hv := hr (k + 1) (by omega) (by omega)
    have hs : startD a b (rch b.length far (k - 1)) (rch b.length far (k + 1)) k = min (min (max (rch b.length far (k - 1) + 1) (rch b.length far (k + 1))) ↑a.length) (↑b.length + k) := rfl
    simp only [Option.some.injEq, Prod.mk.injEq] at hadv
    obtain ⟨hx, hfar'⟩ := hadv
    generalize hsg : startD a b (rch b.length far (k - 1)) (rch b.length far (k + 1)) k = s at *
    have s1 : s ≤ a.length := by omega
    have s2 : s ≤ b.length + k := by omega
    have hal := ahd_le (a.drop s.toNat) (b.drop (s - k).toNat)
    have has := ahd_spec 0 (a.drop s.toNat) (b.drop (s - k).toNat)
    simp only [List.length_drop, getD_drop'] at hal has
    refine AW.of hΓ mixed [] _ _ _ rfl ?_
    simp only [go_sem, sReached, kW_dec, wAV, gL_sL, gL_part]
    refine ⟨by omega, ⟨by omega, kW_ok (a := a) (b := b) (f := far) (AVle.refl _) (AVle.refl _) (part_le far rest) (gL_sL _ _) (gL_sL _ _) (gL_part far rest), by omega, by omega, by omega, by omega⟩, by omega, by omega, ⟨by omega, kW_ok (a := a) (b := b) (f := far) (AVle.refl _) (AVle.refl _) (part_le far rest) (gL_sL _ _) (gL_sL _ _) (gL_part far rest), by omega, by omega, by omega, by omega⟩, by omega, ?_⟩
    rw [← hs]
    refine AW.round (α := { i : Nat // i ≤ ahd (a.drop s.toNat) (b.drop (s - k).toNat) })
      (fun i => ⟨[(1, .val (.int .i64 k)), (2, .pt 1 nx 0), (5, .val (.int .i64 (s + i.1)))], [(0, rowL ver 3 eI (far ++ rest)), (1, .box nx 265 3 fun j => if j = 0 then sL eI a else if j = 1 then sL eI b else .ow 0 ver far.length)], 68, 2, nx + 1, []⟩) (fun i => a.length - i.1) ⟨0, Nat.zero_le _⟩ ?_ ?_
    · simp only [go_sem, sReached]
      exact ⟨by omega, RowLe.refl _, RowLe.refl _⟩
    · rintro ⟨i, hi⟩
      refine AW.of hΓ mixed [99999] _ _ _ rfl ?_
      simp only [go_sem, sReached]
      have t1 : (s + i).toNat = s.toNat + i := by omega
      have t2 : (s + i - k).toNat = (s - k).toNat + i := by omega
      refine ⟨fun _ => by omega, fun h => by omega, fun _ => by omega, fun h => by omega, fun ⟨⟨h1, h2⟩, h3⟩ => ⟨by omega, ⟨i + 1, ?_⟩, ⟨by dsimp only; omega, RowLe.refl _, RowLe.refl _⟩, by dsimp only; omega⟩, fun hno => ⟨by omega, by omega, by omega, by omega, ?_⟩⟩
      · rcases Nat.lt_or_ge i (ahd (a.drop s.toNat) (b.drop (s - k).toNat)) with g | g
        · exact g
        · have e : ahd (a.drop s.toNat) (b.drop (s - k).toNat) = i := by omega
          rw [e] at has
          rw [t1, t2] at h3
          exact absurd h3 (has.2 (by omega) (by omega))
      · have e : s + (i : Int) = x := by
          rcases Nat.lt_or_ge i (ahd (a.drop s.toNat) (b.drop (s - k).toNat)) with g | g
          · refine absurd ?_ (hno ⟨by omega, by omega⟩)
            rw [t1, t2]
            exact has.1 i g
          · omega
        rw [e]
        refine hK _ _ _ ?_ (by omega)
        exact row_set (E := eI) rfl (by rw [← hfar', hx, List.set_append_left _ _ (by omega)]) (by simp) (by simp) (fun _ _ => AVle.refl _)
  · cases hadv
theorem startR_set (far : List Int) {i : Nat} (h : i < far.length) : startR (i + 1) ++ far.drop (i + 1) = (startR i ++ far.drop i).set i (-1) := by
  rw [List.set_append_right _ _ (by simp [startR]), List.drop_eq_getElem_cons h, show i - (startR i).length = 0 by simp [startR]]
  simp only [startR, List.replicate_succ', List.append_assoc, List.set_cons_zero, List.cons_append, List.nil_append]
def sNewWalk0 : MSpec := fun args hp top nx K => ∃ a b far ver, args = [sL eI a, sL eI b, .ow 0 ver far.length] ∧ hp = rws [(0, rowL ver 3 eI far)] ∧ top = 1 ∧
  a.length < 100000000 ∧ b.length < 100000000 ∧ a.length + b.length + 3 ≤ far.length ∧ far.length < 1000000000 ∧
  ∀ r hp' top' nx', AVle r (wAV (sL eI a) (sL eI b) (.ow 0 ver (a.length + b.length + 3))) → RowLe (hp' 0) (rowL ver 3 eI (startR (a.length + b.length + 3) ++ far.drop (a.length + b.length + 3))) → nx ≤ nx' → K r hp' top' nx'
theorem okNewWalk0 : MethOK Tryz.prog 220 sNewWalk0 := by
  refine MethOK.mk Tryz.func220 rfl (by decide) Tryz.results220 Tryz.ntmps220 ?_
  rintro args hp top nx K ⟨a, b, far, ver, rfl, rfl, rfl, ha, hb, hf, hl, hK⟩
  have hΓ : GOK Tryz.prog (gam []) := GOK.nil
  refine ⟨Nat.le_of_ble_eq_true rfl, ?_⟩
  refine AW.of hΓ mixed [] _ _ _ rfl ?_
  simp only [go_sem]
  have en : ((a.length : Int) + b.length + 3).toNat = a.length + b.length + 3 := by omega
  have ez : ∀ i, i ≤ a.length + b.length + 3 → (startR i ++ far.drop i).length = far.length := fun i hi => by simp [startR]; omega
  rw [en]
  refine ⟨by omega, by omega, by omega, ?_⟩
  refine AW.round (α := { i : Nat // i ≤ a.length + b.length + 3 })
    (fun i => ⟨[(0, sL eI a), (1, sL eI b), (6, .pt 1 nx 0), (7, .ow 0 ver (a.length + b.length + 3)), (18, .val (.int .i64 (a.length + b.length + 3 : Nat))), (19, .val (.int .i64 i.1))], [(0, rowL ver 3 eI (startR i.1 ++ far.drop i.1)), (1, .box nx 265 3 (zC [Value.slice none 0 0, Value.slice none 0 0, Value.slice none 0 0]))], 30, 2, nx + 1, []⟩) (fun i => a.length + b.length + 3 - i.1) ⟨0, Nat.zero_le _⟩ ?_ ?_
  · simp only [go_sem]
    exact ⟨RowLe.sl (by simp [startR]) fun i hi j hj => AVle.of_eq (by simp [startR]), RowLe.refl _⟩
  · rintro ⟨i, hi⟩
    refine AW.of hΓ mixed [99999] _ _ _ rfl ?_
    simp only [go_sem]
    refine ⟨fun hlt => ⟨by omega, by simp [startR]; omega, by omega, ⟨i + 1, by omega⟩, ⟨by dsimp only; omega, ?_, RowLe.refl _⟩, by dsimp only; omega⟩, fun hge => ?_⟩
    · exact row_set (E := eI) (l := startR i ++ far.drop i) rfl (startR_set far (by omega)) (by simp) (by simp) (fun _ _ => AVle.refl _)
    · have hn : i = a.length + b.length + 3 := by omega
      subst hn
      refine hK _ _ _ _ ?_ ?_ (by omega)
      · refine AVle.ag fun j hj => ?_
        match j, hj with
        | 0, _ => exact AVle.refl _
        | 1, _ => exact AVle.refl _
        | 2, _ => exact AVle.refl _
      · show RowLe (Row.sl ver 3 1 ((startR (a.length + b.length + 3)).length + (far.length - (a.length + b.length + 3))) fun i => eI.enc ((startR (a.length + b.length + 3) ++ far.drop (a.length + b.length + 3)).getD i 0)) _
        exact RowLe.sl (by simp) fun _ _ _ _ => AVle.refl _
end Go.Proofs.YthpjjjnbkfnghaaGreatDoor
set_option linter.unusedSimpArgs false
set_option linter.unusedVariables false
set_option maxRecDepth 100000
set_option maxHeartbeats 2000000
namespace Go.Proofs.YthpjjjnbkfnghaaGreatDoor
open Go
attribute [local irreducible] AW AVle ASle RowLe
def sNewWalk : MSpec := framed sNewWalk0
theorem okNewWalk : MethOK Tryz.prog 220 sNewWalk := okNewWalk0.frame
theorem newWalk_go {a b far : List Int} {ver p n : Nat} {x y : AV} {hp : Nat → Row} {top nx : Nat} {K : AV → (Nat → Row) → Nat → Nat → Prop} (hx : AVle x (sL eI a)) (hy : AVle y (sL eI b)) (hn : n = far.length) (hr : RowLe (hp p) (rowL ver 3 eI far)) (hp0 : p < top)
    (ha : a.length < 100000000) (hb : b.length < 100000000) (hf : a.length + b.length + 3 ≤ far.length) (hl : far.length < 1000000000)
    (hK : ∀ nx', nx ≤ nx' → K (wAV (sL eI a) (sL eI b) (.ow p ver (a.length + b.length + 3))) (updR hp p (rowL ver 3 eI (startR (a.length + b.length + 3) ++ far.drop (a.length + b.length + 3)))) top nx') :
    sNewWalk [x, y, .ow p ver n] hp top nx K := by
  subst hn
  have hver : (hp p).ver = some ver := hr.vers.symm
  refine ⟨[p], [sL eI a, sL eI b, .ow 0 ver far.length], rws [(0, rowL ver 3 eI far)], by simp, by simpa using hp0, .cons hx (.cons hy (.cons AVle.ow .nil)), one_row hr, fun i hi => rws_top (top := 1) (by simp) i (by simpa using hi), a, b, far, ver, rfl, rfl, rfl, ha, hb, hf, hl, fun r hp' top' nx' h1 h2 h3 => ?_⟩
  refine ⟨wAV (sL eI a) (sL eI b) (.ow p ver (a.length + b.length + 3)), updR hp p (rowL ver 3 eI (startR (a.length + b.length + 3) ++ far.drop (a.length + b.length + 3))), h1.trans ?_, fun i q hq => ?_, fun q hq => ?_, fun q hq v hv => ?_, hK nx' h3⟩
  · refine AVle.ag fun j hj => ?_
    match j, hj with
    | 0, _ => exact AVle.refl _
    | 1, _ => exact AVle.refl _
    | 2, _ => exact AVle.ow
  · cases i with
    | zero =>
      simp only [List.getElem?_cons_zero, Option.some.injEq] at hq
      subst hq
      rw [updR_at]
      exact h2
    | succ i => simp at hq
  · rw [updR_ne _ _ (by simpa using hq)]
  · simp only [List.mem_singleton] at hq
    subst hq
    rw [updR_at] at hv
    exact .inl (hver.trans hv)
def sAdvance : MSpec := framed sAdvance0
theorem okAdvance : MethOK Tryz.prog 222 sAdvance := okAdvance0.frame
theorem advance_go {a b far far' rest : List Int} {k x : Int} {ver p : Nat} {w : AV} {hp : Nat → Row} {top nx : Nat} {K : AV → (Nat → Row) → Nat → Nat → Prop} (hw : AVle w (wAV (sL eI a) (sL eI b) (.ow p ver far.length))) (hr : RowLe (hp p) (rowL ver 3 eI (far ++ rest))) (hp0 : p < top)
    (hfar : okFar far) (ha : a.length < 100000000) (hb : b.length < 100000000) (hadv : advF a b far k = some (x, far'))
    (hK : ∀ nx', nx ≤ nx' → K (kI.enc x) (updR hp p (rowL ver 3 eI (far' ++ rest))) top nx') : sAdvance [w, kI.enc k] hp top nx K := by
  have hver : (hp p).ver = some ver := hr.vers.symm
  refine ⟨[p], [wAV (sL eI a) (sL eI b) (.ow 0 ver far.length), kI.enc k], rws [(0, rowL ver 3 eI (far ++ rest))], by simp, by simpa using hp0, .cons (hw.trans ?_) (.cons (AVle.refl _) .nil), one_row hr, fun i hi => rws_top (top := 1) (by simp) i (by simpa using hi), a, b, far, rest, k, ver, x, far', rfl, rfl, rfl, hfar, ha, hb, hadv, fun hp' top' nx' h2 h3 => ?_⟩
  · refine AVle.ag fun j hj => ?_
    match j, hj with
    | 0, _ => exact AVle.refl _
    | 1, _ => exact AVle.refl _
    | 2, _ => exact AVle.ow
  refine ⟨kI.enc x, updR hp p (rowL ver 3 eI (far' ++ rest)), AVle.refl _, fun i q hq => ?_, fun q hq => ?_, fun q hq v hv => ?_, hK nx' h3⟩
  · cases i with
    | zero =>
      simp only [List.getElem?_cons_zero, Option.some.injEq] at hq
      subst hq
      rw [updR_at]
      exact h2
    | succ i => simp at hq
  · rw [updR_ne _ _ (by simpa using hq)]
  · simp only [List.mem_singleton] at hq
    subst hq
    rw [updR_at] at hv
    exact .inl (hver.trans hv)
end Go.Proofs.YthpjjjnbkfnghaaGreatDoor
set_option linter.unusedVariables false
namespace Go.Proofs.YthpjjjnbkfnghaaGreatDoor
def partL (l : List Int) (i j : Nat) : List Int := (l.drop i).take (j - i)
theorem partL_len {l : List Int} {i j : Nat} (h : j ≤ l.length) : (partL l i j).length = j - i := by
  simp only [partL, List.length_take, List.length_drop]; omega
theorem partL_rev {l : List Int} {i j : Nat} (h1 : i ≤ j) (h : j ≤ l.length) : partL l.reverse (l.length - j) (l.length - i) = (partL l i j).reverse := by
  refine list_ext_getD 0 (by rw [partL_len (by simp), List.length_reverse, partL_len h]; omega) fun k hk => ?_
  rw [partL_len (by simp)] at hk
  have h1 : k < (l.drop i).length := by simp; omega
  unfold partL
  simp only [List.getD]
  rw [List.getElem?_take, if_pos (by omega), List.getElem?_drop, List.getElem?_reverse (by omega), List.getElem?_reverse (by simp; omega), List.getElem?_take, if_pos (by simp; omega), List.getElem?_drop]
  congr 2
  have h2 : (List.take (j - i) (List.drop i l)).length = j - i := by simp; omega
  omega
theorem partL_drop {l : List Int} {i j k : Nat} : (partL l i j).drop k = partL l (i + k) j := by
  unfold partL
  rw [List.drop_take, List.drop_drop, Nat.sub_sub]
theorem partL_take {l : List Int} {i j k : Nat} (h : i + k ≤ j) : (partL l i j).take k = partL l i (i + k) := by
  unfold partL
  rw [List.take_take]
  congr 1
  omega
theorem partL_all (l : List Int) : partL l 0 l.length = l := by
  unfold partL
  simp
def findG (a b : List Int) : List (Int × Int) := findF (a.length + b.length + 1) a b
theorem findF_G {a b : List Int} {f : Nat} (h : a.length + b.length < f) : findF f a b = findG a b := (find_spec (a.length + b.length + 1) a b (by omega)).2.2 f h
theorem findG_len (a b : List Int) : (findG a b).length = lcsN a b := (find_spec (a.length + b.length + 1) a b (by omega)).2.1
theorem findG_none {a b : List Int} (h : ¬ ((core a b).length ≠ 0 ∧ (coreR a b).length ≠ 0)) : findG a b = prs 0 0 (ahd a b) ++ prs ((a.length : Int) - bh a b) ((b.length : Int) - bh a b) (bh a b) := by
  unfold findG
  rw [findF_succ, stepP, if_neg h]
  rfl
theorem findG_some {a b : List Int} (h1 : (core a b).length ≠ 0) (h2 : (coreR a b).length ≠ 0) : ∃ p q : Nat, cutF (core a b) (coreR a b) = some ((p : Int), (q : Int)) ∧ p ≤ (core a b).length ∧ q ≤ (coreR a b).length ∧ 0 < p + q ∧ p + q < (core a b).length + (coreR a b).length ∧
    findG a b = prs 0 0 (ahd a b) ++ ((shP (ahd a b) (ahd a b) (findG ((core a b).take p) ((coreR a b).take q)) ++ shP (ahd a b + p) (ahd a b + q) (findG ((core a b).drop p) ((coreR a b).drop q))) ++ prs ((a.length : Int) - bh a b) ((b.length : Int) - bh a b) (bh a b)) := by
  have hb := bh_le (a := a) (b := b)
  have hl := core_len (a := a) (b := b)
  obtain ⟨p, q, e, p1, q1, g1, g2, g3⟩ := cut_spec h1 h2 (core_ends h1 h2).1 (core_ends h1 h2).2
  refine ⟨p, q, e, p1, q1, g1, g2, ?_⟩
  rw [findG, findF_succ, stepP, if_pos ⟨h1, h2⟩, e]
  simp only [Int.toNat_natCast]
  rw [findF_G (by simp only [List.length_take]; omega), findF_G (by simp only [List.length_drop]; omega)]
end Go.Proofs.YthpjjjnbkfnghaaGreatDoor
set_option linter.unusedSimpArgs false
set_option linter.unusedVariables false
set_option maxRecDepth 100000
set_option maxHeartbeats 2000000
namespace Go.Proofs.YthpjjjnbkfnghaaGreatDoor
open Go
attribute [local irreducible] AW AVle ASle RowLe
def fAV (a b : List Int) (u v z : AV) : Nat → AV
  | 0 => sL eI a
  | 1 => sL eI b
  | 2 => sL eI a.reverse
  | 3 => sL eI b.reverse
  | 4 => u
  | 5 => v
  | _ => z
section
variable (a b : List Int) (u v z : AV)
theorem fAV_0 : fAV a b u v z 0 = sL eI a := rfl
theorem fAV_1 : fAV a b u v z 1 = sL eI b := rfl
theorem fAV_2 : fAV a b u v z 2 = sL eI a.reverse := rfl
theorem fAV_3 : fAV a b u v z 3 = sL eI b.reverse := rfl
theorem fAV_4 : fAV a b u v z 4 = u := rfl
theorem fAV_5 : fAV a b u v z 5 = v := rfl
theorem fAV_6 : fAV a b u v z 6 = z := rfl
end
theorem adv_facts {a b far far' : List Int} {k x : Int} (h : advF a b far k = some (x, far')) (hf : okFar far) : far'.length = far.length ∧ (a.length < 1000000000 → okFar far') ∧ 0 ≤ x ∧ x ≤ a.length ∧ k ≤ x ∧ x - k ≤ b.length ∧ -(b.length : Int) ≤ k ∧ k ≤ a.length := by
  unfold advF at h
  split at h
  · rename_i hc
    obtain ⟨c1, c2, c3, c4, c5⟩ := hc
    have hs : startD a b (rch b.length far (k - 1)) (rch b.length far (k + 1)) k = min (min (max (rch b.length far (k - 1) + 1) (rch b.length far (k + 1))) ↑a.length) (↑b.length + k) := rfl
    simp only [Option.some.injEq, Prod.mk.injEq] at h
    obtain ⟨hx, hfar'⟩ := h
    generalize startD a b (rch b.length far (k - 1)) (rch b.length far (k + 1)) k = s at *
    have hal := ahd_le (a.drop s.toNat) (b.drop (s - k).toNat)
    simp only [List.length_drop] at hal
    rw [hx] at hfar'
    subst hfar'
    refine ⟨by simp, fun hl y hy => ?_, by omega, by omega, by omega, by omega, c3, c4⟩
    rcases List.mem_or_eq_of_mem_set hy with hy | rfl
    · exact hf y hy
    · omega
  · cases h
theorem rch_ok {far : List Int} {n m : Nat} {j : Int} (h : okFar far) (hl : far.length = n + m + 3) (h1 : -(m : Int) - 1 ≤ j) (h2 : j ≤ n + 1) : -1 ≤ rch m far j ∧ rch m far j < 1000000000 := by
  unfold rch
  rw [gd_lt _ _ (by omega)]
  exact h _ (List.getElem_mem _)
theorem row_len {v t n : Nat} {l : List Int} (h : n = l.length) : RowLe (.sl v t 1 n fun i => eI.enc (l.getD i 0)) (rowL v t eI l) := by
  subst h
  exact RowLe.refl _
theorem okFar_start (n : Nat) : okFar (startR n) := fun y hy => by
  have := (List.mem_replicate.1 hy).2
  omega
def sMiddle0 : MSpec := fun args hp top nx K => ∃ a b f1 f2 z fv v1 v2 fa ta fb tb p q, args = [.pt 0 fv 0, kI.enc (fa : Nat), kI.enc (ta : Nat), kI.enc (fb : Nat), kI.enc (tb : Nat)] ∧
  hp = rws [(0, .box fv 198 7 (fAV a b (.ow 1 v1 f1.length) (.ow 2 v2 f2.length) z)), (1, rowL v1 3 eI f1), (2, rowL v2 3 eI f2)] ∧ top = 3 ∧
  fa ≤ ta ∧ ta ≤ a.length ∧ fb ≤ tb ∧ tb ≤ b.length ∧ a.length < 100000000 ∧ b.length < 100000000 ∧ a.length + b.length + 3 ≤ f1.length ∧ a.length + b.length + 3 ≤ f2.length ∧ f1.length < 1000000000 ∧ f2.length < 1000000000 ∧
  cutF (partL a fa ta) (partL b fb tb) = some (p, q) ∧
  ∀ g1 g2 hp' top' nx', g1.length = f1.length → g2.length = f2.length → RowLe (hp' 0) (.box fv 198 7 (fAV a b (.ow 1 v1 f1.length) (.ow 2 v2 f2.length) z)) → RowLe (hp' 1) (rowL v1 3 eI g1) → RowLe (hp' 2) (rowL v2 3 eI g2) → nx ≤ nx' →
    K (tu2 (kI.enc p) (kI.enc q)) hp' top' nx'
theorem okMiddle0 : MethOK Tryz.prog 189 sMiddle0 := by
  refine MethOK.mk Tryz.func189 rfl (by decide) Tryz.results189 Tryz.ntmps189 ?_
  rintro args hp top nx K ⟨a, b, f1, f2, z, fv, v1, v2, fa, ta, fb, tb, p, q, rfl, rfl, rfl, hfa, hta, hfb, htb, ha, hb, hr1, hr2, hl1, hl2, hcut, hK⟩
  have hΓ : GOK Tryz.prog (gam [(220, sNewWalk), (222, sAdvance), (223, sReached), (221, sDiagonals)]) := (.cons okNewWalk (.cons okAdvance (.cons okReached (.cons okDiagonals .nil))))
  refine ⟨Nat.le_of_ble_eq_true rfl, ?_⟩
  refine AW.of hΓ mixed [200002, 200003] _ _ _ rfl ?_
  simp only [go_sem, sNewWalk, sAdvance, sReached, sDiagonals, fAV_0, fAV_1, fAV_2, fAV_3, fAV_4, fAV_5, fAV_6]
  refine ⟨by omega, by omega, ?_⟩
  refine AW.drawT hΓ mixed 18 [19] (by decide +kernel) ?_
  simp only [go_sem, sNewWalk, sAdvance, sReached, sDiagonals, fAV_0, fAV_1, fAV_2, fAV_3, fAV_4, fAV_5, fAV_6]
  have lA : (partL a fa ta).length = ta - fa := partL_len hta
  have lB : (partL b fb tb).length = tb - fb := partL_len htb
  refine ⟨by omega, by omega, newWalk_go (a := partL a fa ta) (b := partL b fb tb) (far := f1) (sLd_le eI a (by omega)) (sLd_le eI b (by omega)) rfl ?_ (by decide) (by omega) (by omega) (by omega) (by omega) fun n1 hn1 => ?_⟩
  · exact RowLe.refl _
  simp only [go_sem, sNewWalk, sAdvance, sReached, sDiagonals, cellsAV, wAV]
  refine AW.drawT hΓ mixed 42 [43] (by decide +kernel) ?_
  simp only [go_sem, sNewWalk, sAdvance, sReached, sDiagonals, fAV_0, fAV_1, fAV_2, fAV_3, fAV_4, fAV_5, fAV_6]
  have hAe : (ta : Int) - fa = ((partL a fa ta).length : Int) := by omega
  have hBe : (tb : Int) - fb = ((partL b fb tb).length : Int) := by omega
  have hAr := partL_rev hfa hta
  have hBr := partL_rev hfb htb
  have t1 : ((a.length : Int) - ta).toNat = a.length - ta := by omega
  have t2 : ((a.length : Int) - fa).toNat = a.length - fa := by omega
  have t3 : ((b.length : Int) - tb).toNat = b.length - tb := by omega
  have t4 : ((b.length : Int) - fb).toNat = b.length - fb := by omega
  have l1 : a.reverse.length = a.length := List.length_reverse
  have l2 : b.reverse.length = b.length := List.length_reverse
  rw [t1, t2, t3, t4]
  refine ⟨by omega, by omega, by omega, by omega, by omega, by omega, newWalk_go (a := (partL a fa ta).reverse) (b := (partL b fb tb).reverse) (far := f2) ?_ ?_ rfl ?_ (by decide) (by simp; omega) (by simp; omega) (by simp; omega) (by omega) fun n2 hn2 => ?_⟩
  · rw [← hAr]; exact sLd_le eI a.reverse (by omega)
  · rw [← hBr]; exact sLd_le eI b.reverse (by omega)
  · exact RowLe.refl _
  generalize partL a fa ta = A at *
  generalize partL b fb tb = B at *
  simp only [go_sem, sNewWalk, sAdvance, sReached, sDiagonals, cellsAV, wAV, hAe, hBe, len_rev]
  have hod : decide (¬((A.length : Int) - B.length).tmod 2 = 0) = oddD A.length B.length := rfl
  rw [hod]
  refine ⟨by omega, ?_⟩
  obtain ⟨N, hN⟩ : ∃ N, A.length + B.length + 3 = N := ⟨_, rfl⟩
  unfold cutF at hcut
  rw [hN] at hcut ⊢
  refine AW.round (α := { x : Nat × List Int × List Int × Nat // midF A B (A.length + B.length + 1 - x.1) x.1 x.2.1 x.2.2.1 = some (p, q) ∧ x.2.1.length = N ∧ x.2.2.1.length = N ∧ okFar x.2.1 ∧ okFar x.2.2.1 ∧ n2 ≤ x.2.2.2 })
    (fun x => ⟨[(12, .val (.int .i64 A.length)), (13, .val (.int .i64 B.length)), (14, .pt 3 nx 0), (15, .pt 4 n1 0), (16, .val (.bool (oddD A.length B.length))), (17, .val (.int .i64 x.1.1))],
      [(0, .box fv 198 7 (fAV a b (.ow 1 v1 f1.length) (.ow 2 v2 f2.length) z)), (1, rowL v1 3 eI (x.1.2.1 ++ f1.drop N)), (2, rowL v2 3 eI (x.1.2.2.1 ++ f2.drop N)),
        (3, .box nx 265 3 fun j => if j = 0 then sL eI A else if j = 1 then sL eI B else .ow 1 v1 N), (4, .box n1 265 3 fun j => if j = 0 then sL eI A.reverse else if j = 1 then sL eI B.reverse else .ow 2 v2 N)], 165, 5, x.1.2.2.2, []⟩)
    (fun x => A.length + B.length + 1 - x.1.1) ⟨(0, startR N, startR N, n2), hcut, by simp [startR], by simp [startR], okFar_start N, okFar_start N, Nat.le_refl _⟩ ?_ ?_
  · simp only [go_sem, sNewWalk, sAdvance, sReached, sDiagonals]
    exact ⟨RowLe.refl _, RowLe.refl _, RowLe.refl _, box_st, box_st⟩
  · rintro ⟨⟨d, F1, F2, n3⟩, hmid, hF1, hF2, ho1, ho2, hn3⟩
    simp only at hmid hF1 hF2 ho1 ho2 hn3
    refine AW.of hΓ mixed [] _ _ _ rfl ?_
    simp only [go_sem, sNewWalk, sAdvance, sReached, sDiagonals, Int.toNat_natCast]
    have hl := low_facts d B.length
    have hh := high_facts d A.length
    have hf : ∃ f, A.length + B.length + 1 - d = f + 1 := by
      cases h0 : A.length + B.length + 1 - d with
      | zero => rw [h0] at hmid; cases hmid
      | succ f => exact ⟨f, rfl⟩
    obtain ⟨f, hf⟩ := hf
    rw [hf, midF, hN] at hmid
    generalize hR : stepF A B (oddD A.length B.length) F2 (highD d A.length) N (lowD d B.length) F1 = R at hmid
    have hRn : R ≠ none := by rintro rfl; cases hmid
    refine ⟨⟨⟨by omega, by omega⟩, ⟨by omega, by omega⟩, by omega, by omega⟩, ?_⟩
    have gF2 := gL_part F2 (f2.drop N)
    have pF2 := part_le F2 (f2.drop N)
    rw [hF2] at gF2 pF2
    refine AW.round (α := { x : Nat × Int × List Int × Nat // stepF A B (oddD A.length B.length) F2 (highD d A.length) x.1 x.2.1 x.2.2.1 = R ∧ -(B.length : Int) ≤ x.2.1 ∧ x.2.2.1.length = N ∧ okFar x.2.2.1 ∧ n2 ≤ x.2.2.2 })
      (fun x => ⟨[(12, .val (.int .i64 A.length)), (13, .val (.int .i64 B.length)), (14, .pt 3 nx 0), (15, .pt 4 n1 0), (16, .val (.bool (oddD A.length B.length))), (17, .val (.int .i64 d)), (18, .val (.int .i64 (lowD d B.length))), (19, .val (.int .i64 (highD d A.length))), (20, .val (.int .i64 x.1.2.1))],
        [(0, .box fv 198 7 (fAV a b (.ow 1 v1 f1.length) (.ow 2 v2 f2.length) z)), (1, rowL v1 3 eI (x.1.2.2.1 ++ f1.drop N)), (2, rowL v2 3 eI (F2 ++ f2.drop N)),
          (3, .box nx 265 3 fun j => if j = 0 then sL eI A else if j = 1 then sL eI B else .ow 1 v1 N), (4, .box n1 265 3 fun j => if j = 0 then sL eI A.reverse else if j = 1 then sL eI B.reverse else .ow 2 v2 N)], 165, 5, x.1.2.2.2, []⟩)
      (fun x => x.1.1) ⟨(N, lowD d B.length, F1, n3), hR, hl.2.1, hF1, ho1, hn3⟩ ?_ ?_
    · simp only [go_sem, sNewWalk, sAdvance, sReached, sDiagonals]
      exact ⟨RowLe.refl _, RowLe.refl _, RowLe.refl _, RowLe.refl _, RowLe.refl _⟩
    · rintro ⟨⟨g, k, F, n4⟩, hs, hk0, hF, hoF, hn4⟩
      simp only at hs hk0 hF hoF hn4
      by_cases hkh : k ≤ highD d A.length
      · cases g with
        | zero => exact absurd hs.symm hRn
        | succ g =>
          rw [stepF, if_pos hkh] at hs
          cases hadv : advF A B F k with
          | none => rw [hadv] at hs; exact absurd hs.symm hRn
          | some xf =>
            obtain ⟨x, F'⟩ := xf
            rw [hadv] at hs
            simp only at hs
            have af := adv_facts hadv hoF
            have hrc := rch_ok (far := F2) (n := A.length) (m := B.length) (j := A.length - B.length - k) ho2 (by omega) (by omega) (by omega)
            refine AW.of hΓ mixed [11] _ _ _ rfl ?_
            simp only [go_sem, sNewWalk, sAdvance, sReached, sDiagonals, hkh]
            refine advance_go (far := F) (far' := F') (x := x) (rest := f1.drop N) (p := 1) (by rw [hF]; exact AVle.refl _) (row_len (by simp)) (by decide) hoF (by omega) (by omega) hadv fun n5 hn5 => ?_
            simp only [go_sem, sNewWalk, sAdvance, sReached, sDiagonals]
            refine AW.of hΓ mixed [99999] _ _ _ rfl ?_
            simp only [go_sem, sNewWalk, sAdvance, sReached, sDiagonals, kW_dec, gL_sL, gF2, len_rev, hF2]
            have hmeet : oddD A.length B.length = true ∧ (A.length : Int) ≤ x + rch B.length F2 (A.length - B.length - k) ∨ ¬ (oddD A.length B.length = true ∧ (A.length : Int) ≤ x + rch B.length F2 (A.length - B.length - k)) := Classical.em _
            refine ⟨fun _ => by omega, fun _ => by omega, fun _ => ⟨by omega, kW_ok (a := A.reverse) (b := B.reverse) (f := F2) (AVle.refl _) (AVle.refl _) pF2 (gL_sL _ _) (gL_sL _ _) gF2, by omega, by omega, by omega, by omega⟩, fun _ => by omega, fun hm => ⟨by omega, ?_⟩, fun hm => ⟨by omega, ⟨(g, k + 2, F', n5), ?_, by dsimp only; omega, by dsimp only; omega, af.2.1 (by omega), by dsimp only; omega⟩, ⟨Nat.le_refl _, rfl, RowLe.refl _, RowLe.refl _, RowLe.refl _, RowLe.refl _, RowLe.refl _⟩, Nat.lt_succ_self _⟩⟩
            · rw [if_pos hm] at hs
              subst hs
              simp only [Option.some.injEq, Prod.mk.injEq] at hmid
              obtain ⟨e1, e2⟩ := hmid
              rw [e2, e1]
              exact hK (F' ++ f1.drop N) (F2 ++ f2.drop N) _ _ _ (by simp; omega) (by simp; omega) (RowLe.refl _) (row_len (by simp)) (row_len (by simp; omega)) (by omega)
            · rw [if_neg (fun h => hm h.1 h.2)] at hs
              exact hs
      · cases g with
        | zero => exact absurd hs.symm hRn
        | succ g =>
          rw [stepF, if_neg hkh] at hs
          subst hs
          simp only at hmid
          refine AW.of hΓ mixed [] _ _ _ rfl ?_
          simp only [go_sem, sNewWalk, sAdvance, sReached, sDiagonals, hkh]
          generalize hR2 : stepF A.reverse B.reverse (!oddD A.length B.length) F (highD d A.length) N (lowD d B.length) F2 = R2 at hmid
          have hRn2 : R2 ≠ none := by rintro rfl; cases hmid
          have gF := gL_part F (f1.drop N)
          have pF := part_le F (f1.drop N)
          rw [hF] at gF pF
          refine AW.round (α := { x : Nat × Int × List Int × Nat // stepF A.reverse B.reverse (!oddD A.length B.length) F (highD d A.length) x.1 x.2.1 x.2.2.1 = R2 ∧ -(B.length : Int) ≤ x.2.1 ∧ x.2.2.1.length = N ∧ okFar x.2.2.1 ∧ n2 ≤ x.2.2.2 })
            (fun x => ⟨[(12, .val (.int .i64 A.length)), (13, .val (.int .i64 B.length)), (14, .pt 3 nx 0), (15, .pt 4 n1 0), (16, .val (.bool (oddD A.length B.length))), (17, .val (.int .i64 d)), (19, .val (.int .i64 (highD d A.length))), (22, .val (.int .i64 x.1.2.1))],
              [(0, .box fv 198 7 (fAV a b (.ow 1 v1 f1.length) (.ow 2 v2 f2.length) z)), (1, rowL v1 3 eI (F ++ f1.drop N)), (2, rowL v2 3 eI (x.1.2.2.1 ++ f2.drop N)),
                (3, .box nx 265 3 fun j => if j = 0 then sL eI A else if j = 1 then sL eI B else .ow 1 v1 N), (4, .box n1 265 3 fun j => if j = 0 then sL eI A.reverse else if j = 1 then sL eI B.reverse else .ow 2 v2 N)], 165, 5, x.1.2.2.2, []⟩)
            (fun x => x.1.1) ⟨(N, lowD d B.length, F2, n4), hR2, hl.2.1, hF2, ho2, hn4⟩ ?_ ?_
          · simp only [go_sem, sNewWalk, sAdvance, sReached, sDiagonals]
            exact ⟨RowLe.refl _, RowLe.refl _, RowLe.refl _, RowLe.refl _, RowLe.refl _⟩
          · rintro ⟨⟨h, k2, G, n5⟩, hs, hk0, hG, hoG, hn5⟩
            simp only at hs hk0 hG hoG hn5
            by_cases hkh : k2 ≤ highD d A.length
            · cases h with
              | zero => exact absurd hs.symm hRn2
              | succ h =>
                rw [stepF, if_pos hkh] at hs
                cases hadv : advF A.reverse B.reverse G k2 with
                | none => rw [hadv] at hs; exact absurd hs.symm hRn2
                | some xf =>
                  obtain ⟨x, G'⟩ := xf
                  rw [hadv] at hs
                  simp only [len_rev] at hs
                  have af := adv_facts hadv hoG
                  simp only [len_rev] at af
                  have hrc := rch_ok (far := F) (n := A.length) (m := B.length) (j := A.length - B.length - k2) hoF (by omega) (by omega) (by omega)
                  refine AW.of hΓ mixed [17] _ _ _ rfl ?_
                  simp only [go_sem, sNewWalk, sAdvance, sReached, sDiagonals, hkh]
                  refine advance_go (far := G) (far' := G') (x := x) (rest := f2.drop N) (p := 2) (by rw [hG]; exact AVle.refl _) (row_len (by simp)) (by decide) hoG (by simp; omega) (by simp; omega) hadv fun n6 hn6 => ?_
                  simp only [go_sem, sNewWalk, sAdvance, sReached, sDiagonals]
                  refine AW.of hΓ mixed [99999] _ _ _ rfl ?_
                  simp only [go_sem, sNewWalk, sAdvance, sReached, sDiagonals, kW_dec, gL_sL, gF, len_rev, hF]
                  refine ⟨fun _ => by omega, fun _ => by omega, fun _ => ⟨by omega, kW_ok (a := A) (b := B) (f := F) (AVle.refl _) (AVle.refl _) pF (gL_sL _ _) (gL_sL _ _) gF, by omega, by omega, by omega, by omega⟩, fun _ => by omega, fun hm => ?_, fun hm => ⟨by omega, ⟨(h, k2 + 2, G', n6), ?_, by dsimp only; omega, by dsimp only; omega, af.2.1 (by omega), by dsimp only; omega⟩, ⟨Nat.le_refl _, rfl, RowLe.refl _, RowLe.refl _, RowLe.refl _, RowLe.refl _, RowLe.refl _⟩, Nat.lt_succ_self _⟩⟩
                  · rw [if_pos ⟨by simp [hm.1], hm.2⟩] at hs
                    subst hs
                    simp only [Option.some.injEq, Prod.mk.injEq] at hmid
                    obtain ⟨e1, e2⟩ := hmid
                    refine ⟨by omega, by omega, by omega, ?_⟩
                    rw [e2, e1]
                    exact hK (F ++ f1.drop N) (G' ++ f2.drop N) _ _ _ (by simp; omega) (by simp; omega) (RowLe.refl _) (row_len (by simp; omega)) (row_len (by simp)) (by omega)
                  · rw [if_neg (fun hh => hm (by simpa using hh.1) hh.2)] at hs
                    exact hs
            · cases h with
              | zero => exact absurd hs.symm hRn2
              | succ h =>
                rw [stepF, if_neg hkh] at hs
                subst hs
                simp only at hmid
                refine AW.of hΓ mixed [] _ _ _ rfl ?_
                simp (maxSteps := 2000000) only [go_sem, sNewWalk, sAdvance, sReached, sDiagonals, hkh]
                refine ⟨by omega, ⟨(d + 1, F, G, n5), ?_, hF, hG, hoF, hoG, hn5⟩, ⟨Nat.le_refl _, rfl, RowLe.refl _, RowLe.refl _, RowLe.refl _, RowLe.refl _, RowLe.refl _⟩, by dsimp only; omega⟩
                dsimp only
                rw [show A.length + B.length + 1 - (d + 1) = f by omega]
                exact hmid
end Go.Proofs.YthpjjjnbkfnghaaGreatDoor
set_option linter.unusedSimpArgs false
set_option linter.unusedVariables false
set_option maxRecDepth 100000
set_option maxHeartbeats 2000000
namespace Go.Proofs.YthpjjjnbkfnghaaGreatDoor
open Go
attribute [local irreducible] AW AVle ASle RowLe
def sMiddle : MSpec := framed sMiddle0
theorem okMiddle : MethOK Tryz.prog 189 sMiddle := okMiddle0.frame
theorem fAV_le {a b : List Int} {u v z u' v' z' : AV} (h1 : AVle u u') (h2 : AVle v v') (h3 : AVle z z') : ∀ j, AVle (fAV a b u v z j) (fAV a b u' v' z' j)
  | 0 => AVle.refl _
  | 1 => AVle.refl _
  | 2 => AVle.refl _
  | 3 => AVle.refl _
  | 4 => h1
  | 5 => h2
  | _ + 6 => h3
def sAdd0 : MSpec := fun args hp top nx K => ∃ a b u v l fv pv i j n, args = [.pt 0 fv 0, kI.enc (i : Nat), kI.enc (j : Nat), kI.enc (n : Nat)] ∧
  hp = rws [(0, .box fv 198 7 (fAV a b u v (.ow 1 pv l.length))), (1, rowL pv 129 (eP eI eI) l)] ∧ top = 2 ∧ pv < nx ∧
  i < 1000000000 ∧ j < 1000000000 ∧ n < 1000000000 ∧ l.length + n < 1000000000 ∧
  ∀ pv' hp' top' nx', (pv' = pv ∨ nx ≤ pv') → pv' < nx' → RowLe (hp' 0) (.box fv 198 7 (fAV a b u v (.ow 1 pv' (l ++ prs i j n).length))) → RowLe (hp' 1) (rowL pv' 129 (eP eI eI) (l ++ prs i j n)) → nx ≤ nx' →
    K (.val (.tuple #[])) hp' top' nx'
theorem okAdd0 : MethOK Tryz.prog 188 sAdd0 := by
  refine MethOK.mk Tryz.func188 rfl (by decide) Tryz.results188 Tryz.ntmps188 ?_
  rintro args hp top nx K ⟨a, b, u, v, l, fv, pv, i, j, n, rfl, rfl, rfl, hpv, hi, hj, hn, hl, hK⟩
  have hΓ : GOK Tryz.prog (gam []) := GOK.nil
  refine ⟨Nat.le_of_ble_eq_true rfl, ?_⟩
  refine AW.of hΓ mixed [] _ _ _ rfl ?_
  simp only [go_sem, fAV_6]
  refine AW.round (α := { x : Nat × Nat × Nat // x.1 ≤ n ∧ (x.2.1 = pv ∨ nx ≤ x.2.1) ∧ nx ≤ x.2.2 ∧ x.2.1 < x.2.2 })
    (fun x => ⟨[(0, .pt 0 fv 0), (1, .val (.int .i64 i)), (2, .val (.int .i64 j)), (9, .val (.int .i64 n)), (10, .val (.int .i64 x.1.1))],
      [(0, .box fv 198 7 (fAV a b u v (.ow 1 x.1.2.1 (l ++ prs i j x.1.1).length))), (1, rowL x.1.2.1 129 (eP eI eI) (l ++ prs i j x.1.1))], 30, 2, x.1.2.2, []⟩) (fun x => n - x.1.1) ⟨(0, pv, nx), by simp, .inl rfl, Nat.le_refl _, hpv⟩ ?_ ?_
  · simp only [go_sem]
    exact ⟨RowLe.of_eq (by simp [prs]), RowLe.of_eq (by simp [prs])⟩
  · rintro ⟨⟨k, w, m⟩, hk, hw, hm, hwm⟩
    simp only at hk hw hm hwm
    refine AW.of hΓ mixed [99999] _ _ _ rfl ?_
    simp only [go_sem, fAV_6, pp_sz]
    have hps : prs i j (k + 1) = prs i j k ++ [((i : Int) + (k : Int), (j : Int) + (k : Int))] := by
      unfold prs
      rw [List.range_succ, List.map_append]
      rfl
    have hpl : (prs i j k).length = k := prs_len _ _ _
    refine ⟨fun hlt => ⟨by omega, by omega, by omega, by omega, ⟨(k + 1, m, m + 1), by dsimp only; omega, .inr hm, by dsimp only; omega, Nat.lt_succ_self _⟩, ⟨Nat.le_refl _, rfl, ?_, ?_⟩, by dsimp only; omega⟩, fun hge => ?_⟩
    · refine RowLe.box fun j' hj' => ?_
      match j', hj' with
      | 0, _ => exact AVle.refl _
      | 1, _ => exact AVle.refl _
      | 2, _ => exact AVle.refl _
      | 3, _ => exact AVle.refl _
      | 4, _ => exact AVle.refl _
      | 5, _ => exact AVle.refl _
      | 6, _ => exact AVle.of_eq (by dsimp only; rw [hps]; simp [stC, fAV, Nat.add_assoc])
    · refine row_app1 (E := eP eI eI) (l := l ++ prs i j k) (x := ((i : Int) + (k : Int), (j : Int) + (k : Int))) rfl (by dsimp only; rw [hps, List.append_assoc]) (by simp) (by simp) (by dsimp only; rw [hps]; simp) fun j' hj' => ?_
      match j', hj' with
      | 0, _ => exact AVle.refl _
      | 1, _ => exact AVle.refl _
    · obtain rfl : k = n := by omega
      exact hK w _ _ _ hw hwm (RowLe.of_eq (by rw [List.length_append]; rfl)) (rowE rfl rfl (by simp)) hm
def sAdd : MSpec := framed sAdd0
theorem okAdd : MethOK Tryz.prog 188 sAdd := okAdd0.frame
theorem add_go {a b : List Int} {u v : AV} {l : List (Int × Int)} {fv pv i j n : Nat} {x y z : Int} {hp : Nat → Row} {top nx : Nat} {K : AV → (Nat → Row) → Nat → Nat → Prop} (hx : x = (i : Nat)) (hy : y = (j : Nat)) (hz : z = (n : Nat))
    (h0 : RowLe (hp 0) (.box fv 198 7 (fAV a b u v (.ow 3 pv l.length)))) (h3 : RowLe (hp 3) (rowL pv 129 (eP eI eI) l)) (ht : 3 < top) (hpv : pv < nx)
    (hi : i < 1000000000) (hj : j < 1000000000) (hn : n < 1000000000) (hl : l.length + n < 1000000000)
    (hK : ∀ pv' nx', (pv' = pv ∨ nx ≤ pv') → pv' < nx' → nx ≤ nx' → K (.val (.tuple #[])) (updR (updR hp 0 (.box fv 198 7 (fAV a b u v (.ow 3 pv' (l ++ prs i j n).length)))) 3 (rowL pv' 129 (eP eI eI) (l ++ prs i j n))) top nx') :
    sAdd [.pt 0 fv 0, .val (.int .i64 x), .val (.int .i64 y), .val (.int .i64 z)] hp top nx K := by
  subst hx hy hz
  have v0 := h0.vers
  have v3 := h3.vers
  refine ⟨[0, 3], [.pt 0 fv 0, kI.enc (i : Nat), kI.enc (j : Nat), kI.enc (n : Nat)], rws [(0, .box fv 198 7 (fAV a b u v (.ow 1 pv l.length))), (1, rowL pv 129 (eP eI eI) l)],
    by decide, fun p hp => ?_, .cons (AVle.refl _) (.cons (AVle.refl _) (.cons (AVle.refl _) (.cons (AVle.refl _) .nil))), fun k q hk => ?_, fun k hk => rws_top (top := 2) (by simp) k (by simpa using hk), a, b, u, v, l, fv, pv, i, j, n, rfl, rfl, rfl, hpv, hi, hj, hn, hl, fun pv' hp' top' nx' e1 e2 e3 e4 e5 => ?_⟩
  · rcases List.mem_cons.1 hp with rfl | hp
    · omega
    · rw [List.mem_singleton.1 hp]; exact ht
  · match k, hk with
    | 0, hk =>
      obtain rfl : 0 = q := Option.some.inj hk
      exact h0.trans (RowLe.box fun j' hj' => fAV_le (AVle.refl _) (AVle.refl _) AVle.ow j')
    | 1, hk =>
      obtain rfl : 3 = q := Option.some.inj hk
      exact h3
  · refine ⟨_, _, AVle.refl _, fun k q hk => ?_, fun q hq => ?_, fun q hq w hw => ?_, hK pv' nx' e1 e2 e5⟩
    · match k, hk with
      | 0, hk =>
        obtain rfl : 0 = q := Option.some.inj hk
        exact e3.trans (RowLe.box fun j' hj' => fAV_le (AVle.refl _) (AVle.refl _) AVle.ow j')
      | 1, hk =>
        obtain rfl : 3 = q := Option.some.inj hk
        exact e4
    · simp only [List.mem_cons, List.mem_nil_iff, or_false, not_or] at hq
      rw [updR_ne _ _ hq.2, updR_ne _ _ hq.1]
    · rcases List.mem_cons.1 hq with rfl | hq
      · exact .inl (v0.symm.trans hw)
      · obtain rfl := List.mem_singleton.1 hq
        obtain rfl : pv' = w := Option.some.inj hw
        rcases e1 with rfl | e1
        · exact .inl v3.symm
        · exact .inr e1
theorem middle_go {a b f1 f2 : List Int} {z : AV} {fv v1 v2 fa ta fb tb : Nat} {p q x y r s : Int} {hp : Nat → Row} {top nx : Nat} {K : AV → (Nat → Row) → Nat → Nat → Prop} (hx : x = (fa : Nat)) (hy : y = (ta : Nat)) (hr : r = (fb : Nat)) (hs : s = (tb : Nat))
    (h0 : RowLe (hp 0) (.box fv 198 7 (fAV a b (.ow 1 v1 f1.length) (.ow 2 v2 f2.length) z))) (h1 : RowLe (hp 1) (rowL v1 3 eI f1)) (h2 : RowLe (hp 2) (rowL v2 3 eI f2)) (ht : 2 < top)
    (hfa : fa ≤ ta) (hta : ta ≤ a.length) (hfb : fb ≤ tb) (htb : tb ≤ b.length) (ha : a.length < 100000000) (hb : b.length < 100000000) (hr1 : a.length + b.length + 3 ≤ f1.length) (hr2 : a.length + b.length + 3 ≤ f2.length) (hl1 : f1.length < 1000000000) (hl2 : f2.length < 1000000000)
    (hcut : cutF (partL a fa ta) (partL b fb tb) = some (p, q))
    (hK : ∀ g1 g2 nx', g1.length = f1.length → g2.length = f2.length → nx ≤ nx' →
      K (tu2 (kI.enc p) (kI.enc q)) (updR (updR (updR hp 0 (.box fv 198 7 (fAV a b (.ow 1 v1 f1.length) (.ow 2 v2 f2.length) z))) 1 (rowL v1 3 eI g1)) 2 (rowL v2 3 eI g2)) top nx') :
    sMiddle [.pt 0 fv 0, .val (.int .i64 x), .val (.int .i64 y), .val (.int .i64 r), .val (.int .i64 s)] hp top nx K := by
  subst hx hy hr hs
  have w0 := h0.vers
  have w1 := h1.vers
  have w2 := h2.vers
  refine ⟨[0, 1, 2], [.pt 0 fv 0, kI.enc (fa : Nat), kI.enc (ta : Nat), kI.enc (fb : Nat), kI.enc (tb : Nat)], rws [(0, .box fv 198 7 (fAV a b (.ow 1 v1 f1.length) (.ow 2 v2 f2.length) z)), (1, rowL v1 3 eI f1), (2, rowL v2 3 eI f2)],
    by decide, fun p hp => ?_, .cons (AVle.refl _) (.cons (AVle.refl _) (.cons (AVle.refl _) (.cons (AVle.refl _) (.cons (AVle.refl _) .nil)))), fun k q hk => ?_, fun k hk => rws_top (top := 3) (by simp) k (by simpa using hk), a, b, f1, f2, z, fv, v1, v2, fa, ta, fb, tb, p, q, rfl, rfl, rfl, hfa, hta, hfb, htb, ha, hb, hr1, hr2, hl1, hl2, hcut, fun g1 g2 hp' top' nx' e1 e2 e3 e4 e5 e6 => ?_⟩
  · simp only [List.mem_cons, List.mem_nil_iff, or_false] at hp
    omega
  · match k, hk with
    | 0, hk => obtain rfl : 0 = q := Option.some.inj hk; exact h0
    | 1, hk => obtain rfl : 1 = q := Option.some.inj hk; exact h1
    | 2, hk => obtain rfl : 2 = q := Option.some.inj hk; exact h2
  · refine ⟨_, _, AVle.refl _, fun k q hk => ?_, fun q hq => ?_, fun q hq w hw => ?_, hK g1 g2 nx' e1 e2 e6⟩
    · match k, hk with
      | 0, hk => obtain rfl : 0 = q := Option.some.inj hk; exact e3
      | 1, hk => obtain rfl : 1 = q := Option.some.inj hk; exact e4
      | 2, hk => obtain rfl : 2 = q := Option.some.inj hk; exact e5
    · simp only [List.mem_cons, List.mem_nil_iff, or_false, not_or] at hq
      rw [updR_ne _ _ hq.2.2, updR_ne _ _ hq.2.1, updR_ne _ _ hq.1]
    · simp only [List.mem_cons, List.mem_nil_iff, or_false] at hq
      rcases hq with rfl | rfl | rfl
      · exact .inl (w0.symm.trans hw)
      · exact .inl (w1.symm.trans hw)
      · exact .inl (w2.symm.trans hw)
end Go.Proofs.YthpjjjnbkfnghaaGreatDoor
set_option linter.unusedSimpArgs false
set_option linter.unusedVariables false
set_option maxRecDepth 100000
set_option maxHeartbeats 2000000
namespace Go.Proofs.YthpjjjnbkfnghaaGreatDoor
open Go
attribute [local irreducible] AW AVle ASle RowLe
def fRows (a b : List Int) (fv v1 v2 pv : Nat) (g1 g2 : List Int) (l : List (Int × Int)) : List (Nat × Row) :=
  [(0, .box fv 198 7 (fAV a b (.ow 1 v1 g1.length) (.ow 2 v2 g2.length) (.ow 3 pv l.length))), (1, rowL v1 3 eI g1), (2, rowL v2 3 eI g2), (3, rowL pv 129 (eP eI eI) l)]
def sFind0 (N : Nat) : MSpec := fun args hp top nx K => ∃ a b f1 f2 l fv v1 v2 pv fa ta fb tb, args = [.pt 0 fv 0, kI.enc (fa : Nat), kI.enc (ta : Nat), kI.enc (fb : Nat), kI.enc (tb : Nat)] ∧
  hp = rws (fRows a b fv v1 v2 pv f1 f2 l) ∧ top = 4 ∧ pv < nx ∧
  fa ≤ ta ∧ ta ≤ a.length ∧ fb ≤ tb ∧ tb ≤ b.length ∧ a.length < 100000000 ∧ b.length < 100000000 ∧ a.length + b.length + 3 ≤ f1.length ∧ a.length + b.length + 3 ≤ f2.length ∧ f1.length < 1000000000 ∧ f2.length < 1000000000 ∧
  l.length + (ta - fa) < 500000000 ∧ (ta - fa) + (tb - fb) < N ∧
  ∀ g1 g2 pv' hp' top' nx', g1.length = f1.length → g2.length = f2.length → (pv' = pv ∨ nx ≤ pv') → pv' < nx' → (∀ i, i < 4 → RowLe (hp' i) (rws (fRows a b fv v1 v2 pv' g1 g2 (l ++ shP fa fb (findG (partL a fa ta) (partL b fb tb)))) i)) → nx ≤ nx' →
    K (.val (.tuple #[])) hp' top' nx'
def sFind (N : Nat) : MSpec := framed (sFind0 N)
theorem find_go {N : Nat} {a b f1 f2 : List Int} {l : List (Int × Int)} {fv v1 v2 pv fa ta fb tb : Nat} {x y r s : Int} {hp : Nat → Row} {top nx : Nat} {K : AV → (Nat → Row) → Nat → Nat → Prop} (hx : x = (fa : Nat)) (hy : y = (ta : Nat)) (hr : r = (fb : Nat)) (hs : s = (tb : Nat))
    (h0 : ∀ i, i < 4 → RowLe (hp i) (rws (fRows a b fv v1 v2 pv f1 f2 l) i)) (ht : 3 < top) (hpv : pv < nx)
    (hfa : fa ≤ ta) (hta : ta ≤ a.length) (hfb : fb ≤ tb) (htb : tb ≤ b.length) (ha : a.length < 100000000) (hb : b.length < 100000000) (hr1 : a.length + b.length + 3 ≤ f1.length) (hr2 : a.length + b.length + 3 ≤ f2.length) (hl1 : f1.length < 1000000000) (hl2 : f2.length < 1000000000)
    (hl : l.length + (ta - fa) < 500000000) (hN : (ta - fa) + (tb - fb) < N)
    (hK : ∀ g1 g2 pv' hp' nx', g1.length = f1.length → g2.length = f2.length → (pv' = pv ∨ nx ≤ pv') → pv' < nx' → nx ≤ nx' → (∀ i, i < 4 → hp' i = rws (fRows a b fv v1 v2 pv' g1 g2 (l ++ shP fa fb (findG (partL a fa ta) (partL b fb tb)))) i) → (∀ i, 4 ≤ i → hp' i = hp i) → K (.val (.tuple #[])) hp' top nx') :
    sFind N [.pt 0 fv 0, .val (.int .i64 x), .val (.int .i64 y), .val (.int .i64 r), .val (.int .i64 s)] hp top nx K := by
  subst hx hy hr hs
  have w := fun i hi => (h0 i hi).vers
  have lt4 : ∀ (k q : Nat), [0, 1, 2, 3][k]? = some q → k = q ∧ k < 4 := fun k q hk => by
    match k, hk with
    | 0, hk => exact ⟨Option.some.inj hk, by decide⟩
    | 1, hk => exact ⟨Option.some.inj hk, by decide⟩
    | 2, hk => exact ⟨Option.some.inj hk, by decide⟩
    | 3, hk => exact ⟨Option.some.inj hk, by decide⟩
  have mem4 : ∀ q, q ∈ [0, 1, 2, 3] ↔ q < 4 := fun q => by simp; omega
  refine ⟨[0, 1, 2, 3], [.pt 0 fv 0, kI.enc (fa : Nat), kI.enc (ta : Nat), kI.enc (fb : Nat), kI.enc (tb : Nat)], rws (fRows a b fv v1 v2 pv f1 f2 l),
    by decide, fun p hp => ?_, .cons (AVle.refl _) (.cons (AVle.refl _) (.cons (AVle.refl _) (.cons (AVle.refl _) (.cons (AVle.refl _) .nil)))), fun k q hk => ?_, fun k hk => rws_top (top := 4) (by simp [fRows]) k (by simpa using hk), a, b, f1, f2, l, fv, v1, v2, pv, fa, ta, fb, tb, rfl, rfl, rfl, hpv, hfa, hta, hfb, htb, ha, hb, hr1, hr2, hl1, hl2, hl, hN, fun g1 g2 pv' hp' top' nx' e1 e2 e3 e4 e5 e6 => ?_⟩
  · have := (mem4 p).1 hp; omega
  · obtain ⟨rfl, h⟩ := lt4 k q hk
    exact h0 k h
  · refine ⟨_, fun i => if i < 4 then rws (fRows a b fv v1 v2 pv' g1 g2 (l ++ shP fa fb (findG (partL a fa ta) (partL b fb tb)))) i else hp i, AVle.refl _, fun k q hk => ?_, fun q hq => ?_, fun q hq u hu => ?_, hK g1 g2 pv' _ nx' e1 e2 e3 e4 e6 (fun i hi => if_pos hi) (fun i hi => if_neg (by omega))⟩
    · obtain ⟨rfl, h⟩ := lt4 k q hk
      simp only [if_pos h]
      exact e5 k h
    · rw [mem4] at hq
      exact if_neg hq
    · rw [mem4] at hq
      simp only [if_pos hq] at hu
      have := w q hq
      match q, hq with
      | 0, _ => exact .inl (this.symm.trans hu)
      | 1, _ => exact .inl (this.symm.trans hu)
      | 2, _ => exact .inl (this.symm.trans hu)
      | 3, _ =>
        obtain rfl : pv' = u := Option.some.inj hu
        rcases e3 with rfl | e3
        · exact .inl this.symm
        · exact .inr e3
theorem AW.cutF {P : Program} {x : Code} {Q : Exit → AS → Prop} {st : AS} (fr : List (Nat × AV)) (a b : List Int) (fv v1 v2 pv : Nat) (g1 g2 : List Int) (l : List (Int × Int)) (hr : ∀ i, i < 4 → RowLe (st.hp i) (rws (fRows a b fv v1 v2 pv g1 g2 l) i)) (nx : Nat) (hz : st.sz = 91) (hd : st.df = []) (hnx : st.nx = nx)
    (hfr : ∀ p ∈ fr, AVle (st.fr p.1) p.2) (k : AW P x Q (Sh.st ⟨fr, fRows a b fv v1 v2 pv g1 g2 l, 91, 4, nx, []⟩)) : AW P x Q st := by
  refine AW.cut ⟨fr, fRows a b fv v1 v2 pv g1 g2 l, 91, 4, nx, []⟩ ⟨⟨⟨hz.symm, hd.symm⟩, Nat.le_of_eq hnx⟩, hfr, ?_, ?_⟩ k
  · rintro p hp
    simp only [fRows, List.mem_cons, List.mem_nil_iff, or_false] at hp
    rcases hp with rfl | rfl | rfl | rfl
    · exact hr 0 (by decide)
    · exact hr 1 (by decide)
    · exact hr 2 (by decide)
    · exact hr 3 (by decide)
  · rintro p hp
    simp only [fRows, List.mem_cons, List.mem_nil_iff, or_false] at hp
    rcases hp with rfl | rfl | rfl | rfl <;> simp
theorem all4 {p : Nat → Prop} (h0 : p 0) (h1 : p 1) (h2 : p 2) (h3 : p 3) : ∀ i, i < 4 → p i
  | 0, _ => h0
  | 1, _ => h1
  | 2, _ => h2
  | 3, _ => h3
  | i + 4, h => by omega
theorem okFindB : MethOK Tryz.prog 139 (sFind 0) := by
  refine MethOK.frame ?_
  refine MethOK.mk Tryz.func139 rfl (by decide) Tryz.results139 Tryz.ntmps139 ?_
  rintro args hp top nx K ⟨_, _, _, _, _, _, _, _, _, _, _, _, _, _, _, _, _, _, _, _, _, _, _, _, _, _, _, _, h, _⟩
  omega
theorem okFindS (N : Nat) (ih : MethOK Tryz.prog 139 (sFind N)) : MethOK Tryz.prog 139 (sFind (N + 1)) := by
  refine MethOK.frame ?_
  refine MethOK.mk Tryz.func139 rfl (by decide) Tryz.results139 Tryz.ntmps139 ?_
  rintro args hp top nx K ⟨a, b, f1, f2, l, fv, v1, v2, pv, fa, ta, fb, tb, rfl, rfl, rfl, hpv, hfa, hta, hfb, htb, ha, hb, hr1, hr2, hl1, hl2, hl, hN, hK⟩
  have hΓ : GOK Tryz.prog (gam [(187, sEndsI), (188, sAdd), (189, sMiddle), (139, (Con.meth (sFind N)))]) := .cons okEndsI (.cons okAdd (.cons okMiddle (.cons ih .nil)))
  refine ⟨Nat.le_of_ble_eq_true rfl, ?_⟩
  have pA : (List.range (ta - fa)).map (fun i => a.getD (fa + i) 0) = partL a fa ta := by rw [part_eq a 0 (by omega)]; rfl
  have pB : (List.range (tb - fb)).map (fun i => b.getD (fb + i) 0) = partL b fb tb := by rw [part_eq b 0 (by omega)]; rfl
  have lA : (partL a fa ta).length = ta - fa := partL_len hta
  have lB : (partL b fb tb).length = tb - fb := partL_len htb
  obtain ⟨A, hA⟩ : ∃ A, partL a fa ta = A := ⟨_, rfl⟩
  obtain ⟨B, hB⟩ : ∃ B, partL b fb tb = B := ⟨_, rfl⟩
  have hbh : bhd (A.drop (ahd A B)) (B.drop (ahd A B)) = bh A B := rfl
  rw [hA] at pA lA
  rw [hB] at pB lB
  refine AW.of hΓ mixed [1, 99999] _ _ _ rfl ?_
  simp only [go_sem, fRows, fAV_0, fAV_1, sEndsI, pA, pB, hbh]
  have hbl := bh_le (a := A) (b := B)
  have hcl := core_len (a := A) (b := B)
  obtain ⟨h, hh⟩ : ∃ h, ahd A B = h := ⟨_, rfl⟩
  obtain ⟨e, he⟩ : ∃ e, bh A B = e := ⟨_, rfl⟩
  rw [hh, he] at hbl hcl ⊢
  refine ⟨by omega, by omega, by omega, add_go (l := l) (pv := pv) (i := fa) (j := fb) (n := h) rfl rfl rfl (RowLe.refl _) (RowLe.refl _) (by decide) hpv (by omega) (by omega) (by omega) (by omega) fun p1 n1 hp1 hpn1 hn1 => ?_⟩
  simp only [methK_app, contX_app, xOps_nil, rest_normal]
  refine AW.cutF [(0, .pt 0 fv 0), (1, .val (.int .i64 fa)), (2, .val (.int .i64 ta)), (3, .val (.int .i64 fb)), (4, .val (.int .i64 tb)), (10, .val (.int .i64 h)), (11, .val (.int .i64 e))] a b fv v1 v2 p1 f1 f2 (l ++ prs fa fb h)
    (all4 (RowLe.refl _) (RowLe.refl _) (RowLe.refl _) (RowLe.refl _)) n1 rfl rfl rfl ?_ ?_
  · simp only [go_sem]
  have eG : ∀ m, A.length = m → True := fun _ _ => trivial
  by_cases hc : (core A B).length ≠ 0 ∧ (coreR A B).length ≠ 0
  · obtain ⟨p, q, hcut, hpl, hql, hpq, hpq2, hG⟩ := findG_some hc.1 hc.2
    have c1 : (fa : Int) + h < ta - e := by omega
    have c2 : (fb : Int) + h < tb - e := by omega
    refine AW.of hΓ mixed [5, 99999] _ _ _ rfl ?_
    simp only [go_sem, c1, c2]
    have eC : core A B = partL a (fa + h) (ta - e) := by
      rw [core, hh, he, lA, ← hA, partL_drop, partL_take (by omega)]
      congr 1
      omega
    have eD : coreR A B = partL b (fb + h) (tb - e) := by
      rw [coreR, hh, he, lB, ← hB, partL_drop, partL_take (by omega)]
      congr 1
      omega
    refine ⟨by omega, by omega, by omega, by omega, middle_go (a := a) (b := b) (f1 := f1) (f2 := f2) (fv := fv) (v1 := v1) (v2 := v2) (fa := fa + h) (ta := ta - e) (fb := fb + h) (tb := tb - e) (p := p) (q := q) (by omega) (by omega) (by omega) (by omega) (RowLe.refl _) (RowLe.refl _) (RowLe.refl _) (by decide)
      (by omega) (by omega) (by omega) (by omega) ha hb hr1 hr2 hl1 hl2 (by rw [← eC, ← eD]; exact hcut) fun g1 g2 n2 hg1 hg2 hn2 => ?_⟩
    simp only [go_sem, tu2]
    refine AW.cutF [(0, .pt 0 fv 0), (1, .val (.int .i64 ((fa + h : Nat) : Int))), (2, .val (.int .i64 ((ta - e : Nat) : Int))), (3, .val (.int .i64 ((fb + h : Nat) : Int))), (4, .val (.int .i64 ((tb - e : Nat) : Int))), (10, .val (.int .i64 h)), (11, .val (.int .i64 e)), (12, .val (.int .i64 p)), (13, .val (.int .i64 q))] a b fv v1 v2 p1 g1 g2 (l ++ prs fa fb h)
      (all4 (RowLe.of_eq (by show Row.box fv 198 7 (fAV a b (.ow 1 v1 f1.length) (.ow 2 v2 f2.length) (.ow 3 p1 (l.length + (prs fa fb h).length))) = _; rw [← hg1, ← hg2, ← List.length_append]; rfl)) (RowLe.refl _) (RowLe.refl _) (RowLe.refl _)) n2 rfl rfl rfl ?_ ?_
    · simp only [go_sem]
      exact ⟨by omega, by omega, by omega, by omega⟩
    have eP1 : (core A B).take p = partL a (fa + h) (fa + h + p) := by rw [eC]; exact partL_take (by omega)
    have eP2 : (coreR A B).take q = partL b (fb + h) (fb + h + q) := by rw [eD]; exact partL_take (by omega)
    have eP3 : (core A B).drop p = partL a (fa + h + p) (ta - e) := by rw [eC]; exact partL_drop
    have eP4 : (coreR A B).drop q = partL b (fb + h + q) (tb - e) := by rw [eD]; exact partL_drop
    rw [eP1, eP2, eP3, eP4] at hG
    have hG1 : (findG (partL a (fa + h) (fa + h + p)) (partL b (fb + h) (fb + h + q))).length ≤ p := by
      have := lcsN_le (partL a (fa + h) (fa + h + p)) (partL b (fb + h) (fb + h + q))
      rw [findG_len]
      rw [partL_len (by omega), partL_len (by omega)] at this
      omega
    have hG2 : (findG (partL a (fa + h + p) (ta - e)) (partL b (fb + h + q) (tb - e))).length ≤ ta - e - (fa + h + p) := by
      have := lcsN_le (partL a (fa + h + p) (ta - e)) (partL b (fb + h + q) (tb - e))
      rw [findG_len]
      rw [partL_len (by omega), partL_len (by omega)] at this
      omega
    refine AW.of hΓ mixed [6, 99999] _ _ _ rfl ?_
    simp only [go_sem]
    refine ⟨by omega, by omega, find_go (a := a) (b := b) (f1 := g1) (f2 := g2) (fv := fv) (v1 := v1) (v2 := v2) (pv := p1) (l := l ++ prs fa fb h) (fa := fa + h) (ta := fa + h + p) (fb := fb + h) (tb := fb + h + q) (by omega) (by omega) (by omega) (by omega) (fun i _ => RowLe.refl _) (by decide) (by omega)
      (by omega) (by omega) (by omega) (by omega) ha hb (by omega) (by omega) (by omega) (by omega) (by rw [List.length_append, prs_len]; omega) (by omega) fun g3 g4 p2 hp2 n3 hg3 hg4 hpp2 hpn2 hn3 hE _ => ?_⟩
    simp only [methK_app, contX_app, xOps_nil, rest_normal]
    refine AW.cutF [(0, .pt 0 fv 0), (1, .val (.int .i64 ((fa + h : Nat) : Int))), (2, .val (.int .i64 ((ta - e : Nat) : Int))), (3, .val (.int .i64 ((fb + h : Nat) : Int))), (4, .val (.int .i64 ((tb - e : Nat) : Int))), (11, .val (.int .i64 e)), (12, .val (.int .i64 p)), (13, .val (.int .i64 q))] a b fv v1 v2 p2 g3 g4 _
      (fun i hi => RowLe.of_eq (hE i hi)) n3 rfl rfl rfl ?_ ?_
    · simp only [go_sem]
    refine AW.of hΓ mixed [7, 99999] _ _ _ rfl ?_
    simp only [go_sem]
    refine ⟨by omega, by omega, find_go (a := a) (b := b) (f1 := g3) (f2 := g4) (fv := fv) (v1 := v1) (v2 := v2) (pv := p2) (fa := fa + h + p) (ta := ta - e) (fb := fb + h + q) (tb := tb - e) (by omega) (by omega) (by omega) (by omega) (fun i _ => RowLe.refl _) (by decide) (by omega)
      (by omega) (by omega) (by omega) (by omega) ha hb (by omega) (by omega) (by omega) (by omega) (by simp only [List.length_append, prs_len, shP_len]; omega) (by omega) fun g5 g6 p3 hp3 n4 hg5 hg6 hpp3 hpn3 hn4 hE2 _ => ?_⟩
    simp only [go_sem]
    refine add_go (i := ta - e) (j := tb - e) (n := e) rfl rfl rfl (RowLe.of_eq (hE2 0 (by decide))) (RowLe.of_eq (hE2 3 (by decide))) (by decide) (by omega) (by omega) (by omega) (by omega) (by simp only [List.length_append, prs_len, shP_len]; omega) fun p4 n5 hp4 hpn4 hn5 => ?_
    have hfin : l ++ shP fa fb (findG A B) = l ++ prs fa fb h ++ shP ((fa + h : Nat) : Int) ((fb + h : Nat) : Int) (findG (partL a (fa + h) (fa + h + p)) (partL b (fb + h) (fb + h + q))) ++ shP ((fa + h + p : Nat) : Int) ((fb + h + q : Nat) : Int) (findG (partL a (fa + h + p) (ta - e)) (partL b (fb + h + q) (tb - e))) ++ prs ((ta - e : Nat) : Int) ((tb - e : Nat) : Int) e := by
      rw [hG, hh, he]
      simp only [shP_app, shP_prs, shP_shP, List.append_assoc, Int.add_zero]
      rw [show (fa : Int) + ((A.length : Int) - e) = ((ta - e : Nat) : Int) by omega, show (fb : Int) + ((B.length : Int) - e) = ((tb - e : Nat) : Int) by omega, show (fa : Int) + h = ((fa + h : Nat) : Int) by omega, show (fb : Int) + h = ((fb + h : Nat) : Int) by omega,
        show (fa : Int) + ((h : Int) + p) = ((fa + h + p : Nat) : Int) by omega, show (fb : Int) + ((h : Int) + q) = ((fb + h + q : Nat) : Int) by omega]
    simp only [methK_app, contX_app, xOps_nil, retM_normal, endM, true_and]
    refine hK g5 g6 p4 _ _ _ (by omega) (by omega) (by omega) hpn4 ?_ (by omega)
    rw [hA, hB, hfin]
    refine all4 (RowLe.refl _) (RowLe.of_eq (hE2 1 (by decide))) (RowLe.of_eq (hE2 2 (by decide))) (RowLe.refl _)
  · have c12 : ¬ ((fa : Int) + h < ta - e ∧ (fb : Int) + h < tb - e) := by omega
    refine AW.of hΓ mixed [8, 99999] _ _ _ rfl ?_
    simp only [go_sem, c12, false_implies, not_false_eq_true, true_implies]
    refine ⟨by omega, by omega, by omega, by omega, fun _ => ?_⟩
    refine add_go (i := ta - e) (j := tb - e) (n := e) (by omega) (by omega) rfl (RowLe.refl _) (RowLe.refl _) (by decide) (by omega) (by omega) (by omega) (by omega) (by simp only [List.length_append, prs_len]; omega) fun p4 n5 hp4 hpn4 hn5 => ?_
    have hfin : l ++ shP fa fb (findG A B) = l ++ prs fa fb h ++ prs ((ta - e : Nat) : Int) ((tb - e : Nat) : Int) e := by
      rw [findG_none hc, hh, he]
      simp only [shP_app, shP_prs, List.append_assoc, Int.add_zero]
      rw [show (fa : Int) + ((A.length : Int) - e) = ((ta - e : Nat) : Int) by omega, show (fb : Int) + ((B.length : Int) - e) = ((tb - e : Nat) : Int) by omega]
    simp only [methK_app, contX_app, xOps_nil, retM_normal, endM, true_and]
    refine hK f1 f2 p4 _ _ _ rfl rfl (by omega) hpn4 ?_ (by omega)
    rw [hA, hB, hfin]
    refine all4 (RowLe.refl _) (RowLe.refl _) (RowLe.refl _) (RowLe.refl _)
theorem okFind (N : Nat) : MethOK Tryz.prog 139 (sFind N) := by
  induction N with
  | zero => exact okFindB
  | succ N ih => exact okFindS N ih
end Go.Proofs.YthpjjjnbkfnghaaGreatDoor
set_option linter.unusedSimpArgs false
set_option linter.unusedVariables false
set_option maxRecDepth 100000
set_option maxHeartbeats 2000000
namespace Go.Proofs.YthpjjjnbkfnghaaGreatDoor
open Go
attribute [local irreducible] AW AVle ASle RowLe
def mapB (ks : List Int) : Key → Option Value
  | .i n => if n ∈ ks then some (.bool true) else none
  | .s _ => none
theorem mapB_i (ks : List Int) (n : Int) : mapB ks (.i n) = if n ∈ ks then some (.bool true) else none := rfl
theorem mapB_push (ks : List Int) (n : Int) : setKey (mapB ks) (.i n) (.bool true) = mapB (ks ++ [n]) := by
  funext k
  cases k with
  | i m =>
    simp only [setKey, mapB]
    by_cases h : m = n
    · subst h; simp
    · rw [if_neg (fun e => h (by injection e))]; simp [h]
  | s x => simp [setKey, mapB]
theorem mapB_nil : mapB [] = fun _ => none := by
  funext k
  cases k <;> simp [mapB]
def sShared : Spec := Spec.f2 (kL eI) (kL eI) (fun a b => a.length < 100000000 ∧ b.length < 100000000) (fun a b => tu2 (sL eI (shI a b)) (sL eI (shQ a b)))
theorem okShared : SpecOK Tryz.prog 83 sShared := by
  refine SpecOK.f2 Tryz.func83 rfl (by decide) Tryz.results83 Tryz.ntmps83 (by decide) fun a b ⟨ha, hb⟩ => ?_
  have hΓ : GOK Tryz.prog (gam []) := GOK.nil
  refine AW.of hΓ mixed [] _ _ _ rfl ?_
  simp only [go_sem]
  refine AW.round (α := { x : Nat × Nat // x.1 ≤ b.length })
    (fun x => ⟨[(0, sL eI a), (6, .mp 0 0), (16, sL eI b), (17, .val (.int .i64 b.length)), (18, .val (.int .i64 x.1.1))], [(0, .mp 0 false x.1.2 (mapB (b.take x.1.1)))], 46, 1, 1, []⟩) (fun x => b.length - x.1.1) ⟨(0, 0), Nat.zero_le _⟩ ?_ ?_
  · simp only [go_sem]
    exact RowLe.of_eq (by rw [List.take_zero, mapB_nil])
  · rintro ⟨⟨i, n⟩, hi⟩
    simp only at hi
    refine AW.of hΓ mixed [99999] _ _ _ rfl ?_
    simp only [go_sem]
    refine ⟨fun hlt => ⟨by omega, by omega, ⟨(i + 1, if (mapB (b.take i) (Key.i (b.getD i 0))).isSome = true then n else n + 1), by dsimp only; omega⟩, ⟨by dsimp only; omega, RowLe.of_eq (by rw [mapB_push, ← take_snoc' (by omega)])⟩, by dsimp only; omega⟩, fun hge => ?_⟩
    obtain rfl : i = b.length := by omega
    rw [List.take_length]
    refine AW.adopt 9 3 1 (fun _ _ => .any) rfl ?_
    refine AW.adopt 10 3 1 (fun _ _ => .any) rfl ?_
    refine AW.round (α := { x : Nat × Nat × Nat × Nat // x.1 ≤ a.length })
      (fun x => ⟨[(6, .mp 0 0), (9, .ow 1 x.1.2.1 ((a.take x.1.1).filter fun y => b.contains y).length), (10, .ow 2 x.1.2.2.1 (plc (fun y => b.contains y) 0 (a.take x.1.1)).length), (25, sL eI a), (26, .val (.int .i64 a.length)), (27, .val (.int .i64 x.1.1))],
        [(0, .mp 0 false n (mapB b)), (1, rowL x.1.2.1 3 eI ((a.take x.1.1).filter fun y => b.contains y)), (2, rowL x.1.2.2.1 3 eI (plc (fun y => b.contains y) 0 (a.take x.1.1)))], 46, 3, x.1.2.2.2, []⟩) (fun x => a.length - x.1.1) ⟨(0, 1, 2, 3), Nat.zero_le _⟩ ?_ ?_
    · simp only [go_sem]
      exact ⟨⟨rfl, rfl⟩, RowLe.refl _, row_nil (E := eI) rfl, row_nil (E := eI) rfl⟩
    · rintro ⟨⟨j, v1, v2, nx⟩, hj⟩
      simp only at hj
      refine AW.of hΓ mixed [99999] _ _ _ rfl ?_
      simp only [go_sem, mapB_i]
      have l1 : ((a.take j).filter fun y => b.contains y).length ≤ j := Nat.le_trans (List.length_filter_le _ _) (by simp; omega)
      have l2 := plc_len (fun y => b.contains y) 0 (a.take j)
      refine ⟨fun hlt => ⟨by omega, ?_⟩, fun hge => ?_⟩
      · have ht : a.take (j + 1) = a.take j ++ [a.getD j 0] := take_snoc' (by omega)
        have hp := plc_snoc (fun y => b.contains y) (a.getD j 0) 0 (a.take j)
        have hk : (0 : Int) + ((a.take j).length : Int) = j := by simp; omega
        by_cases hm : a.getD j 0 ∈ b
        · have hc : b.contains (a.getD j 0) = true := by simpa using hm
          have e1 : ((a.take (j + 1)).filter fun y => b.contains y) = ((a.take j).filter fun y => b.contains y) ++ [a.getD j 0] := by
            rw [ht, List.filter_append, List.filter_cons_of_pos hc]; rfl
          have e2 : plc (fun y => b.contains y) 0 (a.take (j + 1)) = plc (fun y => b.contains y) 0 (a.take j) ++ [(j : Int)] := by
            rw [ht, hp, if_pos hc, hk]
          rw [if_pos hm]
          simp only [go_sem, Option.getD_some]
          refine ⟨by omega, by omega, by omega, ⟨(j + 1, nx, nx + 1, nx + 2), by dsimp only; omega⟩, ⟨by dsimp only; omega, ⟨⟨rfl, by dsimp only; rw [e1]; simp⟩, ⟨rfl, by dsimp only; rw [e2]; simp⟩, by dsimp only; omega⟩, RowLe.refl _, ?_, ?_⟩, by dsimp only; omega⟩
          · exact row_app1 (E := eI) rfl e1 rfl rfl rfl (fun _ _ => AVle.refl _)
          · exact row_app1 (E := eI) rfl e2 rfl rfl rfl (fun _ _ => AVle.refl _)
        · have hc : ¬ b.contains (a.getD j 0) = true := by simpa using hm
          have e1 : ((a.take (j + 1)).filter fun y => b.contains y) = ((a.take j).filter fun y => b.contains y) := by
            rw [ht, List.filter_append, List.filter_cons_of_neg hc]; simp
          have e2 : plc (fun y => b.contains y) 0 (a.take (j + 1)) = plc (fun y => b.contains y) 0 (a.take j) := by
            rw [ht, hp, if_neg hc]; simp
          rw [if_neg hm]
          simp only [go_sem, Option.getD_none]
          refine ⟨by omega, ⟨(j + 1, v1, v2, nx), by dsimp only; omega⟩, ⟨Nat.le_refl _, ⟨⟨rfl, by dsimp only; rw [e1]⟩, ⟨rfl, by dsimp only; rw [e2]⟩, by dsimp only; omega⟩, RowLe.refl _, by dsimp only; rw [e1]; exact RowLe.refl _, by dsimp only; rw [e2]; exact RowLe.refl _⟩, by dsimp only; omega⟩
      · obtain rfl : j = a.length := by omega
        rw [List.take_length]
        exact ⟨vw_all (E := eI) (l := shI a b) rfl rfl rfl, vw_all (E := eI) (l := shQ a b) rfl rfl rfl⟩
end Go.Proofs.YthpjjjnbkfnghaaGreatDoor
set_option linter.unusedSimpArgs false
set_option linter.unusedVariables false
set_option maxRecDepth 100000
set_option maxHeartbeats 2000000
namespace Go.Proofs.YthpjjjnbkfnghaaGreatDoor
open Go
attribute [local irreducible] AW AVle ASle RowLe
def sCloneI : MSpec := fun args hp top nx K => ∃ x l, args = [x] ∧ AVle x (sL eI l) ∧ l.length < 1000000000 ∧ ∀ ver nx', nx ≤ ver → ver < nx' → K (.ow top ver l.length) (updR hp top (rowL ver 3 eI l)) (top + 1) nx'
theorem okCloneI : MethOK Tryz.prog 185 sCloneI := by
  refine MethOK.mk Tryz.func185 rfl (by decide) Tryz.results185 Tryz.ntmps185 ?_
  rintro args hp top nx K ⟨x, l, rfl, hx, hl, hK⟩
  have hΓ : GOK Tryz.prog (gam []) := GOK.nil
  refine ⟨Nat.le_of_ble_eq_true rfl, ?_⟩
  refine AW.le (stM_le (.cons hx .nil)) ?_
  refine AW.of hΓ mixed [2, 99999] _ _ _ rfl ?_
  simp only [go_sem]
  refine ⟨fun h0 => ?_, ?_⟩
  · refine AW.adopt 2 3 1 (fun i => eI.enc (l.getD i 0)) rfl ?_
    refine AW.of hΓ mixed [] _ _ _ rfl ?_
    simp only [go_sem]
    obtain rfl := List.length_eq_zero_iff.1 h0
    exact hK nx (nx + 1) (Nat.le_refl _) (Nat.lt_succ_self _)
  · exact ⟨by omega, hK nx (nx + 1) (Nat.le_refl _) (Nat.lt_succ_self _)⟩
def sReverseI0 : MSpec := fun args hp top nx K => ∃ l ver, args = [.ow 0 ver l.length] ∧ hp = rws [(0, rowL ver 3 eI l)] ∧ top = 1 ∧ l.length < 1000000000 ∧
  ∀ hp' top' nx', RowLe (hp' 0) (rowL ver 3 eI l.reverse) → nx ≤ nx' → K (.val (.tuple #[])) hp' top' nx'
theorem okReverseI0 : MethOK Tryz.prog 186 sReverseI0 := by
  refine MethOK.mk Tryz.func186 rfl (by decide) Tryz.results186 Tryz.ntmps186 ?_
  rintro args hp top nx K ⟨l, ver, rfl, rfl, rfl, hl, hK⟩
  have hΓ : GOK Tryz.prog (gam []) := GOK.nil
  refine ⟨Nat.le_of_ble_eq_true rfl, ?_⟩
  refine AW.of hΓ mixed [200003] _ _ _ rfl ?_
  simp only [go_sem]
  refine ⟨by omega, ?_⟩
  refine AW.round (α := { x : Nat × List Int // 2 * x.1 ≤ l.length + 1 ∧ x.2.length = l.length ∧ ∀ k, k < l.length → x.2.getD k 0 = if k < x.1 ∨ l.length - 1 - x.1 < k then l.getD (l.length - 1 - k) 0 else l.getD k 0 })
    (fun x => ⟨[(0, .ow 0 ver l.length), (2, .val (.int .i64 x.1.1)), (3, .val (.int .i64 ((l.length : Int) - 1 - x.1.1)))], [(0, rowL ver 3 eI x.1.2)], 28, 1, nx, []⟩) (fun x => l.length - x.1.1) ⟨(0, l), by simp, rfl, fun k hk => by simp; omega⟩ ?_ ?_
  · simp only [go_sem]
    exact ⟨by omega, RowLe.refl _⟩
  · rintro ⟨⟨i, m⟩, hi, hm, hk⟩
    simp only at hi hm hk
    refine AW.of hΓ mixed [200003, 99999] _ _ _ rfl ?_
    simp only [go_sem]
    refine ⟨fun hlt => ?_, fun hge => ?_⟩
    · refine AW.drawT hΓ mixed 13 [] (by decide +kernel) ?_
      simp only [go_sem]
      have e1 : ((l.length : Int) - 1 - i).toNat = l.length - 1 - i := by omega
      rw [e1]
      refine ⟨by omega, by omega, by omega, by omega, by omega, by omega, by omega, by omega, by omega, by omega, ⟨(i + 1, (m.set i (m.getD (l.length - 1 - i) 0)).set (l.length - 1 - i) (m.getD i 0)), by dsimp only; omega, by simp [hm], fun k hk' => ?_⟩, ⟨⟨by dsimp only; omega, by dsimp only; omega⟩, RowLe.sl (by simp) fun k hk' j hj => ?_⟩, by dsimp only; omega⟩
      · have h1 := hk i (by omega)
        have h2 := hk (l.length - 1 - i) (by omega)
        rw [if_neg (by omega)] at h1 h2
        dsimp only
        rw [h1, h2]
        by_cases c2 : k = l.length - 1 - i
        · subst c2
          rw [if_pos (by omega)]
          simp only [List.getD]
          rw [List.getElem?_set_self (by simp; omega), show l.length - 1 - (l.length - 1 - i) = i by omega]
          rfl
        · by_cases c1 : k = i
          · subst c1
            rw [if_pos (by omega)]
            simp only [List.getD]
            rw [List.getElem?_set_ne (by omega), List.getElem?_set_self (by omega)]
            rfl
          · have e2 : ((m.set i (l.getD (l.length - 1 - i) 0)).set (l.length - 1 - i) (l.getD i 0)).getD k 0 = m.getD k 0 := by
              simp only [List.getD]
              rw [List.getElem?_set_ne (by omega), List.getElem?_set_ne (by omega)]
            rw [e2, hk k hk']
            by_cases c : k < i ∨ l.length - 1 - i < k
            · rw [if_pos c, if_pos (by omega)]
            · rw [if_neg c, if_neg (by omega)]
      · exact stE_le (E := eI) (n := m.length) (by simp; omega) (stE_le (E := eI) (n := m.length) (by omega) (fun _ _ _ _ => AVle.refl _) (fun _ _ => AVle.refl _)) (fun _ _ => AVle.refl _) k hk' j hj
    · have e : m = l.reverse := by
        refine list_ext_getD 0 (by simp [hm]) fun k hk' => ?_
        rw [hk k (by omega)]
        simp only [List.getD]
        rw [List.getElem?_reverse (by omega)]
        by_cases c : k < i ∨ l.length - 1 - i < k
        · rw [if_pos c]
        · rw [if_neg c, show l.length - 1 - k = k by omega]
      exact hK _ _ _ (by rw [← e]; exact RowLe.refl _) (Nat.le_refl _)
def sReverseI : MSpec := framed sReverseI0
theorem okReverseI : MethOK Tryz.prog 186 sReverseI := okReverseI0.frame
theorem reverseI_go {l : List Int} {ver p n : Nat} {hp : Nat → Row} {top nx : Nat} {K : AV → (Nat → Row) → Nat → Nat → Prop} (hn : n = l.length) (h0 : RowLe (hp p) (rowL ver 3 eI l)) (ht : p < top) (hl : l.length < 1000000000)
    (hK : ∀ nx', nx ≤ nx' → K (.val (.tuple #[])) (updR hp p (rowL ver 3 eI l.reverse)) top nx') : sReverseI [.ow p ver n] hp top nx K := by
  subst hn
  have hv := h0.vers
  refine ⟨[p], [.ow 0 ver l.length], rws [(0, rowL ver 3 eI l)], by simp, by simpa using ht, .cons AVle.ow .nil, one_row h0, fun i hi => rws_top (top := 1) (by simp) i (by simpa using hi), l, ver, rfl, rfl, rfl, hl, fun hp' top' nx' e1 e2 => ?_⟩
  refine ⟨_, _, AVle.refl _, fun k q hk => ?_, fun q hq => ?_, fun q hq u hu => ?_, hK nx' e2⟩
  · cases k with
    | zero =>
      simp only [List.getElem?_cons_zero, Option.some.injEq] at hk
      subst hk
      rw [updR_at]
      exact e1
    | succ k => simp at hk
  · rw [updR_ne _ _ (by simpa using hq)]
  · simp only [List.mem_singleton] at hq
    subst hq
    rw [updR_at] at hu
    exact .inl (hv.symm.trans hu)
def sTurned : Spec := Spec.f1 (kL eI) (fun l => l.length < 100000000) (fun l => sL eI l.reverse)
theorem okTurned : SpecOK Tryz.prog 138 sTurned := by
  refine SpecOK.f1 Tryz.func138 rfl (by decide) Tryz.results138 Tryz.ntmps138 (by decide) fun l hl => ?_
  have hΓ : GOK Tryz.prog (gam [(185, sCloneI), (186, sReverseI)]) := (.cons okCloneI (.cons okReverseI .nil))
  refine AW.of hΓ mixed [1, 99999] _ _ _ rfl ?_
  simp only [go_sem, sCloneI, sReverseI]
  refine ⟨_, l, rfl, AVle.refl _, by omega, fun ver nx' hv hv' => ?_⟩
  refine AW.of hΓ mixed [2, 99999] _ _ _ rfl ?_
  simp only [go_sem, sCloneI, sReverseI]
  refine reverseI_go (l := l) (p := 0) rfl (RowLe.refl _) (by decide) (by omega) fun n2 hn2 => ?_
  simp only [go_sem, sCloneI, sReverseI]
  refine AW.of hΓ mixed [] _ _ _ rfl ?_
  simp only [go_sem, sCloneI, sReverseI, List.length_reverse]
  exact vw_all (E := eI) rfl rfl (by simp)
theorem find_call {N : Nat} {a b f1 f2 : List Int} {l : List (Int × Int)} {fv v1 v2 pv : Nat} {x y r s : Int} {hp : Nat → Row} {top nx : Nat} {K : AV → (Nat → Row) → Nat → Nat → Prop} {π : List Nat} {p0 p1 p2 p3 : Nat} (hπ : π = [p0, p1, p2, p3]) (hnd : π.Nodup) (ht : ∀ p ∈ π, p < top) (hx : x = 0) (hy : y = a.length) (hr : r = 0) (hs : s = b.length)
    (h0 : RowLe (hp p0) (rws (fRows a b fv v1 v2 pv f1 f2 l) 0)) (h1 : RowLe (hp p1) (rws (fRows a b fv v1 v2 pv f1 f2 l) 1)) (h2 : RowLe (hp p2) (rws (fRows a b fv v1 v2 pv f1 f2 l) 2)) (h3 : RowLe (hp p3) (rws (fRows a b fv v1 v2 pv f1 f2 l) 3)) (hpv : pv < nx)
    (ha : a.length < 100000000) (hb : b.length < 100000000) (hr1 : a.length + b.length + 3 ≤ f1.length) (hr2 : a.length + b.length + 3 ≤ f2.length) (hl1 : f1.length < 1000000000) (hl2 : f2.length < 1000000000)
    (hl : l.length + a.length < 500000000) (hN : a.length + b.length < N)
    (hK : ∀ g1 g2 pv' hp' nx', g1.length = f1.length → g2.length = f2.length → (pv' = pv ∨ nx ≤ pv') → pv' < nx' → nx ≤ nx' → hp' p0 = rws (fRows a b fv v1 v2 pv' g1 g2 (l ++ findG a b)) 0 → hp' p3 = rws (fRows a b fv v1 v2 pv' g1 g2 (l ++ findG a b)) 3 → (∀ i, ¬ i ∈ π → hp' i = hp i) → K (.val (.tuple #[])) hp' top nx') :
    sFind N [.pt p0 fv 0, .val (.int .i64 x), .val (.int .i64 y), .val (.int .i64 r), .val (.int .i64 s)] hp top nx K := by
  subst hx hy hr hs hπ
  have w0 := h0.vers
  have w1 := h1.vers
  have w2 := h2.vers
  have w3 := h3.vers
  have hfin : shP ((0 : Nat) : Int) ((0 : Nat) : Int) (findG (partL a 0 a.length) (partL b 0 b.length)) = findG a b := by rw [partL_all, partL_all]; exact shP_0 _
  have hmem : ∀ q, q ∈ [p0, p1, p2, p3] ↔ q = p0 ∨ q = p1 ∨ q = p2 ∨ q = p3 := fun q => by simp
  have n01 : p1 ≠ p0 := fun e => by simp [e] at hnd
  have n02 : p2 ≠ p0 := fun e => by simp [e] at hnd
  have n03 : p3 ≠ p0 := fun e => by simp [e] at hnd
  have n12 : p2 ≠ p1 := fun e => by simp [e] at hnd
  have n13 : p3 ≠ p1 := fun e => by simp [e] at hnd
  have n23 : p3 ≠ p2 := fun e => by simp [e] at hnd
  refine ⟨[p0, p1, p2, p3], [.pt 0 fv 0, kI.enc ((0 : Nat) : Int), kI.enc (a.length : Nat), kI.enc ((0 : Nat) : Int), kI.enc (b.length : Nat)], rws (fRows a b fv v1 v2 pv f1 f2 l),
    hnd, ht, .cons AVle.pt (.cons (AVle.refl _) (.cons (AVle.refl _) (.cons (AVle.refl _) (.cons (AVle.refl _) .nil)))), fun k q hk => ?_, fun k hk => rws_top (top := 4) (by simp [fRows]) k (by simpa using hk), a, b, f1, f2, l, fv, v1, v2, pv, 0, a.length, 0, b.length, rfl, rfl, rfl, hpv, Nat.zero_le _, Nat.le_refl _, Nat.zero_le _, Nat.le_refl _, ha, hb, hr1, hr2, hl1, hl2, by omega, by omega, fun g1 g2 pv' hp' top' nx' e1 e2 e3 e4 e5 e6 => ?_⟩
  · match k, hk with
    | 0, hk => obtain rfl := Option.some.inj hk; exact h0
    | 1, hk => obtain rfl := Option.some.inj hk; exact h1
    | 2, hk => obtain rfl := Option.some.inj hk; exact h2
    | 3, hk => obtain rfl := Option.some.inj hk; exact h3
  rw [hfin] at e5
  refine ⟨_, updR (updR (updR (updR hp p0 (rws (fRows a b fv v1 v2 pv' g1 g2 (l ++ findG a b)) 0)) p1 (rws (fRows a b fv v1 v2 pv' g1 g2 (l ++ findG a b)) 1)) p2 (rws (fRows a b fv v1 v2 pv' g1 g2 (l ++ findG a b)) 2)) p3 (rws (fRows a b fv v1 v2 pv' g1 g2 (l ++ findG a b)) 3), AVle.refl _, fun k q hk => ?_, fun q hq => ?_, fun q hq u hu => ?_, hK g1 g2 pv' _ nx' e1 e2 e3 e4 e6 ?_ ?_ fun q hq => ?_⟩
  · match k, hk with
    | 0, hk => obtain rfl := Option.some.inj hk; rw [updR_ne _ _ n03.symm, updR_ne _ _ n02.symm, updR_ne _ _ n01.symm, updR_at]; exact e5 0 (by decide)
    | 1, hk => obtain rfl := Option.some.inj hk; rw [updR_ne _ _ n13.symm, updR_ne _ _ n12.symm, updR_at]; exact e5 1 (by decide)
    | 2, hk => obtain rfl := Option.some.inj hk; rw [updR_ne _ _ n23.symm, updR_at]; exact e5 2 (by decide)
    | 3, hk => obtain rfl := Option.some.inj hk; rw [updR_at]; exact e5 3 (by decide)
  · rw [hmem] at hq
    simp only [not_or] at hq
    rw [updR_ne _ _ hq.2.2.2, updR_ne _ _ hq.2.2.1, updR_ne _ _ hq.2.1, updR_ne _ _ hq.1]
  · rw [hmem] at hq
    rcases hq with rfl | rfl | rfl | rfl
    · rw [updR_ne _ _ n03.symm, updR_ne _ _ n02.symm, updR_ne _ _ n01.symm, updR_at] at hu; exact .inl (w0.symm.trans hu)
    · rw [updR_ne _ _ n13.symm, updR_ne _ _ n12.symm, updR_at] at hu; exact .inl (w1.symm.trans hu)
    · rw [updR_ne _ _ n23.symm, updR_at] at hu; exact .inl (w2.symm.trans hu)
    · rw [updR_at] at hu
      obtain rfl : pv' = u := Option.some.inj hu
      rcases e3 with rfl | e3
      · exact .inl w3.symm
      · exact .inr e3
  · rw [updR_ne _ _ n03.symm, updR_ne _ _ n02.symm, updR_ne _ _ n01.symm, updR_at]
  · rw [updR_at]
  · rw [hmem] at hq
    simp only [not_or] at hq
    rw [updR_ne _ _ hq.2.2.2, updR_ne _ _ hq.2.2.1, updR_ne _ _ hq.2.1, updR_ne _ _ hq.1]
def sSearch : MSpec := fun args hp top nx K => ∃ x y a b, args = [x, y] ∧ AVle x (sL eI a) ∧ AVle y (sL eI b) ∧ hp = rws [] ∧ top = 0 ∧ a.length < 100000000 ∧ b.length < 100000000 ∧
  ∀ ver hp' nx', hp' 3 = rowL ver 129 (eP eI eI) (findG a b) → ver < nx' → nx ≤ nx' → (∀ i, 4 ≤ i → hp' i = .dead) → K (.ow 3 ver (findG a b).length) hp' 4 nx'
theorem okSearch : MethOK Tryz.prog 84 sSearch := by
  refine MethOK.mk Tryz.func84 rfl (by decide) Tryz.results84 Tryz.ntmps84 ?_
  rintro args hp top nx K ⟨x, y, a, b, rfl, hx, hy, rfl, rfl, ha, hb, hK⟩
  have hΓ : GOK Tryz.prog (gam [(138, sTurned), (139, (Con.meth (sFind (a.length + b.length + 1))))]) := .cons okTurned (.cons (okFind _) .nil)
  refine ⟨Nat.le_of_ble_eq_true rfl, ?_⟩
  refine AW.le (stM_le (.cons hx (.cons hy .nil))) ?_
  refine AW.of hΓ mixed [2, 99999] _ _ _ rfl ?_
  simp only [go_sem, sTurned]
  have eN : ((a.length : Int) + b.length + 3).toNat = a.length + b.length + 3 := by omega
  rw [eN]
  refine ⟨by omega, by omega, ha, hb, by omega, by omega, ?_⟩
  refine AW.adoptB (q := 2) 6 129 2 (fun i => (eP eI eI).enc (([] : List (Int × Int)).getD i (0, 0))) rfl rfl ?_
  refine AW.of hΓ mixed [3, 99999] _ _ _ rfl ?_
  simp only [go_sem]
  refine find_call (a := a) (b := b) (f1 := List.replicate (a.length + b.length + 3) 0) (f2 := List.replicate (a.length + b.length + 3) 0) (l := []) (fv := nx + 1 + 1) (v1 := nx) (v2 := nx + 1) (pv := nx + 1 + 1 + 1) (π := [2, 0, 1, 3]) rfl (by decide) (by decide) rfl rfl rfl rfl ?_ ?_ ?_ ?_ (by omega) ha hb (by simp) (by simp) (by simp; omega) (by simp; omega) (by simp; omega) (by omega) ?_
  · refine RowLe.box fun j hj => ?_
    match j, hj with
    | 0, _ => exact AVle.refl _
    | 1, _ => exact AVle.refl _
    | 2, _ => exact AVle.refl _
    | 3, _ => exact AVle.refl _
    | 4, _ => show AVle (.ow 0 nx (a.length + b.length + 3)) (.ow 1 nx (List.replicate (a.length + b.length + 3) (0 : Int)).length); rw [List.length_replicate]; exact AVle.ow
    | 5, _ => show AVle (.ow 1 (nx + 1) (a.length + b.length + 3)) (.ow 2 (nx + 1) (List.replicate (a.length + b.length + 3) (0 : Int)).length); rw [List.length_replicate]; exact AVle.ow
    | 6, _ => exact AVle.refl _
  · refine RowLe.sl (by simp) fun i hi j hj => AVle.of_eq ?_
    match j, hj with
    | 0, _ => simp [List.getD, List.getElem?_replicate, hi, zC]; rfl
  · refine RowLe.sl (by simp) fun i hi j hj => AVle.of_eq ?_
    match j, hj with
    | 0, _ => simp [List.getD, List.getElem?_replicate, hi, zC]; rfl
  · exact RowLe.refl _
  intro g1 g2 pv' hp' nx' e1 e2 e3 e4 e5 e6 e7 e8
  have e6' : hp' 2 = .box (nx + 1 + 1) 198 7 (fAV a b (.ow 1 nx g1.length) (.ow 2 (nx + 1) g2.length) (.ow 3 pv' (findG a b).length)) := e6
  simp only [go_sem]
  refine AW.of hΓ mixed [] _ _ _ rfl ?_
  simp only [go_sem, e6', fAV_6]
  exact hK pv' hp' nx' e7 e4 (by omega) fun i hi => (e8 i (by simp; omega)).trans (by
    rw [updR_ne _ _ (by omega), updR_ne _ _ (by omega), updR_ne _ _ (by omega), updR_ne _ _ (by omega), updR_ne _ _ (by omega)]
    rfl)
end Go.Proofs.YthpjjjnbkfnghaaGreatDoor
