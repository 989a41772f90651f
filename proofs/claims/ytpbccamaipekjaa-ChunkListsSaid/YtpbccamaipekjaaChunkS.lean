/-
  chunk: the document's chunks of three lists.
-/
import Derived.Test.YtpbccamaipekjaaChunkP
set_option linter.unusedSimpArgs false
set_option linter.unusedVariables false
set_option maxRecDepth 100000
set_option maxHeartbeats 2000000
namespace Go.Proofs.Ytpbccamaipekjaa
open Go
attribute [local irreducible] AW AVle ASle RowLe
theorem ck_box {v e : Nat} {s : Bool} {b1 b2 l1 l2 r1 r2 : Int} {c : Nat → AV} (h0 : c 0 = .val (.bool s)) (h1 : c 1 = .val (.int .i64 b1)) (h2 : c 2 = .val (.int .i64 b2)) (h3 : c 3 = .val (.int .i64 l1)) (h4 : c 4 = .val (.int .i64 l2)) (h5 : c 5 = .val (.int .i64 r1)) (h6 : c 6 = .val (.int .i64 r2)) :
    RowLe (.box v e 7 c) (.box v e 7 (eCk.enc (s, (b1, b2), (l1, l2), r1, r2))) := RowLe.box fun j hj => AVle.of_eq (match j, hj with
  | 0, _ => h0
  | 1, _ => h1
  | 2, _ => h2
  | 3, _ => h3
  | 4, _ => h4
  | 5, _ => h5
  | 6, _ => h6)
theorem valI {a b : Int} (h : a = b) : AV.val (.int .i64 a) = AV.val (.int .i64 b) := by rw [h]
theorem fP_some {l r : List (Int × Int)} {t y w : Nat} (h1 : atL l t = y) (h2 : atL r t = w) : fP l r t = some ((t : Int), (y : Int), (w : Int)) := by
  unfold fP
  rw [h1, h2, if_neg (by omega)]
def sRefOfK : Spec := Spec.f5 kI kI kI (kL (eP eI eI)) (kL (eP eI eI)) (fun a b c l r => a < 100000000 ∧ b < 100000000 ∧ c < 100000000 ∧ l.length < 10000000 ∧ r.length < 10000000)
  (fun a b c l r => if fitK a b c l r then tu2 (sL eCk (ofK (a, b, c) (bothF l r) [] (0, 0, 0))) (kB.enc true) else tu2 .em (kB.enc false))
theorem okRefOfK : SpecOK Try.prog 25 sRefOfK := by
  refine SpecOK.f5 Try.func25 rfl (by decide) Try.results25 Try.ntmps25 (by decide) fun a b c l r ⟨ha, hb, hc, hl, hr⟩ => ?_
  have hΓ : GOK Try.prog (gam [(51, sRefRises), (52, sAtL)]) := (.cons okRefRises (.cons okAtL .nil))
  rcases hf : fitK a b c l r with _ | _
  · have hbad : (decide (a < 0) || decide (b < 0) || decide (c < 0) || !riseB a b (-1) (-1) l || !riseB a c (-1) (-1) r) = true := by
      cases h : (decide (a < 0) || decide (b < 0) || decide (c < 0) || !riseB a b (-1) (-1) l || !riseB a c (-1) (-1) r) with
      | true => rfl
      | false =>
        simp only [Bool.or_eq_false_iff, decide_eq_false_iff_not, Bool.not_eq_false'] at h
        obtain ⟨⟨⟨⟨h1, h2⟩, h3⟩, h4⟩, h5⟩ := h
        have : fitK a b c l r = true := by
          unfold fitK
          rw [h4, h5, decide_eq_true (by omega)]
          rfl
        rw [this] at hf
        cases hf
    refine AW.of hΓ mixed [3] _ _ _ rfl ?_
    simp only [go_sem, sRefRises, sAtL, hf]
    refine ⟨fun h => by simp [h], fun h => by rw [h]; rfl, fun _ => by omega, fun h => by rw [h]; rfl, fun _ => by omega, fun h => by rw [h]; rfl, fun h => by rw [hbad] at h; cases h⟩
  · have hf' := hf
    unfold fitK at hf'
    simp only [Bool.and_eq_true, decide_eq_true_eq] at hf'
    obtain ⟨⟨a0, b0, c0⟩, g1, g2⟩ := hf'
    have d1 : (a < 0) = False := eq_false (by omega)
    have d2 : (b < 0) = False := eq_false (by omega)
    have d3 : (c < 0) = False := eq_false (by omega)
    refine AW.of hΓ mixed [3] _ _ _ rfl ?_
    simp only [go_sem, sRefRises, sAtL, hf, d1, d2, d3, g1, g2]
    refine ⟨by omega, by omega, ?_⟩
    refine AW.adopt 12 65 7 (fun i => eCk.enc (([] : List Ck).getD i eCk.dflt)) rfl ?_
    refine AW.of hΓ mixed [4] _ _ _ rfl ?_
    simp only [go_sem, sRefRises, sAtL]
    obtain ⟨A, rfl⟩ : ∃ A : Nat, a = A := ⟨a.toNat, by omega⟩
    obtain ⟨B, rfl⟩ : ∃ B : Nat, b = B := ⟨b.toNat, by omega⟩
    obtain ⟨C, rfl⟩ : ∃ C : Nat, c = C := ⟨c.toNat, by omega⟩
    rw [both_all g1 g2]
    clear d1 d2 d3 hf a0 b0 c0
    refine AW.fork (AW.block (AW.round (α := { x : (Nat × Nat × Nat) × List Ck × Nat × Nat // (x.1.1 ≤ A ∧ x.1.2.1 ≤ B ∧ x.1.2.2 ≤ C) ∧ x.2.1.length ≤ x.1.1 + x.1.2.1 + x.1.2.2 ∧
        ofK ((A : Int), (B : Int), (C : Int)) (mF l r A 0) [] (0, 0, 0) = ofK ((A : Int), (B : Int), (C : Int)) (mF l r (A - x.1.1) x.1.1) x.2.1 ((x.1.1 : Int), (x.1.2.1 : Int), (x.1.2.2 : Int)) ∧
        (∀ z : Nat, x.1.1 ≤ z → atL l z = -1 ∨ (x.1.2.1 : Int) ≤ atL l z) ∧ (∀ z : Nat, x.1.1 ≤ z → atL r z = -1 ∨ (x.1.2.2 : Int) ≤ atL r z) ∧
        (lastSt x.2.1 = true → fP l r x.1.1 ≠ some ((x.1.1 : Int), (x.1.2.1 : Int), (x.1.2.2 : Int))) })
      (fun x => ⟨[(0, .val (.int .i64 A)), (1, .val (.int .i64 B)), (2, .val (.int .i64 C)), (3, sL (eP eI eI) l), (4, sL (eP eI eI) r), (12, .ow 0 x.1.2.2.1 x.1.2.1.length), (13, .val (.int .i64 x.1.1.1)), (14, .val (.int .i64 x.1.1.2.1)), (15, .val (.int .i64 x.1.1.2.2))],
        [(0, rowL x.1.2.2.1 65 eCk x.1.2.1)], 164, 1, x.1.2.2.2, []⟩) (fun x => A + B + C - x.1.1.1 - x.1.1.2.1 - x.1.1.2.2)
      ⟨((0, 0, 0), [], 0, 1), ⟨Nat.zero_le _, Nat.zero_le _, Nat.zero_le _⟩, Nat.zero_le _, rfl, fun z hz => ?_, fun z hz => ?_, fun h => by cases h⟩ ?_ ?_))
    · by_cases e : atL l z = -1
      · exact .inl e
      · have := at_in g1 z e
        exact .inr (by dsimp only; omega)
    · by_cases e : atL r z = -1
      · exact .inl e
      · have := at_in g2 z e
        exact .inr (by dsimp only; omega)
    · simp only [go_sem, sRefRises, sAtL]
      exact RowLe.refl _
    · rintro ⟨⟨⟨o, p, q⟩, s, v, nx⟩, ⟨ho, hp, hq⟩, hsl, hW, hL, hR, hlast⟩
      simp only at ho hp hq hsl hW hL hR hlast
      refine AW.of hΓ mixed [10, 99999] _ _ _ rfl ?_
      simp only [go_sem, sRefRises, sAtL]
      refine ⟨fun h => by rw [decide_eq_false h]; rfl, fun h => by rw [h]; rfl, fun hgo => ?_, fun hend => ?_⟩
      · simp only [Bool.or_eq_true, decide_eq_true_eq] at hgo
        refine AW.round (α := { x : Nat × Nat // o + x.1 ≤ A ∧ ∀ j, j < x.1 → fP l r (o + j) = some (((o + j : Nat) : Int), (p : Int) + j, (q : Int) + j) })
          (fun x => ⟨[(0, .val (.int .i64 A)), (1, .val (.int .i64 B)), (2, .val (.int .i64 C)), (3, sL (eP eI eI) l), (4, sL (eP eI eI) r), (12, .ow 0 v s.length), (13, .val (.int .i64 o)), (14, .val (.int .i64 p)), (15, .val (.int .i64 q)), (16, .val (.int .i64 x.1.1))],
            [(0, rowL v 65 eCk s)], 164, 1, x.1.2, []⟩) (fun x => A - o - x.1.1) ⟨(0, nx), by simpa using ho, fun j hj => absurd hj (Nat.not_lt_zero _)⟩ ?_ ?_
        · simp only [go_sem, sRefRises, sAtL]
          exact RowLe.refl _
        · rintro ⟨⟨k, n1⟩, hk, hfk⟩
          simp only at hk hfk
          have hpk : p + k ≤ B := by
            cases k with
            | zero => exact hp
            | succ k =>
              have h1 := hfk k (by omega)
              unfold fP at h1
              by_cases e : atL l ((o + k : Nat) : Int) = -1 ∨ atL r ((o + k : Nat) : Int) = -1
              · rw [if_pos e] at h1; cases h1
              · rw [if_neg e] at h1
                have h2 := Prod.mk.inj (Prod.mk.inj (Option.some.inj h1)).2
                have := at_in g1 _ (fun h => e (.inl h))
                omega
          have hqk : q + k ≤ C := by
            cases k with
            | zero => exact hq
            | succ k =>
              have h1 := hfk k (by omega)
              unfold fP at h1
              by_cases e : atL l ((o + k : Nat) : Int) = -1 ∨ atL r ((o + k : Nat) : Int) = -1
              · rw [if_pos e] at h1; cases h1
              · rw [if_neg e] at h1
                have h2 := Prod.mk.inj (Prod.mk.inj (Option.some.inj h1)).2
                have := at_in g2 _ (fun h => e (.inr h))
                omega
          have ec : ((o + k : Nat) : Int) = (o : Int) + k := by omega
          refine AW.of hΓ mixed [10, 99999] _ _ _ rfl ?_
          simp only [go_sem, sRefRises, sAtL]
          refine ⟨by omega, fun _ => by omega, fun _ => by omega, fun _ => by omega, fun _ => by omega, fun _ => by omega, fun _ => by omega, fun ⟨⟨h1, h2⟩, h3⟩ => ?_, fun hx => ?_⟩
          · refine ⟨by omega, ⟨(k + 1, n1), by dsimp only; omega, fun j hj => ?_⟩, ⟨Nat.le_refl _, by dsimp only; omega, RowLe.refl _⟩, by dsimp only; omega⟩
            dsimp only at hj
            rcases Nat.lt_or_ge j k with h' | h'
            · exact hfk j h'
            · obtain rfl : j = k := by omega
              unfold fP
              rw [ec, h2, h3, if_neg (by omega)]
          · refine ⟨by omega, by omega, by omega, ?_⟩
            have hstop : fP l r (o + k) ≠ some (((o + k : Nat) : Int), ((p + k : Nat) : Int), ((q + k : Nat) : Int)) := fun h => by
              unfold fP at h
              by_cases e : atL l ((o + k : Nat) : Int) = -1 ∨ atL r ((o + k : Nat) : Int) = -1
              · rw [if_pos e] at h; cases h
              · rw [if_neg e] at h
                have h2 := Prod.mk.inj (Prod.mk.inj (Option.some.inj h)).2
                have h3 := at_in g1 _ (fun h => e (.inl h))
                rw [ec] at h2 h3
                exact hx ⟨by omega, by omega⟩ (by omega)
            refine AW.to (fun x : { x : (Nat × Nat × Nat) × Bool × Nat // (x.1.1 ≤ A ∧ x.1.2.1 ≤ B ∧ x.1.2.2 ≤ C) ∧ o + p + q < x.1.1 + x.1.2.1 + x.1.2.2 ∧
                ofK ((A : Int), (B : Int), (C : Int)) (mF l r (A - o) o) s ((o : Int), (p : Int), (q : Int)) = ofK ((A : Int), (B : Int), (C : Int)) (mF l r (A - x.1.1) x.1.1) (s ++ [(x.2.1, ((o : Int), (x.1.1 : Int)), ((p : Int), (x.1.2.1 : Int)), ((q : Int), (x.1.2.2 : Int)))]) ((x.1.1 : Int), (x.1.2.1 : Int), (x.1.2.2 : Int)) ∧
                (∀ z : Nat, x.1.1 ≤ z → atL l z = -1 ∨ (x.1.2.1 : Int) ≤ atL l z) ∧ (∀ z : Nat, x.1.1 ≤ z → atL r z = -1 ∨ (x.1.2.2 : Int) ≤ atL r z) ∧
                (x.2.1 = true → fP l r x.1.1 ≠ some ((x.1.1 : Int), (x.1.2.1 : Int), (x.1.2.2 : Int))) } =>
              Sh.st ⟨[(0, .val (.int .i64 A)), (1, .val (.int .i64 B)), (2, .val (.int .i64 C)), (3, sL (eP eI eI) l), (4, sL (eP eI eI) r), (12, .ow 0 v s.length), (17, .pt 1 n1 0)],
                [(0, rowL v 65 eCk s), (1, .box n1 65 7 (eCk.enc (x.1.2.1, ((o : Int), (x.1.1.1 : Int)), ((p : Int), (x.1.1.2.1 : Int)), ((q : Int), (x.1.1.2.2 : Int)))))], 164, 2, x.1.2.2, []⟩) ?_ ?_
            · refine AW.of hΓ mixed [99999] _ _ _ rfl ?_
              simp only [go_sem, sRefRises, sAtL]
              refine ⟨fun hk0 => ?_, fun hk0 => ?_⟩
              · obtain rfl : k = 0 := by omega
                refine AW.round (α := { x : Nat × Nat // o ≤ x.1 ∧ x.1 ≤ A ∧ ∀ z, o ≤ z → z < x.1 → fP l r z = none })
                  (fun x => ⟨[(0, .val (.int .i64 A)), (1, .val (.int .i64 B)), (2, .val (.int .i64 C)), (3, sL (eP eI eI) l), (4, sL (eP eI eI) r), (12, .ow 0 v s.length), (13, .val (.int .i64 o)), (14, .val (.int .i64 p)), (15, .val (.int .i64 q)), (17, .pt 1 n1 0), (18, .val (.int .i64 x.1.1))],
                    [(0, rowL v 65 eCk s), (1, .box n1 65 7 (eCk.enc (false, ((o : Int), (o : Int)), ((p : Int), (p : Int)), ((q : Int), (q : Int)))))], 164, 2, x.1.2, []⟩) (fun x => A - x.1.1) ⟨(o, n1 + 1), Nat.le_refl _, ho, fun z h1 h2 => absurd h1 (by dsimp only at h2; omega)⟩ ?_ ?_
                · simp only [go_sem, sRefRises, sAtL]
                  exact ⟨RowLe.refl _, ck_box rfl rfl (valI (show (o : Int) + 0 = o by omega)) rfl (valI (show (p : Int) + 0 = p by omega)) rfl (valI (show (q : Int) + 0 = q by omega))⟩
                · rintro ⟨⟨t, n2⟩, hot, htA, hno⟩
                  simp only at hot htA hno
                  have hLt := hL t hot
                  have hRt := hR t hot
                  have hsk := mF_skip (l := l) (r := r) (A - o) o (t - o) (by omega) fun j hj => hno (o + j) (by omega) (by omega)
                  rw [show A - o - (t - o) = A - t by omega, show o + (t - o) = t by omega] at hsk
                  refine AW.of hΓ mixed [99999] _ _ _ rfl ?_
                  simp only [go_sem, sRefRises, sAtL]
                  refine ⟨fun _ => by omega, fun _ => by omega, fun h0 h1 => by rw [decide_eq_true h0, decide_eq_false h1]; rfl, fun ⟨h0, h1⟩ => ?_, fun hx => ⟨fun h0 => ?_, fun h0 => ?_⟩⟩
                  · simp only [Bool.or_eq_true, decide_eq_true_eq] at h1
                    refine ⟨by omega, ⟨(t + 1, n2), by dsimp only; omega, by dsimp only; omega, fun z hz1 hz2 => ?_⟩, ⟨Nat.le_refl _, by dsimp only; omega, RowLe.refl _, RowLe.refl _⟩, by dsimp only; omega⟩
                    dsimp only at hz2
                    rcases Nat.lt_or_ge z t with h' | h'
                    · exact hno z hz1 h'
                    · obtain rfl : z = t := by omega
                      unfold fP
                      rw [if_pos (by omega)]
                  · have hx := hx h0
                    simp only [Bool.or_eq_false_iff, decide_eq_false_iff_not] at hx
                    obtain ⟨y, hy⟩ : ∃ y : Nat, atL l t = y := ⟨(atL l t).toNat, by omega⟩
                    obtain ⟨w, hw⟩ : ∃ w : Nat, atL r t = w := ⟨(atL r t).toNat, by omega⟩
                    have hin1 := at_in g1 t (by omega)
                    have hin2 := at_in g2 t (by omega)
                    have hfs := fP_some hy hw
                    have hne : (((t : Int), (y : Int), (w : Int)) : Pl) ≠ ((o : Int), (p : Int), (q : Int)) := fun h => by
                      have h2 := Prod.mk.inj h
                      obtain rfl : t = o := by omega
                      exact hstop (by rw [Nat.add_zero, hfs, h]; simp)
                    obtain ⟨m, hm⟩ : ∃ m, A - t = m + 1 := ⟨A - t - 1, by omega⟩
                    refine ⟨by omega, by omega, ⟨((t, y, w), false, n2), ⟨by dsimp only; omega, by dsimp only; omega, by dsimp only; omega⟩, ?_, ?_, fun z hz => ?_, fun z hz => ?_, fun h => by cases h⟩, toFits ?_⟩
                    · dsimp only
                      rcases Nat.lt_or_ge (o + p + q) (t + y + w) with h' | h'
                      · exact h'
                      · exact absurd (by rw [show t = o by omega, show y = p by omega, show w = q by omega]) hne
                    · dsimp only
                      rw [hsk, hm, mF_some hfs, of_gap hne]
                      rfl
                    · dsimp only at hz ⊢
                      by_cases e : atL l z = -1
                      · exact .inl e
                      · rcases Nat.lt_or_ge t z with h' | h'
                        · have := at_mono g1 (t : Int) z (by omega) (by omega) e
                          exact .inr (by omega)
                        · obtain rfl : z = t := by omega
                          exact .inr (by omega)
                    · dsimp only at hz ⊢
                      by_cases e : atL r z = -1
                      · exact .inl e
                      · rcases Nat.lt_or_ge t z with h' | h'
                        · have := at_mono g2 (t : Int) z (by omega) (by omega) e
                          exact .inr (by omega)
                        · obtain rfl : z = t := by omega
                          exact .inr (by omega)
                    · simp only [go_sem, sRefRises, sAtL]
                      exact ⟨RowLe.refl _, ck_box rfl rfl rfl rfl (valI hy) rfl (valI hw)⟩
                  · obtain rfl : t = A := by omega
                    have hne : ¬ (((o : Int), (p : Int), (q : Int)) : Pl) = ((t : Int), (B : Int), (C : Int)) := fun h => by
                      have h2 := Prod.mk.inj h
                      have h3 := Prod.mk.inj h2.2
                      omega
                    refine ⟨⟨((t, B, C), false, n2), ⟨Nat.le_refl _, Nat.le_refl _, Nat.le_refl _⟩, by dsimp only; omega, ?_, fun z hz => ?_, fun z hz => ?_, fun h => by cases h⟩, toFits ?_⟩
                    · dsimp only
                      rw [hsk, Nat.sub_self, mF, ofK, ofK, if_neg hne, if_pos rfl]
                      rfl
                    · dsimp only at hz ⊢
                      by_cases e : atL l z = -1
                      · exact .inl e
                      · have := at_in g1 z e
                        omega
                    · dsimp only at hz ⊢
                      by_cases e : atL r z = -1
                      · exact .inl e
                      · have := at_in g2 z e
                        omega
                    · simp only [go_sem, sRefRises, sAtL]
                      exact ⟨RowLe.refl _, ck_box rfl rfl rfl rfl rfl rfl rfl⟩
              · obtain ⟨k, rfl⟩ : ∃ m, k = m + 1 := ⟨k - 1, by omega⟩
                have hs : lastSt s = false := by
                  cases h : lastSt s with
                  | false => rfl
                  | true =>
                    have h0 := hfk 0 (by omega)
                    exact absurd (by simpa using h0) (hlast h)
                have hrun := of_run (ends := ((A : Int), (B : Int), (C : Int))) hs (A - o) o (p : Int) (q : Int) (k + 1) (by omega) (by omega) hfk
                have hlk : atL l ((o + k : Nat) : Int) = (p : Int) + k ∧ atL r ((o + k : Nat) : Int) = (q : Int) + k := by
                  have h1 := hfk k (by omega)
                  unfold fP at h1
                  by_cases e : atL l ((o + k : Nat) : Int) = -1 ∨ atL r ((o + k : Nat) : Int) = -1
                  · rw [if_pos e] at h1; cases h1
                  · rw [if_neg e] at h1
                    have h2 := Prod.mk.inj (Prod.mk.inj (Option.some.inj h1)).2
                    exact h2
                refine ⟨⟨((o + (k + 1), p + (k + 1), q + (k + 1)), true, n1 + 1), ⟨by dsimp only; omega, by dsimp only; omega, by dsimp only; omega⟩, by dsimp only; omega, ?_, fun z hz => ?_, fun z hz => ?_, fun _ => hstop⟩, toFits ?_⟩
                · simp only [Int.natCast_add, Nat.sub_sub] at hrun ⊢
                  exact hrun
                · dsimp only at hz ⊢
                  by_cases e : atL l z = -1
                  · exact .inl e
                  · have := at_mono g1 ((o + k : Nat) : Int) z (by omega) (by omega) e
                    exact .inr (by omega)
                · dsimp only at hz ⊢
                  by_cases e : atL r z = -1
                  · exact .inl e
                  · have := at_mono g2 ((o + k : Nat) : Int) z (by omega) (by omega) e
                    exact .inr (by omega)
                · simp only [go_sem, sRefRises, sAtL]
                  exact ⟨RowLe.refl _, ck_box (by show AV.val (.bool (decide (0 < ((k + 1 : Nat) : Int)))) = _; rw [decide_eq_true (by omega)]) rfl (valI (show (o : Int) + ((k + 1 : Nat) : Int) = ((o + (k + 1) : Nat) : Int) by omega)) rfl (valI (show (p : Int) + ((k + 1 : Nat) : Int) = ((p + (k + 1) : Nat) : Int) by omega)) rfl (valI (show (q : Int) + ((k + 1 : Nat) : Int) = ((q + (k + 1) : Nat) : Int) by omega))⟩
            · rintro ⟨⟨⟨o', p', q'⟩, st, n2⟩, ⟨ho', hp', hq'⟩, hlt, hW', hL', hR', hlast'⟩
              simp only at ho' hp' hq' hlt hW' hL' hR' hlast'
              simp only [go_sem, sRefRises, sAtL]
              refine ⟨by omega, ⟨((o', p', q'), s ++ [(st, ((o : Int), (o' : Int)), ((p : Int), (p' : Int)), ((q : Int), (q' : Int)))], n2, n2 + 1), ⟨ho', hp', hq'⟩, by simp; omega, by dsimp only; rw [hW, hW'], hL', hR', fun h => hlast' (by rw [last_snoc] at h; exact h)⟩, ⟨Nat.le_refl _, ⟨⟨rfl, by simp⟩, rfl, rfl, rfl⟩, ?_⟩, by dsimp only; omega⟩
              exact row_app1 (E := eCk) rfl rfl rfl rfl (by simp) fun j hj => AVle.refl _
      · simp only [Bool.or_eq_false_iff, decide_eq_false_iff_not] at hend
        refine AW.of hΓ mixed [] _ _ _ rfl ?_
        simp only [go_sem, sRefRises, sAtL]
        obtain rfl : o = A := by omega
        obtain rfl : p = B := by omega
        obtain rfl : q = C := by omega
        rw [hW, Nat.sub_self, mF, ofK, if_pos rfl]
        exact vw_all (E := eCk) rfl rfl rfl
end Go.Proofs.Ytpbccamaipekjaa
