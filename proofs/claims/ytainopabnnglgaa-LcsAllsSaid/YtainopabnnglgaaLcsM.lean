/-
  lcs: middle.
-/
import Derived.Test.YtainopabnnglgaaLcsX
import Derived.Test.YtainopabnnglgaaLcsG
set_option linter.unusedSimpArgs false
set_option linter.unusedVariables false
set_option maxRecDepth 100000
set_option maxHeartbeats 2000000
namespace Go.Proofs.Ytainopabnnglgaa
open Go
attribute [local irreducible] AW AVle ASle RowLe
/-- A finder's cells. -/
def fAV (a b : List Int) (u v z : AV) : Nat → AV
  | 0 => sL eI a
  | 1 => sL eI b
  | 2 => sL eI a.reverse
  | 3 => sL eI b.reverse
  | 4 => u
  | 5 => v
  | _ => z
section
variable (a b : List Int) (u v z : AV)
theorem fAV_0 : fAV a b u v z 0 = sL eI a := rfl
theorem fAV_1 : fAV a b u v z 1 = sL eI b := rfl
theorem fAV_2 : fAV a b u v z 2 = sL eI a.reverse := rfl
theorem fAV_3 : fAV a b u v z 3 = sL eI b.reverse := rfl
theorem fAV_4 : fAV a b u v z 4 = u := rfl
theorem fAV_5 : fAV a b u v z 5 = v := rfl
theorem fAV_6 : fAV a b u v z 6 = z := rfl
end
theorem adv_facts {a b far far' : List Int} {k x : Int} (h : advF a b far k = some (x, far')) (hf : okFar far) : far'.length = far.length ∧ (a.length < 1000000000 → okFar far') ∧ 0 ≤ x ∧ x ≤ a.length ∧ k ≤ x ∧ x - k ≤ b.length ∧ -(b.length : Int) ≤ k ∧ k ≤ a.length := by
  unfold advF at h
  split at h
  · rename_i hc
    obtain ⟨c1, c2, c3, c4, c5⟩ := hc
    have hs : startD a b (rch b.length far (k - 1)) (rch b.length far (k + 1)) k = min (min (max (rch b.length far (k - 1) + 1) (rch b.length far (k + 1))) ↑a.length) (↑b.length + k) := rfl
    simp only [Option.some.injEq, Prod.mk.injEq] at h
    obtain ⟨hx, hfar'⟩ := h
    generalize startD a b (rch b.length far (k - 1)) (rch b.length far (k + 1)) k = s at *
    have hal := ahd_le (a.drop s.toNat) (b.drop (s - k).toNat)
    simp only [List.length_drop] at hal
    rw [hx] at hfar'
    subst hfar'
    refine ⟨by simp, fun hl y hy => ?_, by omega, by omega, by omega, by omega, c3, c4⟩
    rcases List.mem_or_eq_of_mem_set hy with hy | rfl
    · exact hf y hy
    · omega
  · cases h
theorem rch_ok {far : List Int} {n m : Nat} {j : Int} (h : okFar far) (hl : far.length = n + m + 3) (h1 : -(m : Int) - 1 ≤ j) (h2 : j ≤ n + 1) : -1 ≤ rch m far j ∧ rch m far j < 1000000000 := by
  unfold rch
  rw [gd_lt _ _ (by omega)]
  exact h _ (List.getElem_mem _)
theorem row_len {v t n : Nat} {l : List Int} (h : n = l.length) : RowLe (.sl v t 1 n fun i => eI.enc (l.getD i 0)) (rowL v t eI l) := by
  subst h
  exact RowLe.refl _
theorem okFar_start (n : Nat) : okFar (startR n) := fun y hy => by
  have := (List.mem_replicate.1 hy).2
  omega
def sMiddle0 : MSpec := fun args hp top nx K => ∃ a b f1 f2 z fv v1 v2 fa ta fb tb p q, args = [.pt 0 fv 0, kI.enc (fa : Nat), kI.enc (ta : Nat), kI.enc (fb : Nat), kI.enc (tb : Nat)] ∧
  hp = rws [(0, .box fv 51 7 (fAV a b (.ow 1 v1 f1.length) (.ow 2 v2 f2.length) z)), (1, rowL v1 3 eI f1), (2, rowL v2 3 eI f2)] ∧ top = 3 ∧
  fa ≤ ta ∧ ta ≤ a.length ∧ fb ≤ tb ∧ tb ≤ b.length ∧ a.length < 100000000 ∧ b.length < 100000000 ∧ a.length + b.length + 3 ≤ f1.length ∧ a.length + b.length + 3 ≤ f2.length ∧ f1.length < 1000000000 ∧ f2.length < 1000000000 ∧
  cutF (partL a fa ta) (partL b fb tb) = some (p, q) ∧
  ∀ g1 g2 hp' top' nx', g1.length = f1.length → g2.length = f2.length → RowLe (hp' 0) (.box fv 51 7 (fAV a b (.ow 1 v1 f1.length) (.ow 2 v2 f2.length) z)) → RowLe (hp' 1) (rowL v1 3 eI g1) → RowLe (hp' 2) (rowL v2 3 eI g2) → nx ≤ nx' →
    K (tu2 (kI.enc p) (kI.enc q)) hp' top' nx'
theorem okMiddle0 : MethOK Try.prog 42 sMiddle0 := by
  refine MethOK.mk Try.func42 rfl (by decide) Try.results42 Try.ntmps42 ?_
  rintro args hp top nx K ⟨a, b, f1, f2, z, fv, v1, v2, fa, ta, fb, tb, p, q, rfl, rfl, rfl, hfa, hta, hfb, htb, ha, hb, hr1, hr2, hl1, hl2, hcut, hK⟩
  have hΓ : GOK Try.prog (gam [(43, sNewWalk), (45, sAdvance), (46, sReached), (44, sDiagonals)]) := (.cons okNewWalk (.cons okAdvance (.cons okReached (.cons okDiagonals .nil))))
  refine ⟨Nat.le_of_ble_eq_true rfl, ?_⟩
  refine AW.of hΓ mixed [200002, 200003] _ _ _ rfl ?_
  simp only [go_sem, sNewWalk, sAdvance, sReached, sDiagonals, fAV_0, fAV_1, fAV_2, fAV_3, fAV_4, fAV_5, fAV_6]
  refine ⟨by omega, by omega, ?_⟩
  refine AW.drawG hΓ mixed 18 [19] (by decide +kernel) ?_
  simp only [go_sem, sNewWalk, sAdvance, sReached, sDiagonals, fAV_0, fAV_1, fAV_2, fAV_3, fAV_4, fAV_5, fAV_6]
  have lA : (partL a fa ta).length = ta - fa := partL_len hta
  have lB : (partL b fb tb).length = tb - fb := partL_len htb
  refine ⟨by omega, by omega, newWalk_go (a := partL a fa ta) (b := partL b fb tb) (far := f1) (sLd_le eI a (by omega)) (sLd_le eI b (by omega)) rfl ?_ (by decide) (by omega) (by omega) (by omega) (by omega) fun n1 hn1 => ?_⟩
  · exact RowLe.refl _
  simp only [go_sem, sNewWalk, sAdvance, sReached, sDiagonals, cellsAV, wAV]
  refine AW.drawG hΓ mixed 42 [43] (by decide +kernel) ?_
  simp only [go_sem, sNewWalk, sAdvance, sReached, sDiagonals, fAV_0, fAV_1, fAV_2, fAV_3, fAV_4, fAV_5, fAV_6]
  have hAe : (ta : Int) - fa = ((partL a fa ta).length : Int) := by omega
  have hBe : (tb : Int) - fb = ((partL b fb tb).length : Int) := by omega
  have hAr := partL_rev hfa hta
  have hBr := partL_rev hfb htb
  have t1 : ((a.length : Int) - ta).toNat = a.length - ta := by omega
  have t2 : ((a.length : Int) - fa).toNat = a.length - fa := by omega
  have t3 : ((b.length : Int) - tb).toNat = b.length - tb := by omega
  have t4 : ((b.length : Int) - fb).toNat = b.length - fb := by omega
  have l1 : a.reverse.length = a.length := List.length_reverse
  have l2 : b.reverse.length = b.length := List.length_reverse
  rw [t1, t2, t3, t4]
  refine ⟨by omega, by omega, by omega, by omega, by omega, by omega, newWalk_go (a := (partL a fa ta).reverse) (b := (partL b fb tb).reverse) (far := f2) ?_ ?_ rfl ?_ (by decide) (by simp; omega) (by simp; omega) (by simp; omega) (by omega) fun n2 hn2 => ?_⟩
  · rw [← hAr]; exact sLd_le eI a.reverse (by omega)
  · rw [← hBr]; exact sLd_le eI b.reverse (by omega)
  · exact RowLe.refl _
  generalize partL a fa ta = A at *
  generalize partL b fb tb = B at *
  simp only [go_sem, sNewWalk, sAdvance, sReached, sDiagonals, cellsAV, wAV, hAe, hBe, len_rev]
  have hod : decide (¬((A.length : Int) - B.length).tmod 2 = 0) = oddD A.length B.length := rfl
  rw [hod]
  refine ⟨by omega, ?_⟩
  obtain ⟨N, hN⟩ : ∃ N, A.length + B.length + 3 = N := ⟨_, rfl⟩
  unfold cutF at hcut
  rw [hN] at hcut ⊢
  refine AW.round (α := { x : Nat × List Int × List Int × Nat // midF A B (A.length + B.length + 1 - x.1) x.1 x.2.1 x.2.2.1 = some (p, q) ∧ x.2.1.length = N ∧ x.2.2.1.length = N ∧ okFar x.2.1 ∧ okFar x.2.2.1 ∧ n2 ≤ x.2.2.2 })
    (fun x => ⟨[(12, .val (.int .i64 A.length)), (13, .val (.int .i64 B.length)), (14, .pt 3 nx 0), (15, .pt 4 n1 0), (16, .val (.bool (oddD A.length B.length))), (17, .val (.int .i64 x.1.1))],
      [(0, .box fv 51 7 (fAV a b (.ow 1 v1 f1.length) (.ow 2 v2 f2.length) z)), (1, rowL v1 3 eI (x.1.2.1 ++ f1.drop N)), (2, rowL v2 3 eI (x.1.2.2.1 ++ f2.drop N)),
        (3, .box nx 57 3 fun j => if j = 0 then sL eI A else if j = 1 then sL eI B else .ow 1 v1 N), (4, .box n1 57 3 fun j => if j = 0 then sL eI A.reverse else if j = 1 then sL eI B.reverse else .ow 2 v2 N)], 165, 5, x.1.2.2.2, []⟩)
    (fun x => A.length + B.length + 1 - x.1.1) ⟨(0, startR N, startR N, n2), hcut, by simp [startR], by simp [startR], okFar_start N, okFar_start N, Nat.le_refl _⟩ ?_ ?_
  · simp only [go_sem, sNewWalk, sAdvance, sReached, sDiagonals]
    exact ⟨RowLe.refl _, RowLe.refl _, RowLe.refl _, box_st, box_st⟩
  · rintro ⟨⟨d, F1, F2, n3⟩, hmid, hF1, hF2, ho1, ho2, hn3⟩
    simp only at hmid hF1 hF2 ho1 ho2 hn3
    refine AW.of hΓ mixed [] _ _ _ rfl ?_
    simp only [go_sem, sNewWalk, sAdvance, sReached, sDiagonals, Int.toNat_natCast]
    have hl := low_facts d B.length
    have hh := high_facts d A.length
    have hf : ∃ f, A.length + B.length + 1 - d = f + 1 := by
      cases h0 : A.length + B.length + 1 - d with
      | zero => rw [h0] at hmid; cases hmid
      | succ f => exact ⟨f, rfl⟩
    obtain ⟨f, hf⟩ := hf
    rw [hf, midF, hN] at hmid
    generalize hR : stepF A B (oddD A.length B.length) F2 (highD d A.length) N (lowD d B.length) F1 = R at hmid
    have hRn : R ≠ none := by rintro rfl; cases hmid
    refine ⟨⟨⟨by omega, by omega⟩, ⟨by omega, by omega⟩, by omega, by omega⟩, ?_⟩
    have gF2 := gL_part F2 (f2.drop N)
    have pF2 := part_le F2 (f2.drop N)
    rw [hF2] at gF2 pF2
    refine AW.round (α := { x : Nat × Int × List Int × Nat // stepF A B (oddD A.length B.length) F2 (highD d A.length) x.1 x.2.1 x.2.2.1 = R ∧ -(B.length : Int) ≤ x.2.1 ∧ x.2.2.1.length = N ∧ okFar x.2.2.1 ∧ n2 ≤ x.2.2.2 })
      (fun x => ⟨[(12, .val (.int .i64 A.length)), (13, .val (.int .i64 B.length)), (14, .pt 3 nx 0), (15, .pt 4 n1 0), (16, .val (.bool (oddD A.length B.length))), (17, .val (.int .i64 d)), (18, .val (.int .i64 (lowD d B.length))), (19, .val (.int .i64 (highD d A.length))), (20, .val (.int .i64 x.1.2.1))],
        [(0, .box fv 51 7 (fAV a b (.ow 1 v1 f1.length) (.ow 2 v2 f2.length) z)), (1, rowL v1 3 eI (x.1.2.2.1 ++ f1.drop N)), (2, rowL v2 3 eI (F2 ++ f2.drop N)),
          (3, .box nx 57 3 fun j => if j = 0 then sL eI A else if j = 1 then sL eI B else .ow 1 v1 N), (4, .box n1 57 3 fun j => if j = 0 then sL eI A.reverse else if j = 1 then sL eI B.reverse else .ow 2 v2 N)], 165, 5, x.1.2.2.2, []⟩)
      (fun x => x.1.1) ⟨(N, lowD d B.length, F1, n3), hR, hl.2.1, hF1, ho1, hn3⟩ ?_ ?_
    · simp only [go_sem, sNewWalk, sAdvance, sReached, sDiagonals]
      exact ⟨RowLe.refl _, RowLe.refl _, RowLe.refl _, RowLe.refl _, RowLe.refl _⟩
    · rintro ⟨⟨g, k, F, n4⟩, hs, hk0, hF, hoF, hn4⟩
      simp only at hs hk0 hF hoF hn4
      by_cases hkh : k ≤ highD d A.length
      · cases g with
        | zero => exact absurd hs.symm hRn
        | succ g =>
          rw [stepF, if_pos hkh] at hs
          cases hadv : advF A B F k with
          | none => rw [hadv] at hs; exact absurd hs.symm hRn
          | some xf =>
            obtain ⟨x, F'⟩ := xf
            rw [hadv] at hs
            simp only at hs
            have af := adv_facts hadv hoF
            have hrc := rch_ok (far := F2) (n := A.length) (m := B.length) (j := A.length - B.length - k) ho2 (by omega) (by omega) (by omega)
            refine AW.of hΓ mixed [11] _ _ _ rfl ?_
            simp only [go_sem, sNewWalk, sAdvance, sReached, sDiagonals, hkh]
            refine advance_go (far := F) (far' := F') (x := x) (rest := f1.drop N) (p := 1) (by rw [hF]; exact AVle.refl _) (row_len (by simp)) (by decide) hoF (by omega) (by omega) hadv fun n5 hn5 => ?_
            refine AW.of hΓ mixed [99999] _ _ _ rfl ?_
            simp only [go_sem, sNewWalk, sAdvance, sReached, sDiagonals, kW_dec, gL_sL, gF2, len_rev, hF2]
            have hmeet : oddD A.length B.length = true ∧ (A.length : Int) ≤ x + rch B.length F2 (A.length - B.length - k) ∨ ¬ (oddD A.length B.length = true ∧ (A.length : Int) ≤ x + rch B.length F2 (A.length - B.length - k)) := Classical.em _
            refine ⟨fun _ => by omega, fun _ => by omega, fun _ => ⟨by omega, kW_ok (a := A.reverse) (b := B.reverse) (f := F2) (AVle.refl _) (AVle.refl _) pF2 (gL_sL _ _) (gL_sL _ _) gF2, by omega, by omega, by omega, by omega⟩, fun _ => by omega, fun hm => ⟨by omega, ?_⟩, fun hm => ⟨by omega, ⟨(g, k + 2, F', n5), ?_, by dsimp only; omega, by dsimp only; omega, af.2.1 (by omega), by dsimp only; omega⟩, ⟨Nat.le_refl _, rfl, RowLe.refl _, RowLe.refl _, RowLe.refl _, RowLe.refl _, RowLe.refl _⟩, Nat.lt_succ_self _⟩⟩
            · rw [if_pos hm] at hs
              subst hs
              simp only [Option.some.injEq, Prod.mk.injEq] at hmid
              obtain ⟨e1, e2⟩ := hmid
              rw [e2, e1]
              exact hK (F' ++ f1.drop N) (F2 ++ f2.drop N) _ _ _ (by simp; omega) (by simp; omega) (RowLe.refl _) (row_len (by simp)) (row_len (by simp; omega)) (by omega)
            · rw [if_neg (fun h => hm h.1 h.2)] at hs
              exact hs
      · cases g with
        | zero => exact absurd hs.symm hRn
        | succ g =>
          rw [stepF, if_neg hkh] at hs
          subst hs
          simp only at hmid
          refine AW.of hΓ mixed [] _ _ _ rfl ?_
          simp only [go_sem, sNewWalk, sAdvance, sReached, sDiagonals, hkh]
          generalize hR2 : stepF A.reverse B.reverse (!oddD A.length B.length) F (highD d A.length) N (lowD d B.length) F2 = R2 at hmid
          have hRn2 : R2 ≠ none := by rintro rfl; cases hmid
          have gF := gL_part F (f1.drop N)
          have pF := part_le F (f1.drop N)
          rw [hF] at gF pF
          refine AW.round (α := { x : Nat × Int × List Int × Nat // stepF A.reverse B.reverse (!oddD A.length B.length) F (highD d A.length) x.1 x.2.1 x.2.2.1 = R2 ∧ -(B.length : Int) ≤ x.2.1 ∧ x.2.2.1.length = N ∧ okFar x.2.2.1 ∧ n2 ≤ x.2.2.2 })
            (fun x => ⟨[(12, .val (.int .i64 A.length)), (13, .val (.int .i64 B.length)), (14, .pt 3 nx 0), (15, .pt 4 n1 0), (16, .val (.bool (oddD A.length B.length))), (17, .val (.int .i64 d)), (19, .val (.int .i64 (highD d A.length))), (22, .val (.int .i64 x.1.2.1))],
              [(0, .box fv 51 7 (fAV a b (.ow 1 v1 f1.length) (.ow 2 v2 f2.length) z)), (1, rowL v1 3 eI (F ++ f1.drop N)), (2, rowL v2 3 eI (x.1.2.2.1 ++ f2.drop N)),
                (3, .box nx 57 3 fun j => if j = 0 then sL eI A else if j = 1 then sL eI B else .ow 1 v1 N), (4, .box n1 57 3 fun j => if j = 0 then sL eI A.reverse else if j = 1 then sL eI B.reverse else .ow 2 v2 N)], 165, 5, x.1.2.2.2, []⟩)
            (fun x => x.1.1) ⟨(N, lowD d B.length, F2, n4), hR2, hl.2.1, hF2, ho2, hn4⟩ ?_ ?_
          · simp only [go_sem, sNewWalk, sAdvance, sReached, sDiagonals]
            exact ⟨RowLe.refl _, RowLe.refl _, RowLe.refl _, RowLe.refl _, RowLe.refl _⟩
          · rintro ⟨⟨h, k2, G, n5⟩, hs, hk0, hG, hoG, hn5⟩
            simp only at hs hk0 hG hoG hn5
            by_cases hkh : k2 ≤ highD d A.length
            · cases h with
              | zero => exact absurd hs.symm hRn2
              | succ h =>
                rw [stepF, if_pos hkh] at hs
                cases hadv : advF A.reverse B.reverse G k2 with
                | none => rw [hadv] at hs; exact absurd hs.symm hRn2
                | some xf =>
                  obtain ⟨x, G'⟩ := xf
                  rw [hadv] at hs
                  simp only [len_rev] at hs
                  have af := adv_facts hadv hoG
                  simp only [len_rev] at af
                  have hrc := rch_ok (far := F) (n := A.length) (m := B.length) (j := A.length - B.length - k2) hoF (by omega) (by omega) (by omega)
                  refine AW.of hΓ mixed [17] _ _ _ rfl ?_
                  simp only [go_sem, sNewWalk, sAdvance, sReached, sDiagonals, hkh]
                  refine advance_go (far := G) (far' := G') (x := x) (rest := f2.drop N) (p := 2) (by rw [hG]; exact AVle.refl _) (row_len (by simp)) (by decide) hoG (by simp; omega) (by simp; omega) hadv fun n6 hn6 => ?_
                  refine AW.of hΓ mixed [99999] _ _ _ rfl ?_
                  simp only [go_sem, sNewWalk, sAdvance, sReached, sDiagonals, kW_dec, gL_sL, gF, len_rev, hF]
                  refine ⟨fun _ => by omega, fun _ => by omega, fun _ => ⟨by omega, kW_ok (a := A) (b := B) (f := F) (AVle.refl _) (AVle.refl _) pF (gL_sL _ _) (gL_sL _ _) gF, by omega, by omega, by omega, by omega⟩, fun _ => by omega, fun hm => ?_, fun hm => ⟨by omega, ⟨(h, k2 + 2, G', n6), ?_, by dsimp only; omega, by dsimp only; omega, af.2.1 (by omega), by dsimp only; omega⟩, ⟨Nat.le_refl _, rfl, RowLe.refl _, RowLe.refl _, RowLe.refl _, RowLe.refl _, RowLe.refl _⟩, Nat.lt_succ_self _⟩⟩
                  · rw [if_pos ⟨by simp [hm.1], hm.2⟩] at hs
                    subst hs
                    simp only [Option.some.injEq, Prod.mk.injEq] at hmid
                    obtain ⟨e1, e2⟩ := hmid
                    refine ⟨by omega, by omega, by omega, ?_⟩
                    rw [e2, e1]
                    exact hK (F ++ f1.drop N) (G' ++ f2.drop N) _ _ _ (by simp; omega) (by simp; omega) (RowLe.refl _) (row_len (by simp; omega)) (row_len (by simp)) (by omega)
                  · rw [if_neg (fun hh => hm (by simpa using hh.1) hh.2)] at hs
                    exact hs
            · cases h with
              | zero => exact absurd hs.symm hRn2
              | succ h =>
                rw [stepF, if_neg hkh] at hs
                subst hs
                simp only at hmid
                refine AW.of hΓ mixed [] _ _ _ rfl ?_
                simp (maxSteps := 2000000) only [go_sem, sNewWalk, sAdvance, sReached, sDiagonals, hkh]
                refine ⟨by omega, ⟨(d + 1, F, G, n5), ?_, hF, hG, hoF, hoG, hn5⟩, ⟨Nat.le_refl _, rfl, RowLe.refl _, RowLe.refl _, RowLe.refl _, RowLe.refl _, RowLe.refl _⟩, by dsimp only; omega⟩
                dsimp only
                rw [show A.length + B.length + 1 - (d + 1) = f by omega]
                exact hmid
end Go.Proofs.Ytainopabnnglgaa
