/-
  edit: the document's script of two lists.
-/
import Derived.Test.YtpbccamaipekjaaEditT
set_option linter.unusedSimpArgs false
set_option linter.unusedVariables false
set_option maxRecDepth 100000
set_option maxHeartbeats 2000000
namespace Go.Proofs.Ytpbccamaipekjaa
open Go
attribute [local irreducible] AW AVle ASle RowLe
theorem putL_more (l : List (Int × List (List UInt8))) (k : Int) (ts : List (List UInt8)) (x : List UInt8) : putL (putL l k ts) k [x] = putL l k (ts ++ [x]) := by
  have h1 : ¬ [x].length = 0 := by simp
  have h2 : ¬ (ts ++ [x]).length = 0 := by simp
  by_cases h : ts.length = 0
  · obtain rfl := List.length_eq_zero_iff.1 h
    rfl
  · rcases l.eq_nil_or_concat with rfl | ⟨m, s, rfl⟩
    · rw [putL_first h, putL_first h2]
      exact putL_same (m := []) h1 rfl
    · rw [List.concat_eq_append]
      by_cases hk : s.1 = k
      · rw [putL_same h hk, putL_same h2 hk, putL_same h1 rfl, List.append_assoc]
      · rw [putL_new h hk, putL_new h2 hk, putL_same h1 rfl]
theorem cutL_more {a : List (List UInt8)} {i j : Nat} (h : i ≤ j) (hj : j < a.length) : cutL a i (j + 1) = cutL a i j ++ [a.getD j []] := by
  unfold cutL
  rw [take_snocE a [] hj, List.drop_append_of_le_length (by simp; omega)]
theorem cutL_self {a : List (List UInt8)} {i : Nat} : cutL a i i = [] := by
  unfold cutL
  exact List.drop_eq_nil_of_le (by simp; omega)
theorem put_dom {s : List (Int × List (List UInt8))} {k : Int} {ts : List (List UInt8)} (h1 : s.length + 1 < 10000000) (h2 : sumL s + ts.length < 100000000) :
    (putL s k ts).length < 10000000 ∧ ∀ x ∈ putL s k ts, x.2.length < 100000000 := by
  have := putL_len s k ts
  have h3 := putL_sum s k ts
  exact ⟨by omega, fun x hx => by have := sumL_mem hx; omega⟩
def sRefOfE : Spec := Spec.f3 (kL eS) (kL eS) (kL (eP eI eI)) (fun a b l => a.length ≤ 1000000 ∧ b.length ≤ 1000000 ∧ l.length < 100000000)
  (fun a b l => if rgt (numA a b) (numB a b) (-1) (-1) l then tu2 (sL (eP eI (eL eS)) (ofG a b l 0 0 [])) (kB.enc true) else tu2 .em (kB.enc false))
theorem okRefOfE : SpecOK Try.prog 9 sRefOfE := by
  refine SpecOK.f3 Try.func9 rfl (by decide) Try.results9 Try.ntmps9 (by decide) fun a b l ⟨ha, hb, hl⟩ => ?_
  have hΓ : GOK Try.prog (gam [(40, sRefNumber), (41, sLcsRefRight), (42, sOneE)]) := (.cons okRefNumber (.cons okLcsRefRight (.cons okOneE .nil)))
  refine AW.of hΓ mixed [6] _ _ _ rfl ?_
  simp only [go_sem, sRefNumber, sLcsRefRight, sOneE, st_sz, pp_sz]
  have hn2 : (numF [] [a, b]).length = 2 := rfl
  have hna := numA_len a b
  have hnb := numB_len a b
  unfold numA numB at *
  refine ⟨⟨ha, hb⟩, by omega, by omega, ⟨by omega, by omega, hl⟩, ?_⟩
  rcases hq : rgt ((numF [] [a, b]).getD 0 []) ((numF [] [a, b]).getD 1 []) (-1) (-1) l with _ | _
  · refine ⟨fun _ => ?_, fun h => absurd h (by decide)⟩
    simp only [go_sem, sRefNumber, sLcsRefRight, sOneE]
  refine ⟨fun h => absurd h (by decide), fun _ => ?_⟩
  generalize hA : (numF [] [a, b]).getD 0 [] = na at *
  generalize hB : (numF [] [a, b]).getD 1 [] = nb at *
  refine AW.block (AW.round (α := { x : Nat × Nat × Nat × List (Int × List (List UInt8)) × Nat // x.1 ≤ l.length + 1 ∧ x.2.1 ≤ a.length ∧ x.2.2.1 ≤ b.length ∧ x.2.2.2.1.length ≤ 3 * x.1 ∧ sumL x.2.2.2.1 ≤ x.2.1 + x.2.2.1 ∧ x.1 ≤ x.2.1 + 1 ∧
      (x.1 ≤ l.length → rgt na nb ((x.2.1 : Int) - 1) ((x.2.2.1 : Int) - 1) (l.drop x.1) = true ∧ x.1 ≤ x.2.1 ∧ ofG a b l 0 0 [] = ofG a b (l.drop x.1) x.2.1 x.2.2.1 x.2.2.2.1) ∧ (¬ x.1 ≤ l.length → ofG a b l 0 0 [] = x.2.2.2.1) })
    (fun x => ⟨[(0, sL eS a), (1, sL eS b), (2, sL (eP eI eI) l), (9, sL (eP eI (eL eS)) x.1.2.2.2.1), (10, .val (.int .i64 x.1.2.1)), (11, .val (.int .i64 x.1.2.2.1)), (12, .val (.int .i64 x.1.1))],
      [], 85, 0, x.1.2.2.2.2, []⟩) (fun x => l.length + 1 - x.1.1) ⟨(0, 0, 0, [], 0), Nat.zero_le _, Nat.zero_le _, Nat.zero_le _, by simp, by simp [sumL], by simp, fun _ => ⟨by simpa using hq, by simp, rfl⟩, fun h => absurd (Nat.zero_le _) h⟩ ?_ ?_)
  · simp only [go_sem, sRefNumber, sLcsRefRight, sOneE, st_sz]
    exact AVle.em_sn
  · rintro ⟨⟨i, u, w, s, nx⟩, hi, hu, hw, hs1, hs3, hs2, hin, hout⟩
    simp only at hi hu hw hs1 hs2 hs3 hin hout
    refine AW.of hΓ mixed [10, 99999] _ _ _ rfl ?_
    simp only [go_sem, sRefNumber, sLcsRefRight, sOneE, pp_sz, pp0, pp1, pp_d]
    refine ⟨fun hil => ?_, fun hil => ?_⟩
    · obtain ⟨hr, hs2, he⟩ := hin (by omega)
      obtain ⟨p, q, hp1, hp2, hpu, hpa, hqw, hqb⟩ : ∃ p q : Nat, (i < l.length → l.getD i (0, 0) = ((p : Int), (q : Int)) ∧ p < a.length ∧ q < b.length ∧ rgt na nb p q (l.drop (i + 1)) = true ∧
          ofG a b l 0 0 [] = ofG a b (l.drop (i + 1)) (p + 1) (q + 1) (putL (putL (putL s 1 (cutL a u p)) 2 (cutL b w q)) 0 (cutL a p (p + 1)))) ∧
          (¬ i < l.length → p = a.length ∧ q = b.length ∧ ofG a b l 0 0 [] = putL (putL s 1 (cutL a u p)) 2 (cutL b w q)) ∧ u ≤ p ∧ p ≤ a.length ∧ w ≤ q ∧ q ≤ b.length := by
        by_cases h : i < l.length
        · obtain ⟨x, y, hxy⟩ : ∃ x y, l.getD i (0, 0) = (x, y) := ⟨_, _, rfl⟩
          have hd : l.drop i = (x, y) :: l.drop (i + 1) := by
            rw [List.drop_eq_getElem_cons h, ← gd_lt l (0, 0) h, hxy]
          rw [hd, rgt] at hr
          rw [hd, ofG] at he
          simp only [Bool.and_eq_true, decide_eq_true_eq] at hr
          dsimp only at he
          obtain ⟨⟨c1, c2, c3, c4, _⟩, hr⟩ := hr
          obtain ⟨p, rfl⟩ : ∃ p : Nat, x = p := ⟨x.toNat, by omega⟩
          obtain ⟨q, rfl⟩ : ∃ q : Nat, y = q := ⟨y.toNat, by omega⟩
          simp only [Int.toNat_natCast] at he
          exact ⟨p, q, fun _ => ⟨hxy, by omega, by omega, hr, he⟩, fun hh => absurd h hh, by omega, by omega, by omega, by omega⟩
        · obtain rfl : i = l.length := by omega
          rw [List.drop_length, ofG, ← cutL_end a, ← cutL_end b] at he
          exact ⟨a.length, b.length, fun hh => absurd hh h, fun _ => ⟨rfl, rfl, he⟩, hu, Nat.le_refl _, hw, Nat.le_refl _⟩
      refine AW.to (fun _ : Unit => Sh.st ⟨[(0, sL eS a), (1, sL eS b), (2, sL (eP eI eI) l), (9, sL (eP eI (eL eS)) s), (10, .val (.int .i64 u)), (11, .val (.int .i64 w)), (12, .val (.int .i64 i)), (13, .pt 0 nx 0)],
        [(0, .box nx 85 2 fun j => if j = 0 then .val (.int .i64 p) else .val (.int .i64 q))], 85, 1, nx + 1, []⟩) ?_ ?_
      · refine AW.of hΓ mixed [99999] _ _ _ rfl ?_
        simp only [go_sem, sRefNumber, sLcsRefRight, sOneE, pp_sz, pp0, pp1, pp_d]
        refine ⟨fun h => ⟨by omega, ⟨⟩, ?_⟩, fun h => ⟨⟨⟩, ?_⟩⟩
        · obtain ⟨e, _⟩ := hp1 (by omega)
          rw [e]
          refine toFits ?_
          simp only [go_sem, sRefNumber, sLcsRefRight, sOneE]
          refine RowLe.box fun j hj => AVle.of_eq ?_
          match j, hj with
          | 0, _ => rfl
          | 1, _ => rfl
        · obtain ⟨rfl, rfl, _⟩ := hp2 (by omega)
          refine toFits ?_
          simp only [go_sem, sRefNumber, sLcsRefRight, sOneE]
          refine RowLe.box fun j hj => AVle.of_eq ?_
          match j, hj with
          | 0, _ => rfl
          | 1, _ => rfl
      · intro _
        simp only [go_sem, sRefNumber, sLcsRefRight, sOneE]
        refine AW.round (α := { x : Nat × Nat // u ≤ x.1 ∧ x.1 ≤ p ∧ nx < x.2 })
          (fun x => ⟨[(0, sL eS a), (1, sL eS b), (2, sL (eP eI eI) l), (9, sL (eP eI (eL eS)) (putL s 1 (cutL a u x.1.1))), (10, .val (.int .i64 x.1.1)), (11, .val (.int .i64 w)), (12, .val (.int .i64 i)), (13, .pt 0 nx 0)],
            [(0, .box nx 85 2 fun j => if j = 0 then .val (.int .i64 p) else .val (.int .i64 q))], 85, 1, x.1.2, []⟩) (fun x => p - x.1.1) ⟨(u, nx + 1), Nat.le_refl _, hpu, Nat.lt_succ_self _⟩ ?_ ?_
        · simp only [go_sem, sRefNumber, sLcsRefRight, sOneE]
          rw [cutL_self]
          exact ⟨AVle.refl _, RowLe.refl _⟩
        · rintro ⟨⟨u2, n2⟩, g1, g2, g3⟩
          simp only at g1 g2 g3
          have hd := put_dom (s := s) (k := 1) (ts := cutL a u u2) (by omega) (by rw [cutL_len a (by omega)]; omega)
          refine AW.of hΓ mixed [99999] _ _ _ rfl ?_
          simp only [go_sem, sRefNumber, sLcsRefRight, sOneE, pp_sz, st_sz, st_d]
          refine ⟨fun hlt => ⟨by omega, hd, by omega, ⟨(u2 + 1, n2), by dsimp only; omega, by dsimp only; omega, g3⟩, ⟨Nat.le_refl _, ⟨?_, by dsimp only; omega⟩, RowLe.refl _⟩, by dsimp only; omega⟩, fun hge => ?_⟩
          · rw [putL_more, ← cutL_more g1 (by omega)]
            exact AVle.refl _
          · obtain rfl : u2 = p := by omega
            have l1 := putL_len s 1 (cutL a u u2)
            have l2 := putL_sum s 1 (cutL a u u2)
            rw [cutL_len a hpa] at l2
            generalize putL s 1 (cutL a u u2) = s1 at *
            refine AW.round (α := { x : Nat × Nat // w ≤ x.1 ∧ x.1 ≤ q ∧ nx < x.2 })
              (fun x => ⟨[(0, sL eS a), (1, sL eS b), (2, sL (eP eI eI) l), (9, sL (eP eI (eL eS)) (putL s1 2 (cutL b w x.1.1))), (10, .val (.int .i64 u2)), (11, .val (.int .i64 x.1.1)), (12, .val (.int .i64 i)), (13, .pt 0 nx 0)],
                [(0, .box nx 85 2 fun j => if j = 0 then .val (.int .i64 u2) else .val (.int .i64 q))], 85, 1, x.1.2, []⟩) (fun x => q - x.1.1) ⟨(w, n2), Nat.le_refl _, hqw, g3⟩ ?_ ?_
            · simp only [go_sem, sRefNumber, sLcsRefRight, sOneE]
              rw [cutL_self]
              exact ⟨AVle.refl _, RowLe.refl _⟩
            · rintro ⟨⟨w2, n3⟩, k1, k2, k3⟩
              simp only at k1 k2 k3
              have hd := put_dom (s := s1) (k := 2) (ts := cutL b w w2) (by omega) (by rw [cutL_len b (by omega)]; omega)
              refine AW.of hΓ mixed [99999] _ _ _ rfl ?_
              simp only [go_sem, sRefNumber, sLcsRefRight, sOneE, pp_sz, st_sz, st_d]
              refine ⟨fun hlt => ⟨by omega, hd, by omega, ⟨(w2 + 1, n3), by dsimp only; omega, by dsimp only; omega, k3⟩, ⟨Nat.le_refl _, ⟨?_, by dsimp only; omega⟩, RowLe.refl _⟩, by dsimp only; omega⟩, fun hge => ?_⟩
              · rw [putL_more, ← cutL_more k1 (by omega)]
                exact AVle.refl _
              · obtain rfl : w2 = q := by omega
                have l3 := putL_len s1 2 (cutL b w w2)
                have l4 := putL_sum s1 2 (cutL b w w2)
                rw [cutL_len b hqb] at l4
                generalize putL s1 2 (cutL b w w2) = s2 at *
                refine ⟨fun h => ?_, fun h => ?_⟩
                · obtain ⟨_, f1, f2, f3, f4⟩ := hp1 (by omega)
                  have f5 : cutL a u2 (u2 + 1) = [a.getD u2 []] := by rw [cutL_more (Nat.le_refl _) f1, cutL_self, List.nil_append]
                  rw [f5] at f4
                  have l5 := putL_len s2 0 [a.getD u2 []]
                  have l6 := putL_sum s2 0 [a.getD u2 []]
                  simp only [List.length_singleton] at l6
                  generalize putL s2 0 [a.getD u2 []] = s3 at *
                  refine ⟨by omega, ⟨by omega, fun x hx => by have := sumL_mem hx; omega⟩, by omega, by omega, by omega, ⟨(i + 1, u2 + 1, w2 + 1, s3, n3), by dsimp only; omega, by dsimp only; omega, by dsimp only; omega, by dsimp only; omega, by dsimp only; omega, by dsimp only; omega, fun _ => ⟨?_, by dsimp only; omega, f4⟩, fun hh => ?_⟩, ⟨Nat.le_refl _, AVle.refl _, by dsimp only; omega, by dsimp only; omega, by dsimp only; omega⟩, by dsimp only; omega⟩
                  · dsimp only
                    rw [show ((u2 + 1 : Nat) : Int) - 1 = (u2 : Int) by omega, show ((w2 + 1 : Nat) : Int) - 1 = (w2 : Int) by omega]
                    exact f3
                  · dsimp only at hh
                    omega
                · obtain ⟨f1, f2, f3⟩ := hp2 (by omega)
                  exact ⟨by omega, ⟨(i + 1, u2, w2, s2, n3), by dsimp only; omega, by dsimp only; omega, by dsimp only; omega, by dsimp only; omega, by dsimp only; omega, by dsimp only; omega, fun hh => absurd hh (by dsimp only; omega), fun _ => f3⟩, ⟨Nat.le_refl _, AVle.refl _, rfl, rfl, by dsimp only; omega⟩, by dsimp only; omega⟩
    · rw [hout (by omega)]
      exact AVle.refl _
end Go.Proofs.Ytpbccamaipekjaa
