/-
  edit: the script by which one list becomes another one.
-/
import Derived.Test.YtpbccamaipekjaaEditV
import Derived.Test.YtpbccamaipekjaaLcsV
import Derived.Test.YtpbccamaipekjaaLinesN
set_option linter.unusedSimpArgs false
set_option linter.unusedVariables false
set_option maxRecDepth 100000
set_option maxHeartbeats 2000000
namespace Go.Proofs.Ytpbccamaipekjaa
open Go
attribute [local irreducible] AW AVle ASle RowLe
def sPut : MSpec := framed sPut0
theorem okPut : MethOK Try.prog 39 sPut := okPut0.frame
theorem two_row {hp : Nat → Row} {r s : Row} (h : RowLe (hp 0) r) (h2 : RowLe (hp 1) s) : ∀ (i q : Nat), [0, 1][i]? = some q → RowLe (hp q) (rws [(0, r), (1, s)] i) := by
  intro i q hq
  match i with
  | 0 =>
    simp only [List.getElem?_cons_zero, Option.some.injEq] at hq
    subst hq
    exact h
  | 1 =>
    simp only [List.getElem?_cons_succ, List.getElem?_cons_zero, Option.some.injEq] at hq
    subst hq
    exact h2
  | i + 2 => simp at hq
theorem put_go {l : List (Int × List (List UInt8))} {v tv n : Nat} {k : Int} {y : AV} {ts : List (List UInt8)} {hp : Nat → Row} {top nx : Nat} {K : AV → (Nat → Row) → Nat → Nat → Prop} (hn : n = l.length) (hy : AVle y (sL eS ts))
    (hr : RowLe (hp 0) (rowP v tv l)) (hr2 : RowLe (hp 1) (rowL tv 9 eS (lastT l))) (ht : 1 < top) (hl : l.length < 100000000) (hl2 : (lastT l).length + ts.length < 1000000000)
    (hK : ∀ v' tv' nx', nx ≤ nx' → K (.ow 0 v' (putL l k ts).length) (updR (updR hp 0 (rowP v' tv' (putL l k ts))) 1 (rowL tv' 9 eS (lastT (putL l k ts)))) top nx') :
    sPut [.ow 0 v n, .val (.int .i64 k), y] hp top nx K := by
  subst hn
  have e1 : (hp 0).ver = some v := hr.vers.symm
  have e2 : (hp 1).ver = some tv := hr2.vers.symm
  refine ⟨[0, 1], [.ow 0 v l.length, kI.enc k, y], rws [(0, rowP v tv l), (1, rowL tv 9 eS (lastT l))], by decide, by simp; omega, .cons (AVle.refl _) (.cons (AVle.refl _) (.cons (AVle.refl _) .nil)), two_row hr hr2, fun i hi => rws_top (top := 2) (by simp) i (by simpa using hi), l, v, tv, k, y, ts, rfl, hy, rfl, rfl, hl, hl2, fun v' tv' nx' h1 h2 h3 => ?_⟩
  refine ⟨_, _, AVle.refl _, fun i q hq => ?_, fun q hq => ?_, fun q hq w hv => ?_, hK v' tv' nx' h3⟩
  · match i with
    | 0 =>
      simp only [List.getElem?_cons_zero, Option.some.injEq] at hq
      subst hq
      exact RowLe.refl _
    | 1 =>
      simp only [List.getElem?_cons_succ, List.getElem?_cons_zero, Option.some.injEq] at hq
      subst hq
      exact RowLe.refl _
    | i + 2 => simp at hq
  · simp only [List.mem_cons, List.not_mem_nil, or_false, not_or] at hq
    rw [updR_ne _ _ hq.2, updR_ne _ _ hq.1]
  · simp only [List.mem_cons, List.not_mem_nil, or_false] at hq
    rcases hq with rfl | rfl
    · have : some v' = some w := hv
      obtain rfl := Option.some.inj this
      rcases h1 with rfl | h1
      · exact .inl e1
      · exact .inr h1
    · have : some tv' = some w := hv
      obtain rfl := Option.some.inj this
      rcases h2 with rfl | h2
      · exact .inl e2
      · exact .inr h2
theorem stepC_fz (l : List (Int × List (List UInt8))) (tv : Nat) : ∀ i, i < l.length → ∀ j, j < 2 → AVle (fz 1 tv (lastT l).length 1 (fun i => eS.enc ((lastT l).getD i [])) (stepC l tv i j)) ((eP eI (eL eS)).enc (l.getD i (0, [])) j) := by
  rcases l.eq_nil_or_concat with rfl | ⟨m, s, rfl⟩
  · exact fun i hi => absurd hi (Nat.not_lt_zero _)
  · rw [List.concat_eq_append, lastT_snoc]
    intro i hi j hj
    by_cases e2 : i = m.length
    · subst e2
      rw [snoc_get]
      match j, hj with
      | 0, _ =>
        rw [stepC0, snoc_get]
        exact AVle.refl _
      | 1, _ =>
        rw [stepC1]
        simp only [fz, and_self, if_true, Nat.le_refl]
        exact AVle.refl _
    · have hi2 : i + 1 < (m ++ [s]).length := by simp at hi ⊢; omega
      rw [stepC_lt hi2]
      match j, hj with
      | 0, _ => exact AVle.refl _
      | 1, _ => exact AVle.refl _
/-- A list's part. -/
def cutL {α : Type} (a : List α) (i j : Nat) : List α := (a.take j).drop i
/-- The script of the pairs that are left, behind what stands already. -/
def ofG (a b : List (List UInt8)) : List (Int × Int) → Nat → Nat → List (Int × List (List UInt8)) → List (Int × List (List UInt8))
  | [], i, k, s => putL (putL s 1 (a.drop i)) 2 (b.drop k)
  | p :: l, i, k, s => ofG a b l (p.1.toNat + 1) (p.2.toNat + 1) (putL (putL (putL s 1 (cutL a i p.1.toNat)) 2 (cutL b k p.2.toNat)) 0 (cutL a p.1.toNat (p.1.toNat + 1)))
theorem putL_len (l : List (Int × List (List UInt8))) (k : Int) (ts : List (List UInt8)) : (putL l k ts).length ≤ l.length + 1 := by
  by_cases h : ts.length = 0
  · unfold putL
    rw [if_pos h]
    omega
  · rcases l.eq_nil_or_concat with rfl | ⟨m, s, rfl⟩
    · rw [putL_first h]; simp
    · rw [List.concat_eq_append]
      by_cases hk : s.1 = k
      · rw [putL_same h hk]; simp
      · rw [putL_new h hk]; simp
theorem putL_sum (l : List (Int × List (List UInt8))) (k : Int) (ts : List (List UInt8)) : sumL (putL l k ts) = sumL l + ts.length := by
  by_cases h : ts.length = 0
  · unfold putL
    rw [if_pos h]
    omega
  · rcases l.eq_nil_or_concat with rfl | ⟨m, s, rfl⟩
    · rw [putL_first h]; simp [sumL]
    · rw [List.concat_eq_append]
      by_cases hk : s.1 = k
      · rw [putL_same h hk, sumL_snoc, sumL_snoc]; simp; omega
      · rw [putL_new h hk, sumL_snoc]
theorem lastT_le (l : List (Int × List (List UInt8))) : (lastT l).length ≤ sumL l := by
  rcases l.eq_nil_or_concat with rfl | ⟨m, s, rfl⟩
  · simp [lastT]
  · rw [List.concat_eq_append, lastT_snoc, sumL_snoc]
    omega
theorem cutL_len {α : Type} (a : List α) {i j : Nat} (h : j ≤ a.length) : (cutL a i j).length = j - i := by simp [cutL]; omega
theorem cutL_end {α : Type} (a : List α) (i : Nat) : cutL a i a.length = a.drop i := by simp [cutL]
theorem cut_map {a : List (List UInt8)} {i j : Nat} (h : j ≤ a.length) : cutL a i j = (List.range (j - i)).map fun t => a.getD (i + t) [] := by
  refine list_ext_getD [] (by rw [cutL_len a h]; simp) fun t ht => ?_
  rw [cutL_len a h] at ht
  simp [cutL, List.getD, ht, List.getElem?_take, show i + t < j by omega]
theorem cut_le {a : List (List UInt8)} {i j : Nat} (h : j ≤ a.length) : AVle (.sn (j - i) 1 fun t => eS.enc (a.getD (i + t) [])) (sL eS (cutL a i j)) :=
  sn_le (E := eS) (j - i) (fun t => a.getD (i + t) []) _ (cut_map h)
def numA (a b : List (List UInt8)) : List Int := (numF [] [a, b]).getD 0 []
def numB (a b : List (List UInt8)) : List Int := (numF [] [a, b]).getD 1 []
theorem numA_len (a b : List (List UInt8)) : (numA a b).length = a.length := by
  simp [numA, numF, numL_len]
theorem numB_len (a b : List (List UInt8)) : (numB a b).length = b.length := by
  simp [numB, numF, numL_len]
def sOfE : Spec := Spec.f3 (kL eS) (kL eS) (kL (eP eI eI)) (fun a b l => a.length ≤ 1000000 ∧ b.length ≤ 1000000 ∧ l.length < 100000000)
  (fun a b l => if rgt (numA a b) (numB a b) (-1) (-1) l then tu2 (sL (eP eI (eL eS)) (ofG a b l 0 0 [])) (kI.enc 0) else tu2 .em (kI.enc 12))
theorem okOfE : SpecOK Try.prog 7 sOfE := by
  refine SpecOK.f3 Try.func7 rfl (by decide) Try.results7 Try.ntmps7 (by decide) fun a b l ⟨ha, hb, hl⟩ => ?_
  have hΓ : GOK Try.prog (gam [(37, sNumber), (38, sLcsRight), (39, sPut)]) := (.cons okNumber (.cons okLcsRight (.cons okPut .nil)))
  refine AW.of hΓ mixed [5] _ _ _ rfl ?_
  simp only [go_sem, sNumber, sLcsRight, sPut, st_sz, pp_sz]
  have hn2 : (numF [] [a, b]).length = 2 := rfl
  have hna := numA_len a b
  have hnb := numB_len a b
  unfold numA numB at *
  refine ⟨⟨ha, hb⟩, by omega, by omega, ⟨by omega, by omega, hl⟩, ?_⟩
  rcases hq : rgt ((numF [] [a, b]).getD 0 []) ((numF [] [a, b]).getD 1 []) (-1) (-1) l with _ | _
  · refine ⟨fun _ => ?_, fun h => absurd h (by decide)⟩
    simp only [go_sem, sNumber, sLcsRight, sPut]
  refine ⟨fun h => absurd h (by decide), fun _ => ?_⟩
  refine AW.adopt 9 91 2 (fun i => (eP eI (eL eS)).enc (([] : List (Int × List (List UInt8))).getD i (0, []))) rfl ?_
  refine AW.adopt 6 9 1 (fun i => eS.enc (([] : List (List UInt8)).getD i [])) rfl ?_
  refine AW.of hΓ mixed [6, 15] _ _ _ rfl ?_
  simp only [go_sem, sNumber, sLcsRight, sPut, st_sz, pp_sz]
  generalize hA : (numF [] [a, b]).getD 0 [] = na at *
  generalize hB : (numF [] [a, b]).getD 1 [] = nb at *
  refine AW.block (AW.round (α := { x : Nat × Nat × Nat × List (Int × List (List UInt8)) × Nat × Nat × Nat // x.1 ≤ l.length ∧ x.2.1 ≤ a.length ∧ x.2.2.1 ≤ b.length ∧ rgt na nb ((x.2.1 : Int) - 1) ((x.2.2.1 : Int) - 1) (l.drop x.1) = true ∧
      ofG a b l 0 0 [] = ofG a b (l.drop x.1) x.2.1 x.2.2.1 x.2.2.2.1 ∧ x.2.2.2.1.length ≤ 3 * x.1 ∧ x.1 ≤ x.2.1 ∧ sumL x.2.2.2.1 ≤ x.2.1 + x.2.2.1 })
    (fun x => ⟨[(0, sL eS a), (1, sL eS b), (9, .ow 0 x.1.2.2.2.2.1 x.1.2.2.2.1.length), (10, .val (.int .i64 x.1.2.1)), (11, .val (.int .i64 x.1.2.2.1)), (27, sL (eP eI eI) l), (28, .val (.int .i64 l.length)), (29, .val (.int .i64 x.1.1))],
      [(0, rowP x.1.2.2.2.2.1 x.1.2.2.2.2.2.1 x.1.2.2.2.1), (1, rowL x.1.2.2.2.2.2.1 9 eS (lastT x.1.2.2.2.1))], 74, 2, x.1.2.2.2.2.2.2, []⟩) (fun x => l.length - x.1.1) ⟨(0, 0, 0, [], 0, 1, 2), Nat.zero_le _, Nat.zero_le _, Nat.zero_le _, by simpa using hq, rfl, by simp, by simp, by simp [sumL]⟩ ?_ ?_)
  · simp only [go_sem, sNumber, sLcsRight, sPut, rowP]
    exact ⟨RowLe.sl rfl fun i hi => absurd hi (Nat.not_lt_zero _), RowLe.sl rfl fun i hi => absurd hi (Nat.not_lt_zero _)⟩
  · rintro ⟨⟨i, u, w, s, v, tv, nx⟩, hi, hu, hw, hr, he, hs1, hs2, hs3⟩
    simp only at hi hu hw hr he hs1 hs2 hs3
    have hlt := lastT_le s
    refine AW.of hΓ mixed [8, 15, 99999] _ _ _ rfl ?_
    simp only [go_sem, sNumber, sLcsRight, sPut, pp_sz, pp0, pp1, pp_d]
    refine ⟨fun hil => ?_, fun hil => ?_⟩
    · obtain ⟨x, y, hxy⟩ : ∃ x y, l.getD i (0, 0) = (x, y) := ⟨_, _, rfl⟩
      have hd : l.drop i = (x, y) :: l.drop (i + 1) := by
        rw [List.drop_eq_getElem_cons (by omega), ← gd_lt l (0, 0) (by omega), hxy]
      rw [hd, rgt] at hr
      rw [hd, ofG] at he
      simp only [Bool.and_eq_true, decide_eq_true_eq] at hr
      dsimp only at he
      obtain ⟨⟨c1, c2, c3, c4, _⟩, hr⟩ := hr
      refine ⟨by omega, ?_⟩
      refine AW.cut ⟨[(0, sL eS a), (1, sL eS b), (9, .ow 0 v s.length), (10, .val (.int .i64 u)), (11, .val (.int .i64 w)), (13, .pt 2 nx 0), (27, sL (eP eI eI) l), (28, .val (.int .i64 l.length)), (29, .val (.int .i64 i))],
        [(0, rowP v tv s), (1, rowL tv 9 eS (lastT s)), (2, .box nx 83 2 fun j => if j = 0 then .val (.int .i64 x) else .val (.int .i64 y))], 74, 3, nx + 1, []⟩ ?_ ?_
      · simp only [go_sem]
        refine ⟨RowLe.refl _, RowLe.refl _, RowLe.box fun j hj => AVle.of_eq ?_⟩
        match j, hj with
        | 0, _ => show (eP eI eI).enc (l.getD i (0, 0)) 0 = _; rw [hxy]; rfl
        | 1, _ => show (eP eI eI).enc (l.getD i (0, 0)) 1 = _; rw [hxy]; rfl
      · obtain ⟨p, rfl⟩ : ∃ p : Nat, x = p := ⟨x.toNat, by omega⟩
        obtain ⟨q, rfl⟩ : ∃ q : Nat, y = q := ⟨y.toNat, by omega⟩
        simp only [Int.toNat_natCast] at he
        have g1 := cutL_len a (i := u) (j := p) (by omega)
        have g2 := cutL_len b (i := w) (j := q) (by omega)
        have g3 := cutL_len a (i := p) (j := p + 1) (by omega)
        have k1 := putL_len s 1 (cutL a u p)
        have j1 := putL_sum s 1 (cutL a u p)
        refine AW.of hΓ mixed [99999] _ _ _ rfl ?_
        simp only [go_sem, sNumber, sLcsRight, sPut]
        refine ⟨by omega, put_go rfl (cut_le (a := a) (by omega)) (RowLe.refl _) (RowLe.refl _) (by decide) (by omega) (by omega) fun v1 tv1 n1 h1 => ?_⟩
        generalize putL s 1 (cutL a u p) = s1 at *
        have l1 := lastT_le s1
        have k2 := putL_len s1 2 (cutL b w q)
        have j2 := putL_sum s1 2 (cutL b w q)
        simp only [go_sem, sNumber, sLcsRight, sPut]
        refine ⟨by omega, put_go rfl (cut_le (a := b) (by omega)) (RowLe.refl _) (RowLe.refl _) (by decide) (by omega) (by omega) fun v2 tv2 n2 h2 => ?_⟩
        generalize putL s1 2 (cutL b w q) = s2 at *
        have l2 := lastT_le s2
        have k3 := putL_len s2 0 (cutL a p (p + 1))
        have j3 := putL_sum s2 0 (cutL a p (p + 1))
        simp only [go_sem, sNumber, sLcsRight, sPut]
        refine ⟨by omega, by omega, put_go rfl (cut_le (a := a) (by omega)) (RowLe.refl _) (RowLe.refl _) (by decide) (by omega) (by omega) fun v3 tv3 n3 h3 => ?_⟩
        generalize putL s2 0 (cutL a p (p + 1)) = s3 at *
        simp only [go_sem, sNumber, sLcsRight, sPut, rowP]
        refine ⟨by omega, by omega, by omega, ⟨(i + 1, p + 1, q + 1, s3, v3, tv3, n3), by dsimp only; omega, by dsimp only; omega, by dsimp only; omega, ?_, he, by dsimp only; omega, by dsimp only; omega, by dsimp only; omega⟩, ?_, by dsimp only; omega⟩
        · dsimp only
          rw [show ((p + 1 : Nat) : Int) - 1 = (p : Int) by omega, show ((q + 1 : Nat) : Int) - 1 = (q : Int) by omega]
          exact hr
        · exact ⟨Nat.le_refl _, ⟨⟨rfl, rfl⟩, by dsimp only; omega, by dsimp only; omega, by dsimp only; omega⟩, RowLe.refl _, RowLe.refl _⟩
    · obtain rfl : i = l.length := by omega
      have g1 := cutL_len a (i := u) (j := a.length) (by omega)
      have g2 := cutL_len b (i := w) (j := b.length) (by omega)
      have k1 := putL_len s 1 (cutL a u a.length)
      have j1 := putL_sum s 1 (cutL a u a.length)
      rw [List.drop_length, ofG, ← cutL_end a, ← cutL_end b] at he
      refine ⟨by omega, put_go rfl (cut_le (a := a) (Nat.le_refl _)) (RowLe.refl _) (RowLe.refl _) (by decide) (by omega) (by omega) fun v1 tv1 n1 h1 => ?_⟩
      generalize putL s 1 (cutL a u a.length) = s1 at *
      have l1 := lastT_le s1
      have k2 := putL_len s1 2 (cutL b w b.length)
      have j2 := putL_sum s1 2 (cutL b w b.length)
      simp only [go_sem, sNumber, sLcsRight, sPut]
      refine ⟨by omega, put_go rfl (cut_le (a := b) (Nat.le_refl _)) (RowLe.refl _) (RowLe.refl _) (by decide) (by omega) (by omega) fun v2 tv2 n2 h2 => ?_⟩
      generalize putL s1 2 (cutL b w b.length) = s2 at *
      simp only [go_sem, sNumber, sLcsRight, sPut]
      refine AW.freeze 1 tv2 9 1 (lastT s2).length (fun i => eS.enc ((lastT s2).getD i [])) rfl (fun _ _ _ _ => rfl) ?_
      refine AW.cut ⟨[(9, .ow 0 v2 s2.length)], [(0, rowL v2 91 (eP eI (eL eS)) s2)], 74, 2, n2, []⟩ ?_ ?_
      · simp only [go_sem, sNumber, sLcsRight, sPut, st_sz, rowP]
        exact RowLe.sl rfl (stepC_fz s2 tv2)
      · refine AW.of hΓ mixed [] _ _ _ rfl ?_
        simp only [go_sem, sNumber, sLcsRight, sPut, st_sz]
        rw [he]
        exact ⟨fun i hi => ⟨rfl, rfl⟩, AVle.refl _⟩
end Go.Proofs.Ytpbccamaipekjaa
