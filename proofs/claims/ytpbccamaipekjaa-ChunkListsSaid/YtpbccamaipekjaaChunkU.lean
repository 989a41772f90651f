/-
  chunk: the chunks of three lists.
-/
import Derived.Test.YtpbccamaipekjaaChunkV
set_option linter.unusedSimpArgs false
set_option linter.unusedVariables false
set_option maxRecDepth 100000
set_option maxHeartbeats 2000000
namespace Go.Proofs.Ytpbccamaipekjaa
open Go
attribute [local irreducible] AW AVle ASle RowLe
def sStretch : MSpec := framed sStretch0
theorem okStretch : MethOK Try.prog 49 sStretch := okStretch0.frame
theorem stretch_go {l : List Ck} {v q n : Nat} {p : Pl} {x : AV} {hp : Nat → Row} {top nx : Nat} {K : AV → (Nat → Row) → Nat → Nat → Prop} (hn : n = l.length) (hx : AVle x ((kA ePl).enc p)) (hr : RowLe (hp q) (rowL v 62 eCk l)) (ht : q < top) (hl : l.length < 100000000) (hp0 : okPl p)
    (hK : ∀ v' nx', nx ≤ nx' → K (.ow q v' (stretchF l p).length) (updR hp q (rowL v' 62 eCk (stretchF l p))) top nx') : sStretch [.ow q v n, x] hp top nx K := by
  subst hn
  have hver : (hp q).ver = some v := hr.vers.symm
  refine ⟨[q], [.ow 0 v l.length, (kA ePl).enc p], rws [(0, rowL v 62 eCk l)], by simp, by simpa using ht, .cons AVle.ow (.cons hx .nil), one_row hr, fun i hi => rws_top (top := 1) (by simp) i (by simpa using hi), l, v, p, rfl, rfl, rfl, hl, hp0, fun v' nx' h1 h3 => ?_⟩
  refine ⟨.ow q v' (stretchF l p).length, _, AVle.ow, fun i r hr => ?_, fun r hr => ?_, fun r hr w hw => ?_, hK v' nx' h3⟩
  · cases i with
    | zero =>
      simp only [List.getElem?_cons_zero, Option.some.injEq] at hr
      subst hr
      rw [updR_at]
      exact RowLe.refl _
    | succ i => simp at hr
  · rw [updR_ne _ _ (by simpa using hr)]
  · simp only [List.mem_singleton] at hr
    subst hr
    rw [updR_at] at hw
    have : some v' = some w := hw
    obtain rfl := Option.some.inj this
    rcases h1 with rfl | h1
    · exact .inl hver
    · exact .inr h1
theorem plEq (p1 p2 p3 t1 t2 t3 : Int) : (decide (p1 = t1) && (decide (p2 = t2) && decide (p3 = t3))) = decide (((p1, p2, p3) : Pl) = (t1, t2, t3)) := by
  rw [Bool.eq_iff_iff]
  simp only [Bool.and_eq_true, decide_eq_true_eq, Prod.mk.injEq]
theorem row_ck {l : List Ck} {v n : Nat} {c : Ck} (hn : n = l.length) : RowLe (.sl v 62 7 (n + 1) (apC n (fun i => eCk.enc (l.getD i eCk.dflt)) fun i => [eCk.enc c].getD i fun _ => .any)) (.sl v 62 7 (l ++ [c]).length fun i => eCk.enc ((l ++ [c]).getD i eCk.dflt)) :=
  row_app1 (E := eCk) rfl rfl hn rfl (by simp) fun j hj => AVle.refl _
/-- The chunks of the places that are left, behind what stands already. -/
def ofK (ends : Pl) : List Pl → List Ck → Pl → List Ck
  | [], s, t => if t = ends then s else s ++ [btw t ends]
  | p :: M, s, t => ofK ends M (stretchF (if p = t then s else s ++ [btw t p]) p) (nextP p)
theorem rise_mem {a b : Int} : ∀ {l : List (Int × Int)} {u v : Int}, riseB a b u v l = true → ∀ p ∈ l, u < p.1 ∧ v < p.2 ∧ p.1 < a ∧ p.2 < b
  | q :: l, u, v, h, p, hp => by
    rw [riseB, Bool.and_eq_true, decide_eq_true_eq] at h
    rcases List.mem_cons.1 hp with rfl | hp
    · exact h.1
    · have := rise_mem h.2 p hp
      omega
theorem both_mem : ∀ (n : Nat) (l r : List (Int × Int)), l.length + r.length ≤ n → ∀ x ∈ bothF l r, ∃ p ∈ l, ∃ q ∈ r, p.1 = q.1 ∧ x = (p.1, p.2, q.2)
  | _, [], r, _, x, hx => by rw [both_nil'] at hx; cases hx
  | _, p :: l, [], _, x, hx => by rw [both_nil] at hx; cases hx
  | 0, _ :: _, _ :: _, h, _, _ => by simp at h
  | n + 1, p :: l, q :: r, h, x, hx => by
    simp only [List.length_cons] at h
    rw [bothF] at hx
    by_cases c : p.1 < q.1
    · rw [if_pos c] at hx
      obtain ⟨p', hp, q', hq, e⟩ := both_mem n l (q :: r) (by simp only [List.length_cons]; omega) x hx
      exact ⟨p', List.mem_cons_of_mem _ hp, q', hq, e⟩
    · rw [if_neg c] at hx
      by_cases c2 : q.1 < p.1
      · rw [if_pos c2] at hx
        obtain ⟨p', hp, q', hq, e⟩ := both_mem n (p :: l) r (by simp only [List.length_cons]; omega) x hx
        exact ⟨p', hp, q', List.mem_cons_of_mem _ hq, e⟩
      · rw [if_neg c2] at hx
        rcases List.mem_cons.1 hx with rfl | hx
        · exact ⟨p, List.mem_cons_self .., q, List.mem_cons_self .., by omega, rfl⟩
        · obtain ⟨p', hp, q', hq, e⟩ := both_mem n l r (by omega) x hx
          exact ⟨p', List.mem_cons_of_mem _ hp, q', List.mem_cons_of_mem _ hq, e⟩
theorem both_len : ∀ (n : Nat) (l r : List (Int × Int)), l.length + r.length ≤ n → (bothF l r).length ≤ l.length
  | _, [], r, _ => by rw [both_nil']; simp
  | _, p :: l, [], _ => by rw [both_nil]; simp
  | 0, _ :: _, _ :: _, h => by simp at h
  | n + 1, p :: l, q :: r, h => by
    simp only [List.length_cons] at h
    rw [bothF]
    by_cases c : p.1 < q.1
    · rw [if_pos c]
      have := both_len n l (q :: r) (by simp only [List.length_cons]; omega)
      simp only [List.length_cons]; omega
    · rw [if_neg c]
      by_cases c2 : q.1 < p.1
      · rw [if_pos c2]
        exact both_len n (p :: l) r (by simp only [List.length_cons]; omega)
      · rw [if_neg c2]
        have := both_len n l r (by omega)
        simp only [List.length_cons]; omega
theorem stretch_len (l : List Ck) (p : Pl) : (stretchF l p).length ≤ l.length + 1 := by
  rcases l.eq_nil_or_concat with rfl | ⟨m, c, rfl⟩
  · simp [stretch_nil]
  · rw [List.concat_eq_append, stretch_snoc]
    by_cases h : c.1 = true
    · rw [if_pos h]; simp
    · rw [if_neg h]; simp
/-- May there be chunks of these? -/
def fitK (a b c : Int) (l r : List (Int × Int)) : Bool := decide (0 ≤ a ∧ 0 ≤ b ∧ 0 ≤ c) && (riseB a b (-1) (-1) l && riseB a c (-1) (-1) r)
def sOfK : Spec := Spec.f5 kI kI kI (kL (eP eI eI)) (kL (eP eI eI)) (fun a b c l r => a < 100000000 ∧ b < 100000000 ∧ c < 100000000 ∧ l.length < 10000000 ∧ r.length < 10000000)
  (fun a b c l r => if fitK a b c l r then tu2 (sL eCk (ofK (a, b, c) (bothF l r) [] (0, 0, 0))) (kI.enc 0) else tu2 .em (kI.enc 12))
theorem okOfK : SpecOK Try.prog 24 sOfK := by
  refine SpecOK.f5 Try.func24 rfl (by decide) Try.results24 Try.ntmps24 (by decide) fun a b c l r ⟨ha, hb, hc, hl, hr⟩ => ?_
  have hΓ : GOK Try.prog (gam [(46, sRises), (47, sBoth), (48, sBetween), (49, sStretch), (50, sNextP)]) := (.cons okRises (.cons okBoth (.cons okBetween (.cons okStretch (.cons okNextP .nil)))))
  rcases hf : fitK a b c l r with _ | _
  · have hbad : (decide (a < 0) || decide (b < 0) || decide (c < 0) || !riseB a b (-1) (-1) l || !riseB a c (-1) (-1) r) = true := by
      cases h : (decide (a < 0) || decide (b < 0) || decide (c < 0) || !riseB a b (-1) (-1) l || !riseB a c (-1) (-1) r) with
      | true => rfl
      | false =>
        simp only [Bool.or_eq_false_iff, decide_eq_false_iff_not, Bool.not_eq_false'] at h
        obtain ⟨⟨⟨⟨h1, h2⟩, h3⟩, h4⟩, h5⟩ := h
        have : fitK a b c l r = true := by
          unfold fitK
          rw [h4, h5, decide_eq_true (by omega)]
          rfl
        rw [this] at hf
        cases hf
    refine AW.of hΓ mixed [5] _ _ _ rfl ?_
    simp only [go_sem, sRises, sBoth, sBetween, sStretch, sNextP, pp_sz, hf]
    refine ⟨fun h => by simp [h], fun h => by rw [h]; rfl, fun _ => by omega, fun h => by rw [h]; rfl, fun _ => by omega, fun h => by rw [h]; rfl, fun h => by rw [hbad] at h; cases h⟩
  · have hf' := hf
    unfold fitK at hf'
    simp only [Bool.and_eq_true, decide_eq_true_eq] at hf'
    obtain ⟨⟨a0, b0, c0⟩, g1, g2⟩ := hf'
    have d1 : (a < 0) = False := eq_false (by omega)
    have d2 : (b < 0) = False := eq_false (by omega)
    have d3 : (c < 0) = False := eq_false (by omega)
    refine AW.of hΓ mixed [5] _ _ _ rfl ?_
    simp only [go_sem, sRises, sBoth, sBetween, sStretch, sNextP, pp_sz, hf, d1, d2, d3, g1, g2]
    refine ⟨by omega, by omega, by omega, ?_⟩
    refine AW.adopt 12 62 7 (fun i => eCk.enc (([] : List Ck).getD i eCk.dflt)) rfl ?_
    have hM : ∀ p ∈ bothF l r, (0 ≤ p.1 ∧ p.1 < a) ∧ (0 ≤ p.2.1 ∧ p.2.1 < b) ∧ 0 ≤ p.2.2 ∧ p.2.2 < c := fun p hp => by
      obtain ⟨x, hx, y, hy, _, rfl⟩ := both_mem _ l r (Nat.le_refl _) p hp
      have h1 := rise_mem g1 x hx
      have h2 := rise_mem g2 y hy
      exact ⟨by dsimp only; omega, by dsimp only; omega, by dsimp only; omega⟩
    have hMl := both_len _ l r (Nat.le_refl _)
    generalize hMe : bothF l r = M at *
    refine AW.block (AW.round (α := { x : Nat × List Ck × Pl × Nat × Nat × Nat × Nat // x.1 ≤ M.length ∧ x.2.1.length ≤ 2 * x.1 ∧ ofK (a, b, c) M [] (0, 0, 0) = ofK (a, b, c) (M.drop x.1) x.2.1 x.2.2.1 })
      (fun x => ⟨[(12, .ow 2 x.1.2.2.2.2.2.1 x.1.2.1.length), (13, .pt 0 x.1.2.2.2.1 0), (14, .pt 1 x.1.2.2.2.2.1 0), (48, sL ePl M), (49, .val (.int .i64 M.length)), (50, .val (.int .i64 x.1.1))],
        [(0, .box x.1.2.2.2.1 97 3 (ePl.enc x.1.2.2.1)), (1, .box x.1.2.2.2.2.1 97 3 (ePl.enc (a, b, c))), (2, rowL x.1.2.2.2.2.2.1 62 eCk x.1.2.1)], 80, 3, x.1.2.2.2.2.2.2, []⟩) (fun x => M.length - x.1.1) ⟨(0, [], (0, 0, 0), 0, 1, 2, 3), Nat.zero_le _, Nat.le_refl _, rfl⟩ ?_ ?_)
    · simp only [go_sem, sRises, sBoth, sBetween, sStretch, sNextP]
      refine ⟨RowLe.box fun j hj => ?_, RowLe.box fun j hj => ?_, RowLe.refl _⟩
      · match j, hj with
        | 0, _ => exact AVle.refl _
        | 1, _ => exact AVle.refl _
        | 2, _ => exact AVle.refl _
      · match j, hj with
        | 0, _ => exact AVle.refl _
        | 1, _ => exact AVle.refl _
        | 2, _ => exact AVle.refl _
    · rintro ⟨⟨i, s, ⟨t1, t2, t3⟩, va, vb, v, nx⟩, hi, hs, he⟩
      simp only at hi hs he
      refine AW.of hΓ mixed [8, 99999] _ _ _ rfl ?_
      simp only [go_sem, sRises, sBoth, sBetween, sStretch, sNextP]
      refine ⟨fun hil => ?_, fun hil => ?_⟩
      · have hlt : i < M.length := by omega
        obtain ⟨p1, p2, p3, hp⟩ : ∃ p1 p2 p3, M.getD i ePl.dflt = (p1, p2, p3) := ⟨_, _, _, rfl⟩
        have hd : M.drop i = (p1, p2, p3) :: M.drop (i + 1) := by
          rw [List.drop_eq_getElem_cons hlt, ← gd_lt M ePl.dflt hlt, hp]
        have hpb := hM (p1, p2, p3) (by rw [← hp, gd_lt M _ hlt]; exact List.getElem_mem _)
        simp only at hpb
        rw [hd, ofK] at he
        refine ⟨by omega, ?_⟩
        obtain ⟨s', hs'⟩ : ∃ s', (if (p1, p2, p3) = (t1, t2, t3) then s else s ++ [btw (t1, t2, t3) (p1, p2, p3)]) = s' := ⟨_, rfl⟩
        have hsl : s'.length ≤ s.length + 1 := by
          rw [← hs']
          split
          · omega
          · simp
        rw [hs'] at he
        refine AW.to (fun x : Nat × Nat => Sh.st ⟨[(12, .ow 2 x.1 s'.length), (13, .pt 0 va 0), (14, .pt 1 vb 0), (16, .pt 3 nx 0), (48, sL ePl M), (49, .val (.int .i64 M.length)), (50, .val (.int .i64 i))],
          [(0, .box va 97 3 (ePl.enc (p1, p2, p3))), (1, .box vb 97 3 (ePl.enc (a, b, c))), (2, rowL x.1 62 eCk s'), (3, .box nx 97 3 (ePl.enc (p1, p2, p3)))], 80, 4, x.2, []⟩) ?_ ?_
        · refine AW.of hΓ mixed [99999] _ _ _ rfl ?_
          simp only [go_sem, sRises, sBoth, sBetween, sStretch, sNextP, hp]
          rw [plEq]
          refine ⟨fun h => ⟨by omega, ⟨(nx + 1, nx + 1 + 1), toFits ?_⟩⟩, fun h => ⟨(v, nx + 1), toFits ?_⟩⟩
          · have hne : ¬ ((p1, p2, p3) : Pl) = (t1, t2, t3) := fun e => by rw [decide_eq_true e] at h; cases h
            rw [if_neg hne] at hs'
            subst hs'
            simp only [go_sem, sRises, sBoth, sBetween, sStretch, sNextP]
            refine ⟨RowLe.box fun j hj => ?_, RowLe.refl _, row_app1 (E := eCk) rfl rfl rfl rfl (by simp) fun j hj => AVle.refl _, RowLe.box fun j hj => ?_⟩
            · match j, hj with
              | 0, _ => exact AVle.refl _
              | 1, _ => exact AVle.refl _
              | 2, _ => exact AVle.refl _
            · match j, hj with
              | 0, _ => exact AVle.refl _
              | 1, _ => exact AVle.refl _
              | 2, _ => exact AVle.refl _
          · have heq : ((p1, p2, p3) : Pl) = (t1, t2, t3) := of_decide_eq_true (by simpa only [Bool.not_eq_false'] using h)
            rw [if_pos heq] at hs'
            subst hs'
            obtain ⟨rfl, rfl, rfl⟩ : p1 = t1 ∧ p2 = t2 ∧ p3 = t3 := by simpa using heq
            simp only [go_sem, sRises, sBoth, sBetween, sStretch, sNextP]
            refine ⟨RowLe.refl _, RowLe.refl _, RowLe.refl _, RowLe.box fun j hj => ?_⟩
            match j, hj with
            | 0, _ => exact AVle.refl _
            | 1, _ => exact AVle.refl _
            | 2, _ => exact AVle.refl _
        · rintro ⟨v', nx'⟩
          simp only [go_sem, sRises, sBoth, sBetween, sStretch, sNextP]
          have hok : okPl (p1, p2, p3) := ⟨by dsimp only; omega, by dsimp only; omega, by dsimp only; omega⟩
          have hsl2 := stretch_len s' (p1, p2, p3)
          refine stretch_go (q := 2) (l := s') (p := (p1, p2, p3)) rfl (AVle.refl _) (RowLe.refl _) (by decide) (by omega) hok fun v2 n2 h2 => ?_
          generalize stretchF s' (p1, p2, p3) = s2 at *
          simp only [go_sem, sRises, sBoth, sBetween, sStretch, sNextP]
          refine ⟨hok, by omega, ⟨(i + 1, s2, nextP (p1, p2, p3), va, vb, v2, n2), by dsimp only; omega, by dsimp only; omega, he⟩, ⟨Nat.le_refl _, ⟨⟨rfl, rfl⟩, rfl, rfl, by dsimp only; omega⟩, RowLe.box fun j hj => ?_, RowLe.refl _, RowLe.refl _⟩, by dsimp only; omega⟩
          match j, hj with
          | 0, _ => exact AVle.refl _
          | 1, _ => exact AVle.refl _
          | 2, _ => exact AVle.refl _
      · obtain rfl : i = M.length := by omega
        rw [List.drop_length, ofK] at he
        refine AW.seqTo (fun x : Nat × Nat => Sh.st ⟨[(12, .ow 2 x.1 (ofK (a, b, c) M [] (0, 0, 0)).length)], [(2, rowL x.1 62 eCk (ofK (a, b, c) M [] (0, 0, 0)))], 80, 3, x.2, []⟩) ?_ ?_
        · refine AW.of hΓ mixed [] _ _ _ rfl ?_
          simp only [go_sem, sRises, sBoth, sBetween, sStretch, sNextP]
          rw [plEq]
          refine ⟨fun h => ⟨by omega, ⟨(nx, nx + 1), toFits ?_⟩⟩, fun h => ⟨(v, nx), toFits ?_⟩⟩
          · have hne : ¬ ((t1, t2, t3) : Pl) = (a, b, c) := fun e => by rw [decide_eq_true e] at h; cases h
            rw [if_neg hne] at he
            rw [he]
            simp only [go_sem, sRises, sBoth, sBetween, sStretch, sNextP]
            exact row_app1 (E := eCk) rfl rfl rfl rfl (by simp) fun j hj => AVle.refl _
          · have heq : ((t1, t2, t3) : Pl) = (a, b, c) := of_decide_eq_true (by simpa only [Bool.not_eq_false'] using h)
            rw [if_pos heq] at he
            rw [he]
            simp only [go_sem, sRises, sBoth, sBetween, sStretch, sNextP]
            exact RowLe.refl _
        · rintro ⟨v', nx'⟩
          refine AW.of hΓ mixed [] _ _ _ rfl ?_
          simp only [go_sem, sRises, sBoth, sBetween, sStretch, sNextP]
          exact vw_all (E := eCk) rfl rfl rfl
end Go.Proofs.Ytpbccamaipekjaa
