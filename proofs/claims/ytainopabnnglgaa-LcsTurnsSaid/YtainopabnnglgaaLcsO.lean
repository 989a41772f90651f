/-
  lcs: find.
-/
import Derived.Test.YtainopabnnglgaaLcsN
set_option linter.unusedSimpArgs false
set_option linter.unusedVariables false
set_option maxRecDepth 100000
set_option maxHeartbeats 2000000
namespace Go.Proofs.Ytainopabnnglgaa
open Go
attribute [local irreducible] AW AVle ASle RowLe
/-- A finder's rows. -/
def fRows (a b : List Int) (fv v1 v2 pv : Nat) (g1 g2 : List Int) (l : List (Int × Int)) : List (Nat × Row) :=
  [(0, .box fv 51 7 (fAV a b (.ow 1 v1 g1.length) (.ow 2 v2 g2.length) (.ow 3 pv l.length))), (1, rowL v1 3 eI g1), (2, rowL v2 3 eI g2), (3, rowL pv 41 (eP eI eI) l)]
def sFind0 (N : Nat) : MSpec := fun args hp top nx K => ∃ a b f1 f2 l fv v1 v2 pv fa ta fb tb, args = [.pt 0 fv 0, kI.enc (fa : Nat), kI.enc (ta : Nat), kI.enc (fb : Nat), kI.enc (tb : Nat)] ∧
  hp = rws (fRows a b fv v1 v2 pv f1 f2 l) ∧ top = 4 ∧ pv < nx ∧
  fa ≤ ta ∧ ta ≤ a.length ∧ fb ≤ tb ∧ tb ≤ b.length ∧ a.length < 100000000 ∧ b.length < 100000000 ∧ a.length + b.length + 3 ≤ f1.length ∧ a.length + b.length + 3 ≤ f2.length ∧ f1.length < 1000000000 ∧ f2.length < 1000000000 ∧
  l.length + (ta - fa) < 500000000 ∧ (ta - fa) + (tb - fb) < N ∧
  ∀ g1 g2 pv' hp' top' nx', g1.length = f1.length → g2.length = f2.length → (pv' = pv ∨ nx ≤ pv') → pv' < nx' → (∀ i, i < 4 → RowLe (hp' i) (rws (fRows a b fv v1 v2 pv' g1 g2 (l ++ shP fa fb (findG (partL a fa ta) (partL b fb tb)))) i)) → nx ≤ nx' →
    K (.val (.tuple #[])) hp' top' nx'
def sFind (N : Nat) : MSpec := framed (sFind0 N)
theorem find_go {N : Nat} {a b f1 f2 : List Int} {l : List (Int × Int)} {fv v1 v2 pv fa ta fb tb : Nat} {x y r s : Int} {hp : Nat → Row} {top nx : Nat} {K : AV → (Nat → Row) → Nat → Nat → Prop} (hx : x = (fa : Nat)) (hy : y = (ta : Nat)) (hr : r = (fb : Nat)) (hs : s = (tb : Nat))
    (h0 : ∀ i, i < 4 → RowLe (hp i) (rws (fRows a b fv v1 v2 pv f1 f2 l) i)) (ht : 3 < top) (hpv : pv < nx)
    (hfa : fa ≤ ta) (hta : ta ≤ a.length) (hfb : fb ≤ tb) (htb : tb ≤ b.length) (ha : a.length < 100000000) (hb : b.length < 100000000) (hr1 : a.length + b.length + 3 ≤ f1.length) (hr2 : a.length + b.length + 3 ≤ f2.length) (hl1 : f1.length < 1000000000) (hl2 : f2.length < 1000000000)
    (hl : l.length + (ta - fa) < 500000000) (hN : (ta - fa) + (tb - fb) < N)
    (hK : ∀ g1 g2 pv' hp' nx', g1.length = f1.length → g2.length = f2.length → (pv' = pv ∨ nx ≤ pv') → pv' < nx' → nx ≤ nx' → (∀ i, i < 4 → hp' i = rws (fRows a b fv v1 v2 pv' g1 g2 (l ++ shP fa fb (findG (partL a fa ta) (partL b fb tb)))) i) → (∀ i, 4 ≤ i → hp' i = hp i) → K (.val (.tuple #[])) hp' top nx') :
    sFind N [.pt 0 fv 0, .val (.int .i64 x), .val (.int .i64 y), .val (.int .i64 r), .val (.int .i64 s)] hp top nx K := by
  subst hx hy hr hs
  have w := fun i hi => (h0 i hi).vers
  have lt4 : ∀ (k q : Nat), [0, 1, 2, 3][k]? = some q → k = q ∧ k < 4 := fun k q hk => by
    match k, hk with
    | 0, hk => exact ⟨Option.some.inj hk, by decide⟩
    | 1, hk => exact ⟨Option.some.inj hk, by decide⟩
    | 2, hk => exact ⟨Option.some.inj hk, by decide⟩
    | 3, hk => exact ⟨Option.some.inj hk, by decide⟩
  have mem4 : ∀ q, q ∈ [0, 1, 2, 3] ↔ q < 4 := fun q => by simp; omega
  refine ⟨[0, 1, 2, 3], [.pt 0 fv 0, kI.enc (fa : Nat), kI.enc (ta : Nat), kI.enc (fb : Nat), kI.enc (tb : Nat)], rws (fRows a b fv v1 v2 pv f1 f2 l),
    by decide, fun p hp => ?_, .cons (AVle.refl _) (.cons (AVle.refl _) (.cons (AVle.refl _) (.cons (AVle.refl _) (.cons (AVle.refl _) .nil)))), fun k q hk => ?_, fun k hk => rws_top (top := 4) (by simp [fRows]) k (by simpa using hk), a, b, f1, f2, l, fv, v1, v2, pv, fa, ta, fb, tb, rfl, rfl, rfl, hpv, hfa, hta, hfb, htb, ha, hb, hr1, hr2, hl1, hl2, hl, hN, fun g1 g2 pv' hp' top' nx' e1 e2 e3 e4 e5 e6 => ?_⟩
  · have := (mem4 p).1 hp; omega
  · obtain ⟨rfl, h⟩ := lt4 k q hk
    exact h0 k h
  · refine ⟨_, fun i => if i < 4 then rws (fRows a b fv v1 v2 pv' g1 g2 (l ++ shP fa fb (findG (partL a fa ta) (partL b fb tb)))) i else hp i, AVle.refl _, fun k q hk => ?_, fun q hq => ?_, fun q hq u hu => ?_, hK g1 g2 pv' _ nx' e1 e2 e3 e4 e6 (fun i hi => if_pos hi) (fun i hi => if_neg (by omega))⟩
    · obtain ⟨rfl, h⟩ := lt4 k q hk
      simp only [if_pos h]
      exact e5 k h
    · rw [mem4] at hq
      exact if_neg hq
    · rw [mem4] at hq
      simp only [if_pos hq] at hu
      have := w q hq
      match q, hq with
      | 0, _ => exact .inl (this.symm.trans hu)
      | 1, _ => exact .inl (this.symm.trans hu)
      | 2, _ => exact .inl (this.symm.trans hu)
      | 3, _ =>
        obtain rfl : pv' = u := Option.some.inj hu
        rcases e3 with rfl | e3
        · exact .inl this.symm
        · exact .inr e3
theorem AW.cutF {P : Program} {x : Code} {Q : Exit → AS → Prop} {st : AS} (fr : List (Nat × AV)) (a b : List Int) (fv v1 v2 pv : Nat) (g1 g2 : List Int) (l : List (Int × Int)) (hr : ∀ i, i < 4 → RowLe (st.hp i) (rws (fRows a b fv v1 v2 pv g1 g2 l) i)) (nx : Nat) (hz : st.sz = 91) (hd : st.df = []) (hnx : st.nx = nx)
    (hfr : ∀ p ∈ fr, AVle (st.fr p.1) p.2) (k : AW P x Q (Sh.st ⟨fr, fRows a b fv v1 v2 pv g1 g2 l, 91, 4, nx, []⟩)) : AW P x Q st := by
  refine AW.cut ⟨fr, fRows a b fv v1 v2 pv g1 g2 l, 91, 4, nx, []⟩ ⟨⟨⟨hz.symm, hd.symm⟩, Nat.le_of_eq hnx⟩, hfr, ?_, ?_⟩ k
  · rintro p hp
    simp only [fRows, List.mem_cons, List.mem_nil_iff, or_false] at hp
    rcases hp with rfl | rfl | rfl | rfl
    · exact hr 0 (by decide)
    · exact hr 1 (by decide)
    · exact hr 2 (by decide)
    · exact hr 3 (by decide)
  · rintro p hp
    simp only [fRows, List.mem_cons, List.mem_nil_iff, or_false] at hp
    rcases hp with rfl | rfl | rfl | rfl <;> simp
theorem all4 {p : Nat → Prop} (h0 : p 0) (h1 : p 1) (h2 : p 2) (h3 : p 3) : ∀ i, i < 4 → p i
  | 0, _ => h0
  | 1, _ => h1
  | 2, _ => h2
  | 3, _ => h3
  | i + 4, h => by omega
theorem okFindB : MethOK Try.prog 38 (sFind 0) := by
  refine MethOK.frame ?_
  refine MethOK.mk Try.func38 rfl (by decide) Try.results38 Try.ntmps38 ?_
  rintro args hp top nx K ⟨_, _, _, _, _, _, _, _, _, _, _, _, _, _, _, _, _, _, _, _, _, _, _, _, _, _, _, _, h, _⟩
  omega
theorem okFindS (N : Nat) (ih : MethOK Try.prog 38 (sFind N)) : MethOK Try.prog 38 (sFind (N + 1)) := by
  refine MethOK.frame ?_
  refine MethOK.mk Try.func38 rfl (by decide) Try.results38 Try.ntmps38 ?_
  rintro args hp top nx K ⟨a, b, f1, f2, l, fv, v1, v2, pv, fa, ta, fb, tb, rfl, rfl, rfl, hpv, hfa, hta, hfb, htb, ha, hb, hr1, hr2, hl1, hl2, hl, hN, hK⟩
  have hΓ : GOK Try.prog (gam [(9, sEndsI), (41, sAdd), (42, sMiddle), (38, (Con.meth (sFind N)))]) := .cons okEndsI (.cons okAdd (.cons okMiddle (.cons ih .nil)))
  refine ⟨Nat.le_of_ble_eq_true rfl, ?_⟩
  have pA : (List.range (ta - fa)).map (fun i => a.getD (fa + i) 0) = partL a fa ta := by rw [part_eq a 0 (by omega)]; rfl
  have pB : (List.range (tb - fb)).map (fun i => b.getD (fb + i) 0) = partL b fb tb := by rw [part_eq b 0 (by omega)]; rfl
  have lA : (partL a fa ta).length = ta - fa := partL_len hta
  have lB : (partL b fb tb).length = tb - fb := partL_len htb
  obtain ⟨A, hA⟩ : ∃ A, partL a fa ta = A := ⟨_, rfl⟩
  obtain ⟨B, hB⟩ : ∃ B, partL b fb tb = B := ⟨_, rfl⟩
  have hbh : bhd (A.drop (ahd A B)) (B.drop (ahd A B)) = bh A B := rfl
  rw [hA] at pA lA
  rw [hB] at pB lB
  refine AW.of hΓ mixed [1, 99999] _ _ _ rfl ?_
  simp only [go_sem, fRows, fAV_0, fAV_1, sEndsI, pA, pB, hbh]
  have hbl := bh_le (a := A) (b := B)
  have hcl := core_len (a := A) (b := B)
  obtain ⟨h, hh⟩ : ∃ h, ahd A B = h := ⟨_, rfl⟩
  obtain ⟨e, he⟩ : ∃ e, bh A B = e := ⟨_, rfl⟩
  rw [hh, he] at hbl hcl ⊢
  refine ⟨by omega, by omega, by omega, add_go (l := l) (pv := pv) (i := fa) (j := fb) (n := h) rfl rfl rfl (RowLe.refl _) (RowLe.refl _) (by decide) hpv (by omega) (by omega) (by omega) (by omega) fun p1 n1 hp1 hpn1 hn1 => ?_⟩
  refine AW.cutF [(0, .pt 0 fv 0), (1, .val (.int .i64 fa)), (2, .val (.int .i64 ta)), (3, .val (.int .i64 fb)), (4, .val (.int .i64 tb)), (10, .val (.int .i64 h)), (11, .val (.int .i64 e))] a b fv v1 v2 p1 f1 f2 (l ++ prs fa fb h)
    (all4 (RowLe.refl _) (RowLe.refl _) (RowLe.refl _) (RowLe.refl _)) n1 rfl rfl rfl ?_ ?_
  · simp only [go_sem]
  have eG : ∀ m, A.length = m → True := fun _ _ => trivial
  by_cases hc : (core A B).length ≠ 0 ∧ (coreR A B).length ≠ 0
  · obtain ⟨p, q, hcut, hpl, hql, hpq, hpq2, hG⟩ := findG_some hc.1 hc.2
    have c1 : (fa : Int) + h < ta - e := by omega
    have c2 : (fb : Int) + h < tb - e := by omega
    refine AW.of hΓ mixed [5, 99999] _ _ _ rfl ?_
    simp only [go_sem, c1, c2]
    have eC : core A B = partL a (fa + h) (ta - e) := by
      rw [core, hh, he, lA, ← hA, partL_drop, partL_take (by omega)]
      congr 1
      omega
    have eD : coreR A B = partL b (fb + h) (tb - e) := by
      rw [coreR, hh, he, lB, ← hB, partL_drop, partL_take (by omega)]
      congr 1
      omega
    refine ⟨by omega, by omega, by omega, by omega, middle_go (a := a) (b := b) (f1 := f1) (f2 := f2) (fv := fv) (v1 := v1) (v2 := v2) (fa := fa + h) (ta := ta - e) (fb := fb + h) (tb := tb - e) (p := p) (q := q) (by omega) (by omega) (by omega) (by omega) (RowLe.refl _) (RowLe.refl _) (RowLe.refl _) (by decide)
      (by omega) (by omega) (by omega) (by omega) ha hb hr1 hr2 hl1 hl2 (by rw [← eC, ← eD]; exact hcut) fun g1 g2 n2 hg1 hg2 hn2 => ?_⟩
    simp only [go_sem, tu2]
    refine AW.cutF [(0, .pt 0 fv 0), (1, .val (.int .i64 ((fa + h : Nat) : Int))), (2, .val (.int .i64 ((ta - e : Nat) : Int))), (3, .val (.int .i64 ((fb + h : Nat) : Int))), (4, .val (.int .i64 ((tb - e : Nat) : Int))), (10, .val (.int .i64 h)), (11, .val (.int .i64 e)), (12, .val (.int .i64 p)), (13, .val (.int .i64 q))] a b fv v1 v2 p1 g1 g2 (l ++ prs fa fb h)
      (all4 (RowLe.of_eq (by show Row.box fv 51 7 (fAV a b (.ow 1 v1 f1.length) (.ow 2 v2 f2.length) (.ow 3 p1 (l.length + (prs fa fb h).length))) = _; rw [← hg1, ← hg2, ← List.length_append]; rfl)) (RowLe.refl _) (RowLe.refl _) (RowLe.refl _)) n2 rfl rfl rfl ?_ ?_
    · simp only [go_sem]
      exact ⟨by omega, by omega, by omega, by omega⟩
    have eP1 : (core A B).take p = partL a (fa + h) (fa + h + p) := by rw [eC]; exact partL_take (by omega)
    have eP2 : (coreR A B).take q = partL b (fb + h) (fb + h + q) := by rw [eD]; exact partL_take (by omega)
    have eP3 : (core A B).drop p = partL a (fa + h + p) (ta - e) := by rw [eC]; exact partL_drop
    have eP4 : (coreR A B).drop q = partL b (fb + h + q) (tb - e) := by rw [eD]; exact partL_drop
    rw [eP1, eP2, eP3, eP4] at hG
    have hG1 : (findG (partL a (fa + h) (fa + h + p)) (partL b (fb + h) (fb + h + q))).length ≤ p := by
      have := lcsN_le (partL a (fa + h) (fa + h + p)) (partL b (fb + h) (fb + h + q))
      rw [findG_len]
      rw [partL_len (by omega), partL_len (by omega)] at this
      omega
    have hG2 : (findG (partL a (fa + h + p) (ta - e)) (partL b (fb + h + q) (tb - e))).length ≤ ta - e - (fa + h + p) := by
      have := lcsN_le (partL a (fa + h + p) (ta - e)) (partL b (fb + h + q) (tb - e))
      rw [findG_len]
      rw [partL_len (by omega), partL_len (by omega)] at this
      omega
    refine AW.of hΓ mixed [6, 99999] _ _ _ rfl ?_
    simp only [go_sem]
    refine ⟨by omega, by omega, find_go (a := a) (b := b) (f1 := g1) (f2 := g2) (fv := fv) (v1 := v1) (v2 := v2) (pv := p1) (l := l ++ prs fa fb h) (fa := fa + h) (ta := fa + h + p) (fb := fb + h) (tb := fb + h + q) (by omega) (by omega) (by omega) (by omega) (fun i _ => RowLe.refl _) (by decide) (by omega)
      (by omega) (by omega) (by omega) (by omega) ha hb (by omega) (by omega) (by omega) (by omega) (by rw [List.length_append, prs_len]; omega) (by omega) fun g3 g4 p2 hp2 n3 hg3 hg4 hpp2 hpn2 hn3 hE _ => ?_⟩
    refine AW.cutF [(0, .pt 0 fv 0), (1, .val (.int .i64 ((fa + h : Nat) : Int))), (2, .val (.int .i64 ((ta - e : Nat) : Int))), (3, .val (.int .i64 ((fb + h : Nat) : Int))), (4, .val (.int .i64 ((tb - e : Nat) : Int))), (11, .val (.int .i64 e)), (12, .val (.int .i64 p)), (13, .val (.int .i64 q))] a b fv v1 v2 p2 g3 g4 _
      (fun i hi => RowLe.of_eq (hE i hi)) n3 rfl rfl rfl ?_ ?_
    · simp only [go_sem]
    refine AW.of hΓ mixed [7, 99999] _ _ _ rfl ?_
    simp only [go_sem]
    refine ⟨by omega, by omega, find_go (a := a) (b := b) (f1 := g3) (f2 := g4) (fv := fv) (v1 := v1) (v2 := v2) (pv := p2) (fa := fa + h + p) (ta := ta - e) (fb := fb + h + q) (tb := tb - e) (by omega) (by omega) (by omega) (by omega) (fun i _ => RowLe.refl _) (by decide) (by omega)
      (by omega) (by omega) (by omega) (by omega) ha hb (by omega) (by omega) (by omega) (by omega) (by simp only [List.length_append, prs_len, shP_len]; omega) (by omega) fun g5 g6 p3 hp3 n4 hg5 hg6 hpp3 hpn3 hn4 hE2 _ => ?_⟩
    refine add_go (i := ta - e) (j := tb - e) (n := e) rfl rfl rfl (RowLe.of_eq (hE2 0 (by decide))) (RowLe.of_eq (hE2 3 (by decide))) (by decide) (by omega) (by omega) (by omega) (by omega) (by simp only [List.length_append, prs_len, shP_len]; omega) fun p4 n5 hp4 hpn4 hn5 => ?_
    have hfin : l ++ shP fa fb (findG A B) = l ++ prs fa fb h ++ shP ((fa + h : Nat) : Int) ((fb + h : Nat) : Int) (findG (partL a (fa + h) (fa + h + p)) (partL b (fb + h) (fb + h + q))) ++ shP ((fa + h + p : Nat) : Int) ((fb + h + q : Nat) : Int) (findG (partL a (fa + h + p) (ta - e)) (partL b (fb + h + q) (tb - e))) ++ prs ((ta - e : Nat) : Int) ((tb - e : Nat) : Int) e := by
      rw [hG, hh, he]
      simp only [shP_app, shP_prs, shP_shP, List.append_assoc, Int.add_zero]
      rw [show (fa : Int) + ((A.length : Int) - e) = ((ta - e : Nat) : Int) by omega, show (fb : Int) + ((B.length : Int) - e) = ((tb - e : Nat) : Int) by omega, show (fa : Int) + h = ((fa + h : Nat) : Int) by omega, show (fb : Int) + h = ((fb + h : Nat) : Int) by omega,
        show (fa : Int) + ((h : Int) + p) = ((fa + h + p : Nat) : Int) by omega, show (fb : Int) + ((h : Int) + q) = ((fb + h + q : Nat) : Int) by omega]
    refine hK g5 g6 p4 _ _ _ (by omega) (by omega) (by omega) hpn4 ?_ (by omega)
    rw [hA, hB, hfin]
    refine all4 (RowLe.refl _) (RowLe.of_eq (hE2 1 (by decide))) (RowLe.of_eq (hE2 2 (by decide))) (RowLe.refl _)
  · have c12 : ¬ ((fa : Int) + h < ta - e ∧ (fb : Int) + h < tb - e) := by omega
    refine AW.of hΓ mixed [8, 99999] _ _ _ rfl ?_
    simp only [go_sem, c12, false_implies, not_false_eq_true, true_implies]
    refine ⟨by omega, by omega, by omega, by omega, fun _ => ?_⟩
    refine add_go (i := ta - e) (j := tb - e) (n := e) (by omega) (by omega) rfl (RowLe.refl _) (RowLe.refl _) (by decide) (by omega) (by omega) (by omega) (by omega) (by simp only [List.length_append, prs_len]; omega) fun p4 n5 hp4 hpn4 hn5 => ?_
    have hfin : l ++ shP fa fb (findG A B) = l ++ prs fa fb h ++ prs ((ta - e : Nat) : Int) ((tb - e : Nat) : Int) e := by
      rw [findG_none hc, hh, he]
      simp only [shP_app, shP_prs, List.append_assoc, Int.add_zero]
      rw [show (fa : Int) + ((A.length : Int) - e) = ((ta - e : Nat) : Int) by omega, show (fb : Int) + ((B.length : Int) - e) = ((tb - e : Nat) : Int) by omega]
    refine hK f1 f2 p4 _ _ _ rfl rfl (by omega) hpn4 ?_ (by omega)
    rw [hA, hB, hfin]
    refine all4 (RowLe.refl _) (RowLe.refl _) (RowLe.refl _) (RowLe.refl _)
theorem okFind (N : Nat) : MethOK Try.prog 38 (sFind N) := by
  induction N with
  | zero => exact okFindB
  | succ N ih => exact okFindS N ih
end Go.Proofs.Ytainopabnnglgaa
