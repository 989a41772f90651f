/-
  lcs: add, find.
-/
import Derived.Test.YtainopabnnglgaaLcsM
set_option linter.unusedSimpArgs false
set_option linter.unusedVariables false
set_option maxRecDepth 100000
set_option maxHeartbeats 2000000
namespace Go.Proofs.Ytainopabnnglgaa
open Go
attribute [local irreducible] AW AVle ASle RowLe
def sMiddle : MSpec := framed sMiddle0
theorem okMiddle : MethOK Try.prog 42 sMiddle := okMiddle0.frame
theorem fAV_le {a b : List Int} {u v z u' v' z' : AV} (h1 : AVle u u') (h2 : AVle v v') (h3 : AVle z z') : ∀ j, AVle (fAV a b u v z j) (fAV a b u' v' z' j)
  | 0 => AVle.refl _
  | 1 => AVle.refl _
  | 2 => AVle.refl _
  | 3 => AVle.refl _
  | 4 => h1
  | 5 => h2
  | _ + 6 => h3
theorem pp_sz : (eP eI eI).sz = 2 := rfl
def sAdd0 : MSpec := fun args hp top nx K => ∃ a b u v l fv pv i j n, args = [.pt 0 fv 0, kI.enc (i : Nat), kI.enc (j : Nat), kI.enc (n : Nat)] ∧
  hp = rws [(0, .box fv 51 7 (fAV a b u v (.ow 1 pv l.length))), (1, rowL pv 41 (eP eI eI) l)] ∧ top = 2 ∧ pv < nx ∧
  i < 1000000000 ∧ j < 1000000000 ∧ n < 1000000000 ∧ l.length + n < 1000000000 ∧
  ∀ pv' hp' top' nx', (pv' = pv ∨ nx ≤ pv') → pv' < nx' → RowLe (hp' 0) (.box fv 51 7 (fAV a b u v (.ow 1 pv' (l ++ prs i j n).length))) → RowLe (hp' 1) (rowL pv' 41 (eP eI eI) (l ++ prs i j n)) → nx ≤ nx' →
    K (.val (.tuple #[])) hp' top' nx'
theorem okAdd0 : MethOK Try.prog 41 sAdd0 := by
  refine MethOK.mk Try.func41 rfl (by decide) Try.results41 Try.ntmps41 ?_
  rintro args hp top nx K ⟨a, b, u, v, l, fv, pv, i, j, n, rfl, rfl, rfl, hpv, hi, hj, hn, hl, hK⟩
  have hΓ : GOK Try.prog (gam []) := GOK.nil
  refine ⟨Nat.le_of_ble_eq_true rfl, ?_⟩
  refine AW.of hΓ mixed [] _ _ _ rfl ?_
  simp only [go_sem, fAV_6]
  refine AW.round (α := { x : Nat × Nat × Nat // x.1 ≤ n ∧ (x.2.1 = pv ∨ nx ≤ x.2.1) ∧ nx ≤ x.2.2 ∧ x.2.1 < x.2.2 })
    (fun x => ⟨[(0, .pt 0 fv 0), (1, .val (.int .i64 i)), (2, .val (.int .i64 j)), (9, .val (.int .i64 n)), (10, .val (.int .i64 x.1.1))],
      [(0, .box fv 51 7 (fAV a b u v (.ow 1 x.1.2.1 (l ++ prs i j x.1.1).length))), (1, rowL x.1.2.1 41 (eP eI eI) (l ++ prs i j x.1.1))], 30, 2, x.1.2.2, []⟩) (fun x => n - x.1.1) ⟨(0, pv, nx), by simp, .inl rfl, Nat.le_refl _, hpv⟩ ?_ ?_
  · simp only [go_sem]
    exact ⟨RowLe.of_eq (by simp [prs]), RowLe.of_eq (by simp [prs])⟩
  · rintro ⟨⟨k, w, m⟩, hk, hw, hm, hwm⟩
    simp only at hk hw hm hwm
    refine AW.of hΓ mixed [99999] _ _ _ rfl ?_
    simp only [go_sem, fAV_6, pp_sz]
    have hps : prs i j (k + 1) = prs i j k ++ [((i : Int) + (k : Int), (j : Int) + (k : Int))] := by
      unfold prs
      rw [List.range_succ, List.map_append]
      rfl
    have hpl : (prs i j k).length = k := prs_len _ _ _
    refine ⟨fun hlt => ⟨by omega, by omega, by omega, by omega, ⟨(k + 1, m, m + 1), by dsimp only; omega, .inr hm, by dsimp only; omega, Nat.lt_succ_self _⟩, ⟨Nat.le_refl _, rfl, ?_, ?_⟩, by dsimp only; omega⟩, fun hge => ?_⟩
    · refine RowLe.box fun j' hj' => ?_
      match j', hj' with
      | 0, _ => exact AVle.refl _
      | 1, _ => exact AVle.refl _
      | 2, _ => exact AVle.refl _
      | 3, _ => exact AVle.refl _
      | 4, _ => exact AVle.refl _
      | 5, _ => exact AVle.refl _
      | 6, _ => exact AVle.of_eq (by dsimp only; rw [hps]; simp [stC, fAV, Nat.add_assoc])
    · refine row_app1 (E := eP eI eI) (l := l ++ prs i j k) (x := ((i : Int) + (k : Int), (j : Int) + (k : Int))) rfl (by dsimp only; rw [hps, List.append_assoc]) (by simp) (by simp) (by dsimp only; rw [hps]; simp) fun j' hj' => ?_
      match j', hj' with
      | 0, _ => exact AVle.refl _
      | 1, _ => exact AVle.refl _
    · obtain rfl : k = n := by omega
      exact hK w _ _ _ hw hwm (RowLe.of_eq (by rw [List.length_append]; rfl)) (rowE rfl rfl (by simp)) hm
def sAdd : MSpec := framed sAdd0
theorem okAdd : MethOK Try.prog 41 sAdd := okAdd0.frame
theorem add_go {a b : List Int} {u v : AV} {l : List (Int × Int)} {fv pv i j n : Nat} {x y z : Int} {hp : Nat → Row} {top nx : Nat} {K : AV → (Nat → Row) → Nat → Nat → Prop} (hx : x = (i : Nat)) (hy : y = (j : Nat)) (hz : z = (n : Nat))
    (h0 : RowLe (hp 0) (.box fv 51 7 (fAV a b u v (.ow 3 pv l.length)))) (h3 : RowLe (hp 3) (rowL pv 41 (eP eI eI) l)) (ht : 3 < top) (hpv : pv < nx)
    (hi : i < 1000000000) (hj : j < 1000000000) (hn : n < 1000000000) (hl : l.length + n < 1000000000)
    (hK : ∀ pv' nx', (pv' = pv ∨ nx ≤ pv') → pv' < nx' → nx ≤ nx' → K (.val (.tuple #[])) (updR (updR hp 0 (.box fv 51 7 (fAV a b u v (.ow 3 pv' (l ++ prs i j n).length)))) 3 (rowL pv' 41 (eP eI eI) (l ++ prs i j n))) top nx') :
    sAdd [.pt 0 fv 0, .val (.int .i64 x), .val (.int .i64 y), .val (.int .i64 z)] hp top nx K := by
  subst hx hy hz
  have v0 := h0.vers
  have v3 := h3.vers
  refine ⟨[0, 3], [.pt 0 fv 0, kI.enc (i : Nat), kI.enc (j : Nat), kI.enc (n : Nat)], rws [(0, .box fv 51 7 (fAV a b u v (.ow 1 pv l.length))), (1, rowL pv 41 (eP eI eI) l)],
    by decide, fun p hp => ?_, .cons (AVle.refl _) (.cons (AVle.refl _) (.cons (AVle.refl _) (.cons (AVle.refl _) .nil))), fun k q hk => ?_, fun k hk => rws_top (top := 2) (by simp) k (by simpa using hk), a, b, u, v, l, fv, pv, i, j, n, rfl, rfl, rfl, hpv, hi, hj, hn, hl, fun pv' hp' top' nx' e1 e2 e3 e4 e5 => ?_⟩
  · rcases List.mem_cons.1 hp with rfl | hp
    · omega
    · rw [List.mem_singleton.1 hp]; exact ht
  · match k, hk with
    | 0, hk =>
      obtain rfl : 0 = q := Option.some.inj hk
      exact h0.trans (RowLe.box fun j' hj' => fAV_le (AVle.refl _) (AVle.refl _) AVle.ow j')
    | 1, hk =>
      obtain rfl : 3 = q := Option.some.inj hk
      exact h3
  · refine ⟨_, _, AVle.refl _, fun k q hk => ?_, fun q hq => ?_, fun q hq w hw => ?_, hK pv' nx' e1 e2 e5⟩
    · match k, hk with
      | 0, hk =>
        obtain rfl : 0 = q := Option.some.inj hk
        exact e3.trans (RowLe.box fun j' hj' => fAV_le (AVle.refl _) (AVle.refl _) AVle.ow j')
      | 1, hk =>
        obtain rfl : 3 = q := Option.some.inj hk
        exact e4
    · simp only [List.mem_cons, List.mem_nil_iff, or_false, not_or] at hq
      rw [updR_ne _ _ hq.2, updR_ne _ _ hq.1]
    · rcases List.mem_cons.1 hq with rfl | hq
      · exact .inl (v0.symm.trans hw)
      · obtain rfl := List.mem_singleton.1 hq
        obtain rfl : pv' = w := Option.some.inj hw
        rcases e1 with rfl | e1
        · exact .inl v3.symm
        · exact .inr e1
theorem middle_go {a b f1 f2 : List Int} {z : AV} {fv v1 v2 fa ta fb tb : Nat} {p q x y r s : Int} {hp : Nat → Row} {top nx : Nat} {K : AV → (Nat → Row) → Nat → Nat → Prop} (hx : x = (fa : Nat)) (hy : y = (ta : Nat)) (hr : r = (fb : Nat)) (hs : s = (tb : Nat))
    (h0 : RowLe (hp 0) (.box fv 51 7 (fAV a b (.ow 1 v1 f1.length) (.ow 2 v2 f2.length) z))) (h1 : RowLe (hp 1) (rowL v1 3 eI f1)) (h2 : RowLe (hp 2) (rowL v2 3 eI f2)) (ht : 2 < top)
    (hfa : fa ≤ ta) (hta : ta ≤ a.length) (hfb : fb ≤ tb) (htb : tb ≤ b.length) (ha : a.length < 100000000) (hb : b.length < 100000000) (hr1 : a.length + b.length + 3 ≤ f1.length) (hr2 : a.length + b.length + 3 ≤ f2.length) (hl1 : f1.length < 1000000000) (hl2 : f2.length < 1000000000)
    (hcut : cutF (partL a fa ta) (partL b fb tb) = some (p, q))
    (hK : ∀ g1 g2 nx', g1.length = f1.length → g2.length = f2.length → nx ≤ nx' →
      K (tu2 (kI.enc p) (kI.enc q)) (updR (updR (updR hp 0 (.box fv 51 7 (fAV a b (.ow 1 v1 f1.length) (.ow 2 v2 f2.length) z))) 1 (rowL v1 3 eI g1)) 2 (rowL v2 3 eI g2)) top nx') :
    sMiddle [.pt 0 fv 0, .val (.int .i64 x), .val (.int .i64 y), .val (.int .i64 r), .val (.int .i64 s)] hp top nx K := by
  subst hx hy hr hs
  have w0 := h0.vers
  have w1 := h1.vers
  have w2 := h2.vers
  refine ⟨[0, 1, 2], [.pt 0 fv 0, kI.enc (fa : Nat), kI.enc (ta : Nat), kI.enc (fb : Nat), kI.enc (tb : Nat)], rws [(0, .box fv 51 7 (fAV a b (.ow 1 v1 f1.length) (.ow 2 v2 f2.length) z)), (1, rowL v1 3 eI f1), (2, rowL v2 3 eI f2)],
    by decide, fun p hp => ?_, .cons (AVle.refl _) (.cons (AVle.refl _) (.cons (AVle.refl _) (.cons (AVle.refl _) (.cons (AVle.refl _) .nil)))), fun k q hk => ?_, fun k hk => rws_top (top := 3) (by simp) k (by simpa using hk), a, b, f1, f2, z, fv, v1, v2, fa, ta, fb, tb, p, q, rfl, rfl, rfl, hfa, hta, hfb, htb, ha, hb, hr1, hr2, hl1, hl2, hcut, fun g1 g2 hp' top' nx' e1 e2 e3 e4 e5 e6 => ?_⟩
  · simp only [List.mem_cons, List.mem_nil_iff, or_false] at hp
    omega
  · match k, hk with
    | 0, hk => obtain rfl : 0 = q := Option.some.inj hk; exact h0
    | 1, hk => obtain rfl : 1 = q := Option.some.inj hk; exact h1
    | 2, hk => obtain rfl : 2 = q := Option.some.inj hk; exact h2
  · refine ⟨_, _, AVle.refl _, fun k q hk => ?_, fun q hq => ?_, fun q hq w hw => ?_, hK g1 g2 nx' e1 e2 e6⟩
    · match k, hk with
      | 0, hk => obtain rfl : 0 = q := Option.some.inj hk; exact e3
      | 1, hk => obtain rfl : 1 = q := Option.some.inj hk; exact e4
      | 2, hk => obtain rfl : 2 = q := Option.some.inj hk; exact e5
    · simp only [List.mem_cons, List.mem_nil_iff, or_false, not_or] at hq
      rw [updR_ne _ _ hq.2.2, updR_ne _ _ hq.2.1, updR_ne _ _ hq.1]
    · simp only [List.mem_cons, List.mem_nil_iff, or_false] at hq
      rcases hq with rfl | rfl | rfl
      · exact .inl (w0.symm.trans hw)
      · exact .inl (w1.symm.trans hw)
      · exact .inl (w2.symm.trans hw)
end Go.Proofs.Ytainopabnnglgaa
