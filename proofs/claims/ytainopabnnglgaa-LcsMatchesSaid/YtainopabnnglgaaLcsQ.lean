/-
  lcs: lists turned round; the search.
-/
import Derived.Test.YtainopabnnglgaaLcsO
import Derived.Test.YtainopabnnglgaaLcsY
import Derived.Test.YtainopabnnglgaaAxn
set_option linter.unusedSimpArgs false
set_option linter.unusedVariables false
set_option maxRecDepth 100000
set_option maxHeartbeats 2000000
namespace Go.Proofs.Ytainopabnnglgaa
open Go
attribute [local irreducible] AW AVle ASle RowLe
/-- A copy at hand. -/
def sCloneI : MSpec := fun args hp top nx K => ∃ x l, args = [x] ∧ AVle x (sL eI l) ∧ l.length < 1000000000 ∧ ∀ ver nx', nx ≤ ver → ver < nx' → K (.ow top ver l.length) (updR hp top (rowL ver 3 eI l)) (top + 1) nx'
theorem okCloneI : MethOK Try.prog 39 sCloneI := by
  refine MethOK.mk Try.func39 rfl (by decide) Try.results39 Try.ntmps39 ?_
  rintro args hp top nx K ⟨x, l, rfl, hx, hl, hK⟩
  have hΓ : GOK Try.prog (gam []) := GOK.nil
  refine ⟨Nat.le_of_ble_eq_true rfl, ?_⟩
  refine AW.le (stM_le (.cons hx .nil)) ?_
  refine AW.of hΓ mixed [2, 99999] _ _ _ rfl ?_
  simp only [go_sem]
  refine ⟨fun h0 => ?_, ?_⟩
  · refine AW.adopt 2 3 1 (fun i => eI.enc (l.getD i 0)) rfl ?_
    refine AW.of hΓ mixed [] _ _ _ rfl ?_
    simp only [go_sem]
    obtain rfl := List.length_eq_zero_iff.1 h0
    exact hK nx (nx + 1) (Nat.le_refl _) (Nat.lt_succ_self _)
  · exact ⟨by omega, hK nx (nx + 1) (Nat.le_refl _) (Nat.lt_succ_self _)⟩
def sReverseI0 : MSpec := fun args hp top nx K => ∃ l ver, args = [.ow 0 ver l.length] ∧ hp = rws [(0, rowL ver 3 eI l)] ∧ top = 1 ∧ l.length < 1000000000 ∧
  ∀ hp' top' nx', RowLe (hp' 0) (rowL ver 3 eI l.reverse) → nx ≤ nx' → K (.val (.tuple #[])) hp' top' nx'
theorem okReverseI0 : MethOK Try.prog 40 sReverseI0 := by
  refine MethOK.mk Try.func40 rfl (by decide) Try.results40 Try.ntmps40 ?_
  rintro args hp top nx K ⟨l, ver, rfl, rfl, rfl, hl, hK⟩
  have hΓ : GOK Try.prog (gam []) := GOK.nil
  refine ⟨Nat.le_of_ble_eq_true rfl, ?_⟩
  refine AW.of hΓ mixed [200003] _ _ _ rfl ?_
  simp only [go_sem]
  refine ⟨by omega, ?_⟩
  refine AW.round (α := { x : Nat × List Int // 2 * x.1 ≤ l.length + 1 ∧ x.2.length = l.length ∧ ∀ k, k < l.length → x.2.getD k 0 = if k < x.1 ∨ l.length - 1 - x.1 < k then l.getD (l.length - 1 - k) 0 else l.getD k 0 })
    (fun x => ⟨[(0, .ow 0 ver l.length), (2, .val (.int .i64 x.1.1)), (3, .val (.int .i64 ((l.length : Int) - 1 - x.1.1)))], [(0, rowL ver 3 eI x.1.2)], 28, 1, nx, []⟩) (fun x => l.length - x.1.1) ⟨(0, l), by simp, rfl, fun k hk => by simp; omega⟩ ?_ ?_
  · simp only [go_sem]
    exact ⟨by omega, RowLe.refl _⟩
  · rintro ⟨⟨i, m⟩, hi, hm, hk⟩
    simp only at hi hm hk
    refine AW.of hΓ mixed [200003, 99999] _ _ _ rfl ?_
    simp only [go_sem]
    refine ⟨fun hlt => ?_, fun hge => ?_⟩
    · refine AW.drawG hΓ mixed 13 [] (by decide +kernel) ?_
      simp only [go_sem]
      have e1 : ((l.length : Int) - 1 - i).toNat = l.length - 1 - i := by omega
      rw [e1]
      refine ⟨by omega, by omega, by omega, by omega, by omega, by omega, by omega, by omega, by omega, by omega, ⟨(i + 1, (m.set i (m.getD (l.length - 1 - i) 0)).set (l.length - 1 - i) (m.getD i 0)), by dsimp only; omega, by simp [hm], fun k hk' => ?_⟩, ⟨⟨by dsimp only; omega, by dsimp only; omega⟩, RowLe.sl (by simp) fun k hk' j hj => ?_⟩, by dsimp only; omega⟩
      · have h1 := hk i (by omega)
        have h2 := hk (l.length - 1 - i) (by omega)
        rw [if_neg (by omega)] at h1 h2
        dsimp only
        rw [h1, h2]
        by_cases c2 : k = l.length - 1 - i
        · subst c2
          rw [if_pos (by omega)]
          simp only [List.getD]
          rw [List.getElem?_set_self (by simp; omega), show l.length - 1 - (l.length - 1 - i) = i by omega]
          rfl
        · by_cases c1 : k = i
          · subst c1
            rw [if_pos (by omega)]
            simp only [List.getD]
            rw [List.getElem?_set_ne (by omega), List.getElem?_set_self (by omega)]
            rfl
          · have e2 : ((m.set i (l.getD (l.length - 1 - i) 0)).set (l.length - 1 - i) (l.getD i 0)).getD k 0 = m.getD k 0 := by
              simp only [List.getD]
              rw [List.getElem?_set_ne (by omega), List.getElem?_set_ne (by omega)]
            rw [e2, hk k hk']
            by_cases c : k < i ∨ l.length - 1 - i < k
            · rw [if_pos c, if_pos (by omega)]
            · rw [if_neg c, if_neg (by omega)]
      · exact stE_le (E := eI) (n := m.length) (by simp; omega) (stE_le (E := eI) (n := m.length) (by omega) (fun _ _ _ _ => AVle.refl _) (fun _ _ => AVle.refl _)) (fun _ _ => AVle.refl _) k hk' j hj
    · have e : m = l.reverse := by
        refine list_ext_getD 0 (by simp [hm]) fun k hk' => ?_
        rw [hk k (by omega)]
        simp only [List.getD]
        rw [List.getElem?_reverse (by omega)]
        by_cases c : k < i ∨ l.length - 1 - i < k
        · rw [if_pos c]
        · rw [if_neg c, show l.length - 1 - k = k by omega]
      exact hK _ _ _ (by rw [← e]; exact RowLe.refl _) (Nat.le_refl _)
def sReverseI : MSpec := framed sReverseI0
theorem okReverseI : MethOK Try.prog 40 sReverseI := okReverseI0.frame
theorem reverseI_go {l : List Int} {ver p n : Nat} {hp : Nat → Row} {top nx : Nat} {K : AV → (Nat → Row) → Nat → Nat → Prop} (hn : n = l.length) (h0 : RowLe (hp p) (rowL ver 3 eI l)) (ht : p < top) (hl : l.length < 1000000000)
    (hK : ∀ nx', nx ≤ nx' → K (.val (.tuple #[])) (updR hp p (rowL ver 3 eI l.reverse)) top nx') : sReverseI [.ow p ver n] hp top nx K := by
  subst hn
  have hv := h0.vers
  refine ⟨[p], [.ow 0 ver l.length], rws [(0, rowL ver 3 eI l)], by simp, by simpa using ht, .cons AVle.ow .nil, one_row h0, fun i hi => rws_top (top := 1) (by simp) i (by simpa using hi), l, ver, rfl, rfl, rfl, hl, fun hp' top' nx' e1 e2 => ?_⟩
  refine ⟨_, _, AVle.refl _, fun k q hk => ?_, fun q hq => ?_, fun q hq u hu => ?_, hK nx' e2⟩
  · cases k with
    | zero =>
      simp only [List.getElem?_cons_zero, Option.some.injEq] at hk
      subst hk
      rw [updR_at]
      exact e1
    | succ k => simp at hk
  · rw [updR_ne _ _ (by simpa using hq)]
  · simp only [List.mem_singleton] at hq
    subst hq
    rw [updR_at] at hu
    exact .inl (hv.symm.trans hu)
def sTurned : Spec := Spec.f1 (kL eI) (fun l => l.length < 100000000) (fun l => sL eI l.reverse)
theorem okTurned : SpecOK Try.prog 37 sTurned := by
  refine SpecOK.f1 Try.func37 rfl (by decide) Try.results37 Try.ntmps37 (by decide) fun l hl => ?_
  have hΓ : GOK Try.prog (gam [(39, sCloneI), (40, sReverseI)]) := (.cons okCloneI (.cons okReverseI .nil))
  refine AW.of hΓ mixed [1, 99999] _ _ _ rfl ?_
  simp only [go_sem, sCloneI, sReverseI]
  refine ⟨_, l, rfl, AVle.refl _, by omega, fun ver nx' hv hv' => ?_⟩
  refine AW.of hΓ mixed [2, 99999] _ _ _ rfl ?_
  simp only [go_sem, sCloneI, sReverseI]
  refine reverseI_go (l := l) (p := 0) rfl (RowLe.refl _) (by decide) (by omega) fun n2 hn2 => ?_
  refine AW.of hΓ mixed [] _ _ _ rfl ?_
  simp only [go_sem, sCloneI, sReverseI, List.length_reverse]
  exact vw_all (E := eI) rfl rfl (by simp)
theorem find_call {N : Nat} {a b f1 f2 : List Int} {l : List (Int × Int)} {fv v1 v2 pv : Nat} {x y r s : Int} {hp : Nat → Row} {top nx : Nat} {K : AV → (Nat → Row) → Nat → Nat → Prop} {π : List Nat} {p0 p1 p2 p3 : Nat} (hπ : π = [p0, p1, p2, p3]) (hnd : π.Nodup) (ht : ∀ p ∈ π, p < top) (hx : x = 0) (hy : y = a.length) (hr : r = 0) (hs : s = b.length)
    (h0 : RowLe (hp p0) (rws (fRows a b fv v1 v2 pv f1 f2 l) 0)) (h1 : RowLe (hp p1) (rws (fRows a b fv v1 v2 pv f1 f2 l) 1)) (h2 : RowLe (hp p2) (rws (fRows a b fv v1 v2 pv f1 f2 l) 2)) (h3 : RowLe (hp p3) (rws (fRows a b fv v1 v2 pv f1 f2 l) 3)) (hpv : pv < nx)
    (ha : a.length < 100000000) (hb : b.length < 100000000) (hr1 : a.length + b.length + 3 ≤ f1.length) (hr2 : a.length + b.length + 3 ≤ f2.length) (hl1 : f1.length < 1000000000) (hl2 : f2.length < 1000000000)
    (hl : l.length + a.length < 500000000) (hN : a.length + b.length < N)
    (hK : ∀ g1 g2 pv' hp' nx', g1.length = f1.length → g2.length = f2.length → (pv' = pv ∨ nx ≤ pv') → pv' < nx' → nx ≤ nx' → hp' p0 = rws (fRows a b fv v1 v2 pv' g1 g2 (l ++ findG a b)) 0 → hp' p3 = rws (fRows a b fv v1 v2 pv' g1 g2 (l ++ findG a b)) 3 → (∀ i, ¬ i ∈ π → hp' i = hp i) → K (.val (.tuple #[])) hp' top nx') :
    sFind N [.pt p0 fv 0, .val (.int .i64 x), .val (.int .i64 y), .val (.int .i64 r), .val (.int .i64 s)] hp top nx K := by
  subst hx hy hr hs hπ
  have w0 := h0.vers
  have w1 := h1.vers
  have w2 := h2.vers
  have w3 := h3.vers
  have hfin : shP ((0 : Nat) : Int) ((0 : Nat) : Int) (findG (partL a 0 a.length) (partL b 0 b.length)) = findG a b := by rw [partL_all, partL_all]; exact shP_0 _
  have hmem : ∀ q, q ∈ [p0, p1, p2, p3] ↔ q = p0 ∨ q = p1 ∨ q = p2 ∨ q = p3 := fun q => by simp
  have n01 : p1 ≠ p0 := fun e => by simp [e] at hnd
  have n02 : p2 ≠ p0 := fun e => by simp [e] at hnd
  have n03 : p3 ≠ p0 := fun e => by simp [e] at hnd
  have n12 : p2 ≠ p1 := fun e => by simp [e] at hnd
  have n13 : p3 ≠ p1 := fun e => by simp [e] at hnd
  have n23 : p3 ≠ p2 := fun e => by simp [e] at hnd
  refine ⟨[p0, p1, p2, p3], [.pt 0 fv 0, kI.enc ((0 : Nat) : Int), kI.enc (a.length : Nat), kI.enc ((0 : Nat) : Int), kI.enc (b.length : Nat)], rws (fRows a b fv v1 v2 pv f1 f2 l),
    hnd, ht, .cons AVle.pt (.cons (AVle.refl _) (.cons (AVle.refl _) (.cons (AVle.refl _) (.cons (AVle.refl _) .nil)))), fun k q hk => ?_, fun k hk => rws_top (top := 4) (by simp [fRows]) k (by simpa using hk), a, b, f1, f2, l, fv, v1, v2, pv, 0, a.length, 0, b.length, rfl, rfl, rfl, hpv, Nat.zero_le _, Nat.le_refl _, Nat.zero_le _, Nat.le_refl _, ha, hb, hr1, hr2, hl1, hl2, by omega, by omega, fun g1 g2 pv' hp' top' nx' e1 e2 e3 e4 e5 e6 => ?_⟩
  · match k, hk with
    | 0, hk => obtain rfl := Option.some.inj hk; exact h0
    | 1, hk => obtain rfl := Option.some.inj hk; exact h1
    | 2, hk => obtain rfl := Option.some.inj hk; exact h2
    | 3, hk => obtain rfl := Option.some.inj hk; exact h3
  rw [hfin] at e5
  refine ⟨_, updR (updR (updR (updR hp p0 (rws (fRows a b fv v1 v2 pv' g1 g2 (l ++ findG a b)) 0)) p1 (rws (fRows a b fv v1 v2 pv' g1 g2 (l ++ findG a b)) 1)) p2 (rws (fRows a b fv v1 v2 pv' g1 g2 (l ++ findG a b)) 2)) p3 (rws (fRows a b fv v1 v2 pv' g1 g2 (l ++ findG a b)) 3), AVle.refl _, fun k q hk => ?_, fun q hq => ?_, fun q hq u hu => ?_, hK g1 g2 pv' _ nx' e1 e2 e3 e4 e6 ?_ ?_ fun q hq => ?_⟩
  · match k, hk with
    | 0, hk => obtain rfl := Option.some.inj hk; rw [updR_ne _ _ n03.symm, updR_ne _ _ n02.symm, updR_ne _ _ n01.symm, updR_at]; exact e5 0 (by decide)
    | 1, hk => obtain rfl := Option.some.inj hk; rw [updR_ne _ _ n13.symm, updR_ne _ _ n12.symm, updR_at]; exact e5 1 (by decide)
    | 2, hk => obtain rfl := Option.some.inj hk; rw [updR_ne _ _ n23.symm, updR_at]; exact e5 2 (by decide)
    | 3, hk => obtain rfl := Option.some.inj hk; rw [updR_at]; exact e5 3 (by decide)
  · rw [hmem] at hq
    simp only [not_or] at hq
    rw [updR_ne _ _ hq.2.2.2, updR_ne _ _ hq.2.2.1, updR_ne _ _ hq.2.1, updR_ne _ _ hq.1]
  · rw [hmem] at hq
    rcases hq with rfl | rfl | rfl | rfl
    · rw [updR_ne _ _ n03.symm, updR_ne _ _ n02.symm, updR_ne _ _ n01.symm, updR_at] at hu; exact .inl (w0.symm.trans hu)
    · rw [updR_ne _ _ n13.symm, updR_ne _ _ n12.symm, updR_at] at hu; exact .inl (w1.symm.trans hu)
    · rw [updR_ne _ _ n23.symm, updR_at] at hu; exact .inl (w2.symm.trans hu)
    · rw [updR_at] at hu
      obtain rfl : pv' = u := Option.some.inj hu
      rcases e3 with rfl | e3
      · exact .inl w3.symm
      · exact .inr e3
  · rw [updR_ne _ _ n03.symm, updR_ne _ _ n02.symm, updR_ne _ _ n01.symm, updR_at]
  · rw [updR_at]
  · rw [hmem] at hq
    simp only [not_or] at hq
    rw [updR_ne _ _ hq.2.2.2, updR_ne _ _ hq.2.2.1, updR_ne _ _ hq.2.1, updR_ne _ _ hq.1]
def sSearch : MSpec := fun args hp top nx K => ∃ x y a b, args = [x, y] ∧ AVle x (sL eI a) ∧ AVle y (sL eI b) ∧ hp = rws [] ∧ top = 0 ∧ a.length < 100000000 ∧ b.length < 100000000 ∧
  ∀ ver hp' nx', hp' 3 = rowL ver 41 (eP eI eI) (findG a b) → ver < nx' → nx ≤ nx' → (∀ i, 4 ≤ i → hp' i = .dead) → K (.ow 3 ver (findG a b).length) hp' 4 nx'
theorem okSearch : MethOK Try.prog 31 sSearch := by
  refine MethOK.mk Try.func31 rfl (by decide) Try.results31 Try.ntmps31 ?_
  rintro args hp top nx K ⟨x, y, a, b, rfl, hx, hy, rfl, rfl, ha, hb, hK⟩
  have hΓ : GOK Try.prog (gam [(37, sTurned), (38, (Con.meth (sFind (a.length + b.length + 1))))]) := .cons okTurned (.cons (okFind _) .nil)
  refine ⟨Nat.le_of_ble_eq_true rfl, ?_⟩
  refine AW.le (stM_le (.cons hx (.cons hy .nil))) ?_
  refine AW.of hΓ mixed [2, 99999] _ _ _ rfl ?_
  simp only [go_sem, sTurned]
  have eN : ((a.length : Int) + b.length + 3).toNat = a.length + b.length + 3 := by omega
  rw [eN]
  refine ⟨by omega, by omega, ha, hb, by omega, by omega, ?_⟩
  refine AW.adoptB (q := 2) 6 41 2 (fun i => (eP eI eI).enc (([] : List (Int × Int)).getD i (0, 0))) rfl rfl ?_
  refine AW.of hΓ mixed [3, 99999] _ _ _ rfl ?_
  simp only [go_sem]
  refine find_call (a := a) (b := b) (f1 := List.replicate (a.length + b.length + 3) 0) (f2 := List.replicate (a.length + b.length + 3) 0) (l := []) (fv := nx + 1 + 1) (v1 := nx) (v2 := nx + 1) (pv := nx + 1 + 1 + 1) (π := [2, 0, 1, 3]) rfl (by decide) (by decide) rfl rfl rfl rfl ?_ ?_ ?_ ?_ (by omega) ha hb (by simp) (by simp) (by simp; omega) (by simp; omega) (by simp; omega) (by omega) ?_
  · refine RowLe.box fun j hj => ?_
    match j, hj with
    | 0, _ => exact AVle.refl _
    | 1, _ => exact AVle.refl _
    | 2, _ => exact AVle.refl _
    | 3, _ => exact AVle.refl _
    | 4, _ => show AVle (.ow 0 nx (a.length + b.length + 3)) (.ow 1 nx (List.replicate (a.length + b.length + 3) (0 : Int)).length); rw [List.length_replicate]; exact AVle.ow
    | 5, _ => show AVle (.ow 1 (nx + 1) (a.length + b.length + 3)) (.ow 2 (nx + 1) (List.replicate (a.length + b.length + 3) (0 : Int)).length); rw [List.length_replicate]; exact AVle.ow
    | 6, _ => exact AVle.refl _
  · refine RowLe.sl (by simp) fun i hi j hj => AVle.of_eq ?_
    match j, hj with
    | 0, _ => simp [List.getD, List.getElem?_replicate, hi, zC]; rfl
  · refine RowLe.sl (by simp) fun i hi j hj => AVle.of_eq ?_
    match j, hj with
    | 0, _ => simp [List.getD, List.getElem?_replicate, hi, zC]; rfl
  · exact RowLe.refl _
  intro g1 g2 pv' hp' nx' e1 e2 e3 e4 e5 e6 e7 e8
  have e6' : hp' 2 = .box (nx + 1 + 1) 51 7 (fAV a b (.ow 1 nx g1.length) (.ow 2 (nx + 1) g2.length) (.ow 3 pv' (findG a b).length)) := e6
  refine AW.of hΓ mixed [] _ _ _ rfl ?_
  simp only [go_sem, e6', fAV_6]
  exact hK pv' hp' nx' e7 e4 (by omega) fun i hi => (e8 i (by simp; omega)).trans (by
    rw [updR_ne _ _ (by omega), updR_ne _ _ (by omega), updR_ne _ _ (by omega), updR_ne _ _ (by omega), updR_ne _ _ (by omega)]
    rfl)
end Go.Proofs.Ytainopabnnglgaa
