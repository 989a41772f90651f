/-
  Part 5 of what the proof rests on: values that are told, code that is walked, what comes out.
-/
import Derived.Test.YtjfmigpahglajaaGreatDoorMg4
set_option linter.unusedSimpArgs false
set_option linter.unusedVariables false
set_option maxRecDepth 100000
set_option maxHeartbeats 2000000
namespace Go.Proofs.YtjfmigpahglajaaGreatDoor
open Go
attribute [local irreducible] AW AVle ASle RowLe
def wAV (x y z : AV) : AV := .ag 3 fun j => if j = 0 then x else if j = 1 then y else z
def kW : Kd (List Int × List Int × List Int) where
  enc w := wAV (sL eI w.1) (sL eI w.2.1) (sL eI w.2.2)
  dec | .ag _ c => (gL eI (c 0), gL eI (c 1), gL eI (c 2))
      | _ => ([], [], [])
  law w := by simp only [wAV, Nat.one_ne_zero, if_true, if_false, (by decide : (2 : Nat) ≠ 0), (by decide : (2 : Nat) ≠ 1), gL_sL]
theorem kW_ok {a b f : List Int} {c : Nat → AV} (h0 : AVle (c 0) (sL eI a)) (h1 : AVle (c 1) (sL eI b)) (h2 : AVle (c 2) (sL eI f)) (e0 : gL eI (c 0) = a) (e1 : gL eI (c 1) = b) (e2 : gL eI (c 2) = f) : kW.ok (.ag 3 c) := by
  subst e0 e1 e2
  refine AVle.ag fun j hj => ?_
  match j, hj with
  | 0, _ => exact h0
  | 1, _ => exact h1
  | 2, _ => exact h2
theorem kW_dec (c : Nat → AV) : kW.dec (.ag 3 c) = (gL eI (c 0), gL eI (c 1), gL eI (c 2)) := rfl

def big (n : Int) : Prop := 0 ≤ n ∧ n < 1000000000
def sDiagonals : Spec := Spec.f3 kI kI kI (fun d n m => big d ∧ big n ∧ big m) (fun d n m => tu2 (kI.enc (lowD d.toNat m.toNat)) (kI.enc (highD d.toNat n.toNat)))
theorem okDiagonals : SpecOK Tryz.prog 185 sDiagonals := by
  refine SpecOK.f3 Tryz.func185 rfl (by decide) Tryz.results185 Tryz.ntmps185 (by decide) fun d n m hd => ?_
  have hΓ : GOK Tryz.prog (gam []) := GOK.nil
  obtain ⟨⟨h1, h2⟩, ⟨h3, h4⟩, h5, h6⟩ := hd
  have hl : lowD d.toNat m.toNat = if m < d then -m + (d - m).tmod 2 else -d := by
    unfold lowD
    rw [Int.toNat_of_nonneg h1, Int.toNat_of_nonneg h5]
  have hh : highD d.toNat n.toNat = if n < d then n - (d - n).tmod 2 else d := by
    unfold highD
    rw [Int.toNat_of_nonneg h1, Int.toNat_of_nonneg h3]
  have t1 : m < d → (d - m).tmod 2 = (d - m) % 2 := fun h => tmod2 _ (by omega)
  have t2 : n < d → (d - n).tmod 2 = (d - n) % 2 := fun h => tmod2 _ (by omega)
  have b1 : m < d → 0 ≤ (d - m).tmod 2 ∧ (d - m).tmod 2 ≤ 1 := fun h => by rw [t1 h]; omega
  have b2 : n < d → 0 ≤ (d - n).tmod 2 ∧ (d - n).tmod 2 ≤ 1 := fun h => by rw [t2 h]; omega
  rw [hl, hh]
  refine AW.of hΓ mixed [99999] _ _ _ rfl ?_
  simp only [go_sem]
  clear hl hh t1 t2
  generalize (d - m).tmod 2 = r1 at *
  generalize (d - n).tmod 2 = r2 at *
  refine ⟨by omega, fun g1 => ?_, fun g1 => ?_⟩
  · have := b1 g1
    simp only [if_pos g1]
    refine ⟨by omega, by omega, by omega, fun g2 => ?_, fun g2 => ?_⟩
    · have := b2 g2
      simp only [if_pos g2]
      exact ⟨by omega, by omega, by trivial, by trivial⟩
    · simp only [if_neg g2]
      exact ⟨by trivial, by trivial⟩
  · simp only [if_neg g1]
    refine ⟨fun g2 => ?_, fun g2 => ?_⟩
    · have := b2 g2
      simp only [if_pos g2]
      exact ⟨by omega, by omega, by trivial, by trivial⟩
    · simp only [if_neg g2]
      exact ⟨by trivial, by trivial⟩
def sReached : Spec := Spec.f2 kW kI (fun w k => -(w.2.1.length : Int) - 1 ≤ k ∧ k ≤ w.1.length + 1 ∧ w.2.2.length = w.1.length + w.2.1.length + 3 ∧ w.2.2.length < 1000000000) (fun w k => kI.enc (rch w.2.1.length w.2.2 k))
theorem okReached : SpecOK Tryz.prog 187 sReached := by
  refine SpecOK.f2 Tryz.func187 rfl (by decide) Tryz.results187 Tryz.ntmps187 (by decide) fun w k hd => ?_
  have hΓ : GOK Tryz.prog (gam []) := GOK.nil
  obtain ⟨a, b, far⟩ := w
  simp only at hd
  refine AW.of hΓ mixed [99999] _ _ _ rfl ?_
  simp only [go_sem, kW, wAV]
  exact ⟨by omega, by omega, by omega, rfl⟩
def okFar (far : List Int) : Prop := ∀ y ∈ far, -1 ≤ y ∧ y < 1000000000
theorem gL_part (l r : List Int) : gL eI (.sn l.length 1 fun i => eI.enc ((l ++ r).getD i 0)) = l := by
  unfold gL
  simp only [eI.law]
  apply List.ext_getElem
  · simp
  · intro i h1 h2
    simp [List.getD, List.getElem?_append_left h2, List.getElem?_eq_getElem h2]
theorem part_le (l r : List Int) : AVle (.sn l.length 1 fun i => eI.enc ((l ++ r).getD i 0)) (sL eI l) :=
  vw_row (E := eI) rfl rfl (by simp) (by simp)
def sAdvance0 : MSpec := fun args hp top nx K => ∃ a b far rest k ver x far', args = [wAV (sL eI a) (sL eI b) (.ow 0 ver far.length), kI.enc k] ∧ hp = rws [(0, rowL ver 3 eI (far ++ rest))] ∧ top = 1 ∧
  okFar far ∧ a.length < 100000000 ∧ b.length < 100000000 ∧ advF a b far k = some (x, far') ∧ ∀ hp' top' nx', RowLe (hp' 0) (rowL ver 3 eI (far' ++ rest)) → nx ≤ nx' → K (kI.enc x) hp' top' nx'
theorem okAdvance0 : MethOK Tryz.prog 186 sAdvance0 := by
  refine MethOK.mk Tryz.func186 rfl (by decide) Tryz.results186 Tryz.ntmps186 ?_
  rintro args hp top nx K ⟨a, b, far, rest, k, ver, x, far', rfl, rfl, rfl, hfar, ha, hb, hadv, hK⟩
  have hΓ : GOK Tryz.prog (gam [(187, sReached)]) := (.cons okReached .nil)
  refine ⟨Nat.le_of_ble_eq_true rfl, ?_⟩
  unfold advF at hadv
  split at hadv
  · rename_i hc
    obtain ⟨c1, c2, c3, c4, c5⟩ := hc
    have hr : ∀ j : Int, -(b.length : Int) - 1 ≤ j → j ≤ a.length + 1 → -1 ≤ rch b.length far j ∧ rch b.length far j < 1000000000 := fun j h1 h2 => by
      unfold rch
      rw [gd_lt _ _ (by omega)]
      exact hfar _ (List.getElem_mem _)
    have hu := hr (k - 1) (by omega) (by omega)
    have hv := hr (k + 1) (by omega) (by omega)
    have hs : startD a b (rch b.length far (k - 1)) (rch b.length far (k + 1)) k = min (min (max (rch b.length far (k - 1) + 1) (rch b.length far (k + 1))) ↑a.length) (↑b.length + k) := rfl
    simp only [Option.some.injEq, Prod.mk.injEq] at hadv
    obtain ⟨hx, hfar'⟩ := hadv
    generalize hsg : startD a b (rch b.length far (k - 1)) (rch b.length far (k + 1)) k = s at *
    have s1 : s ≤ a.length := by omega
    have s2 : s ≤ b.length + k := by omega
    have hal := ahd_le (a.drop s.toNat) (b.drop (s - k).toNat)
    have has := ahd_spec 0 (a.drop s.toNat) (b.drop (s - k).toNat)
    simp only [List.length_drop, getD_drop'] at hal has
    refine AW.of hΓ mixed [] _ _ _ rfl ?_
    simp only [go_sem, sReached, kW_dec, wAV, gL_sL, gL_part]
    refine ⟨by omega, ⟨by omega, kW_ok (a := a) (b := b) (f := far) (AVle.refl _) (AVle.refl _) (part_le far rest) (gL_sL _ _) (gL_sL _ _) (gL_part far rest), by omega, by omega, by omega, by omega⟩, by omega, by omega, ⟨by omega, kW_ok (a := a) (b := b) (f := far) (AVle.refl _) (AVle.refl _) (part_le far rest) (gL_sL _ _) (gL_sL _ _) (gL_part far rest), by omega, by omega, by omega, by omega⟩, by omega, ?_⟩
    rw [← hs]
    refine AW.round (α := { i : Nat // i ≤ ahd (a.drop s.toNat) (b.drop (s - k).toNat) })
      (fun i => ⟨[(1, .val (.int .i64 k)), (2, .pt 1 nx 0), (5, .val (.int .i64 (s + i.1)))], [(0, rowL ver 3 eI (far ++ rest)), (1, .box nx 225 3 fun j => if j = 0 then sL eI a else if j = 1 then sL eI b else .ow 0 ver far.length)], 68, 2, nx + 1, []⟩) (fun i => a.length - i.1) ⟨0, Nat.zero_le _⟩ ?_ ?_
    · simp only [go_sem, sReached]
      exact ⟨by omega, RowLe.refl _, RowLe.refl _⟩
    · rintro ⟨i, hi⟩
      refine AW.of hΓ mixed [99999] _ _ _ rfl ?_
      simp only [go_sem, sReached]
      have t1 : (s + i).toNat = s.toNat + i := by omega
      have t2 : (s + i - k).toNat = (s - k).toNat + i := by omega
      refine ⟨fun _ => by omega, fun h => by omega, fun _ => by omega, fun h => by omega, fun ⟨⟨h1, h2⟩, h3⟩ => ⟨by omega, ⟨i + 1, ?_⟩, ⟨by dsimp only; omega, RowLe.refl _, RowLe.refl _⟩, by dsimp only; omega⟩, fun hno => ⟨by omega, by omega, by omega, by omega, ?_⟩⟩
      · rcases Nat.lt_or_ge i (ahd (a.drop s.toNat) (b.drop (s - k).toNat)) with g | g
        · exact g
        · have e : ahd (a.drop s.toNat) (b.drop (s - k).toNat) = i := by omega
          rw [e] at has
          rw [t1, t2] at h3
          exact absurd h3 (has.2 (by omega) (by omega))
      · have e : s + (i : Int) = x := by
          rcases Nat.lt_or_ge i (ahd (a.drop s.toNat) (b.drop (s - k).toNat)) with g | g
          · refine absurd ?_ (hno ⟨by omega, by omega⟩)
            rw [t1, t2]
            exact has.1 i g
          · omega
        rw [e]
        refine hK _ _ _ ?_ (by omega)
        exact row_set (E := eI) rfl (by rw [← hfar', hx, List.set_append_left _ _ (by omega)]) (by simp) (by simp) (fun _ _ => AVle.refl _)
  · cases hadv
theorem startR_set (far : List Int) {i : Nat} (h : i < far.length) : startR (i + 1) ++ far.drop (i + 1) = (startR i ++ far.drop i).set i (-1) := by
  rw [List.set_append_right _ _ (by simp [startR]), List.drop_eq_getElem_cons h, show i - (startR i).length = 0 by simp [startR]]
  simp only [startR, List.replicate_succ', List.append_assoc, List.set_cons_zero, List.cons_append, List.nil_append]
def sNewWalk0 : MSpec := fun args hp top nx K => ∃ a b far ver, args = [sL eI a, sL eI b, .ow 0 ver far.length] ∧ hp = rws [(0, rowL ver 3 eI far)] ∧ top = 1 ∧
  a.length < 100000000 ∧ b.length < 100000000 ∧ a.length + b.length + 3 ≤ far.length ∧ far.length < 1000000000 ∧
  ∀ r hp' top' nx', AVle r (wAV (sL eI a) (sL eI b) (.ow 0 ver (a.length + b.length + 3))) → RowLe (hp' 0) (rowL ver 3 eI (startR (a.length + b.length + 3) ++ far.drop (a.length + b.length + 3))) → nx ≤ nx' → K r hp' top' nx'
theorem okNewWalk0 : MethOK Tryz.prog 184 sNewWalk0 := by
  refine MethOK.mk Tryz.func184 rfl (by decide) Tryz.results184 Tryz.ntmps184 ?_
  rintro args hp top nx K ⟨a, b, far, ver, rfl, rfl, rfl, ha, hb, hf, hl, hK⟩
  have hΓ : GOK Tryz.prog (gam []) := GOK.nil
  refine ⟨Nat.le_of_ble_eq_true rfl, ?_⟩
  refine AW.of hΓ mixed [] _ _ _ rfl ?_
  simp only [go_sem]
  have en : ((a.length : Int) + b.length + 3).toNat = a.length + b.length + 3 := by omega
  have ez : ∀ i, i ≤ a.length + b.length + 3 → (startR i ++ far.drop i).length = far.length := fun i hi => by simp [startR]; omega
  rw [en]
  refine ⟨by omega, by omega, by omega, ?_⟩
  refine AW.round (α := { i : Nat // i ≤ a.length + b.length + 3 })
    (fun i => ⟨[(0, sL eI a), (1, sL eI b), (6, .pt 1 nx 0), (7, .ow 0 ver (a.length + b.length + 3)), (18, .val (.int .i64 (a.length + b.length + 3 : Nat))), (19, .val (.int .i64 i.1))], [(0, rowL ver 3 eI (startR i.1 ++ far.drop i.1)), (1, .box nx 225 3 (zC [Value.slice none 0 0, Value.slice none 0 0, Value.slice none 0 0]))], 30, 2, nx + 1, []⟩) (fun i => a.length + b.length + 3 - i.1) ⟨0, Nat.zero_le _⟩ ?_ ?_
  · simp only [go_sem]
    exact ⟨RowLe.sl (by simp [startR]) fun i hi j hj => AVle.of_eq (by simp [startR]), RowLe.refl _⟩
  · rintro ⟨i, hi⟩
    refine AW.of hΓ mixed [99999] _ _ _ rfl ?_
    simp only [go_sem]
    refine ⟨fun hlt => ⟨by omega, by simp [startR]; omega, by omega, ⟨i + 1, by omega⟩, ⟨by dsimp only; omega, ?_, RowLe.refl _⟩, by dsimp only; omega⟩, fun hge => ?_⟩
    · exact row_set (E := eI) (l := startR i ++ far.drop i) rfl (startR_set far (by omega)) (by simp) (by simp) (fun _ _ => AVle.refl _)
    · have hn : i = a.length + b.length + 3 := by omega
      subst hn
      refine hK _ _ _ _ ?_ ?_ (by omega)
      · refine AVle.ag fun j hj => ?_
        match j, hj with
        | 0, _ => exact AVle.refl _
        | 1, _ => exact AVle.refl _
        | 2, _ => exact AVle.refl _
      · show RowLe (Row.sl ver 3 1 ((startR (a.length + b.length + 3)).length + (far.length - (a.length + b.length + 3))) fun i => eI.enc ((startR (a.length + b.length + 3) ++ far.drop (a.length + b.length + 3)).getD i 0)) _
        exact RowLe.sl (by simp) fun _ _ _ _ => AVle.refl _
end Go.Proofs.YtjfmigpahglajaaGreatDoor
set_option linter.unusedSimpArgs false
set_option linter.unusedVariables false
set_option maxRecDepth 100000
set_option maxHeartbeats 2000000
namespace Go.Proofs.YtjfmigpahglajaaGreatDoor
open Go
attribute [local irreducible] AW AVle ASle RowLe
def sNewWalk : MSpec := framed sNewWalk0
theorem okNewWalk : MethOK Tryz.prog 184 sNewWalk := okNewWalk0.frame
theorem newWalk_go {a b far : List Int} {ver p n : Nat} {x y : AV} {hp : Nat → Row} {top nx : Nat} {K : AV → (Nat → Row) → Nat → Nat → Prop} (hx : AVle x (sL eI a)) (hy : AVle y (sL eI b)) (hn : n = far.length) (hr : RowLe (hp p) (rowL ver 3 eI far)) (hp0 : p < top)
    (ha : a.length < 100000000) (hb : b.length < 100000000) (hf : a.length + b.length + 3 ≤ far.length) (hl : far.length < 1000000000)
    (hK : ∀ nx', nx ≤ nx' → K (wAV (sL eI a) (sL eI b) (.ow p ver (a.length + b.length + 3))) (updR hp p (rowL ver 3 eI (startR (a.length + b.length + 3) ++ far.drop (a.length + b.length + 3)))) top nx') :
    sNewWalk [x, y, .ow p ver n] hp top nx K := by
  subst hn
  have hver : (hp p).ver = some ver := hr.vers.symm
  refine ⟨[p], [sL eI a, sL eI b, .ow 0 ver far.length], rws [(0, rowL ver 3 eI far)], by simp, by simpa using hp0, .cons hx (.cons hy (.cons AVle.ow .nil)), one_row hr, fun i hi => rws_top (top := 1) (by simp) i (by simpa using hi), a, b, far, ver, rfl, rfl, rfl, ha, hb, hf, hl, fun r hp' top' nx' h1 h2 h3 => ?_⟩
  refine ⟨wAV (sL eI a) (sL eI b) (.ow p ver (a.length + b.length + 3)), updR hp p (rowL ver 3 eI (startR (a.length + b.length + 3) ++ far.drop (a.length + b.length + 3))), h1.trans ?_, fun i q hq => ?_, fun q hq => ?_, fun q hq v hv => ?_, hK nx' h3⟩
  · refine AVle.ag fun j hj => ?_
    match j, hj with
    | 0, _ => exact AVle.refl _
    | 1, _ => exact AVle.refl _
    | 2, _ => exact AVle.ow
  · cases i with
    | zero =>
      simp only [List.getElem?_cons_zero, Option.some.injEq] at hq
      subst hq
      rw [updR_at]
      exact h2
    | succ i => simp at hq
  · rw [updR_ne _ _ (by simpa using hq)]
  · simp only [List.mem_singleton] at hq
    subst hq
    rw [updR_at] at hv
    exact .inl (hver.trans hv)
def sAdvance : MSpec := framed sAdvance0
theorem okAdvance : MethOK Tryz.prog 186 sAdvance := okAdvance0.frame
theorem advance_go {a b far far' rest : List Int} {k x : Int} {ver p : Nat} {w : AV} {hp : Nat → Row} {top nx : Nat} {K : AV → (Nat → Row) → Nat → Nat → Prop} (hw : AVle w (wAV (sL eI a) (sL eI b) (.ow p ver far.length))) (hr : RowLe (hp p) (rowL ver 3 eI (far ++ rest))) (hp0 : p < top)
    (hfar : okFar far) (ha : a.length < 100000000) (hb : b.length < 100000000) (hadv : advF a b far k = some (x, far'))
    (hK : ∀ nx', nx ≤ nx' → K (kI.enc x) (updR hp p (rowL ver 3 eI (far' ++ rest))) top nx') : sAdvance [w, kI.enc k] hp top nx K := by
  have hver : (hp p).ver = some ver := hr.vers.symm
  refine ⟨[p], [wAV (sL eI a) (sL eI b) (.ow 0 ver far.length), kI.enc k], rws [(0, rowL ver 3 eI (far ++ rest))], by simp, by simpa using hp0, .cons (hw.trans ?_) (.cons (AVle.refl _) .nil), one_row hr, fun i hi => rws_top (top := 1) (by simp) i (by simpa using hi), a, b, far, rest, k, ver, x, far', rfl, rfl, rfl, hfar, ha, hb, hadv, fun hp' top' nx' h2 h3 => ?_⟩
  · refine AVle.ag fun j hj => ?_
    match j, hj with
    | 0, _ => exact AVle.refl _
    | 1, _ => exact AVle.refl _
    | 2, _ => exact AVle.ow
  refine ⟨kI.enc x, updR hp p (rowL ver 3 eI (far' ++ rest)), AVle.refl _, fun i q hq => ?_, fun q hq => ?_, fun q hq v hv => ?_, hK nx' h3⟩
  · cases i with
    | zero =>
      simp only [List.getElem?_cons_zero, Option.some.injEq] at hq
      subst hq
      rw [updR_at]
      exact h2
    | succ i => simp at hq
  · rw [updR_ne _ _ (by simpa using hq)]
  · simp only [List.mem_singleton] at hq
    subst hq
    rw [updR_at] at hv
    exact .inl (hver.trans hv)
end Go.Proofs.YtjfmigpahglajaaGreatDoor
set_option linter.unusedVariables false
namespace Go.Proofs.YtjfmigpahglajaaGreatDoor
def partL (l : List Int) (i j : Nat) : List Int := (l.drop i).take (j - i)
theorem partL_len {l : List Int} {i j : Nat} (h : j ≤ l.length) : (partL l i j).length = j - i := by
  simp only [partL, List.length_take, List.length_drop]; omega
theorem partL_rev {l : List Int} {i j : Nat} (h1 : i ≤ j) (h : j ≤ l.length) : partL l.reverse (l.length - j) (l.length - i) = (partL l i j).reverse := by
  refine list_ext_getD 0 (by rw [partL_len (by simp), List.length_reverse, partL_len h]; omega) fun k hk => ?_
  rw [partL_len (by simp)] at hk
  have h1 : k < (l.drop i).length := by simp; omega
  unfold partL
  simp only [List.getD]
  rw [List.getElem?_take, if_pos (by omega), List.getElem?_drop, List.getElem?_reverse (by omega), List.getElem?_reverse (by simp; omega), List.getElem?_take, if_pos (by simp; omega), List.getElem?_drop]
  congr 2
  have h2 : (List.take (j - i) (List.drop i l)).length = j - i := by simp; omega
  omega
theorem partL_drop {l : List Int} {i j k : Nat} : (partL l i j).drop k = partL l (i + k) j := by
  unfold partL
  rw [List.drop_take, List.drop_drop, Nat.sub_sub]
theorem partL_take {l : List Int} {i j k : Nat} (h : i + k ≤ j) : (partL l i j).take k = partL l i (i + k) := by
  unfold partL
  rw [List.take_take]
  congr 1
  omega
theorem partL_all (l : List Int) : partL l 0 l.length = l := by
  unfold partL
  simp
def findG (a b : List Int) : List (Int × Int) := findF (a.length + b.length + 1) a b
theorem findF_G {a b : List Int} {f : Nat} (h : a.length + b.length < f) : findF f a b = findG a b := (find_spec (a.length + b.length + 1) a b (by omega)).2.2 f h
theorem findG_len (a b : List Int) : (findG a b).length = lcsN a b := (find_spec (a.length + b.length + 1) a b (by omega)).2.1
theorem findG_none {a b : List Int} (h : ¬ ((core a b).length ≠ 0 ∧ (coreR a b).length ≠ 0)) : findG a b = prs 0 0 (ahd a b) ++ prs ((a.length : Int) - bh a b) ((b.length : Int) - bh a b) (bh a b) := by
  unfold findG
  rw [findF_succ, stepP, if_neg h]
  rfl
theorem findG_some {a b : List Int} (h1 : (core a b).length ≠ 0) (h2 : (coreR a b).length ≠ 0) : ∃ p q : Nat, cutF (core a b) (coreR a b) = some ((p : Int), (q : Int)) ∧ p ≤ (core a b).length ∧ q ≤ (coreR a b).length ∧ 0 < p + q ∧ p + q < (core a b).length + (coreR a b).length ∧
    findG a b = prs 0 0 (ahd a b) ++ ((shP (ahd a b) (ahd a b) (findG ((core a b).take p) ((coreR a b).take q)) ++ shP (ahd a b + p) (ahd a b + q) (findG ((core a b).drop p) ((coreR a b).drop q))) ++ prs ((a.length : Int) - bh a b) ((b.length : Int) - bh a b) (bh a b)) := by
  have hb := bh_le (a := a) (b := b)
  have hl := core_len (a := a) (b := b)
  obtain ⟨p, q, e, p1, q1, g1, g2, g3⟩ := cut_spec h1 h2 (core_ends h1 h2).1 (core_ends h1 h2).2
  refine ⟨p, q, e, p1, q1, g1, g2, ?_⟩
  rw [findG, findF_succ, stepP, if_pos ⟨h1, h2⟩, e]
  simp only [Int.toNat_natCast]
  rw [findF_G (by simp only [List.length_take]; omega), findF_G (by simp only [List.length_drop]; omega)]
end Go.Proofs.YtjfmigpahglajaaGreatDoor
set_option linter.unusedSimpArgs false
set_option linter.unusedVariables false
set_option maxRecDepth 100000
set_option maxHeartbeats 2000000
namespace Go.Proofs.YtjfmigpahglajaaGreatDoor
open Go
attribute [local irreducible] AW AVle ASle RowLe
def fAV (a b : List Int) (u v z : AV) : Nat → AV
  | 0 => sL eI a
  | 1 => sL eI b
  | 2 => sL eI a.reverse
  | 3 => sL eI b.reverse
  | 4 => u
  | 5 => v
  | _ => z
section
variable (a b : List Int) (u v z : AV)
theorem fAV_0 : fAV a b u v z 0 = sL eI a := rfl
theorem fAV_1 : fAV a b u v z 1 = sL eI b := rfl
theorem fAV_2 : fAV a b u v z 2 = sL eI a.reverse := rfl
theorem fAV_3 : fAV a b u v z 3 = sL eI b.reverse := rfl
theorem fAV_4 : fAV a b u v z 4 = u := rfl
theorem fAV_5 : fAV a b u v z 5 = v := rfl
theorem fAV_6 : fAV a b u v z 6 = z := rfl
end
theorem adv_facts {a b far far' : List Int} {k x : Int} (h : advF a b far k = some (x, far')) (hf : okFar far) : far'.length = far.length ∧ (a.length < 1000000000 → okFar far') ∧ 0 ≤ x ∧ x ≤ a.length ∧ k ≤ x ∧ x - k ≤ b.length ∧ -(b.length : Int) ≤ k ∧ k ≤ a.length := by
  unfold advF at h
  split at h
  · rename_i hc
    obtain ⟨c1, c2, c3, c4, c5⟩ := hc
    have hs : startD a b (rch b.length far (k - 1)) (rch b.length far (k + 1)) k = min (min (max (rch b.length far (k - 1) + 1) (rch b.length far (k + 1))) ↑a.length) (↑b.length + k) := rfl
    simp only [Option.some.injEq, Prod.mk.injEq] at h
    obtain ⟨hx, hfar'⟩ := h
    generalize startD a b (rch b.length far (k - 1)) (rch b.length far (k + 1)) k = s at *
    have hal := ahd_le (a.drop s.toNat) (b.drop (s - k).toNat)
    simp only [List.length_drop] at hal
    rw [hx] at hfar'
    subst hfar'
    refine ⟨by simp, fun hl y hy => ?_, by omega, by omega, by omega, by omega, c3, c4⟩
    rcases List.mem_or_eq_of_mem_set hy with hy | rfl
    · exact hf y hy
    · omega
  · cases h
theorem rch_ok {far : List Int} {n m : Nat} {j : Int} (h : okFar far) (hl : far.length = n + m + 3) (h1 : -(m : Int) - 1 ≤ j) (h2 : j ≤ n + 1) : -1 ≤ rch m far j ∧ rch m far j < 1000000000 := by
  unfold rch
  rw [gd_lt _ _ (by omega)]
  exact h _ (List.getElem_mem _)
theorem row_len {v t n : Nat} {l : List Int} (h : n = l.length) : RowLe (.sl v t 1 n fun i => eI.enc (l.getD i 0)) (rowL v t eI l) := by
  subst h
  exact RowLe.refl _
theorem okFar_start (n : Nat) : okFar (startR n) := fun y hy => by
  have := (List.mem_replicate.1 hy).2
  omega
def sMiddle0 : MSpec := fun args hp top nx K => ∃ a b f1 f2 z fv v1 v2 fa ta fb tb p q, args = [.pt 0 fv 0, kI.enc (fa : Nat), kI.enc (ta : Nat), kI.enc (fb : Nat), kI.enc (tb : Nat)] ∧
  hp = rws [(0, .box fv 214 7 (fAV a b (.ow 1 v1 f1.length) (.ow 2 v2 f2.length) z)), (1, rowL v1 3 eI f1), (2, rowL v2 3 eI f2)] ∧ top = 3 ∧
  fa ≤ ta ∧ ta ≤ a.length ∧ fb ≤ tb ∧ tb ≤ b.length ∧ a.length < 100000000 ∧ b.length < 100000000 ∧ a.length + b.length + 3 ≤ f1.length ∧ a.length + b.length + 3 ≤ f2.length ∧ f1.length < 1000000000 ∧ f2.length < 1000000000 ∧
  cutF (partL a fa ta) (partL b fb tb) = some (p, q) ∧
  ∀ g1 g2 hp' top' nx', g1.length = f1.length → g2.length = f2.length → RowLe (hp' 0) (.box fv 214 7 (fAV a b (.ow 1 v1 f1.length) (.ow 2 v2 f2.length) z)) → RowLe (hp' 1) (rowL v1 3 eI g1) → RowLe (hp' 2) (rowL v2 3 eI g2) → nx ≤ nx' →
    K (tu2 (kI.enc p) (kI.enc q)) hp' top' nx'
theorem okMiddle0 : MethOK Tryz.prog 174 sMiddle0 := by
  refine MethOK.mk Tryz.func174 rfl (by decide) Tryz.results174 Tryz.ntmps174 ?_
  rintro args hp top nx K ⟨a, b, f1, f2, z, fv, v1, v2, fa, ta, fb, tb, p, q, rfl, rfl, rfl, hfa, hta, hfb, htb, ha, hb, hr1, hr2, hl1, hl2, hcut, hK⟩
  have hΓ : GOK Tryz.prog (gam [(184, sNewWalk), (186, sAdvance), (187, sReached), (185, sDiagonals)]) := (.cons okNewWalk (.cons okAdvance (.cons okReached (.cons okDiagonals .nil))))
  refine ⟨Nat.le_of_ble_eq_true rfl, ?_⟩
  refine AW.of hΓ mixed [200002, 200003] _ _ _ rfl ?_
  simp only [go_sem, sNewWalk, sAdvance, sReached, sDiagonals, fAV_0, fAV_1, fAV_2, fAV_3, fAV_4, fAV_5, fAV_6]
  refine ⟨by omega, by omega, ?_⟩
  refine AW.drawT hΓ mixed 18 [19] (by decide +kernel) ?_
  simp only [go_sem, sNewWalk, sAdvance, sReached, sDiagonals, fAV_0, fAV_1, fAV_2, fAV_3, fAV_4, fAV_5, fAV_6]
  have lA : (partL a fa ta).length = ta - fa := partL_len hta
  have lB : (partL b fb tb).length = tb - fb := partL_len htb
  refine ⟨by omega, by omega, newWalk_go (a := partL a fa ta) (b := partL b fb tb) (far := f1) (sLd_le eI a (by omega)) (sLd_le eI b (by omega)) rfl ?_ (by decide) (by omega) (by omega) (by omega) (by omega) fun n1 hn1 => ?_⟩
  · exact RowLe.refl _
  simp only [go_sem, sNewWalk, sAdvance, sReached, sDiagonals, cellsAV, wAV]
  refine AW.drawT hΓ mixed 42 [43] (by decide +kernel) ?_
  simp only [go_sem, sNewWalk, sAdvance, sReached, sDiagonals, fAV_0, fAV_1, fAV_2, fAV_3, fAV_4, fAV_5, fAV_6]
  have hAe : (ta : Int) - fa = ((partL a fa ta).length : Int) := by omega
  have hBe : (tb : Int) - fb = ((partL b fb tb).length : Int) := by omega
  have hAr := partL_rev hfa hta
  have hBr := partL_rev hfb htb
  have t1 : ((a.length : Int) - ta).toNat = a.length - ta := by omega
  have t2 : ((a.length : Int) - fa).toNat = a.length - fa := by omega
  have t3 : ((b.length : Int) - tb).toNat = b.length - tb := by omega
  have t4 : ((b.length : Int) - fb).toNat = b.length - fb := by omega
  have l1 : a.reverse.length = a.length := List.length_reverse
  have l2 : b.reverse.length = b.length := List.length_reverse
  rw [t1, t2, t3, t4]
  refine ⟨by omega, by omega, by omega, by omega, by omega, by omega, newWalk_go (a := (partL a fa ta).reverse) (b := (partL b fb tb).reverse) (far := f2) ?_ ?_ rfl ?_ (by decide) (by simp; omega) (by simp; omega) (by simp; omega) (by omega) fun n2 hn2 => ?_⟩
  · rw [← hAr]; exact sLd_le eI a.reverse (by omega)
  · rw [← hBr]; exact sLd_le eI b.reverse (by omega)
  · exact RowLe.refl _
  generalize partL a fa ta = A at *
  generalize partL b fb tb = B at *
  simp only [go_sem, sNewWalk, sAdvance, sReached, sDiagonals, cellsAV, wAV, hAe, hBe, len_rev]
  have hod : decide (¬((A.length : Int) - B.length).tmod 2 = 0) = oddD A.length B.length := rfl
  rw [hod]
  refine ⟨by omega, ?_⟩
  obtain ⟨N, hN⟩ : ∃ N, A.length + B.length + 3 = N := ⟨_, rfl⟩
  unfold cutF at hcut
  rw [hN] at hcut ⊢
  refine AW.round (α := { x : Nat × List Int × List Int × Nat // midF A B (A.length + B.length + 1 - x.1) x.1 x.2.1 x.2.2.1 = some (p, q) ∧ x.2.1.length = N ∧ x.2.2.1.length = N ∧ okFar x.2.1 ∧ okFar x.2.2.1 ∧ n2 ≤ x.2.2.2 })
    (fun x => ⟨[(12, .val (.int .i64 A.length)), (13, .val (.int .i64 B.length)), (14, .pt 3 nx 0), (15, .pt 4 n1 0), (16, .val (.bool (oddD A.length B.length))), (17, .val (.int .i64 x.1.1))],
      [(0, .box fv 214 7 (fAV a b (.ow 1 v1 f1.length) (.ow 2 v2 f2.length) z)), (1, rowL v1 3 eI (x.1.2.1 ++ f1.drop N)), (2, rowL v2 3 eI (x.1.2.2.1 ++ f2.drop N)),
        (3, .box nx 225 3 fun j => if j = 0 then sL eI A else if j = 1 then sL eI B else .ow 1 v1 N), (4, .box n1 225 3 fun j => if j = 0 then sL eI A.reverse else if j = 1 then sL eI B.reverse else .ow 2 v2 N)], 165, 5, x.1.2.2.2, []⟩)
    (fun x => A.length + B.length + 1 - x.1.1) ⟨(0, startR N, startR N, n2), hcut, by simp [startR], by simp [startR], okFar_start N, okFar_start N, Nat.le_refl _⟩ ?_ ?_
  · simp only [go_sem, sNewWalk, sAdvance, sReached, sDiagonals]
    exact ⟨RowLe.refl _, RowLe.refl _, RowLe.refl _, box_st, box_st⟩
  · rintro ⟨⟨d, F1, F2, n3⟩, hmid, hF1, hF2, ho1, ho2, hn3⟩
    simp only at hmid hF1 hF2 ho1 ho2 hn3
    refine AW.of hΓ mixed [] _ _ _ rfl ?_
    simp only [go_sem, sNewWalk, sAdvance, sReached, sDiagonals, Int.toNat_natCast]
    have hl := low_facts d B.length
    have hh := high_facts d A.length
    have hf : ∃ f, A.length + B.length + 1 - d = f + 1 := by
      cases h0 : A.length + B.length + 1 - d with
      | zero => rw [h0] at hmid; cases hmid
      | succ f => exact ⟨f, rfl⟩
    obtain ⟨f, hf⟩ := hf
    rw [hf, midF, hN] at hmid
    generalize hR : stepF A B (oddD A.length B.length) F2 (highD d A.length) N (lowD d B.length) F1 = R at hmid
    have hRn : R ≠ none := by rintro rfl; cases hmid
    refine ⟨⟨⟨by omega, by omega⟩, ⟨by omega, by omega⟩, by omega, by omega⟩, ?_⟩
    have gF2 := gL_part F2 (f2.drop N)
    have pF2 := part_le F2 (f2.drop N)
    rw [hF2] at gF2 pF2
    refine AW.round (α := { x : Nat × Int × List Int × Nat // stepF A B (oddD A.length B.length) F2 (highD d A.length) x.1 x.2.1 x.2.2.1 = R ∧ -(B.length : Int) ≤ x.2.1 ∧ x.2.2.1.length = N ∧ okFar x.2.2.1 ∧ n2 ≤ x.2.2.2 })
      (fun x => ⟨[(12, .val (.int .i64 A.length)), (13, .val (.int .i64 B.length)), (14, .pt 3 nx 0), (15, .pt 4 n1 0), (16, .val (.bool (oddD A.length B.length))), (17, .val (.int .i64 d)), (18, .val (.int .i64 (lowD d B.length))), (19, .val (.int .i64 (highD d A.length))), (20, .val (.int .i64 x.1.2.1))],
        [(0, .box fv 214 7 (fAV a b (.ow 1 v1 f1.length) (.ow 2 v2 f2.length) z)), (1, rowL v1 3 eI (x.1.2.2.1 ++ f1.drop N)), (2, rowL v2 3 eI (F2 ++ f2.drop N)),
          (3, .box nx 225 3 fun j => if j = 0 then sL eI A else if j = 1 then sL eI B else .ow 1 v1 N), (4, .box n1 225 3 fun j => if j = 0 then sL eI A.reverse else if j = 1 then sL eI B.reverse else .ow 2 v2 N)], 165, 5, x.1.2.2.2, []⟩)
      (fun x => x.1.1) ⟨(N, lowD d B.length, F1, n3), hR, hl.2.1, hF1, ho1, hn3⟩ ?_ ?_
    · simp only [go_sem, sNewWalk, sAdvance, sReached, sDiagonals]
      exact ⟨RowLe.refl _, RowLe.refl _, RowLe.refl _, RowLe.refl _, RowLe.refl _⟩
    · rintro ⟨⟨g, k, F, n4⟩, hs, hk0, hF, hoF, hn4⟩
      simp only at hs hk0 hF hoF hn4
      by_cases hkh : k ≤ highD d A.length
      · cases g with
        | zero => exact absurd hs.symm hRn
        | succ g =>
          rw [stepF, if_pos hkh] at hs
          cases hadv : advF A B F k with
          | none => rw [hadv] at hs; exact absurd hs.symm hRn
          | some xf =>
            obtain ⟨x, F'⟩ := xf
            rw [hadv] at hs
            simp only at hs
            have af := adv_facts hadv hoF
            have hrc := rch_ok (far := F2) (n := A.length) (m := B.length) (j := A.length - B.length - k) ho2 (by omega) (by omega) (by omega)
            refine AW.of hΓ mixed [11] _ _ _ rfl ?_
            simp only [go_sem, sNewWalk, sAdvance, sReached, sDiagonals, hkh]
            refine advance_go (far := F) (far' := F') (x := x) (rest := f1.drop N) (p := 1) (by rw [hF]; exact AVle.refl _) (row_len (by simp)) (by decide) hoF (by omega) (by omega) hadv fun n5 hn5 => ?_
            simp only [go_sem, sNewWalk, sAdvance, sReached, sDiagonals]
            refine AW.of hΓ mixed [99999] _ _ _ rfl ?_
            simp only [go_sem, sNewWalk, sAdvance, sReached, sDiagonals, kW_dec, gL_sL, gF2, len_rev, hF2]
            have hmeet : oddD A.length B.length = true ∧ (A.length : Int) ≤ x + rch B.length F2 (A.length - B.length - k) ∨ ¬ (oddD A.length B.length = true ∧ (A.length : Int) ≤ x + rch B.length F2 (A.length - B.length - k)) := Classical.em _
            refine ⟨fun _ => by omega, fun _ => by omega, fun _ => ⟨by omega, kW_ok (a := A.reverse) (b := B.reverse) (f := F2) (AVle.refl _) (AVle.refl _) pF2 (gL_sL _ _) (gL_sL _ _) gF2, by omega, by omega, by omega, by omega⟩, fun _ => by omega, fun hm => ⟨by omega, ?_⟩, fun hm => ⟨by omega, ⟨(g, k + 2, F', n5), ?_, by dsimp only; omega, by dsimp only; omega, af.2.1 (by omega), by dsimp only; omega⟩, ⟨Nat.le_refl _, rfl, RowLe.refl _, RowLe.refl _, RowLe.refl _, RowLe.refl _, RowLe.refl _⟩, Nat.lt_succ_self _⟩⟩
            · rw [if_pos hm] at hs
              subst hs
              simp only [Option.some.injEq, Prod.mk.injEq] at hmid
              obtain ⟨e1, e2⟩ := hmid
              rw [e2, e1]
              exact hK (F' ++ f1.drop N) (F2 ++ f2.drop N) _ _ _ (by simp; omega) (by simp; omega) (RowLe.refl _) (row_len (by simp)) (row_len (by simp; omega)) (by omega)
            · rw [if_neg (fun h => hm h.1 h.2)] at hs
              exact hs
      · cases g with
        | zero => exact absurd hs.symm hRn
        | succ g =>
          rw [stepF, if_neg hkh] at hs
          subst hs
          simp only at hmid
          refine AW.of hΓ mixed [] _ _ _ rfl ?_
          simp only [go_sem, sNewWalk, sAdvance, sReached, sDiagonals, hkh]
          generalize hR2 : stepF A.reverse B.reverse (!oddD A.length B.length) F (highD d A.length) N (lowD d B.length) F2 = R2 at hmid
          have hRn2 : R2 ≠ none := by rintro rfl; cases hmid
          have gF := gL_part F (f1.drop N)
          have pF := part_le F (f1.drop N)
          rw [hF] at gF pF
          refine AW.round (α := { x : Nat × Int × List Int × Nat // stepF A.reverse B.reverse (!oddD A.length B.length) F (highD d A.length) x.1 x.2.1 x.2.2.1 = R2 ∧ -(B.length : Int) ≤ x.2.1 ∧ x.2.2.1.length = N ∧ okFar x.2.2.1 ∧ n2 ≤ x.2.2.2 })
            (fun x => ⟨[(12, .val (.int .i64 A.length)), (13, .val (.int .i64 B.length)), (14, .pt 3 nx 0), (15, .pt 4 n1 0), (16, .val (.bool (oddD A.length B.length))), (17, .val (.int .i64 d)), (19, .val (.int .i64 (highD d A.length))), (22, .val (.int .i64 x.1.2.1))],
              [(0, .box fv 214 7 (fAV a b (.ow 1 v1 f1.length) (.ow 2 v2 f2.length) z)), (1, rowL v1 3 eI (F ++ f1.drop N)), (2, rowL v2 3 eI (x.1.2.2.1 ++ f2.drop N)),
                (3, .box nx 225 3 fun j => if j = 0 then sL eI A else if j = 1 then sL eI B else .ow 1 v1 N), (4, .box n1 225 3 fun j => if j = 0 then sL eI A.reverse else if j = 1 then sL eI B.reverse else .ow 2 v2 N)], 165, 5, x.1.2.2.2, []⟩)
            (fun x => x.1.1) ⟨(N, lowD d B.length, F2, n4), hR2, hl.2.1, hF2, ho2, hn4⟩ ?_ ?_
          · simp only [go_sem, sNewWalk, sAdvance, sReached, sDiagonals]
            exact ⟨RowLe.refl _, RowLe.refl _, RowLe.refl _, RowLe.refl _, RowLe.refl _⟩
          · rintro ⟨⟨h, k2, G, n5⟩, hs, hk0, hG, hoG, hn5⟩
            simp only at hs hk0 hG hoG hn5
            by_cases hkh : k2 ≤ highD d A.length
            · cases h with
              | zero => exact absurd hs.symm hRn2
              | succ h =>
                rw [stepF, if_pos hkh] at hs
                cases hadv : advF A.reverse B.reverse G k2 with
                | none => rw [hadv] at hs; exact absurd hs.symm hRn2
                | some xf =>
                  obtain ⟨x, G'⟩ := xf
                  rw [hadv] at hs
                  simp only [len_rev] at hs
                  have af := adv_facts hadv hoG
                  simp only [len_rev] at af
                  have hrc := rch_ok (far := F) (n := A.length) (m := B.length) (j := A.length - B.length - k2) hoF (by omega) (by omega) (by omega)
                  refine AW.of hΓ mixed [17] _ _ _ rfl ?_
                  simp only [go_sem, sNewWalk, sAdvance, sReached, sDiagonals, hkh]
                  refine advance_go (far := G) (far' := G') (x := x) (rest := f2.drop N) (p := 2) (by rw [hG]; exact AVle.refl _) (row_len (by simp)) (by decide) hoG (by simp; omega) (by simp; omega) hadv fun n6 hn6 => ?_
                  simp only [go_sem, sNewWalk, sAdvance, sReached, sDiagonals]
                  refine AW.of hΓ mixed [99999] _ _ _ rfl ?_
                  simp only [go_sem, sNewWalk, sAdvance, sReached, sDiagonals, kW_dec, gL_sL, gF, len_rev, hF]
                  refine ⟨fun _ => by omega, fun _ => by omega, fun _ => ⟨by omega, kW_ok (a := A) (b := B) (f := F) (AVle.refl _) (AVle.refl _) pF (gL_sL _ _) (gL_sL _ _) gF, by omega, by omega, by omega, by omega⟩, fun _ => by omega, fun hm => ?_, fun hm => ⟨by omega, ⟨(h, k2 + 2, G', n6), ?_, by dsimp only; omega, by dsimp only; omega, af.2.1 (by omega), by dsimp only; omega⟩, ⟨Nat.le_refl _, rfl, RowLe.refl _, RowLe.refl _, RowLe.refl _, RowLe.refl _, RowLe.refl _⟩, Nat.lt_succ_self _⟩⟩
                  · rw [if_pos ⟨by simp [hm.1], hm.2⟩] at hs
                    subst hs
                    simp only [Option.some.injEq, Prod.mk.injEq] at hmid
                    obtain ⟨e1, e2⟩ := hmid
                    refine ⟨by omega, by omega, by omega, ?_⟩
                    rw [e2, e1]
                    exact hK (F ++ f1.drop N) (G' ++ f2.drop N) _ _ _ (by simp; omega) (by simp; omega) (RowLe.refl _) (row_len (by simp; omega)) (row_len (by simp)) (by omega)
                  · rw [if_neg (fun hh => hm (by simpa using hh.1) hh.2)] at hs
                    exact hs
            · cases h with
              | zero => exact absurd hs.symm hRn2
              | succ h =>
                rw [stepF, if_neg hkh] at hs
                subst hs
                simp only at hmid
                refine AW.of hΓ mixed [] _ _ _ rfl ?_
                simp (maxSteps := 2000000) only [go_sem, sNewWalk, sAdvance, sReached, sDiagonals, hkh]
                refine ⟨by omega, ⟨(d + 1, F, G, n5), ?_, hF, hG, hoF, hoG, hn5⟩, ⟨Nat.le_refl _, rfl, RowLe.refl _, RowLe.refl _, RowLe.refl _, RowLe.refl _, RowLe.refl _⟩, by dsimp only; omega⟩
                dsimp only
                rw [show A.length + B.length + 1 - (d + 1) = f by omega]
                exact hmid
end Go.Proofs.YtjfmigpahglajaaGreatDoor
set_option linter.unusedSimpArgs false
set_option linter.unusedVariables false
set_option maxRecDepth 100000
set_option maxHeartbeats 2000000
namespace Go.Proofs.YtjfmigpahglajaaGreatDoor
open Go
attribute [local irreducible] AW AVle ASle RowLe
def sMiddle : MSpec := framed sMiddle0
theorem okMiddle : MethOK Tryz.prog 174 sMiddle := okMiddle0.frame
theorem fAV_le {a b : List Int} {u v z u' v' z' : AV} (h1 : AVle u u') (h2 : AVle v v') (h3 : AVle z z') : ∀ j, AVle (fAV a b u v z j) (fAV a b u' v' z' j)
  | 0 => AVle.refl _
  | 1 => AVle.refl _
  | 2 => AVle.refl _
  | 3 => AVle.refl _
  | 4 => h1
  | 5 => h2
  | _ + 6 => h3
def sAdd0 : MSpec := fun args hp top nx K => ∃ a b u v l fv pv i j n, args = [.pt 0 fv 0, kI.enc (i : Nat), kI.enc (j : Nat), kI.enc (n : Nat)] ∧
  hp = rws [(0, .box fv 214 7 (fAV a b u v (.ow 1 pv l.length))), (1, rowL pv 108 (eP eI eI) l)] ∧ top = 2 ∧ pv < nx ∧
  i < 1000000000 ∧ j < 1000000000 ∧ n < 1000000000 ∧ l.length + n < 1000000000 ∧
  ∀ pv' hp' top' nx', (pv' = pv ∨ nx ≤ pv') → pv' < nx' → RowLe (hp' 0) (.box fv 214 7 (fAV a b u v (.ow 1 pv' (l ++ prs i j n).length))) → RowLe (hp' 1) (rowL pv' 108 (eP eI eI) (l ++ prs i j n)) → nx ≤ nx' →
    K (.val (.tuple #[])) hp' top' nx'
theorem okAdd0 : MethOK Tryz.prog 173 sAdd0 := by
  refine MethOK.mk Tryz.func173 rfl (by decide) Tryz.results173 Tryz.ntmps173 ?_
  rintro args hp top nx K ⟨a, b, u, v, l, fv, pv, i, j, n, rfl, rfl, rfl, hpv, hi, hj, hn, hl, hK⟩
  have hΓ : GOK Tryz.prog (gam []) := GOK.nil
  refine ⟨Nat.le_of_ble_eq_true rfl, ?_⟩
  refine AW.of hΓ mixed [] _ _ _ rfl ?_
  simp only [go_sem, fAV_6]
  refine AW.round (α := { x : Nat × Nat × Nat // x.1 ≤ n ∧ (x.2.1 = pv ∨ nx ≤ x.2.1) ∧ nx ≤ x.2.2 ∧ x.2.1 < x.2.2 })
    (fun x => ⟨[(0, .pt 0 fv 0), (1, .val (.int .i64 i)), (2, .val (.int .i64 j)), (9, .val (.int .i64 n)), (10, .val (.int .i64 x.1.1))],
      [(0, .box fv 214 7 (fAV a b u v (.ow 1 x.1.2.1 (l ++ prs i j x.1.1).length))), (1, rowL x.1.2.1 108 (eP eI eI) (l ++ prs i j x.1.1))], 30, 2, x.1.2.2, []⟩) (fun x => n - x.1.1) ⟨(0, pv, nx), by simp, .inl rfl, Nat.le_refl _, hpv⟩ ?_ ?_
  · simp only [go_sem]
    exact ⟨RowLe.of_eq (by simp [prs]), RowLe.of_eq (by simp [prs])⟩
  · rintro ⟨⟨k, w, m⟩, hk, hw, hm, hwm⟩
    simp only at hk hw hm hwm
    refine AW.of hΓ mixed [99999] _ _ _ rfl ?_
    simp only [go_sem, fAV_6, pp_sz]
    have hps : prs i j (k + 1) = prs i j k ++ [((i : Int) + (k : Int), (j : Int) + (k : Int))] := by
      unfold prs
      rw [List.range_succ, List.map_append]
      rfl
    have hpl : (prs i j k).length = k := prs_len _ _ _
    refine ⟨fun hlt => ⟨by omega, by omega, by omega, by omega, ⟨(k + 1, m, m + 1), by dsimp only; omega, .inr hm, by dsimp only; omega, Nat.lt_succ_self _⟩, ⟨Nat.le_refl _, rfl, ?_, ?_⟩, by dsimp only; omega⟩, fun hge => ?_⟩
    · refine RowLe.box fun j' hj' => ?_
      match j', hj' with
      | 0, _ => exact AVle.refl _
      | 1, _ => exact AVle.refl _
      | 2, _ => exact AVle.refl _
      | 3, _ => exact AVle.refl _
      | 4, _ => exact AVle.refl _
      | 5, _ => exact AVle.refl _
      | 6, _ => exact AVle.of_eq (by dsimp only; rw [hps]; simp [stC, fAV, Nat.add_assoc])
    · refine row_app1 (E := eP eI eI) (l := l ++ prs i j k) (x := ((i : Int) + (k : Int), (j : Int) + (k : Int))) rfl (by dsimp only; rw [hps, List.append_assoc]) (by simp) (by simp) (by dsimp only; rw [hps]; simp) fun j' hj' => ?_
      match j', hj' with
      | 0, _ => exact AVle.refl _
      | 1, _ => exact AVle.refl _
    · obtain rfl : k = n := by omega
      exact hK w _ _ _ hw hwm (RowLe.of_eq (by rw [List.length_append]; rfl)) (rowE rfl rfl (by simp)) hm
def sAdd : MSpec := framed sAdd0
theorem okAdd : MethOK Tryz.prog 173 sAdd := okAdd0.frame
theorem add_go {a b : List Int} {u v : AV} {l : List (Int × Int)} {fv pv i j n : Nat} {x y z : Int} {hp : Nat → Row} {top nx : Nat} {K : AV → (Nat → Row) → Nat → Nat → Prop} (hx : x = (i : Nat)) (hy : y = (j : Nat)) (hz : z = (n : Nat))
    (h0 : RowLe (hp 0) (.box fv 214 7 (fAV a b u v (.ow 3 pv l.length)))) (h3 : RowLe (hp 3) (rowL pv 108 (eP eI eI) l)) (ht : 3 < top) (hpv : pv < nx)
    (hi : i < 1000000000) (hj : j < 1000000000) (hn : n < 1000000000) (hl : l.length + n < 1000000000)
    (hK : ∀ pv' nx', (pv' = pv ∨ nx ≤ pv') → pv' < nx' → nx ≤ nx' → K (.val (.tuple #[])) (updR (updR hp 0 (.box fv 214 7 (fAV a b u v (.ow 3 pv' (l ++ prs i j n).length)))) 3 (rowL pv' 108 (eP eI eI) (l ++ prs i j n))) top nx') :
    sAdd [.pt 0 fv 0, .val (.int .i64 x), .val (.int .i64 y), .val (.int .i64 z)] hp top nx K := by
  subst hx hy hz
  have v0 := h0.vers
  have v3 := h3.vers
  refine ⟨[0, 3], [.pt 0 fv 0, kI.enc (i : Nat), kI.enc (j : Nat), kI.enc (n : Nat)], rws [(0, .box fv 214 7 (fAV a b u v (.ow 1 pv l.length))), (1, rowL pv 108 (eP eI eI) l)],
    by decide, fun p hp => ?_, .cons (AVle.refl _) (.cons (AVle.refl _) (.cons (AVle.refl _) (.cons (AVle.refl _) .nil))), fun k q hk => ?_, fun k hk => rws_top (top := 2) (by simp) k (by simpa using hk), a, b, u, v, l, fv, pv, i, j, n, rfl, rfl, rfl, hpv, hi, hj, hn, hl, fun pv' hp' top' nx' e1 e2 e3 e4 e5 => ?_⟩
  · rcases List.mem_cons.1 hp with rfl | hp
    · omega
    · rw [List.mem_singleton.1 hp]; exact ht
  · match k, hk with
    | 0, hk =>
      obtain rfl : 0 = q := Option.some.inj hk
      exact h0.trans (RowLe.box fun j' hj' => fAV_le (AVle.refl _) (AVle.refl _) AVle.ow j')
    | 1, hk =>
      obtain rfl : 3 = q := Option.some.inj hk
      exact h3
  · refine ⟨_, _, AVle.refl _, fun k q hk => ?_, fun q hq => ?_, fun q hq w hw => ?_, hK pv' nx' e1 e2 e5⟩
    · match k, hk with
      | 0, hk =>
        obtain rfl : 0 = q := Option.some.inj hk
        exact e3.trans (RowLe.box fun j' hj' => fAV_le (AVle.refl _) (AVle.refl _) AVle.ow j')
      | 1, hk =>
        obtain rfl : 3 = q := Option.some.inj hk
        exact e4
    · simp only [List.mem_cons, List.mem_nil_iff, or_false, not_or] at hq
      rw [updR_ne _ _ hq.2, updR_ne _ _ hq.1]
    · rcases List.mem_cons.1 hq with rfl | hq
      · exact .inl (v0.symm.trans hw)
      · obtain rfl := List.mem_singleton.1 hq
        obtain rfl : pv' = w := Option.some.inj hw
        rcases e1 with rfl | e1
        · exact .inl v3.symm
        · exact .inr e1
theorem middle_go {a b f1 f2 : List Int} {z : AV} {fv v1 v2 fa ta fb tb : Nat} {p q x y r s : Int} {hp : Nat → Row} {top nx : Nat} {K : AV → (Nat → Row) → Nat → Nat → Prop} (hx : x = (fa : Nat)) (hy : y = (ta : Nat)) (hr : r = (fb : Nat)) (hs : s = (tb : Nat))
    (h0 : RowLe (hp 0) (.box fv 214 7 (fAV a b (.ow 1 v1 f1.length) (.ow 2 v2 f2.length) z))) (h1 : RowLe (hp 1) (rowL v1 3 eI f1)) (h2 : RowLe (hp 2) (rowL v2 3 eI f2)) (ht : 2 < top)
    (hfa : fa ≤ ta) (hta : ta ≤ a.length) (hfb : fb ≤ tb) (htb : tb ≤ b.length) (ha : a.length < 100000000) (hb : b.length < 100000000) (hr1 : a.length + b.length + 3 ≤ f1.length) (hr2 : a.length + b.length + 3 ≤ f2.length) (hl1 : f1.length < 1000000000) (hl2 : f2.length < 1000000000)
    (hcut : cutF (partL a fa ta) (partL b fb tb) = some (p, q))
    (hK : ∀ g1 g2 nx', g1.length = f1.length → g2.length = f2.length → nx ≤ nx' →
      K (tu2 (kI.enc p) (kI.enc q)) (updR (updR (updR hp 0 (.box fv 214 7 (fAV a b (.ow 1 v1 f1.length) (.ow 2 v2 f2.length) z))) 1 (rowL v1 3 eI g1)) 2 (rowL v2 3 eI g2)) top nx') :
    sMiddle [.pt 0 fv 0, .val (.int .i64 x), .val (.int .i64 y), .val (.int .i64 r), .val (.int .i64 s)] hp top nx K := by
  subst hx hy hr hs
  have w0 := h0.vers
  have w1 := h1.vers
  have w2 := h2.vers
  refine ⟨[0, 1, 2], [.pt 0 fv 0, kI.enc (fa : Nat), kI.enc (ta : Nat), kI.enc (fb : Nat), kI.enc (tb : Nat)], rws [(0, .box fv 214 7 (fAV a b (.ow 1 v1 f1.length) (.ow 2 v2 f2.length) z)), (1, rowL v1 3 eI f1), (2, rowL v2 3 eI f2)],
    by decide, fun p hp => ?_, .cons (AVle.refl _) (.cons (AVle.refl _) (.cons (AVle.refl _) (.cons (AVle.refl _) (.cons (AVle.refl _) .nil)))), fun k q hk => ?_, fun k hk => rws_top (top := 3) (by simp) k (by simpa using hk), a, b, f1, f2, z, fv, v1, v2, fa, ta, fb, tb, p, q, rfl, rfl, rfl, hfa, hta, hfb, htb, ha, hb, hr1, hr2, hl1, hl2, hcut, fun g1 g2 hp' top' nx' e1 e2 e3 e4 e5 e6 => ?_⟩
  · simp only [List.mem_cons, List.mem_nil_iff, or_false] at hp
    omega
  · match k, hk with
    | 0, hk => obtain rfl : 0 = q := Option.some.inj hk; exact h0
    | 1, hk => obtain rfl : 1 = q := Option.some.inj hk; exact h1
    | 2, hk => obtain rfl : 2 = q := Option.some.inj hk; exact h2
  · refine ⟨_, _, AVle.refl _, fun k q hk => ?_, fun q hq => ?_, fun q hq w hw => ?_, hK g1 g2 nx' e1 e2 e6⟩
    · match k, hk with
      | 0, hk => obtain rfl : 0 = q := Option.some.inj hk; exact e3
      | 1, hk => obtain rfl : 1 = q := Option.some.inj hk; exact e4
      | 2, hk => obtain rfl : 2 = q := Option.some.inj hk; exact e5
    · simp only [List.mem_cons, List.mem_nil_iff, or_false, not_or] at hq
      rw [updR_ne _ _ hq.2.2, updR_ne _ _ hq.2.1, updR_ne _ _ hq.1]
    · simp only [List.mem_cons, List.mem_nil_iff, or_false] at hq
      rcases hq with rfl | rfl | rfl
      · exact .inl (w0.symm.trans hw)
      · exact .inl (w1.symm.trans hw)
      · exact .inl (w2.symm.trans hw)
end Go.Proofs.YtjfmigpahglajaaGreatDoor
set_option linter.unusedSimpArgs false
set_option linter.unusedVariables false
set_option maxRecDepth 100000
set_option maxHeartbeats 2000000
namespace Go.Proofs.YtjfmigpahglajaaGreatDoor
open Go
attribute [local irreducible] AW AVle ASle RowLe
def fRows (a b : List Int) (fv v1 v2 pv : Nat) (g1 g2 : List Int) (l : List (Int × Int)) : List (Nat × Row) :=
  [(0, .box fv 214 7 (fAV a b (.ow 1 v1 g1.length) (.ow 2 v2 g2.length) (.ow 3 pv l.length))), (1, rowL v1 3 eI g1), (2, rowL v2 3 eI g2), (3, rowL pv 108 (eP eI eI) l)]
def sFind0 (N : Nat) : MSpec := fun args hp top nx K => ∃ a b f1 f2 l fv v1 v2 pv fa ta fb tb, args = [.pt 0 fv 0, kI.enc (fa : Nat), kI.enc (ta : Nat), kI.enc (fb : Nat), kI.enc (tb : Nat)] ∧
  hp = rws (fRows a b fv v1 v2 pv f1 f2 l) ∧ top = 4 ∧ pv < nx ∧
  fa ≤ ta ∧ ta ≤ a.length ∧ fb ≤ tb ∧ tb ≤ b.length ∧ a.length < 100000000 ∧ b.length < 100000000 ∧ a.length + b.length + 3 ≤ f1.length ∧ a.length + b.length + 3 ≤ f2.length ∧ f1.length < 1000000000 ∧ f2.length < 1000000000 ∧
  l.length + (ta - fa) < 500000000 ∧ (ta - fa) + (tb - fb) < N ∧
  ∀ g1 g2 pv' hp' top' nx', g1.length = f1.length → g2.length = f2.length → (pv' = pv ∨ nx ≤ pv') → pv' < nx' → (∀ i, i < 4 → RowLe (hp' i) (rws (fRows a b fv v1 v2 pv' g1 g2 (l ++ shP fa fb (findG (partL a fa ta) (partL b fb tb)))) i)) → nx ≤ nx' →
    K (.val (.tuple #[])) hp' top' nx'
def sFind (N : Nat) : MSpec := framed (sFind0 N)
theorem find_go {N : Nat} {a b f1 f2 : List Int} {l : List (Int × Int)} {fv v1 v2 pv fa ta fb tb : Nat} {x y r s : Int} {hp : Nat → Row} {top nx : Nat} {K : AV → (Nat → Row) → Nat → Nat → Prop} (hx : x = (fa : Nat)) (hy : y = (ta : Nat)) (hr : r = (fb : Nat)) (hs : s = (tb : Nat))
    (h0 : ∀ i, i < 4 → RowLe (hp i) (rws (fRows a b fv v1 v2 pv f1 f2 l) i)) (ht : 3 < top) (hpv : pv < nx)
    (hfa : fa ≤ ta) (hta : ta ≤ a.length) (hfb : fb ≤ tb) (htb : tb ≤ b.length) (ha : a.length < 100000000) (hb : b.length < 100000000) (hr1 : a.length + b.length + 3 ≤ f1.length) (hr2 : a.length + b.length + 3 ≤ f2.length) (hl1 : f1.length < 1000000000) (hl2 : f2.length < 1000000000)
    (hl : l.length + (ta - fa) < 500000000) (hN : (ta - fa) + (tb - fb) < N)
    (hK : ∀ g1 g2 pv' hp' nx', g1.length = f1.length → g2.length = f2.length → (pv' = pv ∨ nx ≤ pv') → pv' < nx' → nx ≤ nx' → (∀ i, i < 4 → hp' i = rws (fRows a b fv v1 v2 pv' g1 g2 (l ++ shP fa fb (findG (partL a fa ta) (partL b fb tb)))) i) → (∀ i, 4 ≤ i → hp' i = hp i) → K (.val (.tuple #[])) hp' top nx') :
    sFind N [.pt 0 fv 0, .val (.int .i64 x), .val (.int .i64 y), .val (.int .i64 r), .val (.int .i64 s)] hp top nx K := by
  subst hx hy hr hs
  have w := fun i hi => (h0 i hi).vers
  have lt4 : ∀ (k q : Nat), [0, 1, 2, 3][k]? = some q → k = q ∧ k < 4 := fun k q hk => by
    match k, hk with
    | 0, hk => exact ⟨Option.some.inj hk, by decide⟩
    | 1, hk => exact ⟨Option.some.inj hk, by decide⟩
    | 2, hk => exact ⟨Option.some.inj hk, by decide⟩
    | 3, hk => exact ⟨Option.some.inj hk, by decide⟩
  have mem4 : ∀ q, q ∈ [0, 1, 2, 3] ↔ q < 4 := fun q => by simp; omega
  refine ⟨[0, 1, 2, 3], [.pt 0 fv 0, kI.enc (fa : Nat), kI.enc (ta : Nat), kI.enc (fb : Nat), kI.enc (tb : Nat)], rws (fRows a b fv v1 v2 pv f1 f2 l),
    by decide, fun p hp => ?_, .cons (AVle.refl _) (.cons (AVle.refl _) (.cons (AVle.refl _) (.cons (AVle.refl _) (.cons (AVle.refl _) .nil)))), fun k q hk => ?_, fun k hk => rws_top (top := 4) (by simp [fRows]) k (by simpa using hk), a, b, f1, f2, l, fv, v1, v2, pv, fa, ta, fb, tb, rfl, rfl, rfl, hpv, hfa, hta, hfb, htb, ha, hb, hr1, hr2, hl1, hl2, hl, hN, fun g1 g2 pv' hp' top' nx' e1 e2 e3 e4 e5 e6 => ?_⟩
  · have := (mem4 p).1 hp; omega
  · obtain ⟨rfl, h⟩ := lt4 k q hk
    exact h0 k h
  · refine ⟨_, fun i => if i < 4 then rws (fRows a b fv v1 v2 pv' g1 g2 (l ++ shP fa fb (findG (partL a fa ta) (partL b fb tb)))) i else hp i, AVle.refl _, fun k q hk => ?_, fun q hq => ?_, fun q hq u hu => ?_, hK g1 g2 pv' _ nx' e1 e2 e3 e4 e6 (fun i hi => if_pos hi) (fun i hi => if_neg (by omega))⟩
    · obtain ⟨rfl, h⟩ := lt4 k q hk
      simp only [if_pos h]
      exact e5 k h
    · rw [mem4] at hq
      exact if_neg hq
    · rw [mem4] at hq
      simp only [if_pos hq] at hu
      have := w q hq
      match q, hq with
      | 0, _ => exact .inl (this.symm.trans hu)
      | 1, _ => exact .inl (this.symm.trans hu)
      | 2, _ => exact .inl (this.symm.trans hu)
      | 3, _ =>
        obtain rfl : pv' = u := Option.some.inj hu
        rcases e3 with rfl | e3
        · exact .inl this.symm
        · exact .inr e3
theorem AW.cutF {P : Program} {x : Code} {Q : Exit → AS → Prop} {st : AS} (fr : List (Nat × AV)) (a b : List Int) (fv v1 v2 pv : Nat) (g1 g2 : List Int) (l : List (Int × Int)) (hr : ∀ i, i < 4 → RowLe (st.hp i) (rws (fRows a b fv v1 v2 pv g1 g2 l) i)) (nx : Nat) (hz : st.sz = 91) (hd : st.df = []) (hnx : st.nx = nx)
    (hfr : ∀ p ∈ fr, AVle (st.fr p.1) p.2) (k : AW P x Q (Sh.st ⟨fr, fRows a b fv v1 v2 pv g1 g2 l, 91, 4, nx, []⟩)) : AW P x Q st := by
  refine AW.cut ⟨fr, fRows a b fv v1 v2 pv g1 g2 l, 91, 4, nx, []⟩ ⟨⟨⟨hz.symm, hd.symm⟩, Nat.le_of_eq hnx⟩, hfr, ?_, ?_⟩ k
  · rintro p hp
    simp only [fRows, List.mem_cons, List.mem_nil_iff, or_false] at hp
    rcases hp with rfl | rfl | rfl | rfl
    · exact hr 0 (by decide)
    · exact hr 1 (by decide)
    · exact hr 2 (by decide)
    · exact hr 3 (by decide)
  · rintro p hp
    simp only [fRows, List.mem_cons, List.mem_nil_iff, or_false] at hp
    rcases hp with rfl | rfl | rfl | rfl <;> simp
theorem all4 {p : Nat → Prop} (h0 : p 0) (h1 : p 1) (h2 : p 2) (h3 : p 3) : ∀ i, i < 4 → p i
  | 0, _ => h0
  | 1, _ => h1
  | 2, _ => h2
  | 3, _ => h3
  | i + 4, h => by omega
theorem okFindB : MethOK Tryz.prog 158 (sFind 0) := by
  refine MethOK.frame ?_
  refine MethOK.mk Tryz.func158 rfl (by decide) Tryz.results158 Tryz.ntmps158 ?_
  rintro args hp top nx K ⟨_, _, _, _, _, _, _, _, _, _, _, _, _, _, _, _, _, _, _, _, _, _, _, _, _, _, _, _, h, _⟩
  omega
theorem okFindS (N : Nat) (ih : MethOK Tryz.prog 158 (sFind N)) : MethOK Tryz.prog 158 (sFind (N + 1)) := by
  refine MethOK.frame ?_
  refine MethOK.mk Tryz.func158 rfl (by decide) Tryz.results158 Tryz.ntmps158 ?_
  rintro args hp top nx K ⟨a, b, f1, f2, l, fv, v1, v2, pv, fa, ta, fb, tb, rfl, rfl, rfl, hpv, hfa, hta, hfb, htb, ha, hb, hr1, hr2, hl1, hl2, hl, hN, hK⟩
  have hΓ : GOK Tryz.prog (gam [(172, sEndsI), (173, sAdd), (174, sMiddle), (158, (Con.meth (sFind N)))]) := .cons okEndsI (.cons okAdd (.cons okMiddle (.cons ih .nil)))
  refine ⟨Nat.le_of_ble_eq_true rfl, ?_⟩
  have pA : (List.range (ta - fa)).map (fun i => a.getD (fa + i) 0) = partL a fa ta := by rw [part_eq a 0 (by omega)]; rfl
  have pB : (List.range (tb - fb)).map (fun i => b.getD (fb + i) 0) = partL b fb tb := by rw [part_eq b 0 (by omega)]; rfl
  have lA : (partL a fa ta).length = ta - fa := partL_len hta
  have lB : (partL b fb tb).length = tb - fb := partL_len htb
  obtain ⟨A, hA⟩ : ∃ A, partL a fa ta = A := ⟨_, rfl⟩
  obtain ⟨B, hB⟩ : ∃ B, partL b fb tb = B := ⟨_, rfl⟩
  have hbh : bhd (A.drop (ahd A B)) (B.drop (ahd A B)) = bh A B := rfl
  rw [hA] at pA lA
  rw [hB] at pB lB
  refine AW.of hΓ mixed [1, 99999] _ _ _ rfl ?_
  simp only [go_sem, fRows, fAV_0, fAV_1, sEndsI, pA, pB, hbh]
  have hbl := bh_le (a := A) (b := B)
  have hcl := core_len (a := A) (b := B)
  obtain ⟨h, hh⟩ : ∃ h, ahd A B = h := ⟨_, rfl⟩
  obtain ⟨e, he⟩ : ∃ e, bh A B = e := ⟨_, rfl⟩
  rw [hh, he] at hbl hcl ⊢
  refine ⟨by omega, by omega, by omega, add_go (l := l) (pv := pv) (i := fa) (j := fb) (n := h) rfl rfl rfl (RowLe.refl _) (RowLe.refl _) (by decide) hpv (by omega) (by omega) (by omega) (by omega) fun p1 n1 hp1 hpn1 hn1 => ?_⟩
  simp only [methK_app, contX_app, xOps_nil, rest_normal]
  refine AW.cutF [(0, .pt 0 fv 0), (1, .val (.int .i64 fa)), (2, .val (.int .i64 ta)), (3, .val (.int .i64 fb)), (4, .val (.int .i64 tb)), (10, .val (.int .i64 h)), (11, .val (.int .i64 e))] a b fv v1 v2 p1 f1 f2 (l ++ prs fa fb h)
    (all4 (RowLe.refl _) (RowLe.refl _) (RowLe.refl _) (RowLe.refl _)) n1 rfl rfl rfl ?_ ?_
  · simp only [go_sem]
  have eG : ∀ m, A.length = m → True := fun _ _ => trivial
  by_cases hc : (core A B).length ≠ 0 ∧ (coreR A B).length ≠ 0
  · obtain ⟨p, q, hcut, hpl, hql, hpq, hpq2, hG⟩ := findG_some hc.1 hc.2
    have c1 : (fa : Int) + h < ta - e := by omega
    have c2 : (fb : Int) + h < tb - e := by omega
    refine AW.of hΓ mixed [5, 99999] _ _ _ rfl ?_
    simp only [go_sem, c1, c2]
    have eC : core A B = partL a (fa + h) (ta - e) := by
      rw [core, hh, he, lA, ← hA, partL_drop, partL_take (by omega)]
      congr 1
      omega
    have eD : coreR A B = partL b (fb + h) (tb - e) := by
      rw [coreR, hh, he, lB, ← hB, partL_drop, partL_take (by omega)]
      congr 1
      omega
    refine ⟨by omega, by omega, by omega, by omega, middle_go (a := a) (b := b) (f1 := f1) (f2 := f2) (fv := fv) (v1 := v1) (v2 := v2) (fa := fa + h) (ta := ta - e) (fb := fb + h) (tb := tb - e) (p := p) (q := q) (by omega) (by omega) (by omega) (by omega) (RowLe.refl _) (RowLe.refl _) (RowLe.refl _) (by decide)
      (by omega) (by omega) (by omega) (by omega) ha hb hr1 hr2 hl1 hl2 (by rw [← eC, ← eD]; exact hcut) fun g1 g2 n2 hg1 hg2 hn2 => ?_⟩
    simp only [go_sem, tu2]
    refine AW.cutF [(0, .pt 0 fv 0), (1, .val (.int .i64 ((fa + h : Nat) : Int))), (2, .val (.int .i64 ((ta - e : Nat) : Int))), (3, .val (.int .i64 ((fb + h : Nat) : Int))), (4, .val (.int .i64 ((tb - e : Nat) : Int))), (10, .val (.int .i64 h)), (11, .val (.int .i64 e)), (12, .val (.int .i64 p)), (13, .val (.int .i64 q))] a b fv v1 v2 p1 g1 g2 (l ++ prs fa fb h)
      (all4 (RowLe.of_eq (by show Row.box fv 214 7 (fAV a b (.ow 1 v1 f1.length) (.ow 2 v2 f2.length) (.ow 3 p1 (l.length + (prs fa fb h).length))) = _; rw [← hg1, ← hg2, ← List.length_append]; rfl)) (RowLe.refl _) (RowLe.refl _) (RowLe.refl _)) n2 rfl rfl rfl ?_ ?_
    · simp only [go_sem]
      exact ⟨by omega, by omega, by omega, by omega⟩
    have eP1 : (core A B).take p = partL a (fa + h) (fa + h + p) := by rw [eC]; exact partL_take (by omega)
    have eP2 : (coreR A B).take q = partL b (fb + h) (fb + h + q) := by rw [eD]; exact partL_take (by omega)
    have eP3 : (core A B).drop p = partL a (fa + h + p) (ta - e) := by rw [eC]; exact partL_drop
    have eP4 : (coreR A B).drop q = partL b (fb + h + q) (tb - e) := by rw [eD]; exact partL_drop
    rw [eP1, eP2, eP3, eP4] at hG
    have hG1 : (findG (partL a (fa + h) (fa + h + p)) (partL b (fb + h) (fb + h + q))).length ≤ p := by
      have := lcsN_le (partL a (fa + h) (fa + h + p)) (partL b (fb + h) (fb + h + q))
      rw [findG_len]
      rw [partL_len (by omega), partL_len (by omega)] at this
      omega
    have hG2 : (findG (partL a (fa + h + p) (ta - e)) (partL b (fb + h + q) (tb - e))).length ≤ ta - e - (fa + h + p) := by
      have := lcsN_le (partL a (fa + h + p) (ta - e)) (partL b (fb + h + q) (tb - e))
      rw [findG_len]
      rw [partL_len (by omega), partL_len (by omega)] at this
      omega
    refine AW.of hΓ mixed [6, 99999] _ _ _ rfl ?_
    simp only [go_sem]
    refine ⟨by omega, by omega, find_go (a := a) (b := b) (f1 := g1) (f2 := g2) (fv := fv) (v1 := v1) (v2 := v2) (pv := p1) (l := l ++ prs fa fb h) (fa := fa + h) (ta := fa + h + p) (fb := fb + h) (tb := fb + h + q) (by omega) (by omega) (by omega) (by omega) (fun i _ => RowLe.refl _) (by decide) (by omega)
      (by omega) (by omega) (by omega) (by omega) ha hb (by omega) (by omega) (by omega) (by omega) (by rw [List.length_append, prs_len]; omega) (by omega) fun g3 g4 p2 hp2 n3 hg3 hg4 hpp2 hpn2 hn3 hE _ => ?_⟩
    simp only [methK_app, contX_app, xOps_nil, rest_normal]
    refine AW.cutF [(0, .pt 0 fv 0), (1, .val (.int .i64 ((fa + h : Nat) : Int))), (2, .val (.int .i64 ((ta - e : Nat) : Int))), (3, .val (.int .i64 ((fb + h : Nat) : Int))), (4, .val (.int .i64 ((tb - e : Nat) : Int))), (11, .val (.int .i64 e)), (12, .val (.int .i64 p)), (13, .val (.int .i64 q))] a b fv v1 v2 p2 g3 g4 _
      (fun i hi => RowLe.of_eq (hE i hi)) n3 rfl rfl rfl ?_ ?_
    · simp only [go_sem]
    refine AW.of hΓ mixed [7, 99999] _ _ _ rfl ?_
    simp only [go_sem]
    refine ⟨by omega, by omega, find_go (a := a) (b := b) (f1 := g3) (f2 := g4) (fv := fv) (v1 := v1) (v2 := v2) (pv := p2) (fa := fa + h + p) (ta := ta - e) (fb := fb + h + q) (tb := tb - e) (by omega) (by omega) (by omega) (by omega) (fun i _ => RowLe.refl _) (by decide) (by omega)
      (by omega) (by omega) (by omega) (by omega) ha hb (by omega) (by omega) (by omega) (by omega) (by simp only [List.length_append, prs_len, shP_len]; omega) (by omega) fun g5 g6 p3 hp3 n4 hg5 hg6 hpp3 hpn3 hn4 hE2 _ => ?_⟩
    simp only [go_sem]
    refine add_go (i := ta - e) (j := tb - e) (n := e) rfl rfl rfl (RowLe.of_eq (hE2 0 (by decide))) (RowLe.of_eq (hE2 3 (by decide))) (by decide) (by omega) (by omega) (by omega) (by omega) (by simp only [List.length_append, prs_len, shP_len]; omega) fun p4 n5 hp4 hpn4 hn5 => ?_
    have hfin : l ++ shP fa fb (findG A B) = l ++ prs fa fb h ++ shP ((fa + h : Nat) : Int) ((fb + h : Nat) : Int) (findG (partL a (fa + h) (fa + h + p)) (partL b (fb + h) (fb + h + q))) ++ shP ((fa + h + p : Nat) : Int) ((fb + h + q : Nat) : Int) (findG (partL a (fa + h + p) (ta - e)) (partL b (fb + h + q) (tb - e))) ++ prs ((ta - e : Nat) : Int) ((tb - e : Nat) : Int) e := by
      rw [hG, hh, he]
      simp only [shP_app, shP_prs, shP_shP, List.append_assoc, Int.add_zero]
      rw [show (fa : Int) + ((A.length : Int) - e) = ((ta - e : Nat) : Int) by omega, show (fb : Int) + ((B.length : Int) - e) = ((tb - e : Nat) : Int) by omega, show (fa : Int) + h = ((fa + h : Nat) : Int) by omega, show (fb : Int) + h = ((fb + h : Nat) : Int) by omega,
        show (fa : Int) + ((h : Int) + p) = ((fa + h + p : Nat) : Int) by omega, show (fb : Int) + ((h : Int) + q) = ((fb + h + q : Nat) : Int) by omega]
    simp only [methK_app, contX_app, xOps_nil, retM_normal, endM, true_and]
    refine hK g5 g6 p4 _ _ _ (by omega) (by omega) (by omega) hpn4 ?_ (by omega)
    rw [hA, hB, hfin]
    refine all4 (RowLe.refl _) (RowLe.of_eq (hE2 1 (by decide))) (RowLe.of_eq (hE2 2 (by decide))) (RowLe.refl _)
  · have c12 : ¬ ((fa : Int) + h < ta - e ∧ (fb : Int) + h < tb - e) := by omega
    refine AW.of hΓ mixed [8, 99999] _ _ _ rfl ?_
    simp only [go_sem, c12, false_implies, not_false_eq_true, true_implies]
    refine ⟨by omega, by omega, by omega, by omega, fun _ => ?_⟩
    refine add_go (i := ta - e) (j := tb - e) (n := e) (by omega) (by omega) rfl (RowLe.refl _) (RowLe.refl _) (by decide) (by omega) (by omega) (by omega) (by omega) (by simp only [List.length_append, prs_len]; omega) fun p4 n5 hp4 hpn4 hn5 => ?_
    have hfin : l ++ shP fa fb (findG A B) = l ++ prs fa fb h ++ prs ((ta - e : Nat) : Int) ((tb - e : Nat) : Int) e := by
      rw [findG_none hc, hh, he]
      simp only [shP_app, shP_prs, List.append_assoc, Int.add_zero]
      rw [show (fa : Int) + ((A.length : Int) - e) = ((ta - e : Nat) : Int) by omega, show (fb : Int) + ((B.length : Int) - e) = ((tb - e : Nat) : Int) by omega]
    simp only [methK_app, contX_app, xOps_nil, retM_normal, endM, true_and]
    refine hK f1 f2 p4 _ _ _ rfl rfl (by omega) hpn4 ?_ (by omega)
    rw [hA, hB, hfin]
    refine all4 (RowLe.refl _) (RowLe.refl _) (RowLe.refl _) (RowLe.refl _)
theorem okFind (N : Nat) : MethOK Tryz.prog 158 (sFind N) := by
  induction N with
  | zero => exact okFindB
  | succ N ih => exact okFindS N ih
end Go.Proofs.YtjfmigpahglajaaGreatDoor
set_option linter.unusedSimpArgs false
set_option linter.unusedVariables false
set_option maxRecDepth 100000
set_option maxHeartbeats 2000000
namespace Go.Proofs.YtjfmigpahglajaaGreatDoor
open Go
attribute [local irreducible] AW AVle ASle RowLe
def mapB (ks : List Int) : Key → Option Value
  | .i n => if n ∈ ks then some (.bool true) else none
  | .s _ => none
theorem mapB_i (ks : List Int) (n : Int) : mapB ks (.i n) = if n ∈ ks then some (.bool true) else none := rfl
theorem mapB_push (ks : List Int) (n : Int) : setKey (mapB ks) (.i n) (.bool true) = mapB (ks ++ [n]) := by
  funext k
  cases k with
  | i m =>
    simp only [setKey, mapB]
    by_cases h : m = n
    · subst h; simp
    · rw [if_neg (fun e => h (by injection e))]; simp [h]
  | s x => simp [setKey, mapB]
theorem mapB_nil : mapB [] = fun _ => none := by
  funext k
  cases k <;> simp [mapB]
def sShared : Spec := Spec.f2 (kL eI) (kL eI) (fun a b => a.length < 100000000 ∧ b.length < 100000000) (fun a b => tu2 (sL eI (shI a b)) (sL eI (shQ a b)))
theorem okShared : SpecOK Tryz.prog 137 sShared := by
  refine SpecOK.f2 Tryz.func137 rfl (by decide) Tryz.results137 Tryz.ntmps137 (by decide) fun a b ⟨ha, hb⟩ => ?_
  have hΓ : GOK Tryz.prog (gam []) := GOK.nil
  refine AW.of hΓ mixed [] _ _ _ rfl ?_
  simp only [go_sem]
  refine AW.round (α := { x : Nat × Nat // x.1 ≤ b.length })
    (fun x => ⟨[(0, sL eI a), (6, .mp 0 0), (16, sL eI b), (17, .val (.int .i64 b.length)), (18, .val (.int .i64 x.1.1))], [(0, .mp 0 false x.1.2 (mapB (b.take x.1.1)))], 46, 1, 1, []⟩) (fun x => b.length - x.1.1) ⟨(0, 0), Nat.zero_le _⟩ ?_ ?_
  · simp only [go_sem]
    exact RowLe.of_eq (by rw [List.take_zero, mapB_nil])
  · rintro ⟨⟨i, n⟩, hi⟩
    simp only at hi
    refine AW.of hΓ mixed [99999] _ _ _ rfl ?_
    simp only [go_sem]
    refine ⟨fun hlt => ⟨by omega, by omega, ⟨(i + 1, if (mapB (b.take i) (Key.i (b.getD i 0))).isSome = true then n else n + 1), by dsimp only; omega⟩, ⟨by dsimp only; omega, RowLe.of_eq (by rw [mapB_push, ← take_snoc' (by omega)])⟩, by dsimp only; omega⟩, fun hge => ?_⟩
    obtain rfl : i = b.length := by omega
    rw [List.take_length]
    refine AW.adopt 9 3 1 (fun _ _ => .any) rfl ?_
    refine AW.adopt 10 3 1 (fun _ _ => .any) rfl ?_
    refine AW.round (α := { x : Nat × Nat × Nat × Nat // x.1 ≤ a.length })
      (fun x => ⟨[(6, .mp 0 0), (9, .ow 1 x.1.2.1 ((a.take x.1.1).filter fun y => b.contains y).length), (10, .ow 2 x.1.2.2.1 (plc (fun y => b.contains y) 0 (a.take x.1.1)).length), (25, sL eI a), (26, .val (.int .i64 a.length)), (27, .val (.int .i64 x.1.1))],
        [(0, .mp 0 false n (mapB b)), (1, rowL x.1.2.1 3 eI ((a.take x.1.1).filter fun y => b.contains y)), (2, rowL x.1.2.2.1 3 eI (plc (fun y => b.contains y) 0 (a.take x.1.1)))], 46, 3, x.1.2.2.2, []⟩) (fun x => a.length - x.1.1) ⟨(0, 1, 2, 3), Nat.zero_le _⟩ ?_ ?_
    · simp only [go_sem]
      exact ⟨⟨rfl, rfl⟩, RowLe.refl _, row_nil (E := eI) rfl, row_nil (E := eI) rfl⟩
    · rintro ⟨⟨j, v1, v2, nx⟩, hj⟩
      simp only at hj
      refine AW.of hΓ mixed [99999] _ _ _ rfl ?_
      simp only [go_sem, mapB_i]
      have l1 : ((a.take j).filter fun y => b.contains y).length ≤ j := Nat.le_trans (List.length_filter_le _ _) (by simp; omega)
      have l2 := plc_len (fun y => b.contains y) 0 (a.take j)
      refine ⟨fun hlt => ⟨by omega, ?_⟩, fun hge => ?_⟩
      · have ht : a.take (j + 1) = a.take j ++ [a.getD j 0] := take_snoc' (by omega)
        have hp := plc_snoc (fun y => b.contains y) (a.getD j 0) 0 (a.take j)
        have hk : (0 : Int) + ((a.take j).length : Int) = j := by simp; omega
        by_cases hm : a.getD j 0 ∈ b
        · have hc : b.contains (a.getD j 0) = true := by simpa using hm
          have e1 : ((a.take (j + 1)).filter fun y => b.contains y) = ((a.take j).filter fun y => b.contains y) ++ [a.getD j 0] := by
            rw [ht, List.filter_append, List.filter_cons_of_pos hc]; rfl
          have e2 : plc (fun y => b.contains y) 0 (a.take (j + 1)) = plc (fun y => b.contains y) 0 (a.take j) ++ [(j : Int)] := by
            rw [ht, hp, if_pos hc, hk]
          rw [if_pos hm]
          simp only [go_sem, Option.getD_some]
          refine ⟨by omega, by omega, by omega, ⟨(j + 1, nx, nx + 1, nx + 2), by dsimp only; omega⟩, ⟨by dsimp only; omega, ⟨⟨rfl, by dsimp only; rw [e1]; simp⟩, ⟨rfl, by dsimp only; rw [e2]; simp⟩, by dsimp only; omega⟩, RowLe.refl _, ?_, ?_⟩, by dsimp only; omega⟩
          · exact row_app1 (E := eI) rfl e1 rfl rfl rfl (fun _ _ => AVle.refl _)
          · exact row_app1 (E := eI) rfl e2 rfl rfl rfl (fun _ _ => AVle.refl _)
        · have hc : ¬ b.contains (a.getD j 0) = true := by simpa using hm
          have e1 : ((a.take (j + 1)).filter fun y => b.contains y) = ((a.take j).filter fun y => b.contains y) := by
            rw [ht, List.filter_append, List.filter_cons_of_neg hc]; simp
          have e2 : plc (fun y => b.contains y) 0 (a.take (j + 1)) = plc (fun y => b.contains y) 0 (a.take j) := by
            rw [ht, hp, if_neg hc]; simp
          rw [if_neg hm]
          simp only [go_sem, Option.getD_none]
          refine ⟨by omega, ⟨(j + 1, v1, v2, nx), by dsimp only; omega⟩, ⟨Nat.le_refl _, ⟨⟨rfl, by dsimp only; rw [e1]⟩, ⟨rfl, by dsimp only; rw [e2]⟩, by dsimp only; omega⟩, RowLe.refl _, by dsimp only; rw [e1]; exact RowLe.refl _, by dsimp only; rw [e2]; exact RowLe.refl _⟩, by dsimp only; omega⟩
      · obtain rfl : j = a.length := by omega
        rw [List.take_length]
        exact ⟨vw_all (E := eI) (l := shI a b) rfl rfl rfl, vw_all (E := eI) (l := shQ a b) rfl rfl rfl⟩
end Go.Proofs.YtjfmigpahglajaaGreatDoor
set_option linter.unusedSimpArgs false
set_option linter.unusedVariables false
set_option maxRecDepth 100000
set_option maxHeartbeats 2000000
namespace Go.Proofs.YtjfmigpahglajaaGreatDoor
open Go
attribute [local irreducible] AW AVle ASle RowLe
def sCloneI : MSpec := fun args hp top nx K => ∃ x l, args = [x] ∧ AVle x (sL eI l) ∧ l.length < 1000000000 ∧ ∀ ver nx', nx ≤ ver → ver < nx' → K (.ow top ver l.length) (updR hp top (rowL ver 3 eI l)) (top + 1) nx'
theorem okCloneI : MethOK Tryz.prog 170 sCloneI := by
  refine MethOK.mk Tryz.func170 rfl (by decide) Tryz.results170 Tryz.ntmps170 ?_
  rintro args hp top nx K ⟨x, l, rfl, hx, hl, hK⟩
  have hΓ : GOK Tryz.prog (gam []) := GOK.nil
  refine ⟨Nat.le_of_ble_eq_true rfl, ?_⟩
  refine AW.le (stM_le (.cons hx .nil)) ?_
  refine AW.of hΓ mixed [2, 99999] _ _ _ rfl ?_
  simp only [go_sem]
  refine ⟨fun h0 => ?_, ?_⟩
  · refine AW.adopt 2 3 1 (fun i => eI.enc (l.getD i 0)) rfl ?_
    refine AW.of hΓ mixed [] _ _ _ rfl ?_
    simp only [go_sem]
    obtain rfl := List.length_eq_zero_iff.1 h0
    exact hK nx (nx + 1) (Nat.le_refl _) (Nat.lt_succ_self _)
  · exact ⟨by omega, hK nx (nx + 1) (Nat.le_refl _) (Nat.lt_succ_self _)⟩
def sReverseI0 : MSpec := fun args hp top nx K => ∃ l ver, args = [.ow 0 ver l.length] ∧ hp = rws [(0, rowL ver 3 eI l)] ∧ top = 1 ∧ l.length < 1000000000 ∧
  ∀ hp' top' nx', RowLe (hp' 0) (rowL ver 3 eI l.reverse) → nx ≤ nx' → K (.val (.tuple #[])) hp' top' nx'
theorem okReverseI0 : MethOK Tryz.prog 171 sReverseI0 := by
  refine MethOK.mk Tryz.func171 rfl (by decide) Tryz.results171 Tryz.ntmps171 ?_
  rintro args hp top nx K ⟨l, ver, rfl, rfl, rfl, hl, hK⟩
  have hΓ : GOK Tryz.prog (gam []) := GOK.nil
  refine ⟨Nat.le_of_ble_eq_true rfl, ?_⟩
  refine AW.of hΓ mixed [200003] _ _ _ rfl ?_
  simp only [go_sem]
  refine ⟨by omega, ?_⟩
  refine AW.round (α := { x : Nat × List Int // 2 * x.1 ≤ l.length + 1 ∧ x.2.length = l.length ∧ ∀ k, k < l.length → x.2.getD k 0 = if k < x.1 ∨ l.length - 1 - x.1 < k then l.getD (l.length - 1 - k) 0 else l.getD k 0 })
    (fun x => ⟨[(0, .ow 0 ver l.length), (2, .val (.int .i64 x.1.1)), (3, .val (.int .i64 ((l.length : Int) - 1 - x.1.1)))], [(0, rowL ver 3 eI x.1.2)], 28, 1, nx, []⟩) (fun x => l.length - x.1.1) ⟨(0, l), by simp, rfl, fun k hk => by simp; omega⟩ ?_ ?_
  · simp only [go_sem]
    exact ⟨by omega, RowLe.refl _⟩
  · rintro ⟨⟨i, m⟩, hi, hm, hk⟩
    simp only at hi hm hk
    refine AW.of hΓ mixed [200003, 99999] _ _ _ rfl ?_
    simp only [go_sem]
    refine ⟨fun hlt => ?_, fun hge => ?_⟩
    · refine AW.drawT hΓ mixed 13 [] (by decide +kernel) ?_
      simp only [go_sem]
      have e1 : ((l.length : Int) - 1 - i).toNat = l.length - 1 - i := by omega
      rw [e1]
      refine ⟨by omega, by omega, by omega, by omega, by omega, by omega, by omega, by omega, by omega, by omega, ⟨(i + 1, (m.set i (m.getD (l.length - 1 - i) 0)).set (l.length - 1 - i) (m.getD i 0)), by dsimp only; omega, by simp [hm], fun k hk' => ?_⟩, ⟨⟨by dsimp only; omega, by dsimp only; omega⟩, RowLe.sl (by simp) fun k hk' j hj => ?_⟩, by dsimp only; omega⟩
      · have h1 := hk i (by omega)
        have h2 := hk (l.length - 1 - i) (by omega)
        rw [if_neg (by omega)] at h1 h2
        dsimp only
        rw [h1, h2]
        by_cases c2 : k = l.length - 1 - i
        · subst c2
          rw [if_pos (by omega)]
          simp only [List.getD]
          rw [List.getElem?_set_self (by simp; omega), show l.length - 1 - (l.length - 1 - i) = i by omega]
          rfl
        · by_cases c1 : k = i
          · subst c1
            rw [if_pos (by omega)]
            simp only [List.getD]
            rw [List.getElem?_set_ne (by omega), List.getElem?_set_self (by omega)]
            rfl
          · have e2 : ((m.set i (l.getD (l.length - 1 - i) 0)).set (l.length - 1 - i) (l.getD i 0)).getD k 0 = m.getD k 0 := by
              simp only [List.getD]
              rw [List.getElem?_set_ne (by omega), List.getElem?_set_ne (by omega)]
            rw [e2, hk k hk']
            by_cases c : k < i ∨ l.length - 1 - i < k
            · rw [if_pos c, if_pos (by omega)]
            · rw [if_neg c, if_neg (by omega)]
      · exact stE_le (E := eI) (n := m.length) (by simp; omega) (stE_le (E := eI) (n := m.length) (by omega) (fun _ _ _ _ => AVle.refl _) (fun _ _ => AVle.refl _)) (fun _ _ => AVle.refl _) k hk' j hj
    · have e : m = l.reverse := by
        refine list_ext_getD 0 (by simp [hm]) fun k hk' => ?_
        rw [hk k (by omega)]
        simp only [List.getD]
        rw [List.getElem?_reverse (by omega)]
        by_cases c : k < i ∨ l.length - 1 - i < k
        · rw [if_pos c]
        · rw [if_neg c, show l.length - 1 - k = k by omega]
      exact hK _ _ _ (by rw [← e]; exact RowLe.refl _) (Nat.le_refl _)
def sReverseI : MSpec := framed sReverseI0
theorem okReverseI : MethOK Tryz.prog 171 sReverseI := okReverseI0.frame
theorem reverseI_go {l : List Int} {ver p n : Nat} {hp : Nat → Row} {top nx : Nat} {K : AV → (Nat → Row) → Nat → Nat → Prop} (hn : n = l.length) (h0 : RowLe (hp p) (rowL ver 3 eI l)) (ht : p < top) (hl : l.length < 1000000000)
    (hK : ∀ nx', nx ≤ nx' → K (.val (.tuple #[])) (updR hp p (rowL ver 3 eI l.reverse)) top nx') : sReverseI [.ow p ver n] hp top nx K := by
  subst hn
  have hv := h0.vers
  refine ⟨[p], [.ow 0 ver l.length], rws [(0, rowL ver 3 eI l)], by simp, by simpa using ht, .cons AVle.ow .nil, one_row h0, fun i hi => rws_top (top := 1) (by simp) i (by simpa using hi), l, ver, rfl, rfl, rfl, hl, fun hp' top' nx' e1 e2 => ?_⟩
  refine ⟨_, _, AVle.refl _, fun k q hk => ?_, fun q hq => ?_, fun q hq u hu => ?_, hK nx' e2⟩
  · cases k with
    | zero =>
      simp only [List.getElem?_cons_zero, Option.some.injEq] at hk
      subst hk
      rw [updR_at]
      exact e1
    | succ k => simp at hk
  · rw [updR_ne _ _ (by simpa using hq)]
  · simp only [List.mem_singleton] at hq
    subst hq
    rw [updR_at] at hu
    exact .inl (hv.symm.trans hu)
def sTurned : Spec := Spec.f1 (kL eI) (fun l => l.length < 100000000) (fun l => sL eI l.reverse)
theorem okTurned : SpecOK Tryz.prog 157 sTurned := by
  refine SpecOK.f1 Tryz.func157 rfl (by decide) Tryz.results157 Tryz.ntmps157 (by decide) fun l hl => ?_
  have hΓ : GOK Tryz.prog (gam [(170, sCloneI), (171, sReverseI)]) := (.cons okCloneI (.cons okReverseI .nil))
  refine AW.of hΓ mixed [1, 99999] _ _ _ rfl ?_
  simp only [go_sem, sCloneI, sReverseI]
  refine ⟨_, l, rfl, AVle.refl _, by omega, fun ver nx' hv hv' => ?_⟩
  refine AW.of hΓ mixed [2, 99999] _ _ _ rfl ?_
  simp only [go_sem, sCloneI, sReverseI]
  refine reverseI_go (l := l) (p := 0) rfl (RowLe.refl _) (by decide) (by omega) fun n2 hn2 => ?_
  simp only [go_sem, sCloneI, sReverseI]
  refine AW.of hΓ mixed [] _ _ _ rfl ?_
  simp only [go_sem, sCloneI, sReverseI, List.length_reverse]
  exact vw_all (E := eI) rfl rfl (by simp)
theorem find_call {N : Nat} {a b f1 f2 : List Int} {l : List (Int × Int)} {fv v1 v2 pv : Nat} {x y r s : Int} {hp : Nat → Row} {top nx : Nat} {K : AV → (Nat → Row) → Nat → Nat → Prop} {π : List Nat} {p0 p1 p2 p3 : Nat} (hπ : π = [p0, p1, p2, p3]) (hnd : π.Nodup) (ht : ∀ p ∈ π, p < top) (hx : x = 0) (hy : y = a.length) (hr : r = 0) (hs : s = b.length)
    (h0 : RowLe (hp p0) (rws (fRows a b fv v1 v2 pv f1 f2 l) 0)) (h1 : RowLe (hp p1) (rws (fRows a b fv v1 v2 pv f1 f2 l) 1)) (h2 : RowLe (hp p2) (rws (fRows a b fv v1 v2 pv f1 f2 l) 2)) (h3 : RowLe (hp p3) (rws (fRows a b fv v1 v2 pv f1 f2 l) 3)) (hpv : pv < nx)
    (ha : a.length < 100000000) (hb : b.length < 100000000) (hr1 : a.length + b.length + 3 ≤ f1.length) (hr2 : a.length + b.length + 3 ≤ f2.length) (hl1 : f1.length < 1000000000) (hl2 : f2.length < 1000000000)
    (hl : l.length + a.length < 500000000) (hN : a.length + b.length < N)
    (hK : ∀ g1 g2 pv' hp' nx', g1.length = f1.length → g2.length = f2.length → (pv' = pv ∨ nx ≤ pv') → pv' < nx' → nx ≤ nx' → hp' p0 = rws (fRows a b fv v1 v2 pv' g1 g2 (l ++ findG a b)) 0 → hp' p3 = rws (fRows a b fv v1 v2 pv' g1 g2 (l ++ findG a b)) 3 → (∀ i, ¬ i ∈ π → hp' i = hp i) → K (.val (.tuple #[])) hp' top nx') :
    sFind N [.pt p0 fv 0, .val (.int .i64 x), .val (.int .i64 y), .val (.int .i64 r), .val (.int .i64 s)] hp top nx K := by
  subst hx hy hr hs hπ
  have w0 := h0.vers
  have w1 := h1.vers
  have w2 := h2.vers
  have w3 := h3.vers
  have hfin : shP ((0 : Nat) : Int) ((0 : Nat) : Int) (findG (partL a 0 a.length) (partL b 0 b.length)) = findG a b := by rw [partL_all, partL_all]; exact shP_0 _
  have hmem : ∀ q, q ∈ [p0, p1, p2, p3] ↔ q = p0 ∨ q = p1 ∨ q = p2 ∨ q = p3 := fun q => by simp
  have n01 : p1 ≠ p0 := fun e => by simp [e] at hnd
  have n02 : p2 ≠ p0 := fun e => by simp [e] at hnd
  have n03 : p3 ≠ p0 := fun e => by simp [e] at hnd
  have n12 : p2 ≠ p1 := fun e => by simp [e] at hnd
  have n13 : p3 ≠ p1 := fun e => by simp [e] at hnd
  have n23 : p3 ≠ p2 := fun e => by simp [e] at hnd
  refine ⟨[p0, p1, p2, p3], [.pt 0 fv 0, kI.enc ((0 : Nat) : Int), kI.enc (a.length : Nat), kI.enc ((0 : Nat) : Int), kI.enc (b.length : Nat)], rws (fRows a b fv v1 v2 pv f1 f2 l),
    hnd, ht, .cons AVle.pt (.cons (AVle.refl _) (.cons (AVle.refl _) (.cons (AVle.refl _) (.cons (AVle.refl _) .nil)))), fun k q hk => ?_, fun k hk => rws_top (top := 4) (by simp [fRows]) k (by simpa using hk), a, b, f1, f2, l, fv, v1, v2, pv, 0, a.length, 0, b.length, rfl, rfl, rfl, hpv, Nat.zero_le _, Nat.le_refl _, Nat.zero_le _, Nat.le_refl _, ha, hb, hr1, hr2, hl1, hl2, by omega, by omega, fun g1 g2 pv' hp' top' nx' e1 e2 e3 e4 e5 e6 => ?_⟩
  · match k, hk with
    | 0, hk => obtain rfl := Option.some.inj hk; exact h0
    | 1, hk => obtain rfl := Option.some.inj hk; exact h1
    | 2, hk => obtain rfl := Option.some.inj hk; exact h2
    | 3, hk => obtain rfl := Option.some.inj hk; exact h3
  rw [hfin] at e5
  refine ⟨_, updR (updR (updR (updR hp p0 (rws (fRows a b fv v1 v2 pv' g1 g2 (l ++ findG a b)) 0)) p1 (rws (fRows a b fv v1 v2 pv' g1 g2 (l ++ findG a b)) 1)) p2 (rws (fRows a b fv v1 v2 pv' g1 g2 (l ++ findG a b)) 2)) p3 (rws (fRows a b fv v1 v2 pv' g1 g2 (l ++ findG a b)) 3), AVle.refl _, fun k q hk => ?_, fun q hq => ?_, fun q hq u hu => ?_, hK g1 g2 pv' _ nx' e1 e2 e3 e4 e6 ?_ ?_ fun q hq => ?_⟩
  · match k, hk with
    | 0, hk => obtain rfl := Option.some.inj hk; rw [updR_ne _ _ n03.symm, updR_ne _ _ n02.symm, updR_ne _ _ n01.symm, updR_at]; exact e5 0 (by decide)
    | 1, hk => obtain rfl := Option.some.inj hk; rw [updR_ne _ _ n13.symm, updR_ne _ _ n12.symm, updR_at]; exact e5 1 (by decide)
    | 2, hk => obtain rfl := Option.some.inj hk; rw [updR_ne _ _ n23.symm, updR_at]; exact e5 2 (by decide)
    | 3, hk => obtain rfl := Option.some.inj hk; rw [updR_at]; exact e5 3 (by decide)
  · rw [hmem] at hq
    simp only [not_or] at hq
    rw [updR_ne _ _ hq.2.2.2, updR_ne _ _ hq.2.2.1, updR_ne _ _ hq.2.1, updR_ne _ _ hq.1]
  · rw [hmem] at hq
    rcases hq with rfl | rfl | rfl | rfl
    · rw [updR_ne _ _ n03.symm, updR_ne _ _ n02.symm, updR_ne _ _ n01.symm, updR_at] at hu; exact .inl (w0.symm.trans hu)
    · rw [updR_ne _ _ n13.symm, updR_ne _ _ n12.symm, updR_at] at hu; exact .inl (w1.symm.trans hu)
    · rw [updR_ne _ _ n23.symm, updR_at] at hu; exact .inl (w2.symm.trans hu)
    · rw [updR_at] at hu
      obtain rfl : pv' = u := Option.some.inj hu
      rcases e3 with rfl | e3
      · exact .inl w3.symm
      · exact .inr e3
  · rw [updR_ne _ _ n03.symm, updR_ne _ _ n02.symm, updR_ne _ _ n01.symm, updR_at]
  · rw [updR_at]
  · rw [hmem] at hq
    simp only [not_or] at hq
    rw [updR_ne _ _ hq.2.2.2, updR_ne _ _ hq.2.2.1, updR_ne _ _ hq.2.1, updR_ne _ _ hq.1]
def sSearch : MSpec := fun args hp top nx K => ∃ x y a b, args = [x, y] ∧ AVle x (sL eI a) ∧ AVle y (sL eI b) ∧ hp = rws [] ∧ top = 0 ∧ a.length < 100000000 ∧ b.length < 100000000 ∧
  ∀ ver hp' nx', hp' 3 = rowL ver 108 (eP eI eI) (findG a b) → ver < nx' → nx ≤ nx' → (∀ i, 4 ≤ i → hp' i = .dead) → K (.ow 3 ver (findG a b).length) hp' 4 nx'
theorem okSearch : MethOK Tryz.prog 138 sSearch := by
  refine MethOK.mk Tryz.func138 rfl (by decide) Tryz.results138 Tryz.ntmps138 ?_
  rintro args hp top nx K ⟨x, y, a, b, rfl, hx, hy, rfl, rfl, ha, hb, hK⟩
  have hΓ : GOK Tryz.prog (gam [(157, sTurned), (158, (Con.meth (sFind (a.length + b.length + 1))))]) := .cons okTurned (.cons (okFind _) .nil)
  refine ⟨Nat.le_of_ble_eq_true rfl, ?_⟩
  refine AW.le (stM_le (.cons hx (.cons hy .nil))) ?_
  refine AW.of hΓ mixed [2, 99999] _ _ _ rfl ?_
  simp only [go_sem, sTurned]
  have eN : ((a.length : Int) + b.length + 3).toNat = a.length + b.length + 3 := by omega
  rw [eN]
  refine ⟨by omega, by omega, ha, hb, by omega, by omega, ?_⟩
  refine AW.adoptB (q := 2) 6 108 2 (fun i => (eP eI eI).enc (([] : List (Int × Int)).getD i (0, 0))) rfl rfl ?_
  refine AW.of hΓ mixed [3, 99999] _ _ _ rfl ?_
  simp only [go_sem]
  refine find_call (a := a) (b := b) (f1 := List.replicate (a.length + b.length + 3) 0) (f2 := List.replicate (a.length + b.length + 3) 0) (l := []) (fv := nx + 1 + 1) (v1 := nx) (v2 := nx + 1) (pv := nx + 1 + 1 + 1) (π := [2, 0, 1, 3]) rfl (by decide) (by decide) rfl rfl rfl rfl ?_ ?_ ?_ ?_ (by omega) ha hb (by simp) (by simp) (by simp; omega) (by simp; omega) (by simp; omega) (by omega) ?_
  · refine RowLe.box fun j hj => ?_
    match j, hj with
    | 0, _ => exact AVle.refl _
    | 1, _ => exact AVle.refl _
    | 2, _ => exact AVle.refl _
    | 3, _ => exact AVle.refl _
    | 4, _ => show AVle (.ow 0 nx (a.length + b.length + 3)) (.ow 1 nx (List.replicate (a.length + b.length + 3) (0 : Int)).length); rw [List.length_replicate]; exact AVle.ow
    | 5, _ => show AVle (.ow 1 (nx + 1) (a.length + b.length + 3)) (.ow 2 (nx + 1) (List.replicate (a.length + b.length + 3) (0 : Int)).length); rw [List.length_replicate]; exact AVle.ow
    | 6, _ => exact AVle.refl _
  · refine RowLe.sl (by simp) fun i hi j hj => AVle.of_eq ?_
    match j, hj with
    | 0, _ => simp [List.getD, List.getElem?_replicate, hi, zC]; rfl
  · refine RowLe.sl (by simp) fun i hi j hj => AVle.of_eq ?_
    match j, hj with
    | 0, _ => simp [List.getD, List.getElem?_replicate, hi, zC]; rfl
  · exact RowLe.refl _
  intro g1 g2 pv' hp' nx' e1 e2 e3 e4 e5 e6 e7 e8
  have e6' : hp' 2 = .box (nx + 1 + 1) 214 7 (fAV a b (.ow 1 nx g1.length) (.ow 2 (nx + 1) g2.length) (.ow 3 pv' (findG a b).length)) := e6
  simp only [go_sem]
  refine AW.of hΓ mixed [] _ _ _ rfl ?_
  simp only [go_sem, e6', fAV_6]
  exact hK pv' hp' nx' e7 e4 (by omega) fun i hi => (e8 i (by simp; omega)).trans (by
    rw [updR_ne _ _ (by omega), updR_ne _ _ (by omega), updR_ne _ _ (by omega), updR_ne _ _ (by omega), updR_ne _ _ (by omega)]
    rfl)
end Go.Proofs.YtjfmigpahglajaaGreatDoor
set_option linter.unusedSimpArgs false
set_option linter.unusedVariables false
set_option maxRecDepth 100000
set_option maxHeartbeats 2000000
namespace Go.Proofs.YtjfmigpahglajaaGreatDoor
open Go
attribute [local irreducible] AW AVle ASle RowLe
def sMatch : Spec := Spec.f2 (kL eI) (kL eI) (fun a b => a.length < 100000000 ∧ b.length < 100000000) (fun a b => sL (eP eI eI) (matchF a b))
theorem okMatch : SpecOK Tryz.prog 97 sMatch := by
  refine SpecOK.f2 Tryz.func97 rfl (by decide) Tryz.results97 Tryz.ntmps97 (by decide) fun a b ⟨ha, hb⟩ => ?_
  have hΓ : GOK Tryz.prog (gam [(137, sShared), (138, sSearch)]) := (.cons okShared (.cons okSearch .nil))
  have hA := plc_len (fun y => b.contains y) 0 a
  have hB := plc_len (fun y => a.contains y) 0 b
  have hsp := (find_spec ((shI a b).length + (shI b a).length + 1) (shI a b) (shI b a) (by omega)).1
  have hm : matchF a b = mapM (shQ a b) (shQ b a) (findG (shI a b) (shI b a)) := rfl
  have lA : (shI a b).length ≤ a.length := List.length_filter_le _ _
  have lB : (shI b a).length ≤ b.length := List.length_filter_le _ _
  have lG := findG_len (shI a b) (shI b a)
  have lG2 := lcsN_le (shI a b) (shI b a)
  refine AW.of hΓ mixed [3, 99999] _ _ _ rfl ?_
  simp only [go_sem, sShared, sSearch]
  refine ⟨⟨ha, hb⟩, ⟨hb, ha⟩, _, _, shI a b, shI b a, rfl, AVle.refl _, AVle.refl _, rfl, by omega, by omega, fun ver hp' nx' h1 h2 h3 h4 => ?_⟩
  have eA : (shQ a b).length = (shI a b).length := hA
  have eB : (shQ b a).length = (shI b a).length := hB
  change isM (shI a b) (shI b a) (findG (shI a b) (shI b a)) at hsp
  generalize hG : findG (shI a b) (shI b a) = G at *
  refine AW.cut ⟨[(6, sL eI (shQ a b)), (8, sL eI (shQ b a)), (9, .ow 3 ver G.length)], [(3, rowL ver 108 (eP eI eI) G)], 50, 4, nx', []⟩ ?_ ?_
  · simp only [go_sem, h1]
    exact RowLe.refl _
  generalize hqa : shQ a b = qa at *
  generalize hqb : shQ b a = qb at *
  refine AW.of hΓ mixed [] _ _ _ rfl ?_
  simp only [go_sem, sShared, sSearch]
  refine AW.round (α := { x : Nat × Nat // x.1 ≤ G.length })
    (fun x => ⟨[(6, sL eI qa), (8, sL eI qb), (9, .ow 3 ver G.length), (27, .ow 3 ver G.length), (28, .val (.int .i64 G.length)), (29, .val (.int .i64 x.1.1))], [(3, rowL ver 108 (eP eI eI) (mapM qa qb (G.take x.1.1) ++ G.drop x.1.1))], 50, 4, x.1.2, []⟩) (fun x => G.length - x.1.1) ⟨(0, nx'), Nat.zero_le _⟩ ?_ ?_
  · simp only [go_sem, sShared, sSearch]
    exact RowLe.of_eq (by simp [mapM])
  · rintro ⟨⟨i, nx⟩, hi⟩
    simp only at hi
    have hmap : (mapM qa qb (G.take i)).length = i := by simp only [mapM, List.length_map, List.length_take]; omega
    refine AW.of hΓ mixed [6, 99999] _ _ _ rfl ?_
    simp only [go_sem, sShared, sSearch, pp_sz]
    refine ⟨fun hlt => ?_, fun hge => ?_⟩
    · have hel : (mapM qa qb (G.take i) ++ G.drop i).getD i (0, 0) = G.getD i (0, 0) := by
        simp only [List.getD]
        rw [List.getElem?_append_right (by omega), List.getElem?_drop, hmap]
        congr 2
        omega
      obtain ⟨u, v, huv⟩ : ∃ u v, G.getD i (0, 0) = (u, v) := ⟨_, _, rfl⟩
      have hin := hsp.2 (G.getD i (0, 0)) (by rw [gd_lt _ _ (by omega)]; exact List.getElem_mem _)
      rw [huv] at hin
      unfold inM at hin
      simp only at hin
      refine ⟨by omega, by omega, ?_⟩
      refine AW.cut ⟨[(6, sL eI qa), (8, sL eI qb), (9, .ow 3 ver G.length), (10, .val (.int .i64 i)), (11, .pt 4 nx 0), (27, .ow 3 ver G.length), (28, .val (.int .i64 G.length)), (29, .val (.int .i64 i))],
        [(3, rowL ver 108 (eP eI eI) (mapM qa qb (G.take i) ++ G.drop i)), (4, .box nx 108 2 fun j => if j = 0 then .val (.int .i64 u) else .val (.int .i64 v))], 50, 5, nx + 1, []⟩ ?_ ?_
      · simp only [go_sem]
        refine ⟨RowLe.refl _, RowLe.box fun j hj => AVle.of_eq ?_⟩
        match j, hj with
        | 0, _ => show (eP eI eI).enc ((mapM qa qb (G.take i) ++ G.drop i).getD i (0, 0)) 0 = _; rw [hel, huv]; rfl
        | 1, _ => show (eP eI eI).enc ((mapM qa qb (G.take i) ++ G.drop i).getD i (0, 0)) 1 = _; rw [hel, huv]; rfl
      · refine AW.of hΓ mixed [] _ _ _ rfl ?_
        simp only [go_sem, sShared, sSearch, pp_sz]
        have hset : mapM qa qb (G.take (i + 1)) ++ G.drop (i + 1) = (mapM qa qb (G.take i) ++ G.drop i).set i (qa.getD u.toNat 0, qb.getD v.toNat 0) := by
          have hi' : i < G.length := by omega
          have hgi : G[i] = (u, v) := by rw [← huv, gd_lt _ _ hi']
          rw [List.set_append_right _ _ (by omega), hmap, Nat.sub_self, List.drop_eq_getElem_cons hi', List.set_cons_zero, List.take_succ_eq_append_getElem hi', hgi]
          simp only [mapM, List.map_append, List.map_cons, List.map_nil, List.append_assoc, List.singleton_append]
        refine ⟨by omega, by omega, by omega, by omega, by omega, ⟨(i + 1, nx + 1), by dsimp only; omega⟩, ⟨Nat.le_refl _, rfl, ?_⟩, by dsimp only; omega⟩
        refine row_set (E := eP eI eI) rfl hset (by simp) (by simp) fun j hj => ?_
        match j, hj with
        | 0, _ => exact AVle.refl _
        | 1, _ => exact AVle.refl _
    · obtain rfl : i = G.length := by omega
      rw [List.take_length, List.drop_length, List.append_nil, hm]
      first
        | exact ⟨⟨by simp [mapM], fun i hi => ⟨rfl, rfl⟩⟩, vw_all (E := eP eI eI) rfl rfl (by simp [mapM])⟩
        | exact ⟨by simp [mapM], vw_all (E := eP eI eI) rfl rfl (by simp [mapM])⟩
end Go.Proofs.YtjfmigpahglajaaGreatDoor
set_option linter.unusedSimpArgs false
set_option linter.unusedVariables false
namespace Go.Proofs.YtjfmigpahglajaaGreatDoor
open Go
theorem AVle.ps {m : Nat} {c d : Nat → AV} (h : ∀ j, j < m → AVle (c j) (d j)) : AVle (.ps m c) (.ps m d) := by
  rintro w η L v ⟨g, o, hv, hl, hc⟩
  refine ⟨g, o, hv, hl, fun j hj => ?_⟩
  obtain ⟨u, hu, h1, hr⟩ := hc j hj
  exact ⟨u, hu, h1, h j hj _ _ _ _ hr⟩
section
variable {α β γ δ ε ζ θ κ μ : Type}
def Spec.f9 (A : Kd α) (B : Kd β) (C : Kd γ) (D : Kd δ) (E : Kd ε) (F : Kd ζ) (G : Kd θ) (H : Kd κ) (I : Kd μ) (dom : α → β → γ → δ → ε → ζ → θ → κ → μ → Prop) (out : α → β → γ → δ → ε → ζ → θ → κ → μ → AV) : Spec where
  pre | [x, y, z, u, v, w, r, s, t] => A.ok x ∧ B.ok y ∧ C.ok z ∧ D.ok u ∧ E.ok v ∧ F.ok w ∧ G.ok r ∧ H.ok s ∧ I.ok t ∧ dom (A.dec x) (B.dec y) (C.dec z) (D.dec u) (E.dec v) (F.dec w) (G.dec r) (H.dec s) (I.dec t)
      | _ => False
  res | [x, y, z, u, v, w, r, s, t] => out (A.dec x) (B.dec y) (C.dec z) (D.dec u) (E.dec v) (F.dec w) (G.dec r) (H.dec s) (I.dec t)
      | _ => .any
variable {P : Program} {f : FuncId} {fn : Func} {code : Code} {l : List ResultVar}
theorem SpecOK.f9 {A : Kd α} {B : Kd β} {C : Kd γ} {D : Kd δ} {E : Kd ε} {F : Kd ζ} {G : Kd θ} {H : Kd κ} {I : Kd μ} {dom : α → β → γ → δ → ε → ζ → θ → κ → μ → Prop} {out : α → β → γ → δ → ε → ζ → θ → κ → μ → AV} (hf : P.funcs[f]? = some fn) (hb : fn.body = some code) (hn : (fn.name == "runtime.NumGoroutine") = false) (hl : fn.results = l.toArray) {n : Nat} (ht : fn.ntmps = n) (hm : 9 ≤ n)
    (h : ∀ a b c d e g r s t, dom a b c d e g r s t → AW P code (retQ P l (out a b c d e g r s t)) (st0 n [A.enc a, B.enc b, C.enc c, D.enc d, E.enc e, F.enc g, G.enc r, H.enc s, I.enc t])) : SpecOK P f (Spec.f9 A B C D E F G H I dom out) := by
  subst ht
  refine SpecOK.mk hf hb hn hl fun args hp => ?_
  match args, hp with
  | [x, y, z, u, v, w, r, s, t], hp => exact ⟨hm, AW.le (st0_le (.cons hp.1 (.cons hp.2.1 (.cons hp.2.2.1 (.cons hp.2.2.2.1 (.cons hp.2.2.2.2.1 (.cons hp.2.2.2.2.2.1 (.cons hp.2.2.2.2.2.2.1 (.cons hp.2.2.2.2.2.2.2.1 (.cons hp.2.2.2.2.2.2.2.2.1 .nil)))))))))) (h _ _ _ _ _ _ _ _ _ hp.2.2.2.2.2.2.2.2.2)⟩
end
attribute [go_sem] Spec.f9
end Go.Proofs.YtjfmigpahglajaaGreatDoor
set_option linter.unusedSimpArgs false
set_option linter.unusedVariables false
set_option maxRecDepth 100000
set_option maxHeartbeats 4000000
namespace Go.Proofs.YtjfmigpahglajaaGreatDoor
open Go
attribute [local irreducible] AW AVle ASle RowLe
@[go_sem] theorem kCell_nil : kCell (.slice none 0 0) = .em := rfl
def sMatchM : Spec := Spec.f2 (kL eS) (kL eS) (fun a b => a.length ≤ 10000000 ∧ b.length ≤ 10000000) (fun a b => sL (eP eI eI) (prsF a b))
theorem okMatchM : SpecOK Tryz.prog 51 sMatchM := by
  refine SpecOK.f2 Tryz.func51 rfl (by decide) Tryz.results51 Tryz.ntmps51 (by decide) fun a b ⟨ha, hb⟩ => ?_
  have hΓ : GOK Tryz.prog (gam [(96, sNumber), (97, sMatch)]) := (.cons okNumber (.cons okMatch .nil))
  have n0 := numA_len a b
  have n1 := numB_len a b
  have n2 : (numF [] [a, b]).length = 2 := rfl
  unfold prsF
  unfold numA numB at *
  refine AW.of hΓ mixed [] _ _ _ rfl ?_
  simp only [go_sem, sNumber, sMatch]
  exact ⟨⟨by omega, by omega⟩, by omega, by omega, by omega, by omega⟩
abbrev Op := (BS × BS × BS) × Int × Int × Int
abbrev eOp : El Op := eP eLb (eP eI (eP eI eI))
def wrgM (o : Op) : Int := if plainLb o.1 = false then 3 else if o.2.2.1 < 7 ∨ 64 < o.2.2.1 then 4 else if (styOK o.2.1 && favOK o.2.2.2) = false then 5 else 0
def sCheckM : Spec := Spec.f1 (kA eOp) (fun o => lbN o.1 ≤ 3000) (fun o => kI.enc (wrgM o))
theorem okCheckM : SpecOK Tryz.prog 50 sCheckM := by
  refine SpecOK.f1 Tryz.func50 rfl (by decide) Tryz.results50 Tryz.ntmps50 (by decide) fun o ho => ?_
  have hΓ : GOK Tryz.prog (gam [(95, sPlainL), (54, sDocB)]) := (.cons okPlainL (.cons okDocB .nil))
  obtain ⟨⟨l1, l2, l3⟩, st, w, v⟩ := o
  unfold lbN at ho
  dsimp only at ho
  refine AW.of hΓ mixed [0] _ _ _ rfl ?_
  simp only [go_sem, sPlainL, sDocB]
  refine AW.still 1 0 0 40 6 _ rfl rfl (fun j hj => match j, hj with | 0, _ => rfl | 1, _ => rfl | 2, _ => rfl | 3, _ => rfl | 4, _ => rfl | 5, _ => rfl) ?_
  cases hp : plainLb (l1, l2, l3) with
  | false =>
    have e : wrgM ((l1, l2, l3), st, w, v) = 3 := by unfold wrgM; rw [if_pos hp]
    unfold plainLb at hp
    dsimp only at hp
    rw [e]
    refine AW.of hΓ mixed [99999] _ _ _ rfl ?_
    simp only [go_sem, sPlainL, sDocB, hp]
    exact ⟨by omega, by omega, by omega⟩
  | true =>
    have hd : docF ([], [], []) [] st (l1, l2, l3) v = ([], if (styOK st && favOK v) = false then 5 else 0) := by
      unfold docF
      by_cases h : (styOK st && favOK v) = false
      · rw [if_pos h, if_pos h]
      · rw [if_neg h, if_neg h, if_neg (by rw [hp]; simp)]
        rfl
    have e : wrgM ((l1, l2, l3), st, w, v) = if w < 7 ∨ 64 < w then 4 else if (styOK st && favOK v) = false then 5 else 0 := by unfold wrgM; rw [if_neg (by rw [hp]; simp)]
    rw [e]
    unfold plainLb at hp
    dsimp only at hp
    refine AW.of hΓ mixed [99999] _ _ _ rfl ?_
    simp only [go_sem, sPlainL, sDocB, hp, hd]
    refine ⟨⟨by omega, by omega, by omega⟩, fun h => by simp [h], fun h => ?_, fun h => ⟨⟨⟨by unfold okFl; simp, by simp [sumT]⟩, by unfold okLb; dsimp only; omega⟩, ?_⟩⟩
    · simp only [Bool.or_eq_true, decide_eq_true_eq] at h
      rw [if_pos h]
    · simp only [Bool.or_eq_false_iff, decide_eq_false_iff_not] at h
      rw [if_neg (show ¬ (w < 7 ∨ 64 < w) by omega)]
def lb3 (o : Op) : BS × BS × BS := o.1
abbrev Rt := List Pt × List (Int × Int) × List (Int × Int) × List Ck × BS × Int × Int
abbrev eRt : El Rt := eP (eL ePt) (eP (eL (eP eI eI)) (eP (eL (eP eI eI)) (eP (eL eCk) (eP eS (eP eI eI)))))
def rt0 : Rt := ([], [], [], [], [], 0, 0)
def mrgT (a b c : BS) (w st : Int) (lb : BS × BS × BS) (v : Int) : Rt :=
  (mrgD a b c st lb v, prsF (splitL a) (splitL b), prsF (splitL a) (splitL c), mrgK (filesF a b c), printL (mrgW w a b c) (mrgD a b c st lb v), mrgW w a b c, (cntF (filesF a b c) (mrgK (filesF a b c)) : Int))
def mrgO (a b c : BS) (o : Op) : Rt := if wrgM o = 0 then mrgT a b c o.2.2.1 o.2.1 o.1 o.2.2.2 else rt0
def sTexts : Spec := Spec.f4 kS kS kS (kA eOp) (fun a b c o => okM a b c ∧ lbN o.1 ≤ 3000) (fun a b c o => tu2 ((kA eRt).enc (mrgO a b c o)) (kI.enc (wrgM o)))
theorem wrg_0 {o : Op} (h : wrgM o = 0) : plainLb o.1 = true ∧ (7 ≤ o.2.2.1 ∧ o.2.2.1 ≤ 64) ∧ (styOK o.2.1 && favOK o.2.2.2) = true := by
  unfold wrgM at h
  split at h
  · omega
  · rename_i h1
    split at h
    · omega
    · rename_i h2
      split at h
      · omega
      · rename_i h3
        exact ⟨by simpa using h1, by omega, by simpa using h3⟩
theorem rt_le {c : Nat → AV} {d : List Pt} {l r : List (Int × Int)} {k : List Ck} {t : BS} {w n : Int} (h0 : AVle (c 0) (sL ePt d)) (h1 : AVle (c 1) (sL (eP eI eI) l)) (h2 : AVle (c 2) (sL (eP eI eI) r)) (h3 : AVle (c 3) (sL eCk k)) (h4 : c 4 = .st t) (h5 : c 5 = .val (.int .i64 w)) (h6 : c 6 = .val (.int .i64 n)) : AVle (.ag 7 c) (.ag 7 (eRt.enc (d, l, r, k, t, w, n))) :=
  AVle.ag fun j hj => match j, hj with
    | 0, _ => h0
    | 1, _ => h1
    | 2, _ => h2
    | 3, _ => h3
    | 4, _ => AVle.of_eq h4
    | 5, _ => AVle.of_eq h5
    | 6, _ => AVle.of_eq h6
theorem rt_box {ver ety : Nat} {c : Nat → AV} {d : List Pt} {l r : List (Int × Int)} {k : List Ck} {t : BS} {w n : Int} (h0 : AVle (c 0) (sL ePt d)) (h1 : AVle (c 1) (sL (eP eI eI) l)) (h2 : AVle (c 2) (sL (eP eI eI) r)) (h3 : AVle (c 3) (sL eCk k)) (h4 : c 4 = .st t) (h5 : c 5 = .val (.int .i64 w)) (h6 : c 6 = .val (.int .i64 n)) : RowLe (.box ver ety 7 c) (.box ver ety 7 (eRt.enc (d, l, r, k, t, w, n))) :=
  RowLe.box fun j hj => match j, hj with
    | 0, _ => h0
    | 1, _ => h1
    | 2, _ => h2
    | 3, _ => h3
    | 4, _ => AVle.of_eq h4
    | 5, _ => AVle.of_eq h5
    | 6, _ => AVle.of_eq h6
theorem okTexts : SpecOK Tryz.prog 16 sTexts := by
  refine SpecOK.f4 Tryz.func16 rfl (by decide) Tryz.results16 Tryz.ntmps16 (by decide) fun a b c o ⟨hM, hl⟩ => ?_
  have hΓ : GOK Tryz.prog (gam [(50, sCheckM), (41, sSplit), (51, sMatchM), (52, sWidthD), (53, sOfK), (54, sDocB), (45, sPrintM), (55, sCountB)]) := (.cons okCheckM (.cons okSplit (.cons okMatchM (.cons okWidthD (.cons okOfK (.cons okDocB (.cons okPrintM (.cons okCountB .nil))))))))
  obtain ⟨h1, h2, h3, h4⟩ := hM
  by_cases he : wrgM o = 0
  · obtain ⟨p1, p2, p3⟩ := wrg_0 he
    have e : mrgO a b c o = mrgT a b c o.2.2.1 o.2.1 o.1 o.2.2.2 := by unfold mrgO; rw [if_pos he]
    have hF := mrg_facts (a := a) (b := b) (c := c) ⟨h1, h2, h3, h4⟩ p2 o.2.1 hl p1 o.2.2.2
    rw [e, he]
    obtain ⟨⟨l1, l2, l3⟩, st, w, v⟩ := o
    dsimp only at p1 p2 p3 hF hl
    refine AW.of hΓ mixed [0, 200007] _ _ _ rfl ?_
    simp only [go_sem, sCheckM, sSplit, sMatchM, sWidthD, sOfK, sDocB, sPrintM, sCountB]
    refine AW.still 7 0 0 40 6 _ rfl rfl (fun j hj => match j, hj with | 0, _ => rfl | 1, _ => rfl | 2, _ => rfl | 3, _ => rfl | 4, _ => rfl | 5, _ => rfl) ?_
    refine AW.of hΓ mixed [6, 200007] _ _ _ rfl ?_
    simp only [go_sem, sCheckM, sSplit, sMatchM, sWidthD, sOfK, sDocB, sPrintM, sCountB, he]
    refine ⟨⟨by omega, by omega⟩, ⟨by omega, by omega⟩, fun h => absurd h (by omega), fun _ => ⟨hl, by omega, by omega, by omega, ?_⟩⟩
    refine AW.still 11 2 2 95 3 _ rfl rfl (fun j hj => match j, hj with | 0, _ => rfl | 1, _ => rfl | 2, _ => rfl) ?_
    refine AW.fork ?_
    refine AW.drawZ hΓ mixed 19 [] [] [] (by kernel_rfl) ?_
    simp only [go_sem, sCheckM, sSplit, sMatchM, sWidthD, sOfK, sDocB, sPrintM, sCountB, keeps_sL]
    have la := splitL_len a
    have lb := splitL_len b
    have lc := splitL_len c
    refine ⟨⟨by omega, by omega⟩, ⟨by omega, by omega⟩, ⟨by omega, by omega, by omega⟩, ?_⟩
    refine AW.cut ⟨[(7, .ps 6 (eOp.enc ((l1, l2, l3), st, w, v))), (8, .pt 1 1 0), (11, .ps 3 (eFl.enc (splitL a, splitL b, splitL c))), (12, .pt 3 3 0)], [(1, .box 1 33 7 (eRt.enc rt0)), (3, .box 3 33 7 (eRt.enc ([], prsF (splitL a) (splitL b), prsF (splitL a) (splitL c), [], [], mrgW w a b c, 0)))], 114, 4, 4, []⟩ ?_ ?_
    · simp only [go_sem, sCheckM, sSplit, sMatchM, sWidthD, sOfK, sDocB, sPrintM, sCountB]
      exact ⟨AVle.ps fun j hj => AVle.of_eq (match j, hj with | 0, _ => rfl | 1, _ => rfl | 2, _ => rfl), rt_box (em_sL _) (em_sL _) (em_sL _) (em_sL _) rfl rfl rfl, rt_box (em_sL _) (AVle.refl _) (AVle.refl _) (em_sL _) rfl rfl rfl⟩
    have hfit : fitK (splitL a).length (splitL b).length (splitL c).length (prsF (splitL a) (splitL b)) (prsF (splitL a) (splitL c)) = true := mtch_fit (prs_three (filesF a b c)).1
    have hK : ofK (((splitL a).length : Int), ((splitL b).length : Int), ((splitL c).length : Int)) (bothF (prsF (splitL a) (splitL b)) (prsF (splitL a) (splitL c))) [] (0, 0, 0) = mrgK (filesF a b c) := rfl
    have hdoc : docF (splitL a, splitL b, splitL c) (mrgK (filesF a b c)) st (l1, l2, l3) v = (mrgD a b c st (l1, l2, l3) v, 0) := doc_mrg p3 p1
    have hpr := mrg_text hF
    have hok := hF.ok
    have hlen := hF.len
    have hsum := hF.sum
    have hdl := hF.dlen
    have hpL := hF.pr
    have hps := sum_okPt (Nat.le_trans hF.sump (by decide))
    have hcn := cnt_le (filesF a b c) (mrgK (filesF a b c))
    have p1 := prsF_len (splitL a) (splitL b)
    have p2 := prsF_len (splitL a) (splitL c)
    unfold mrgT
    unfold filesF at *
    generalize mrgD a b c st (l1, l2, l3) v = D at *
    generalize mrgW w a b c = W at *
    generalize hKe : mrgK (splitL a, splitL b, splitL c) = K at *
    generalize prsF (splitL a) (splitL b) = lp at *
    generalize prsF (splitL a) (splitL c) = rp at *
    generalize splitL a = x at *
    generalize splitL b = y at *
    generalize splitL c = z at *
    refine AW.of hΓ mixed [99999] _ _ _ rfl ?_
    simp only [go_sem, sCheckM, sSplit, sMatchM, sWidthD, sOfK, sDocB, sPrintM, sCountB, hfit, hK, hdoc, hpr]
    unfold lbN at hl
    exact ⟨⟨by omega, by omega, by omega, by omega, by omega⟩, ⟨⟨hok, by omega, hsum⟩, by unfold okLb; dsimp only at *; omega⟩, ⟨⟨by omega, hps⟩, fun _ => hpL⟩, ⟨hok, by omega⟩, rt_le (AVle.refl _) (AVle.refl _) (AVle.refl _) (AVle.refl _) rfl rfl rfl⟩
  · have e : mrgO a b c o = rt0 := by unfold mrgO; rw [if_neg he]
    rw [e]
    obtain ⟨⟨l1, l2, l3⟩, st, w, v⟩ := o
    refine AW.of hΓ mixed [0] _ _ _ rfl ?_
    simp only [go_sem, sCheckM, sSplit, sMatchM, sWidthD, sOfK, sDocB, sPrintM, sCountB]
    refine AW.still 7 0 0 40 6 _ rfl rfl (fun j hj => match j, hj with | 0, _ => rfl | 1, _ => rfl | 2, _ => rfl | 3, _ => rfl | 4, _ => rfl | 5, _ => rfl) ?_
    refine AW.of hΓ mixed [99999] _ _ _ rfl ?_
    simp only [go_sem, sCheckM, sSplit, sMatchM, sWidthD, sOfK, sDocB, sPrintM, sCountB, he]
    exact ⟨⟨by omega, by omega⟩, ⟨by omega, by omega⟩, fun h => absurd h (by omega), fun _ => ⟨hl, rt_le (em_sL _) (em_sL _) (em_sL _) (em_sL _) rfl rfl rfl⟩⟩
end Go.Proofs.YtjfmigpahglajaaGreatDoor
set_option linter.unusedSimpArgs false
set_option linter.unusedVariables false
set_option maxRecDepth 100000
namespace Go.Proofs.YtjfmigpahglajaaGreatDoor
open Go
theorem flat_inj {l m : List BS} (hl : wholeL l = true) (hm : wholeL m = true) : l.flatten = m.flatten ↔ l = m := by
  constructor
  · intro h
    rw [← wholeL_split l hl, ← wholeL_split m hm, h]
  · intro h; rw [h]
theorem unlike_iff {f : Fl} (hw : wholeF f) {c : Ck} (hc : c ∈ mrgK f) : clsF f c = 4 ↔ (¬ (cutB f c).flatten = (cutO f c).flatten ∧ ¬ (cutB f c).flatten = (cutT f c).flatten ∧ ¬ (cutO f c).flatten = (cutT f c).flatten) := by
  have wB : wholeL (cutB f c) = true := whole_cutS hw.1 _
  have wO : wholeL (cutO f c) = true := whole_cutS hw.2.1 _
  have wT : wholeL (cutT f c) = true := whole_cutS hw.2.2 _
  rw [flat_inj wB wO, flat_inj wB wT, flat_inj wO wT]
  rcases cls_cases f c with ⟨h1, h2⟩ | ⟨_, ⟨h1, h2⟩ | ⟨h1, h2⟩ | ⟨h1, h2⟩ | ⟨h1, h2, h3, h4⟩⟩
  · have := good_mrg hc h2
    exact ⟨fun h => by omega, fun h => absurd this.1.symm h.1⟩
  · exact ⟨fun h => by omega, fun h => absurd h2.symm h.1⟩
  · exact ⟨fun h => by omega, fun h => absurd h2.symm h.2.1⟩
  · exact ⟨fun h => by omega, fun h => absurd h2 h.2.2⟩
  · exact ⟨fun _ => ⟨fun e => h2 e.symm, fun e => h3 e.symm, h4⟩, fun _ => h1⟩
theorem stable_iff {f : Fl} (c : Ck) : clsF f c = 0 ↔ c.1 = true := by
  rcases cls_cases f c with ⟨h1, h2⟩ | ⟨h0, ⟨h1, h2⟩ | ⟨h1, h2⟩ | ⟨h1, h2⟩ | ⟨h1, h2, h3, h4⟩⟩
  · exact ⟨fun _ => h2, fun _ => h1⟩
  all_goals exact ⟨fun h => by omega, fun h => by rw [h0] at h; cases h⟩
end Go.Proofs.YtjfmigpahglajaaGreatDoor
set_option linter.unusedSimpArgs false
set_option linter.unusedVariables false
set_option maxRecDepth 100000
set_option maxHeartbeats 4000000
namespace Go.Proofs.YtjfmigpahglajaaGreatDoor
open Go
attribute [local irreducible] AW AVle ASle RowLe
abbrev Hw := Int × Int × Int × BS × BS × BS
abbrev eHw : El Hw := eP eI (eP eI (eP eI (eP eS (eP eS eS))))
def rchH (h : Hw) : Prop := h.2.2.2.1.length ≤ 140737488351232 ∧ h.2.2.2.2.1.length ≤ 140737488351232 ∧ h.2.2.2.2.2.length ≤ 140737488351232
def fewH (h : Hw) : Bool := decide (h.2.2.2.1.length + h.2.2.2.2.1.length + h.2.2.2.2.2.length ≤ 500)
def sShortM : Spec := Spec.f1 kS (fun _ => True) (fun s => kS.enc (s.take 250))
theorem okShortM : SpecOK Tryz.prog 15 sShortM := by
  refine SpecOK.f1 Tryz.func15 rfl (by decide) Tryz.results15 Tryz.ntmps15 (by decide) fun s _ => ?_
  have hΓ : GOK Tryz.prog (gam []) := GOK.nil
  refine AW.of hΓ mixed [] _ _ _ rfl ?_
  simp only [go_sem]
  have e : (min (s.length : Int) 250).toNat = min s.length 250 := by omega
  refine ⟨⟨by omega, by omega⟩, ?_⟩
  rw [e, List.take_eq_take_iff]
  omega
def labH (h : Hw) : Pt := (h.2.2.2.1, h.2.2.2.2.1, h.2.2.2.2.2, false, [], [], [], [], false)
theorem op_le {c : Nat → AV} {l1 l2 l3 : BS} {a b d : Int} (h0 : c 0 = .st l1) (h1 : c 1 = .st l2) (h2 : c 2 = .st l3) (h3 : c 3 = .val (.int .i64 a)) (h4 : c 4 = .val (.int .i64 b)) (h5 : c 5 = .val (.int .i64 d)) : AVle (.ag 6 c) (.ag 6 (eOp.enc ((l1, l2, l3), a, b, d))) :=
  AVle.ag fun j hj => AVle.of_eq (match j, hj with
    | 0, _ => h0
    | 1, _ => h1
    | 2, _ => h2
    | 3, _ => h3
    | 4, _ => h4
    | 5, _ => h5)
def sLabM : Spec := Spec.f1 (kA eHw) (fun _ => True) (fun h => (kA ePt).enc (labH h))
theorem okLabM : SpecOK Tryz.prog 19 sLabM := by
  refine SpecOK.f1 Tryz.func19 rfl (by decide) Tryz.results19 Tryz.ntmps19 (by decide) fun h _ => ?_
  have hΓ : GOK Tryz.prog (gam []) := GOK.nil
  obtain ⟨st, w, v, l1, l2, l3⟩ := h
  refine AW.of hΓ mixed [] _ _ _ rfl ?_
  simp only [go_sem]
  exact pt_le rfl rfl rfl rfl rfl rfl rfl rfl rfl
def sCleanM : Spec := Spec.f1 (kA eRt) (fun _ => True) (fun r => kB.enc (decide (r.2.2.2.2.2.2 = 0)))
theorem okCleanM : SpecOK Tryz.prog 26 sCleanM := by
  refine SpecOK.f1 Tryz.func26 rfl (by decide) Tryz.results26 Tryz.ntmps26 (by decide) fun r _ => ?_
  have hΓ : GOK Tryz.prog (gam []) := GOK.nil
  obtain ⟨d, l, r, k, t, w, n⟩ := r
  refine AW.of hΓ mixed [] _ _ _ rfl ?_
  simp only [go_sem]
def sDefaultM : Spec := Spec.f0 ((kA eOp).enc (([], [], []), 0, 7, 0))
theorem okDefaultM : SpecOK Tryz.prog 49 sDefaultM := by
  refine SpecOK.f0 Tryz.func49 rfl (by decide) Tryz.results49 Tryz.ntmps49 ?_
  have hΓ : GOK Tryz.prog (gam []) := GOK.nil
  refine AW.of hΓ mixed [] _ _ _ rfl ?_
  simp only [go_sem]
  exact op_le rfl rfl rfl rfl rfl rfl
def bareB (s : BS) : BS := s.takeWhile fun c => !(c == 10)
theorem bare_at : ∀ (s : BS) (i : Nat), i ≤ s.length → (∀ k, k < i → s.getD k 0 ≠ 10) → (i < s.length → s.getD i 0 = 10) → bareB s = s.take i
  | [], i, h, _, _ => by simp [bareB]
  | c :: s, 0, _, _, h => by
    have h : c = 10 := by simpa using h (by simp)
    simp [bareB, h]
  | c :: s, i + 1, h, h1, h2 => by
    have h0 : c ≠ 10 := by simpa using h1 0 (by omega)
    have ih := bare_at s i (by simpa using h) (fun k hk => by simpa using h1 (k + 1) (by omega)) (fun hk => by simpa using h2 (by simpa using hk))
    unfold bareB at ih ⊢
    rw [List.takeWhile_cons, if_pos (by simpa using h0), ih, List.take_succ_cons]
theorem bare_plain (s : BS) : plainB (bareB s) = true := by
  unfold plainB bareB
  rw [decide_eq_true_eq]
  intro h
  have := List.all_eq_true.1 (List.all_takeWhile (p := fun c : UInt8 => !(c == 10)) (l := s)) 10 h
  simp at this
theorem bare_len (s : BS) : (bareB s).length ≤ s.length := by
  unfold bareB
  exact (List.takeWhile_sublist _).length_le
def sBareM : Spec := Spec.f1 kS (fun s => s.length ≤ 100000000000) (fun s => kS.enc (bareB s))
theorem okBareM : SpecOK Tryz.prog 63 sBareM := by
  refine SpecOK.f1 Tryz.func63 rfl (by decide) Tryz.results63 Tryz.ntmps63 (by decide) fun s hs => ?_
  have hΓ : GOK Tryz.prog (gam []) := GOK.nil
  refine AW.of hΓ mixed [] _ _ _ rfl ?_
  simp only [go_sem]
  refine AW.round (α := { i : Nat // i ≤ s.length ∧ ∀ k, k < i → s.getD k 0 ≠ 10 }) (fun x => ⟨[(0, .st s), (2, .st []), (3, .val (.int .i64 x.1))], [], 18, 0, 0, []⟩) (fun x => s.length - x.1) ⟨0, Nat.zero_le _, fun k hk => absurd hk (Nat.not_lt_zero _)⟩ ?_ ?_
  · simp only [go_sem]
  · rintro ⟨i, hi, hk⟩
    refine AW.of hΓ mixed [99999] _ _ _ rfl ?_
    simp only [go_sem]
    refine ⟨fun hlt => ⟨⟨by omega, by omega⟩, fun h => ⟨⟨by omega, by omega⟩, (bare_at s i hi hk fun _ => h).symm⟩, fun h => ⟨⟨by omega, by omega⟩, ⟨i + 1, by omega, fun k hk2 => ?_⟩, by dsimp only; omega, by dsimp only; omega⟩⟩, fun hge => ?_⟩
    · rcases Nat.lt_or_ge k i with g | g
      · exact hk k g
      · obtain rfl : k = i := by omega
        exact h
    · rw [bare_at s i hi hk (fun h => absurd h (by omega)), List.take_of_length_le (by omega)]
def u64r (n m : Int) : Int := (IntKind.u64.wrap n).tmod m
theorem u64r_in (n : Int) {m : Int} (h : 0 < m) : 0 ≤ u64r n m ∧ u64r n m < m := by
  unfold u64r
  have h1 : 0 ≤ IntKind.u64.wrap n := by rw [IntKind.wrap_u64]; omega
  rw [Int.tmod_eq_emod_of_nonneg h1]
  exact ⟨Int.emod_nonneg _ (by omega), Int.emod_lt_of_pos _ h⟩
def OptH (h : Hw) : Op := ((bareB h.2.2.2.1, bareB h.2.2.2.2.1, bareB h.2.2.2.2.2), u64r h.1 3, 7 + u64r h.2.1 58, 0)
def sOPTM : Spec := Spec.f1 (kA eHw) (fun h => h.2.2.2.1.length ≤ 100000000000 ∧ h.2.2.2.2.1.length ≤ 100000000000 ∧ h.2.2.2.2.2.length ≤ 100000000000) (fun h => (kA eOp).enc (OptH h))
theorem okOPTM : SpecOK Tryz.prog 27 sOPTM := by
  refine SpecOK.f1 Tryz.func27 rfl (by decide) Tryz.results27 Tryz.ntmps27 (by decide) fun h hh => ?_
  have hΓ : GOK Tryz.prog (gam [(19, sLabM), (63, sBareM)]) := (.cons okLabM (.cons okBareM .nil))
  obtain ⟨st, w, v, l1, l2, l3⟩ := h
  obtain ⟨h1, h2, h3⟩ := hh
  dsimp only at h1 h2 h3
  refine AW.of hΓ mixed [0, 200002] _ _ _ rfl ?_
  simp only [go_sem, sLabM, sBareM]
  refine AW.still 1 0 0 24 6 _ rfl rfl (fun j hj => match j, hj with | 0, _ => rfl | 1, _ => rfl | 2, _ => rfl | 3, _ => rfl | 4, _ => rfl | 5, _ => rfl) ?_
  refine AW.of hΓ mixed [1, 200002] _ _ _ rfl ?_
  simp only [go_sem, sLabM, sBareM]
  refine AW.fork ?_
  refine AW.drawZ hΓ mixed 9 [9, 11, 13] [9, 11, 13] [] (by decide +kernel) ?_
  simp only [go_sem, sLabM, sBareM, keeps_sL]
  refine ⟨h1, h2, h3, ?_⟩
  refine AW.cut ⟨[(1, .ps 6 (eHw.enc (st, w, v, l1, l2, l3))), (2, .pt 1 1 0), (3, .pt 2 2 0)], [(1, .box 1 40 6 (eOp.enc (([], [], []), 0, 0, 0))), (2, .box 2 44 9 (ePt.enc (bareB l1, bareB l2, bareB l3, false, [], [], [], [], false)))], 37, 3, 3, []⟩ ?_ ?_
  · simp only [go_sem, sLabM, sBareM]
    exact ⟨RowLe.box fun j hj => AVle.of_eq (match j, hj with | 0, _ => rfl | 1, _ => rfl | 2, _ => rfl | 3, _ => rfl | 4, _ => rfl | 5, _ => rfl), pt_box rfl rfl rfl rfl rfl rfl rfl rfl rfl⟩
  refine AW.of hΓ mixed [99999] _ _ _ rfl ?_
  simp only [go_sem, sLabM, sBareM]
  have g1 : 0 ≤ (IntKind.u64.wrap st).tmod 3 ∧ (IntKind.u64.wrap st).tmod 3 < 3 := u64r_in st (by decide)
  have g2 : 0 ≤ (IntKind.u64.wrap w).tmod 58 ∧ (IntKind.u64.wrap w).tmod 58 < 58 := u64r_in w (by decide)
  exact ⟨⟨by omega, by omega⟩, ⟨by omega, by omega⟩, ⟨by omega, by omega⟩, op_le rfl rfl rfl rfl rfl rfl⟩
theorem OptH_ok (h : Hw) (h1 : fewH h = true) : wrgM (OptH h) = 0 ∧ lbN (OptH h).1 ≤ 500 := by
  have g1 := u64r_in h.1 (m := 3) (by decide)
  have g2 := u64r_in h.2.1 (m := 58) (by decide)
  constructor
  · unfold wrgM OptH
    dsimp only
    rw [if_neg, if_neg (by omega), if_neg]
    · have e : styOK (u64r h.1 3) = true := by
        unfold styOK
        simp only [Bool.or_eq_true, decide_eq_true_eq]
        omega
      rw [e]
      decide
    · unfold plainLb
      rw [bare_plain, bare_plain, bare_plain]
      simp
  · unfold fewH at h1
    have h1 := of_decide_eq_true h1
    have b1 := bare_len h.2.2.2.1
    have b2 := bare_len h.2.2.2.2.1
    have b3 := bare_len h.2.2.2.2.2
    unfold lbN OptH
    dsimp only
    omega
end Go.Proofs.YtjfmigpahglajaaGreatDoor
set_option linter.unusedSimpArgs false
set_option linter.unusedVariables false
set_option maxRecDepth 100000
set_option maxHeartbeats 8000000
namespace Go.Proofs.YtjfmigpahglajaaGreatDoor
open Go
attribute [local irreducible] AW AVle ASle RowLe
theorem short_M {a b c : BS} (ha : a.length ≤ 250) (hb : b.length ≤ 250) (hc : c.length ≤ 250) : okM a b c := ⟨by omega, by omega, by omega, .inl (Nat.le_trans (splitL_len a) (by omega))⟩
end Go.Proofs.YtjfmigpahglajaaGreatDoor
set_option linter.unusedSimpArgs false
set_option linter.unusedVariables false
set_option maxRecDepth 100000
set_option maxHeartbeats 8000000
namespace Go.Proofs.YtjfmigpahglajaaGreatDoor
open Go
attribute [local irreducible] AW AVle ASle RowLe
theorem O_eq {a b c : BS} {o : Op} (he : wrgM o = 0) : mrgO a b c o = mrgT a b c o.2.2.1 o.2.1 o.1 o.2.2.2 := by unfold mrgO; rw [if_pos he]
theorem few_opt {h : Hw} (hf : fewH h = true) : ∃ m1 m2 m3 s u, OptH h = ((m1, m2, m3), s, u, 0) ∧ wrgM ((m1, m2, m3), s, u, 0) = 0 ∧ lbN (m1, m2, m3) ≤ 500 ∧ (h.2.2.2.1.length ≤ 100000000000 ∧ h.2.2.2.2.1.length ≤ 100000000000 ∧ h.2.2.2.2.2.length ≤ 100000000000) := by
  obtain ⟨h1, h2⟩ := OptH_ok h hf
  have hf := of_decide_eq_true hf
  exact ⟨_, _, _, _, _, rfl, h1, h2, by omega, by omega, by omega⟩
end Go.Proofs.YtjfmigpahglajaaGreatDoor
set_option linter.unusedSimpArgs false
set_option linter.unusedVariables false
set_option maxRecDepth 100000
set_option maxHeartbeats 2000000
namespace Go.Proofs.YtjfmigpahglajaaGreatDoor
open Go
attribute [local irreducible] AW AVle ASle RowLe
def sLcsLongest : Spec := Spec.f3 (kL eI) (kL eI) (kL (eP eI eI)) (fun a b l => a.length < 100000000 ∧ b.length < 100000000 ∧ l.length < 100000000) (fun a b l => kB.enc (rgt a b (-1) (-1) l && decide (l.length = lcsN a b)))
theorem okLcsLongest : SpecOK Tryz.prog 35 sLcsLongest := by
  refine SpecOK.f3 Tryz.func35 rfl (by decide) Tryz.results35 Tryz.ntmps35 (by decide) fun a b l ⟨ha, hb, hl⟩ => ?_
  have hΓ : GOK Tryz.prog (gam [(58, sLcsRefRight), (59, sLcsLength)]) := (.cons okLcsRefRight (.cons okLcsLength .nil))
  refine AW.of hΓ mixed [] _ _ _ rfl ?_
  simp only [go_sem, sLcsRefRight, sLcsLength, pp_sz]
  exact ⟨⟨ha, hb, hl⟩, fun _ => ⟨ha, hb⟩, by congr 1; exact decide_eq_decide.2 (by omega)⟩
end Go.Proofs.YtjfmigpahglajaaGreatDoor
set_option linter.unusedSimpArgs false
set_option linter.unusedVariables false
set_option maxRecDepth 100000
set_option maxHeartbeats 2000000
namespace Go.Proofs.YtjfmigpahglajaaGreatDoor
open Go
abbrev Rs := BS × Nat × Nat × Int × Pt × List Pt
attribute [local irreducible] AW AVle ASle RowLe
end Go.Proofs.YtjfmigpahglajaaGreatDoor
set_option linter.unusedSimpArgs false
set_option linter.unusedVariables false
set_option maxRecDepth 100000
set_option maxHeartbeats 8000000
namespace Go.Proofs.YtjfmigpahglajaaGreatDoor
open Go
attribute [local irreducible] AW AVle ASle RowLe
def sFitsT : Spec := Spec.f1 (kA eHw) rchH (fun h => kB.enc (fewH h))
theorem okFitsT : SpecOK Tryz.prog 31 sFitsT := by
  refine SpecOK.f1 Tryz.func31 rfl (by decide) Tryz.results31 Tryz.ntmps31 (by decide) fun h hh => ?_
  have hΓ : GOK Tryz.prog (gam []) := GOK.nil
  obtain ⟨st, w, v, l1, l2, l3⟩ := h
  obtain ⟨h1, h2, h3⟩ := hh
  dsimp only at h1 h2 h3
  refine AW.of hΓ mixed [] _ _ _ rfl ?_
  simp only [go_sem]
  refine ⟨⟨by omega, by omega⟩, ⟨by omega, by omega⟩, ?_⟩
  unfold fewH
  exact decide_eq_decide.2 (by dsimp only; omega)
theorem alive_prs : prsF (splitL [97, 10]) (splitL [98, 10]) = [] ∧ prsF (splitL [97, 10]) (splitL [99, 10]) = [] := by decide +kernel
theorem alive_K : mrgK (filesF [97, 10] [98, 10] [99, 10]) = [(false, (0, 1), (0, 1), (0, 1))] := by
  have h := alive_prs
  unfold mrgK cksF filesF
  dsimp only
  rw [h.1, h.2, both_nil]
  decide
theorem alive_D : mrgD [97, 10] [98, 10] [99, 10] 0 ([], [], []) 0 = [([], [], [], true, [], [98, 10], [], [99, 10], false)] := by
  unfold mrgD
  rw [alive_K]
  decide +kernel
theorem alive_O : mrgO [97, 10] [98, 10] [99, 10] (([], [], []), 0, 7, 0) = ([([], [], [], true, [], [98, 10], [], [99, 10], false)], [], [], [(false, (0, 1), (0, 1), (0, 1))],
    [60, 60, 60, 60, 60, 60, 60, 10, 98, 10, 61, 61, 61, 61, 61, 61, 61, 10, 99, 10, 62, 62, 62, 62, 62, 62, 62, 10], 7, 1) := by
  have h := alive_prs
  unfold mrgO
  rw [if_pos (by decide)]
  unfold mrgT
  dsimp only
  rw [alive_D, alive_K, h.1, h.2]
  have e1 : mrgW 7 [97, 10] [98, 10] [99, 10] = 7 := by decide +kernel
  have e2 : printL 7 [([], [], [], true, [], [98, 10], [], [99, 10], false)] = [60, 60, 60, 60, 60, 60, 60, 10, 98, 10, 61, 61, 61, 61, 61, 61, 61, 10, 99, 10, 62, 62, 62, 62, 62, 62, 62, 10] := by decide +kernel
  have e3 : cntF (filesF [97, 10] [98, 10] [99, 10]) [(false, (0, 1), (0, 1), (0, 1))] = 1 := by decide +kernel
  rw [e1, e2, e3]
  rfl
def sAlive : Spec := Spec.f0 (kB.enc true)
theorem okAlive : SpecOK Tryz.prog 32 sAlive := by
  refine SpecOK.f0 Tryz.func32 rfl (by decide) Tryz.results32 Tryz.ntmps32 ?_
  have hΓ : GOK Tryz.prog (gam [(49, sDefaultM), (16, sTexts)]) := (.cons okDefaultM (.cons okTexts .nil))
  have ht := alive_O
  have hw : wrgM (([], [], []), 0, 7, 0) = 0 := by decide
  have hok : okM [97, 10] [98, 10] [99, 10] := by unfold okM; decide
  refine AW.of hΓ mixed [99999] _ _ _ rfl ?_
  simp only [go_sem, sDefaultM, sTexts, ht, hw]
  exact ⟨hok, by unfold lbN; decide⟩
def sUnlike : Spec := Spec.f2 (kA eFl) (kL eCk) (fun f L => okFl f ∧ wholeF f ∧ L = mrgK f) (fun f L => kI.enc (cntF f L))
theorem okUnlike : SpecOK Tryz.prog 40 sUnlike := by
  refine SpecOK.f2 Tryz.func40 rfl (by decide) Tryz.results40 Tryz.ntmps40 (by decide) fun f L ⟨hf, hw, hL⟩ => ?_
  have hΓ : GOK Tryz.prog (gam [(74, sRefCutK), (78, sRefJoin)]) := (.cons okRefCutK (.cons okRefJoin .nil))
  have hff := hf
  have hun := fun c hc => unlike_iff (f := f) hw (c := c) (by rw [← hL]; exact hc)
  obtain ⟨fb, fl, fr⟩ := f
  obtain ⟨hf1, hf2, hf3⟩ := hff
  dsimp only at hf1 hf2 hf3
  have hLl : L.length ≤ 100000000 := by
    have := (mrgK_len (fb, fl, fr)).1
    rw [hL]
    dsimp only at this
    omega
  refine AW.of hΓ mixed [0] _ _ _ rfl ?_
  simp only [go_sem, sRefCutK, sRefJoin]
  refine AW.still 2 0 0 79 3 _ rfl rfl (fun j hj => match j, hj with | 0, _ => rfl | 1, _ => rfl | 2, _ => rfl) ?_
  refine AW.of hΓ mixed [] _ _ _ rfl ?_
  simp only [go_sem, sRefCutK, sRefJoin]
  refine AW.round (α := { i : Nat // i ≤ L.length })
    (fun x => ⟨[(1, sL eCk L), (2, .ps 3 (eFl.enc (fb, fl, fr))), (5, .val (.int .i64 (cntF (fb, fl, fr) (L.take x.1)))), (6, .val (.int .i64 x.1))], [], 59, 1, 1, []⟩) (fun x => L.length - x.1) ⟨0, Nat.zero_le _⟩ ?_ ?_
  · simp only [go_sem, sRefCutK, sRefJoin]
    rfl
  · rintro ⟨i, hi⟩
    have hcn := cnt_le (fb, fl, fr) (L.take i)
    rw [List.length_take] at hcn
    rcases Nat.lt_or_ge i L.length with hlt' | hge
    · have hlI : ((i : Int) < (L.length : Nat)) = True := eq_true (by omega)
      have hsn := cnt_snoc (fb, fl, fr) (L.getD i eCk.dflt) (L.take i)
      rw [← take_snoc L eCk.dflt hlt'] at hsn
      have hm : L.getD i eCk.dflt ∈ L := by rw [gd_lt _ _ hlt']; exact List.getElem_mem hlt'
      have hun := hun _ hm
      generalize hce : L.getD i eCk.dflt = c at *
      obtain ⟨cs, ⟨cb1, cb2⟩, ⟨cl1, cl2⟩, cr1, cr2⟩ := c
      unfold cutB cutO cutT at hun
      dsimp only at hun
      have k1 := okLs_sub (cutS_sub (cb1, cb2) fb) hf1.1 hf1.2
      have k2 := okLs_sub (cutS_sub (cl1, cl2) fl) hf2.1 hf2.2
      have k3 := okLs_sub (cutS_sub (cr1, cr2) fr) hf3.1 hf3.2
      refine AW.of hΓ mixed [99999] _ _ _ rfl ?_
      simp only [go_sem, sRefCutK, sRefJoin, hce, hlI]
      refine ⟨by omega, by omega, k1, by omega, by omega, k2, by omega, by omega, k3, fun h => ⟨⟨by omega, by omega⟩, ⟨by omega, by omega⟩, ⟨i + 1, by omega⟩, ⟨?_, by dsimp only; omega⟩, by dsimp only; omega⟩, fun h => ⟨⟨by omega, by omega⟩, ⟨i + 1, by omega⟩, ⟨?_, by dsimp only; omega⟩, by dsimp only; omega⟩⟩
      · dsimp only
        rw [hsn, if_pos (hun.2 ⟨h.1.1, h.1.2, h.2⟩)]
        omega
      · dsimp only
        rw [hsn, if_neg (fun e => h ⟨(hun.1 e).1, (hun.1 e).2.1⟩ (hun.1 e).2.2)]
        omega
    · obtain rfl : i = L.length := by omega
      rw [List.take_length]
      refine AW.of hΓ mixed [99999] _ _ _ rfl ?_
      simp only [go_sem, sRefCutK, sRefJoin]
end Go.Proofs.YtjfmigpahglajaaGreatDoor
set_option linter.unusedSimpArgs false
set_option linter.unusedVariables false
set_option maxRecDepth 100000
set_option maxHeartbeats 8000000
namespace Go.Proofs.YtjfmigpahglajaaGreatDoor
open Go
attribute [local irreducible] AW AVle ASle RowLe
def sTripartiteMerges : Spec := Spec.f2 (kA eLb) (kA eHw) (fun _ h => rchH h) (fun _ _ => kB.enc true)
theorem okTripartiteMerges : SpecOK Tryz.prog 8 sTripartiteMerges := by
  refine SpecOK.f2 Tryz.func8 rfl (by decide) Tryz.results8 Tryz.ntmps8 (by decide) fun t h hh => ?_
  have hΓ : GOK Tryz.prog (gam [(31, sFitsT), (32, sAlive), (15, sShortM), (27, sOPTM), (16, sTexts), (33, sRefSplit), (34, sRefNumber), (21, sLcsFrom), (35, sLcsLongest), (36, sRefOfK), (37, sRefDocB), (38, sRefPrint), (25, sFromK), (24, sSameK), (23, sFromD), (22, sSameD), (39, sRefCountB), (40, sUnlike)]) := (.cons okFitsT (.cons okAlive (.cons okShortM (.cons okOPTM (.cons okTexts (.cons okRefSplit (.cons okRefNumber (.cons okLcsFrom (.cons okLcsLongest (.cons okRefOfK (.cons okRefDocB (.cons okRefPrint (.cons okFromK (.cons okSameK (.cons okFromD (.cons okSameD (.cons okRefCountB (.cons okUnlike .nil))))))))))))))))))
  obtain ⟨ta, tb, tc⟩ := t
  obtain ⟨st, w, v, l1, l2, l3⟩ := h
  have la : (ta.take 250).length ≤ 250 := by simp; omega
  have lb : (tb.take 250).length ≤ 250 := by simp; omega
  have lc : (tc.take 250).length ≤ 250 := by simp; omega
  refine AW.of hΓ mixed [0] _ _ _ rfl ?_
  simp only [go_sem, sFitsT, sAlive, sShortM, sOPTM, sTexts, sRefSplit, sRefNumber, sLcsFrom, sLcsLongest, sRefOfK, sRefDocB, sRefPrint, sFromK, sSameK, sFromD, sSameD, sRefCountB, sUnlike]
  refine AW.still 2 0 0 22 3 _ rfl rfl (fun j hj => match j, hj with | 0, _ => rfl | 1, _ => rfl | 2, _ => rfl) ?_
  refine AW.still 3 1 1 24 6 _ rfl rfl (fun j hj => match j, hj with | 0, _ => rfl | 1, _ => rfl | 2, _ => rfl | 3, _ => rfl | 4, _ => rfl | 5, _ => rfl) ?_
  refine AW.of hΓ mixed [3] _ _ _ rfl ?_
  simp only [go_sem, sFitsT, sAlive, sShortM, sOPTM, sTexts, sRefSplit, sRefNumber, sLcsFrom, sLcsLongest, sRefOfK, sRefDocB, sRefPrint, sFromK, sSameK, sFromD, sSameD, sRefCountB, sUnlike]
  refine ⟨hh, fun hfew => ?_⟩
  have hfew : fewH (st, w, v, l1, l2, l3) = true := by simpa using hfew
  obtain ⟨m1, m2, m3, s, u, ho, hw, hl, hl2⟩ := few_opt hfew
  refine AW.cut ⟨[(3, .ps 6 (eHw.enc (st, w, v, l1, l2, l3))), (5, .st (ta.take 250)), (6, .st (tb.take 250)), (7, .st (tc.take 250))], [], 174, 2, 2, []⟩ ?_ ?_
  · simp only [go_sem, sFitsT, sAlive, sShortM, sOPTM, sTexts, sRefSplit, sRefNumber, sLcsFrom, sLcsLongest, sRefOfK, sRefDocB, sRefPrint, sFromK, sSameK, sFromD, sSameD, sRefCountB, sUnlike]
  generalize ta.take 250 = a at *
  generalize tb.take 250 = b at *
  generalize tc.take 250 = c at *
  refine AW.of hΓ mixed [4] _ _ _ rfl ?_
  simp only [go_sem, sFitsT, sAlive, sShortM, sOPTM, sTexts, sRefSplit, sRefNumber, sLcsFrom, sLcsLongest, sRefOfK, sRefDocB, sRefPrint, sFromK, sSameK, sFromD, sSameD, sRefCountB, sUnlike, ho]
  refine ⟨hl2, ?_⟩
  refine AW.cut ⟨[(5, .st a), (6, .st b), (7, .st c), (8, .pt 2 2 0)], [(2, .box 2 40 6 (eOp.enc ((m1, m2, m3), s, u, 0)))], 174, 3, 3, []⟩ ?_ ?_
  · simp only [go_sem, sFitsT, sAlive, sShortM, sOPTM, sTexts, sRefSplit, sRefNumber, sLcsFrom, sLcsLongest, sRefOfK, sRefDocB, sRefPrint, sFromK, sSameK, sFromD, sSameD, sRefCountB, sUnlike]
    exact box_st
  refine AW.still 8 2 2 40 6 _ rfl rfl (fun j hj => match j, hj with | 0, _ => rfl | 1, _ => rfl | 2, _ => rfl | 3, _ => rfl | 4, _ => rfl | 5, _ => rfl) ?_
  obtain ⟨p1, p2, p3⟩ := wrg_0 hw
  dsimp only at p1 p2 p3
  have hM := short_M la lb lc
  have hF := mrg_facts hM p2 s (lb := (m1, m2, m3)) (by omega) p1 0
  have e0 := O_eq (a := a) (b := b) (c := c) hw
  unfold mrgT at e0
  dsimp only at e0
  have hfit : fitK (splitL a).length (splitL b).length (splitL c).length (prsF (splitL a) (splitL b)) (prsF (splitL a) (splitL c)) = true := mtch_fit (prs_three (filesF a b c)).1
  have hK : ofK (((splitL a).length : Int), ((splitL b).length : Int), ((splitL c).length : Int)) (bothF (prsF (splitL a) (splitL b)) (prsF (splitL a) (splitL c))) [] (0, 0, 0) = mrgK (filesF a b c) := rfl
  have hdoc : docF (splitL a, splitL b, splitL c) (mrgK (filesF a b c)) s (m1, m2, m3) 0 = (mrgD a b c s (m1, m2, m3) 0, 0) := doc_mrg p3 p1
  have hpr := mrg_text hF
  have hok := hF.ok
  have hlen := hF.len
  have hsum := hF.sum
  have hdl := hF.dlen
  have hpL := hF.pr
  have hps := sum_okPs (Nat.le_trans hF.sump (by decide))
  have hwh := files_w a b c
  have la' := splitL_len a
  have lb' := splitL_len b
  have lc' := splitL_len c
  obtain ⟨⟨q1, q2⟩, q3, q4⟩ := prs_three (filesF a b c)
  have n0 : (numF [] [splitL a, splitL b, splitL c]).length = 3 := by rw [numF_len]; rfl
  have n1 : ((numF [] [splitL a, splitL b, splitL c]).getD 0 []).length = (splitL a).length := by simp [numF, numL_len]
  have n2 : ((numF [] [splitL a, splitL b, splitL c]).getD 1 []).length = (splitL b).length := by simp [numF, numL_len]
  have n3 : ((numF [] [splitL a, splitL b, splitL c]).getD 2 []).length = (splitL c).length := by simp [numF, numL_len]
  unfold filesF at q1 q2 q3 q4
  dsimp only at q1 q2 q3 q4
  have hl3 := prsF_len (splitL a) (splitL b)
  have hr3 := prsF_len (splitL a) (splitL c)
  have hlb : lbP (m1, m2, m3, false, [], [], [], [], false) = (m1, m2, m3) := rfl
  have hlb2 : okLb (m1, m2, m3) := by
    unfold lbN at hl
    unfold okLb
    dsimp only at hl ⊢
    omega
  unfold filesF at *
  generalize mrgD a b c s (m1, m2, m3) 0 = D at *
  generalize mrgW u a b c = W at *
  generalize hKe : mrgK (splitL a, splitL b, splitL c) = K at *
  generalize hlp : prsF (splitL a) (splitL b) = lp at *
  generalize hrp : prsF (splitL a) (splitL c) = rp at *
  generalize hx : splitL a = x at *
  generalize hy : splitL b = y at *
  generalize hz : splitL c = z at *
  refine AW.of hΓ mixed [7] _ _ _ rfl ?_
  simp only [go_sem, sFitsT, sAlive, sShortM, sOPTM, sTexts, sRefSplit, sRefNumber, sLcsFrom, sLcsLongest, sRefOfK, sRefDocB, sRefPrint, sFromK, sSameK, sFromD, sSameD, sRefCountB, sUnlike, e0, hw, hx, hy, hz]
  refine ⟨⟨hM, by omega⟩, by omega, by omega, by omega, ⟨by omega, by omega⟩, ?_⟩
  generalize hN : numF [] [x, y, z] = N at *
  refine AW.cut ⟨[(8, .ps 6 (eOp.enc ((m1, m2, m3), s, u, 0))), (9, .pt 3 3 0), (10, .val (.int .i64 0)), (11, sL eS x), (12, sL eS y), (13, sL eS z), (14, sL (eL eI) N)], [(3, .box 3 33 7 (eRt.enc (D, lp, rp, K, printL W D, W, (cntF (x, y, z) K : Int))))], 174, 4, 4, []⟩ ?_ ?_
  · simp only [go_sem, sFitsT, sAlive, sShortM, sOPTM, sTexts, sRefSplit, sRefNumber, sLcsFrom, sLcsLongest, sRefOfK, sRefDocB, sRefPrint, sFromK, sSameK, sFromD, sSameD, sRefCountB, sUnlike]
    exact box_st
  refine AW.still 9 3 3 33 7 _ rfl rfl (fun j hj => match j, hj with | 0, _ => rfl | 1, _ => rfl | 2, _ => rfl | 3, _ => rfl | 4, _ => rfl | 5, _ => rfl | 6, _ => rfl) ?_
  have d3 := decide_eq_true q3
  have d4 := decide_eq_true q4
  refine AW.of hΓ mixed [11] _ _ _ rfl ?_
  simp only [go_sem, sFitsT, sAlive, sShortM, sOPTM, sTexts, sRefSplit, sRefNumber, sLcsFrom, sLcsLongest, sRefOfK, sRefDocB, sRefPrint, sFromK, sSameK, sFromD, sSameD, sRefCountB, sUnlike, n0, n1, n2, n3, q1, q2, d3, d4, hfit, hK]
  refine ⟨by omega, ⟨by omega, by omega, by omega⟩, by omega, ⟨by omega, by omega, by omega⟩, by omega, by omega, ⟨by omega, by omega, by omega, by omega, by omega⟩, ?_⟩
  refine AW.cut ⟨[(8, .ps 6 (eOp.enc ((m1, m2, m3), s, u, 0))), (9, .ps 7 (eRt.enc (D, lp, rp, K, printL W D, W, (cntF (x, y, z) K : Int)))), (15, sL eCk K), (16, .val (.bool true)), (17, .pt 4 4 0)], [(4, .box 4 79 3 (eFl.enc (x, y, z)))], 174, 5, 5, []⟩ ?_ ?_
  · simp only [go_sem, sFitsT, sAlive, sShortM, sOPTM, sTexts, sRefSplit, sRefNumber, sLcsFrom, sLcsLongest, sRefOfK, sRefDocB, sRefPrint, sFromK, sSameK, sFromD, sSameD, sRefCountB, sUnlike]
    exact RowLe.box fun j hj => AVle.of_eq (match j, hj with | 0, _ => rfl | 1, _ => rfl | 2, _ => rfl)
  refine AW.still 17 4 4 79 3 _ rfl rfl (fun j hj => match j, hj with | 0, _ => rfl | 1, _ => rfl | 2, _ => rfl) ?_
  generalize hTe : printL W D = T at *
  refine AW.of hΓ mixed [99999] _ _ _ rfl ?_
  simp only [go_sem, sFitsT, sAlive, sShortM, sOPTM, sTexts, sRefSplit, sRefNumber, sLcsFrom, sLcsLongest, sRefOfK, sRefDocB, sRefPrint, sFromK, sSameK, sFromD, sSameD, sRefCountB, sUnlike, hlb, hdoc, hpr]
  exact ⟨⟨⟨hok, by omega, hsum⟩, hlb2⟩, ⟨⟨by omega, hps⟩, fun _ => by rw [hTe]; exact hpL⟩, by omega, by omega, by omega, by omega, ⟨hok, by omega⟩, hok, hwh, hKe.symm⟩
def spT (g : Ck → List BS) (L : List Ck) : BS := (L.map g).flatten.flatten
theorem spT_snoc (g : Ck → List BS) (L : List Ck) (c : Ck) : spT g (L ++ [c]) = spT g L ++ (g c).flatten := by simp [spT]
theorem spT_app (g : Ck → List BS) (L M : List Ck) : spT g (L ++ M) = spT g L ++ spT g M := by simp [spT]
theorem spT_take (g : Ck → List BS) (L : List Ck) (i : Nat) : (spT g (L.take i)).length ≤ (spT g L).length := by
  have e : (spT g (L.take i ++ L.drop i)).length = (spT g L).length := by rw [List.take_append_drop]
  rw [spT_app, List.length_append] at e
  omega
def sTripartiteSpans : Spec := Spec.f2 (kA eLb) (kA eHw) (fun _ h => rchH h) (fun _ _ => kB.enc true)
theorem okTripartiteSpans : SpecOK Tryz.prog 9 sTripartiteSpans := by
  refine SpecOK.f2 Tryz.func9 rfl (by decide) Tryz.results9 Tryz.ntmps9 (by decide) fun t h hh => ?_
  have hΓ : GOK Tryz.prog (gam [(31, sFitsT), (32, sAlive), (15, sShortM), (27, sOPTM), (16, sTexts), (41, sSplit), (42, sJoin), (43, sCutK), (44, sClassK)]) := (.cons okFitsT (.cons okAlive (.cons okShortM (.cons okOPTM (.cons okTexts (.cons okSplit (.cons okJoin (.cons okCutK (.cons okClassK .nil)))))))))
  obtain ⟨ta, tb, tc⟩ := t
  obtain ⟨st, w, v, l1, l2, l3⟩ := h
  have la : (ta.take 250).length ≤ 250 := by simp; omega
  have lb : (tb.take 250).length ≤ 250 := by simp; omega
  have lc : (tc.take 250).length ≤ 250 := by simp; omega
  refine AW.of hΓ mixed [0] _ _ _ rfl ?_
  simp only [go_sem, sFitsT, sAlive, sShortM, sOPTM, sTexts, sSplit, sJoin, sCutK, sClassK]
  refine AW.still 2 0 0 22 3 _ rfl rfl (fun j hj => match j, hj with | 0, _ => rfl | 1, _ => rfl | 2, _ => rfl) ?_
  refine AW.still 3 1 1 24 6 _ rfl rfl (fun j hj => match j, hj with | 0, _ => rfl | 1, _ => rfl | 2, _ => rfl | 3, _ => rfl | 4, _ => rfl | 5, _ => rfl) ?_
  refine AW.of hΓ mixed [3] _ _ _ rfl ?_
  simp only [go_sem, sFitsT, sAlive, sShortM, sOPTM, sTexts, sSplit, sJoin, sCutK, sClassK]
  refine ⟨hh, fun hfew => ?_⟩
  have hfew : fewH (st, w, v, l1, l2, l3) = true := by simpa using hfew
  obtain ⟨m1, m2, m3, s, u, ho, hw, hl, hl2⟩ := few_opt hfew
  refine AW.cut ⟨[(3, .ps 6 (eHw.enc (st, w, v, l1, l2, l3))), (5, .st (ta.take 250)), (6, .st (tb.take 250)), (7, .st (tc.take 250))], [], 107, 2, 2, []⟩ ?_ ?_
  · simp only [go_sem, sFitsT, sAlive, sShortM, sOPTM, sTexts, sSplit, sJoin, sCutK, sClassK]
  generalize ta.take 250 = a at *
  generalize tb.take 250 = b at *
  generalize tc.take 250 = c at *
  have hM := short_M la lb lc
  obtain ⟨p1, p2, p3⟩ := wrg_0 hw
  dsimp only at p1 p2 p3
  have hF := mrg_facts hM p2 s (lb := (m1, m2, m3)) (by omega) p1 0
  have e0 := O_eq (a := a) (b := b) (c := c) hw
  unfold mrgT at e0
  dsimp only at e0
  obtain ⟨hf1, hf2, hf3⟩ := hF.ok
  have hKl := hF.len
  have sB : spT (cutB (filesF a b c)) (mrgK (filesF a b c)) = a := by unfold spT; rw [spanB]; exact splitL_flat a
  have sO : spT (cutO (filesF a b c)) (mrgK (filesF a b c)) = b := by unfold spT; rw [spanO]; exact splitL_flat b
  have sT : spT (cutT (filesF a b c)) (mrgK (filesF a b c)) = c := by unfold spT; rw [spanT]; exact splitL_flat c
  have hst := stable_iff (f := filesF a b c)
  unfold filesF at *
  dsimp only at hf1 hf2 hf3
  generalize mrgD a b c s (m1, m2, m3) 0 = D at *
  generalize mrgW u a b c = W at *
  generalize mrgK (splitL a, splitL b, splitL c) = K at *
  generalize prsF (splitL a) (splitL b) = lp at *
  generalize prsF (splitL a) (splitL c) = rp at *
  generalize printL W D = T at *
  generalize hx : splitL a = x at *
  generalize hy : splitL b = y at *
  generalize hz : splitL c = z at *
  generalize ((cntF (x, y, z) K : Nat) : Int) = n at *
  refine AW.of hΓ mixed [4] _ _ _ rfl ?_
  simp only [go_sem, sFitsT, sAlive, sShortM, sOPTM, sTexts, sSplit, sJoin, sCutK, sClassK, ho, e0, hw]
  refine ⟨hl2, ⟨hM, by omega⟩, ?_⟩
  refine AW.cut ⟨[(5, .st a), (6, .st b), (7, .st c), (8, .pt 2 2 0), (9, .val (.int .i64 0))], [(2, .box 2 33 7 (eRt.enc (D, lp, rp, K, T, W, n)))], 107, 3, 3, []⟩ ?_ ?_
  · simp only [go_sem, sFitsT, sAlive, sShortM, sOPTM, sTexts, sSplit, sJoin, sCutK, sClassK]
    exact box_st
  refine AW.still 8 2 2 33 7 _ rfl rfl (fun j hj => match j, hj with | 0, _ => rfl | 1, _ => rfl | 2, _ => rfl | 3, _ => rfl | 4, _ => rfl | 5, _ => rfl | 6, _ => rfl) ?_
  refine AW.of hΓ mixed [] _ _ _ rfl ?_
  simp only [go_sem, sFitsT, sAlive, sShortM, sOPTM, sTexts, sSplit, sJoin, sCutK, sClassK, hx, hy, hz]
  refine ⟨by omega, by omega, by omega, ?_⟩
  refine AW.round (α := { x : Nat × Nat // x.1 ≤ K.length })
    (fun q => ⟨[(5, .st a), (6, .st b), (7, .st c), (8, .ps 7 (eRt.enc (D, lp, rp, K, T, W, n))), (10, sL eS x), (11, sL eS y), (12, sL eS z), (13, .st (spT (cutB (x, y, z)) (K.take q.1.1))), (14, .st (spT (cutO (x, y, z)) (K.take q.1.1))), (15, .st (spT (cutT (x, y, z)) (K.take q.1.1))), (16, .val (.int .i64 q.1.1))], [], 107, 3, q.1.2, []⟩) (fun q => K.length - q.1.1) ⟨(0, 3), Nat.zero_le _⟩ ?_ ?_
  · simp only [go_sem, sFitsT, sAlive, sShortM, sOPTM, sTexts, sSplit, sJoin, sCutK, sClassK]
    exact ⟨rfl, rfl, rfl⟩
  · rintro ⟨⟨i, nx⟩, hi⟩
    simp only at hi
    rcases Nat.lt_or_ge i K.length with hlt | hge
    · have hlI : ((i : Int) < (K.length : Nat)) = True := eq_true (by omega)
      have tk := take_snoc K eCk.dflt hlt
      have bB := spT_take (cutB (x, y, z)) K (i + 1)
      have bO := spT_take (cutO (x, y, z)) K (i + 1)
      have bT := spT_take (cutT (x, y, z)) K (i + 1)
      have nB := spT_snoc (cutB (x, y, z)) (K.take i) (K.getD i eCk.dflt)
      have nO := spT_snoc (cutO (x, y, z)) (K.take i) (K.getD i eCk.dflt)
      have nT := spT_snoc (cutT (x, y, z)) (K.take i) (K.getD i eCk.dflt)
      rw [← tk] at nB nO nT
      rw [nB, List.length_append, sB] at bB
      rw [nO, List.length_append, sO] at bO
      rw [nT, List.length_append, sT] at bT
      have hst := hst (K.getD i eCk.dflt)
      generalize hce : K.getD i eCk.dflt = k at *
      obtain ⟨cs, ⟨cb1, cb2⟩, ⟨cl1, cl2⟩, cr1, cr2⟩ := k
      have k1 := okLs_sub (cutS_sub (cb1, cb2) x) hf1.1 hf1.2
      have k2 := okLs_sub (cutS_sub (cl1, cl2) y) hf2.1 hf2.2
      have k3 := okLs_sub (cutS_sub (cr1, cr2) z) hf3.1 hf3.2
      have eB : cutB (x, y, z) (cs, (cb1, cb2), (cl1, cl2), cr1, cr2) = cutS (cb1, cb2) x := rfl
      have eO : cutO (x, y, z) (cs, (cb1, cb2), (cl1, cl2), cr1, cr2) = cutS (cl1, cl2) y := rfl
      have eT : cutT (x, y, z) (cs, (cb1, cb2), (cl1, cl2), cr1, cr2) = cutS (cr1, cr2) z := rfl
      rw [eB] at nB bB
      rw [eO] at nO bO
      rw [eT] at nT bT
      unfold clsF at hst
      dsimp only at hst
      refine AW.of hΓ mixed [12] _ _ _ rfl ?_
      simp only [go_sem, sFitsT, sAlive, sShortM, sOPTM, sTexts, sSplit, sJoin, sCutK, sClassK, hlI, hce]
      refine ⟨by omega, ?_⟩
      refine AW.cut ⟨[(5, .st a), (6, .st b), (7, .st c), (8, .ps 7 (eRt.enc (D, lp, rp, K, T, W, n))), (10, sL eS x), (11, sL eS y), (12, sL eS z), (13, .st (spT (cutB (x, y, z)) (K.take i))), (14, .st (spT (cutO (x, y, z)) (K.take i))), (15, .st (spT (cutT (x, y, z)) (K.take i))), (16, .val (.int .i64 i)), (17, .pt 3 nx 0)],
        [(3, .box nx 63 7 (eCk.enc (cs, (cb1, cb2), (cl1, cl2), cr1, cr2)))], 107, 4, nx + 1, []⟩ ?_ ?_
      · simp only [go_sem, sFitsT, sAlive, sShortM, sOPTM, sTexts, sSplit, sJoin, sCutK, sClassK]
        exact box_st
      refine AW.still 17 3 nx 63 7 _ rfl rfl (fun j hj => match j, hj with | 0, _ => rfl | 1, _ => rfl | 2, _ => rfl | 3, _ => rfl | 4, _ => rfl | 5, _ => rfl | 6, _ => rfl) ?_
      have hcs : cs = decide (classK (cs, (cb1, cb2), (cl1, cl2), cr1, cr2) x y z = 0) := by
        rw [Bool.eq_iff_iff, decide_eq_true_eq]
        exact hst.symm
      refine AW.of hΓ mixed [99999] _ _ _ rfl ?_
      simp only [go_sem, sFitsT, sAlive, sShortM, sOPTM, sTexts, sSplit, sJoin, sCutK, sClassK]
      exact ⟨by omega, k1, by omega, by omega, k2, by omega, by omega, k3, by omega, ⟨by omega, by omega, by omega⟩, fun h => absurd hcs h, fun _ => ⟨⟨by omega, by omega⟩, ⟨(i + 1, nx + 1), by dsimp only; omega⟩, ⟨Nat.le_refl _, nB.symm, nO.symm, nT.symm, by dsimp only; omega⟩, by dsimp only; omega⟩⟩
    · obtain rfl : i = K.length := by omega
      rw [List.take_length, sB, sO, sT]
      refine AW.of hΓ mixed [99999] _ _ _ rfl ?_
      simp only [go_sem, sFitsT, sAlive, sShortM, sOPTM, sTexts, sSplit, sJoin, sCutK, sClassK]
end Go.Proofs.YtjfmigpahglajaaGreatDoor
set_option linter.unusedSimpArgs false
set_option linter.unusedVariables false
set_option maxRecDepth 100000
namespace Go.Proofs.YtjfmigpahglajaaGreatDoor
open Go
structure It where
  s : BS
  l : List BS
  r : List BS
  w : List BS
  k : Nat
def it0 : It := ⟨[], [], [], [], 0⟩
def itOK (t : It) : Prop := (t.k = 0 ∧ t.l = [t.s] ∧ t.r = [t.s] ∧ t.w = [t.s]) ∨ (t.k = 1 ∧ t.r = [t.s] ∧ t.w = t.l ∧ t.s ∉ t.l ∧ t.l.length ≤ 1) ∨ (t.k = 2 ∧ t.l = [t.s] ∧ t.w = t.r ∧ t.s ∉ t.r ∧ t.r.length ≤ 1)
structure ItsOK (I : List It) : Prop where
  ok : ∀ t ∈ I, itOK t
  nod : (I.map It.s).Nodup
  newl : ∀ t ∈ I, ∀ x ∈ t.l, x ∈ I.map It.s → x = t.s
  newr : ∀ t ∈ I, ∀ x ∈ t.r, x ∈ I.map It.s → x = t.s
  adj : ∀ i, i + 1 < I.length → (I.getD i it0).k + (I.getD (i + 1) it0).k ≠ 3
def pf (g : It → List BS) (I : List It) (i : Nat) : Nat := ((I.take i).flatMap g).length
theorem it_mem {I : List It} {i : Nat} (h : i < I.length) : I.getD i it0 ∈ I := by
  rw [gd_lt _ _ h]; exact List.getElem_mem h
theorem it_take {I : List It} {i : Nat} (h : i < I.length) : I.take (i + 1) = I.take i ++ [I.getD i it0] := take_snoc I it0 h
theorem pf_succ {g : It → List BS} {I : List It} {i : Nat} (h : i < I.length) : pf g I (i + 1) = pf g I i + (g (I.getD i it0)).length := by
  unfold pf
  rw [it_take h, List.flatMap_append, List.length_append]
  simp
theorem pf_all (g : It → List BS) (I : List It) : pf g I I.length = (I.flatMap g).length := by unfold pf; rw [List.take_length]
theorem s_at {I : List It} {i : Nat} (h : i < I.length) : (I.map It.s).getD i [] = (I.getD i it0).s := by
  rw [gd_lt _ _ (by simpa using h), gd_lt _ _ h, List.getElem_map]
theorem s_inj {I : List It} (hn : (I.map It.s).Nodup) {i j : Nat} (hi : i < I.length) (hj : j < I.length) (h : (I.getD i it0).s = (I.getD j it0).s) : i = j := by
  rw [← s_at hi, ← s_at hj] at h
  rw [gd_lt _ _ (by simpa using hi), gd_lt _ _ (by simpa using hj)] at h
  exact (List.getElem_inj hn).1 h
theorem flat_at {g : It → List BS} : ∀ {I : List It}, (∀ t ∈ I, (g t).length ≤ 1) → ∀ p, p < (I.flatMap g).length → ∃ j, j < I.length ∧ p = pf g I j ∧ g (I.getD j it0) = [(I.flatMap g).getD p []]
  | [], _, p, hp => by simp at hp
  | a :: I, h, p, hp => by
    have ha := h a (List.mem_cons_self ..)
    have ih := flat_at (I := I) fun t ht => h t (List.mem_cons_of_mem _ ht)
    rw [List.flatMap_cons] at hp ⊢
    have e : ∀ j, pf g (a :: I) (j + 1) = (g a).length + pf g I j := fun j => by
      unfold pf
      rw [List.take_succ_cons, List.flatMap_cons, List.length_append]
    rcases hga : g a with _ | ⟨y, ys⟩
    · rw [hga] at hp e
      obtain ⟨j, h1, h2, h3⟩ := ih p (by simpa using hp)
      exact ⟨j + 1, by simpa using h1, by rw [e, h2]; simp, by simpa using h3⟩
    · rw [hga] at hp e ha
      obtain rfl : ys = [] := by
        rw [List.length_cons] at ha
        exact List.length_eq_zero_iff.1 (by omega)
      rcases p with _ | p
      · exact ⟨0, by simp, by simp [pf], by simpa using hga⟩
      · obtain ⟨j, h1, h2, h3⟩ := ih p (by simpa using hp)
        exact ⟨j + 1, by simpa using h1, by rw [e, h2]; simp; omega, by simpa using h3⟩
theorem pigeon {α : Type} [DecidableEq α] : ∀ (l K : List α), l.Nodup → (∀ x ∈ l, x ∈ K) → K.length ≤ l.length → ∀ x ∈ K, x ∈ l
  | [], K, _, _, h, x, hx => by
    have : K = [] := List.length_eq_zero_iff.1 (by simpa using h)
    subst this
    simp at hx
  | a :: l, K, hn, hs, hl, x, hx => by
    rw [List.nodup_cons] at hn
    have ha : a ∈ K := hs a (List.mem_cons_self ..)
    have he := List.length_erase_of_mem ha
    have hp := List.length_pos_of_mem ha
    by_cases h : x = a
    · rw [h]; exact List.mem_cons_self ..
    · refine List.mem_cons_of_mem _ (pigeon l (K.erase a) hn.2 (fun y hy => ?_) (by rw [List.length_cons] at hl; omega) x ((List.mem_erase_of_ne h).2 hx))
      exact (List.mem_erase_of_ne (fun e => hn.1 (by rw [← e]; exact hy))).2 (hs y (List.mem_cons_of_mem _ hy))
def kep (g : It → List BS) (t : It) : Bool := decide (g t = [t.s])
theorem kept_sub (g : It → List BS) : ∀ I : List It, ((I.filter (kep g)).map It.s).Sublist (I.flatMap g)
  | [] => List.Sublist.slnil
  | a :: I => by
    rw [List.filter_cons, List.flatMap_cons]
    split
    · rename_i h
      have h : g a = [a.s] := by simpa [kep] using h
      rw [List.map_cons, h]
      exact (kept_sub g I).cons_cons _
    · exact (kept_sub g I).trans (List.sublist_append_right _ _)
theorem side_match {g : It → List BS} {I : List It} (hn : (I.map It.s).Nodup) (h1 : ∀ t ∈ I, (g t).length ≤ 1) (h2 : ∀ t ∈ I, ∀ x ∈ g t, x ∈ I.map It.s → x = t.s) :
    (∀ p ∈ prsF (I.map It.s) (I.flatMap g), ∃ i : Nat, i < I.length ∧ p = ((i : Int), (pf g I i : Int)) ∧ g (I.getD i it0) = [(I.getD i it0).s]) ∧
    ∀ i, i < I.length → g (I.getD i it0) = [(I.getD i it0).s] → ((i : Int), (pf g I i : Int)) ∈ prsF (I.map It.s) (I.flatMap g) := by
  obtain ⟨φ, e1, e2, inj⟩ := num_two (I.map It.s) (I.flatMap g)
  obtain ⟨⟨hpw, hin⟩, hlen⟩ := match_spec (numA (I.map It.s) (I.flatMap g)) (numB (I.map It.s) (I.flatMap g))
  have hP : prsF (I.map It.s) (I.flatMap g) = matchF (numA (I.map It.s) (I.flatMap g)) (numB (I.map It.s) (I.flatMap g)) := rfl
  rw [← hP] at hpw hin hlen
  generalize prsF (I.map It.s) (I.flatMap g) = P at *
  rw [e1, e2] at hin hlen
  have first : ∀ p ∈ P, ∃ i : Nat, i < I.length ∧ p = ((i : Int), (pf g I i : Int)) ∧ g (I.getD i it0) = [(I.getD i it0).s] := fun p hp => by
    obtain ⟨a1, a2, a3, a4, a5⟩ := hin p hp
    simp only [List.length_map] at a2 a4
    have k1 : p.1.toNat < I.length := by omega
    have k1' : p.1.toNat < (I.map It.s).length := by simpa using k1
    have k2 : p.2.toNat < (I.flatMap g).length := by omega
    rw [map_getD φ 0 k1', map_getD φ 0 k2] at a5
    have hx := inj _ _ (.inl (getD_mem k1')) (.inr (getD_mem k2)) a5
    obtain ⟨j, j1, j2, j3⟩ := flat_at h1 _ k2
    have hy : (I.flatMap g).getD p.2.toNat [] = (I.getD j it0).s := h2 _ (it_mem j1) _ (by rw [j3]; simp) (by rw [← hx]; exact getD_mem k1')
    rw [hy] at hx j3
    rw [s_at k1] at hx
    have hij := s_inj hn k1 j1 hx
    refine ⟨j, j1, Prod.ext (by dsimp only; omega) (by dsimp only; omega), j3⟩
  refine ⟨first, fun i hi hg => ?_⟩
  have hnd : (P.map fun p => (I.map It.s).getD p.1.toNat []).Nodup := by
    rw [List.nodup_iff_pairwise_ne, List.pairwise_map]
    refine hpw.imp_of_mem fun {p q} hp hq hpq e => ?_
    obtain ⟨i, i1, rfl, _⟩ := first p hp
    obtain ⟨j, j1, rfl, _⟩ := first q hq
    have e : (I.map It.s).getD i [] = (I.map It.s).getD j [] := e
    rw [s_at i1, s_at j1] at e
    have := s_inj hn i1 j1 e
    subst this
    exact absurd hpq.1 (Int.lt_irrefl _)
  have hsub : ∀ x ∈ P.map (fun p => (I.map It.s).getD p.1.toNat []), x ∈ (I.filter (kep g)).map It.s := fun x hx => by
    obtain ⟨p, hp, rfl⟩ := List.mem_map.1 hx
    obtain ⟨i, i1, rfl, i3⟩ := first p hp
    show (I.map It.s).getD i [] ∈ _
    rw [s_at i1]
    exact List.mem_map.2 ⟨_, List.mem_filter.2 ⟨it_mem i1, by simpa [kep] using i3⟩, rfl⟩
  have hle : ((I.filter (kep g)).map It.s).length ≤ (P.map fun p => (I.map It.s).getD p.1.toNat []).length := by
    have h3 := lcsN_max (c := ((I.filter (kep g)).map It.s).map φ) (a := (I.map It.s).map φ) (b := (I.flatMap g).map φ) ((List.filter_sublist.map It.s).map φ) ((kept_sub g I).map φ)
    rw [List.length_map] at h3
    have e5 : (P.map fun p => (I.map It.s).getD p.1.toNat []).length = P.length := List.length_map ..
    omega
  have := pigeon _ _ hnd hsub hle (I.getD i it0).s (List.mem_map.2 ⟨_, List.mem_filter.2 ⟨it_mem hi, by simpa [kep] using hg⟩, rfl⟩)
  obtain ⟨p, hp, e⟩ := List.mem_map.1 this
  obtain ⟨j, j1, rfl, j3⟩ := first p hp
  have e : (I.map It.s).getD j [] = _ := e
  rw [s_at j1] at e
  have := s_inj hn j1 hi e
  subst this
  exact hp
theorem at_of {a b : Int} : ∀ {l : List (Int × Int)} {u v : Int}, riseB a b u v l = true → ∀ p ∈ l, atL l p.1 = p.2
  | q :: l, u, v, h, p, hp => by
    obtain ⟨h1, h2⟩ := rise_tail h
    rcases List.mem_cons.1 hp with rfl | hp
    · exact at_head
    · have := (rise_mem h2 p hp).1
      rw [at_skip (by omega)]
      exact at_of h2 p hp
theorem mem_mF {l r : List (Int × Int)} {p : Pl} : ∀ (n o x : Nat), x < n → fP l r (o + x) = some p → p ∈ mF l r n o
  | n + 1, o, 0, _, h => by
    rw [mF_some (by simpa using h)]
    exact List.mem_cons_self ..
  | n + 1, o, x + 1, hx, h => by
    have ih := mem_mF n (o + 1) x (by omega) (by rw [show o + 1 + x = o + (x + 1) by omega]; exact h)
    cases hf : fP l r o with
    | none => rw [mF_none hf]; exact ih
    | some q => rw [mF_some hf]; exact List.mem_cons_of_mem _ ih
theorem in_both {a : Nat} {b c : Int} {l r : List (Int × Int)} (hl : riseB a b (-1) (-1) l = true) (hr : riseB a c (-1) (-1) r = true) {x : Nat} {y z : Int} (h1 : ((x : Int), y) ∈ l) (h2 : ((x : Int), z) ∈ r) : ((x : Int), y, z) ∈ bothF l r := by
  have e1 := at_of hl _ h1
  have e2 := at_of hr _ h2
  have r1 := rise_mem hl _ h1
  have r2 := rise_mem hr _ h2
  dsimp only at e1 e2 r1 r2
  rw [both_all hl hr]
  refine mem_mF a 0 x (by omega) ?_
  unfold fP
  rw [Nat.zero_add, e1, e2, if_neg (by omega)]
theorem gap_stretch {s : List Ck} {p : Pl} {c : Ck} (h : c ∈ stretchF s p) (hc : c.1 = false) : c ∈ s := by
  rcases s.eq_nil_or_concat with rfl | ⟨m, d, rfl⟩
  · rw [stretch_nil] at h
    simp only [List.mem_singleton] at h
    subst h
    cases hc
  · rw [List.concat_eq_append] at h ⊢
    rw [stretch_snoc] at h
    split at h
    · rcases List.mem_append.1 h with h | h
      · exact List.mem_append_left _ h
      · simp only [List.mem_singleton] at h
        subst h
        cases hc
    · rcases List.mem_append.1 h with h | h
      · exact h
      · simp only [List.mem_singleton] at h
        subst h
        cases hc
theorem up_ge {ends : Pl} : ∀ {M : List Pl} {t : Pl}, upM ends t M → ∀ q ∈ M, t.1 ≤ q.1
  | p :: M, t, h, q, hq => by
    have h1 : t.1 ≤ p.1 := h.1.1
    rcases List.mem_cons.1 hq with rfl | hq
    · exact h1
    · have := up_ge h.2 q hq
      have e : (nextP p).1 = p.1 + 1 := rfl
      omega
theorem gap_of {A : Int → Prop} {ends : Pl} : ∀ (M : List Pl) (s : List Ck) (t : Pl), upM ends t M → (∀ x, A x → t.1 ≤ x → x < ends.1 → ∃ p ∈ M, p.1 = x) → (∀ c ∈ s, c.1 = false → ∀ x, c.2.1.1 ≤ x → x < c.2.1.2 → ¬ A x) → ∀ c ∈ ofK ends M s t, c.1 = false → ∀ x, c.2.1.1 ≤ x → x < c.2.1.2 → ¬ A x
  | [], s, t, hu, hA, hs => by
    rw [ofK]
    split
    · exact hs
    · intro c hc
      rcases List.mem_append.1 hc with hc | hc
      · exact hs c hc
      · simp only [List.mem_singleton] at hc
        subst hc
        intro _ x h1 h2 h3
        obtain ⟨p, hp, _⟩ := hA x h3 h1 h2
        simp at hp
  | p :: M, s, t, hu, hA, hs => by
    rw [ofK]
    refine gap_of M _ _ hu.2 (fun x h1 h2 h3 => ?_) fun c hc hcf => ?_
    · have e : (nextP p).1 = p.1 + 1 := rfl
      have h4 : t.1 ≤ p.1 := hu.1.1
      obtain ⟨q, hq, rfl⟩ := hA x h1 (by omega) h3
      rcases List.mem_cons.1 hq with rfl | hq
      · omega
      · exact ⟨q, hq, rfl⟩
    · have hc := gap_stretch hc hcf
      split at hc
      · exact hs c hc hcf
      · rcases List.mem_append.1 hc with hc | hc
        · exact hs c hc hcf
        · simp only [List.mem_singleton] at hc
          subst hc
          intro x h1 h2 h3
          have h1 : t.1 ≤ x := h1
          have h2 : x < p.1 := h2
          have hends : p.1 ≤ ends.1 := by
            have key : ∀ (M : List Pl) (t : Pl), upM ends t M → t.1 ≤ ends.1 := by
              intro M
              induction M with
              | nil => exact fun t h => h.1
              | cons q M ih =>
                intro t h
                have := ih _ h.2
                have e : (nextP q).1 = q.1 + 1 := rfl
                have := h.1.1
                omega
            have := key M _ hu.2
            have e : (nextP p).1 = p.1 + 1 := rfl
            omega
          obtain ⟨q, hq, rfl⟩ := hA x h3 h1 (by omega)
          rcases List.mem_cons.1 hq with rfl | hq
          · omega
          · have := up_ge hu.2 q hq
            have e : (nextP p).1 = p.1 + 1 := rfl
            omega
theorem inv_at {Q : Pl → Prop} {ends : Pl} (he : Q ends) : ∀ (M : List Pl) (s : List Ck) (t : Pl), Q t → (∀ p ∈ M, Q p ∧ Q (nextP p)) → (∀ c ∈ s, Q (fromP c) ∧ Q (toP c)) → ∀ c ∈ ofK ends M s t, Q (fromP c) ∧ Q (toP c)
  | [], s, t, ht, _, hs => by
    rw [ofK]
    split
    · exact hs
    · intro c hc
      rcases List.mem_append.1 hc with hc | hc
      · exact hs c hc
      · simp only [List.mem_singleton] at hc
        subst hc
        exact ⟨ht, he⟩
  | p :: M, s, t, ht, hM, hs => by
    obtain ⟨hp, hn⟩ := hM p (List.mem_cons_self ..)
    have hs2 : ∀ c ∈ (if p = t then s else s ++ [btw t p]), Q (fromP c) ∧ Q (toP c) := by
      split
      · exact hs
      · intro c hc
        rcases List.mem_append.1 hc with hc | hc
        · exact hs c hc
        · simp only [List.mem_singleton] at hc
          subst hc
          exact ⟨ht, hp⟩
    rw [ofK]
    refine inv_at he M _ _ hn (fun q hq => hM q (List.mem_cons_of_mem _ hq)) ?_
    generalize (if p = t then s else s ++ [btw t p]) = s2 at *
    rcases s2.eq_nil_or_concat with rfl | ⟨m, d, rfl⟩
    · rw [stretch_nil]
      intro c hc
      simp only [List.mem_singleton] at hc
      subst hc
      exact ⟨hp, hn⟩
    · rw [List.concat_eq_append] at hs2 ⊢
      rw [stretch_snoc]
      split
      · intro c hc
        rcases List.mem_append.1 hc with hc | hc
        · exact hs2 c (List.mem_append_left _ hc)
        · simp only [List.mem_singleton] at hc
          subst hc
          exact ⟨(hs2 d (by simp)).1, hn⟩
      · intro c hc
        rcases List.mem_append.1 hc with hc | hc
        · exact hs2 c hc
        · simp only [List.mem_singleton] at hc
          subst hc
          exact ⟨hp, hn⟩
def itF (I : List It) : Fl := (I.map It.s, I.flatMap It.l, I.flatMap It.r)
def plI (I : List It) (i : Nat) : Pl := ((i : Int), (pf It.l I i : Int), (pf It.r I i : Int))
def rng (I : List It) (i j : Nat) : List It := (I.take j).drop i
theorem cut_flat {g : It → List BS} {I : List It} {i j : Nat} (h : i ≤ j) : cutL (I.flatMap g) (pf g I i) (pf g I j) = (rng I i j).flatMap g := by
  unfold cutL rng pf
  have e1 : I.flatMap g = (I.take j).flatMap g ++ (I.drop j).flatMap g := by rw [← List.flatMap_append, List.take_append_drop]
  have e2 : (I.take j).flatMap g = (I.take i).flatMap g ++ ((I.take j).drop i).flatMap g := by
    have : I.take i = (I.take j).take i := by rw [List.take_take]; congr 1; omega
    rw [this, ← List.flatMap_append, List.take_append_drop]
  rw [e1, List.take_left, e2, List.drop_left]
theorem cut_map_s {I : List It} {i j : Nat} : cutL (I.map It.s) i j = (rng I i j).map It.s := by
  unfold cutL rng
  rw [← List.map_take, ← List.map_drop]
theorem rng_mem {I : List It} {i j : Nat} {t : It} (h : t ∈ rng I i j) (hj : j ≤ I.length) : ∃ k, i ≤ k ∧ k < j ∧ t = I.getD k it0 := by
  unfold rng at h
  obtain ⟨k, hk, e⟩ := List.getElem_of_mem h
  rw [List.length_drop, List.length_take] at hk
  refine ⟨i + k, by omega, by omega, ?_⟩
  rw [List.getElem_drop, List.getElem_take] at e
  rw [gd_lt _ _ (by omega), e]
theorem flat_one {g : It → List BS} {J : List It} (h : ∀ t ∈ J, g t = [t.s]) : J.flatMap g = J.map It.s := by
  induction J with
  | nil => rfl
  | cons a J ih => rw [List.flatMap_cons, List.map_cons, h a (List.mem_cons_self ..), ih fun t ht => h t (List.mem_cons_of_mem _ ht)]; rfl
theorem flat_eq {g w : It → List BS} {J : List It} (h : ∀ t ∈ J, g t = w t) : J.flatMap g = J.flatMap w := by
  induction J with
  | nil => rfl
  | cons a J ih => rw [List.flatMap_cons, List.flatMap_cons, h a (List.mem_cons_self ..), ih fun t ht => h t (List.mem_cons_of_mem _ ht)]
theorem its_sides {I : List It} (h : ItsOK I) : (∀ t ∈ I, t.l.length ≤ 1) ∧ ∀ t ∈ I, t.r.length ≤ 1 := by
  constructor
  · intro t ht
    rcases h.ok t ht with ⟨_, h1, _⟩ | ⟨_, _, _, _, h1⟩ | ⟨_, h1, _⟩
    · rw [h1]; simp
    · exact h1
    · rw [h1]; simp
  · intro t ht
    rcases h.ok t ht with ⟨_, _, h1, _⟩ | ⟨_, h1, _⟩ | ⟨_, _, _, _, h1⟩
    · rw [h1]; simp
    · rw [h1]; simp
    · exact h1
theorem it_stay {t : It} (h : itOK t) : (t.l = [t.s] ↔ t.k ≠ 1) ∧ (t.r = [t.s] ↔ t.k ≠ 2) := by
  rcases h with ⟨h0, h1, h2, _⟩ | ⟨h0, h1, _, h2, _⟩ | ⟨h0, h1, _, h2, _⟩
  · exact ⟨⟨fun _ => by omega, fun _ => h1⟩, ⟨fun _ => by omega, fun _ => h2⟩⟩
  · exact ⟨⟨fun e => absurd (by rw [e]; simp) h2, fun e => absurd h0 e⟩, ⟨fun _ => by omega, fun _ => h1⟩⟩
  · exact ⟨⟨fun _ => by omega, fun _ => h1⟩, ⟨fun e => absurd (by rw [e]; simp) h2, fun e => absurd h0 e⟩⟩
theorem same_side {I : List It} (h : ItsOK I) {i : Nat} : ∀ (n : Nat), i + n < I.length → (∀ k, i ≤ k → k ≤ i + n → (I.getD k it0).k ≠ 0) → (I.getD (i + n) it0).k = (I.getD i it0).k
  | 0, _, _ => rfl
  | n + 1, hl, hk => by
    have ih := same_side h n (by omega) fun k h1 h2 => hk k h1 (by omega)
    have a := h.adj (i + n) (by omega)
    have b := hk (i + n) (by omega) (by omega)
    have c := hk (i + (n + 1)) (by omega) (by omega)
    have k1 : ∀ k, k < I.length → (I.getD k it0).k ≤ 2 := fun k hk => by
      rcases h.ok _ (it_mem hk) with ⟨e, _⟩ | ⟨e, _⟩ | ⟨e, _⟩ <;> omega
    have d := k1 (i + n) (by omega)
    have e := k1 (i + (n + 1)) hl
    rw [show i + n + 1 = i + (n + 1) by omega] at a
    omega
theorem apart_text {I : List It} (h : ItsOK I) : (∀ c ∈ mrgK (itF I), clsF (itF I) c ≠ 4) ∧ favT (itF I) (mrgK (itF I)) 1 = (I.flatMap It.w).flatten := by
  obtain ⟨s1, s2⟩ := its_sides h
  obtain ⟨ml1, ml2⟩ := side_match (g := It.l) h.nod s1 h.newl
  obtain ⟨mr1, mr2⟩ := side_match (g := It.r) h.nod s2 h.newr
  have hfit := mtch_fit (prs_three (itF I)).1
  unfold fitK at hfit
  simp only [Bool.and_eq_true, decide_eq_true_eq] at hfit
  obtain ⟨⟨z1, z2, z3⟩, r1, r2⟩ := hfit
  have lenB : (itF I).1.length = I.length := by simp [itF]
  have eEnd : endP (itF I) = plI I I.length := by
    unfold endP plI itF
    rw [pf_all, pf_all, List.length_map]
  have hlp : prsF (itF I).1 (itF I).2.1 = prsF (I.map It.s) (I.flatMap It.l) := rfl
  have hrp : prsF (itF I).1 (itF I).2.2 = prsF (I.map It.s) (I.flatMap It.r) := rfl
  have hM : ∀ p ∈ bothF (prsF (itF I).1 (itF I).2.1) (prsF (itF I).1 (itF I).2.2), ∃ i, i < I.length ∧ (I.getD i it0).k = 0 ∧ p = plI I i := fun p hp => by
    obtain ⟨u, hu, v, hv, e, rfl⟩ := both_mem _ _ _ (Nat.le_refl _) p hp
    obtain ⟨i, i1, rfl, i3⟩ := ml1 u hu
    obtain ⟨j, j1, rfl, j3⟩ := mr1 v hv
    have : i = j := by
      have e : (i : Int) = (j : Int) := e
      omega
    subst this
    have g := it_stay (h.ok _ (it_mem i1))
    have g1 := g.1.1 i3
    have g2 := g.2.1 j3
    refine ⟨i, i1, ?_, rfl⟩
    rcases h.ok _ (it_mem i1) with ⟨e, _⟩ | ⟨e, _⟩ | ⟨e, _⟩ <;> omega
  have hM2 : ∀ i, i < I.length → (I.getD i it0).k = 0 → plI I i ∈ bothF (prsF (itF I).1 (itF I).2.1) (prsF (itF I).1 (itF I).2.2) := fun i hi hk => by
    have g := it_stay (h.ok _ (it_mem hi))
    rw [lenB] at r1 r2
    exact in_both r1 r2 (ml2 i hi (g.1.2 (by omega))) (mr2 i hi (g.2.2 (by omega)))
  have hup : upM (endP (itF I)) (0, 0, 0) (bothF (prsF (itF I).1 (itF I).2.1) (prsF (itF I).1 (itF I).2.2)) := both_up _ _ _ (-1) (-1) (-1) (-1) (0, 0, 0) (Nat.le_refl _) r1 r2 (.inl (Int.le_refl _)) (Int.le_refl _) (Int.le_refl _) ⟨z1, z2, z3⟩
  have hpl : ∀ c ∈ mrgK (itF I), (∃ i, i ≤ I.length ∧ fromP c = plI I i) ∧ ∃ j, j ≤ I.length ∧ toP c = plI I j :=
    inv_at (Q := fun p => ∃ i, i ≤ I.length ∧ p = plI I i) ⟨I.length, Nat.le_refl _, eEnd⟩ _ [] (0, 0, 0) ⟨0, Nat.zero_le _, by simp [plI, pf]⟩ (fun p hp => by
      obtain ⟨i, i1, i2, rfl⟩ := hM p hp
      refine ⟨⟨i, by omega, rfl⟩, i + 1, i1, ?_⟩
      have g := it_stay (h.ok _ (it_mem i1))
      unfold plI nextP
      rw [pf_succ i1, pf_succ i1, g.1.2 (by omega), g.2.2 (by omega)]
      simp) (fun c hc => by simp at hc)
  have hgap : ∀ c ∈ mrgK (itF I), c.1 = false → ∀ x, c.2.1.1 ≤ x → x < c.2.1.2 → ¬ ∃ i : Nat, x = i ∧ i < I.length ∧ (I.getD i it0).k = 0 :=
    gap_of (A := fun x => ∃ i : Nat, x = i ∧ i < I.length ∧ (I.getD i it0).k = 0) _ [] (0, 0, 0) hup (fun x ⟨i, e1, e2, e3⟩ _ _ => ⟨_, hM2 i e2 e3, by rw [e1]; rfl⟩) (fun c hc => by simp at hc)
  have key : ∀ c ∈ mrgK (itF I), ∃ i j, i ≤ j ∧ j ≤ I.length ∧ fromP c = plI I i ∧ toP c = plI I j ∧ clsF (itF I) c ≠ 4 ∧ sideF (itF I) c (clsF (itF I) c) 1 = (rng I i j).flatMap It.w := fun c hc => by
    obtain ⟨⟨i, i1, i2⟩, j, j1, j2⟩ := hpl c hc
    have hin := ch_in (mrg_ch (itF I)) c hc
    have hij : i ≤ j := by
      have := hin.2.1.1
      rw [i2, j2] at this
      have this : (i : Int) ≤ (j : Int) := this
      omega
    have f1 : c.2.1.1 = i := congrArg (fun p : Pl => p.1) i2
    have f2 : c.2.2.1.1 = pf It.l I i := congrArg (fun p : Pl => p.2.1) i2
    have f3 : c.2.2.2.1 = pf It.r I i := congrArg (fun p : Pl => p.2.2) i2
    have t1 : c.2.1.2 = j := congrArg (fun p : Pl => p.1) j2
    have t2 : c.2.2.1.2 = pf It.l I j := congrArg (fun p : Pl => p.2.1) j2
    have t3 : c.2.2.2.2 = pf It.r I j := congrArg (fun p : Pl => p.2.2) j2
    have cB : cutB (itF I) c = (rng I i j).map It.s := by rw [cutB_in hin, f1, t1]; exact cut_map_s
    have cO : cutO (itF I) c = (rng I i j).flatMap It.l := by rw [cutO_in hin, f2, t2]; exact cut_flat hij
    have cT : cutT (itF I) c = (rng I i j).flatMap It.r := by rw [cutT_in hin, f3, t3]; exact cut_flat hij
    refine ⟨i, j, hij, j1, i2, j2, ?_⟩
    cases hst : c.1 with
    | true =>
      obtain ⟨e1, e2⟩ := good_mrg hc hst
      rw [cB, cO] at e1
      rw [cB, cT] at e2
      have hcl := (stable_iff (f := itF I) c).2 hst
      refine ⟨by omega, ?_⟩
      unfold sideF
      rw [if_pos hcl, cB, ← flat_one (g := It.w)]
      intro t ht
      obtain ⟨k, k1, k2, rfl⟩ := rng_mem ht j1
      have hk : k < I.length := by omega
      have hmem : (I.getD k it0).s ∈ (rng I i j).map It.s := List.mem_map.2 ⟨_, ht, rfl⟩
      have own : ∀ g : It → List BS, (∀ t ∈ I, ∀ x ∈ g t, x ∈ I.map It.s → x = t.s) → (rng I i j).flatMap g = (rng I i j).map It.s → (I.getD k it0).s ∈ g (I.getD k it0) := fun g hg e => by
        rw [← e] at hmem
        obtain ⟨u, hu, hx⟩ := List.mem_flatMap.1 hmem
        obtain ⟨m, m1, m2, rfl⟩ := rng_mem hu j1
        have hm : m < I.length := by omega
        have := hg _ (it_mem hm) _ hx (List.mem_map.2 ⟨_, it_mem hk, rfl⟩)
        have := s_inj h.nod hk hm this
        subst this
        exact hx
      have w1 := own It.l h.newl e1
      have w2 := own It.r h.newr e2
      rcases h.ok _ (it_mem hk) with ⟨_, _, _, e⟩ | ⟨_, _, _, e, _⟩ | ⟨_, _, _, e, _⟩
      · exact e
      · exact absurd w1 e
      · exact absurd w2 e
    | false =>
      have hgap := hgap c hc hst
      have hch : ∀ k, i ≤ k → k < j → (I.getD k it0).k ≠ 0 := fun k h1 h2 e => hgap k (by rw [f1]; omega) (by rw [t1]; omega) ⟨k, rfl, by omega, e⟩
      have hside : (∀ t ∈ rng I i j, t.k = 1) ∨ ∀ t ∈ rng I i j, t.k = 2 := by
        rcases Nat.lt_or_ge i j with hlt | hge
        · have h0 := hch i (Nat.le_refl _) hlt
          have all : ∀ t ∈ rng I i j, t.k = (I.getD i it0).k := fun t ht => by
            obtain ⟨k, k1, k2, rfl⟩ := rng_mem ht j1
            obtain ⟨n, rfl⟩ : ∃ n, k = i + n := ⟨k - i, by omega⟩
            exact same_side h n (by omega) fun m m1 m2 => hch m m1 (by omega)
          have hk : (I.getD i it0).k = 1 ∨ (I.getD i it0).k = 2 := by
            rcases h.ok _ (it_mem (show i < I.length by omega)) with ⟨e, _⟩ | ⟨e, _⟩ | ⟨e, _⟩
            · exact absurd e h0
            · exact .inl e
            · exact .inr e
          rcases hk with hk | hk
          · exact .inl fun t ht => by rw [all t ht, hk]
          · exact .inr fun t ht => by rw [all t ht, hk]
        · refine .inl fun t ht => ?_
          obtain ⟨k, k1, k2, _⟩ := rng_mem ht j1
          omega
      have mem : ∀ t ∈ rng I i j, t ∈ I := fun t ht => List.mem_of_mem_take (List.mem_of_mem_drop ht)
      rcases hside with hs | hs
      · have e2 : cutT (itF I) c = cutB (itF I) c := by
          rw [cT, cB]
          exact flat_one fun t ht => (it_stay (h.ok t (mem t ht))).2.2 (by rw [hs t ht]; decide)
        have e3 : (rng I i j).flatMap It.w = cutO (itF I) c := by
          rw [cO]
          refine flat_eq fun t ht => ?_
          rcases h.ok t (mem t ht) with ⟨e, _⟩ | ⟨_, _, e, _⟩ | ⟨e, _⟩
          · have := hs t ht; omega
          · exact e
          · have := hs t ht; omega
        rw [e3]
        rcases cls_cases (itF I) c with ⟨h1, h2⟩ | ⟨_, ⟨h1, h2⟩ | ⟨h1, h2⟩ | ⟨h1, h2⟩ | ⟨_, _, h2, _⟩⟩
        · rw [hst] at h2; cases h2
        · refine ⟨by omega, ?_⟩
          unfold sideF
          rw [if_neg (by omega), if_pos h1, e2, h2]
        · refine ⟨by omega, ?_⟩
          unfold sideF
          rw [if_neg (by omega), if_neg (by omega), if_neg (by omega)]
        · refine ⟨by omega, ?_⟩
          unfold sideF
          rw [if_neg (by omega), if_neg (by omega), if_neg (by omega)]
        · exact absurd e2 h2
      · have e2 : cutO (itF I) c = cutB (itF I) c := by
          rw [cO, cB]
          exact flat_one fun t ht => (it_stay (h.ok t (mem t ht))).1.2 (by rw [hs t ht]; decide)
        have e3 : (rng I i j).flatMap It.w = cutT (itF I) c := by
          rw [cT]
          refine flat_eq fun t ht => ?_
          rcases h.ok t (mem t ht) with ⟨e, _⟩ | ⟨e, _⟩ | ⟨_, _, e, _⟩
          · have := hs t ht; omega
          · have := hs t ht; omega
          · exact e
        rw [e3]
        rcases cls_cases (itF I) c with ⟨h1, h2⟩ | ⟨_, ⟨h1, h2⟩ | ⟨h1, h2⟩ | ⟨h1, h2⟩ | ⟨_, h2, _⟩⟩
        · rw [hst] at h2; cases h2
        · refine ⟨by omega, ?_⟩
          unfold sideF
          rw [if_neg (by omega), if_pos h1]
        · refine ⟨by omega, ?_⟩
          unfold sideF
          rw [if_neg (by omega), if_neg (by omega), if_neg (by omega), e2, h2]
        · refine ⟨by omega, ?_⟩
          unfold sideF
          rw [if_neg (by omega), if_neg (by omega), if_neg (by omega), h2]
        · exact absurd e2 h2
  refine ⟨fun c hc => by obtain ⟨_, _, _, _, _, _, e, _⟩ := key c hc; exact e, ?_⟩
  have join : ∀ (L : List Ck) (t : Pl) (o : Option Bool) (i : Nat), chF t o L (endP (itF I)) → t = plI I i → i ≤ I.length → (∀ c ∈ L, ∃ i j, i ≤ j ∧ j ≤ I.length ∧ fromP c = plI I i ∧ toP c = plI I j ∧ clsF (itF I) c ≠ 4 ∧ sideF (itF I) c (clsF (itF I) c) 1 = (rng I i j).flatMap It.w) →
      (L.map fun c => sideF (itF I) c (clsF (itF I) c) 1).flatten = (I.drop i).flatMap It.w := by
    have pinj : ∀ i j, plI I i = plI I j → i = j := fun i j e => by
      have : (i : Int) = (j : Int) := congrArg (fun p : Pl => p.1) e
      omega
    intro L
    induction L with
    | nil =>
      intro t o i hc ht hi _
      have e : t = endP (itF I) := hc
      rw [eEnd, ht] at e
      have := pinj _ _ e
      subst this
      simp
    | cons c L ih =>
      intro t o i ⟨c1, c2, c3, c4, c5⟩ ht hi hk
      obtain ⟨i', j, hij, hj, e1, e2, _, e3⟩ := hk c (List.mem_cons_self ..)
      have : i' = i := pinj _ _ (by rw [← e1, ← ht, c1])
      subst this
      rw [List.map_cons, List.flatten_cons, e3, ih (toP c) (some c.1) j c5 e2 hj fun d hd => hk d (List.mem_cons_of_mem _ hd), ← List.flatMap_append]
      congr 1
      unfold rng
      have e4 : (I.take j).drop i' ++ I.drop j = (I.take j ++ I.drop j).drop i' := by
        rw [List.drop_append_of_le_length (by rw [List.length_take]; omega)]
      rw [e4, List.take_append_drop]
  unfold favT
  rw [join _ (0, 0, 0) none 0 (mrg_ch (itF I)) (by simp [plI, pf]) (Nat.zero_le _) key, List.drop_zero]
end Go.Proofs.YtjfmigpahglajaaGreatDoor
set_option linter.unusedSimpArgs false
set_option linter.unusedVariables false
set_option maxRecDepth 100000
namespace Go.Proofs.YtjfmigpahglajaaGreatDoor
open Go
def num2 (n : Nat) : BS := if n < 10 then [UInt8.ofNat (48 + n)] else [UInt8.ofNat (48 + n / 10), UInt8.ofNat (48 + n % 10)]
theorem u8_num {a b : Nat} (ha : a < 208) (hb : b < 208) (h : UInt8.ofNat (48 + a) = UInt8.ofNat (48 + b)) : a = b := by
  have := congrArg UInt8.toNat h
  simp only [UInt8.toNat_ofNat'] at this
  omega
theorem u8_ten {a : Nat} (ha : a < 208) : ¬ (10 : UInt8) = UInt8.ofNat (48 + a) := fun h => by
  have := congrArg UInt8.toNat h
  simp only [UInt8.toNat_ofNat'] at this
  have e : (10 : UInt8).toNat = 10 := rfl
  omega
theorem num2_inj {n m : Nat} (hn : n < 100) (hm : m < 100) (h : num2 n = num2 m) : n = m := by
  unfold num2 at h
  by_cases h1 : n < 10
  · by_cases h2 : m < 10
    · rw [if_pos h1, if_pos h2] at h
      exact u8_num (by omega) (by omega) (by simpa using h)
    · rw [if_pos h1, if_neg h2] at h
      simp at h
  · by_cases h2 : m < 10
    · rw [if_neg h1, if_pos h2] at h
      simp at h
    · rw [if_neg h1, if_neg h2] at h
      simp only [List.cons.injEq, and_true] at h
      have g1 := u8_num (by omega) (by omega) h.1
      have g2 := u8_num (by omega) (by omega) h.2
      omega
theorem num2_ten {n : Nat} (hn : n < 100) : (10 : UInt8) ∉ num2 n := by
  unfold num2
  by_cases h1 : n < 10
  · rw [if_pos h1]
    simp only [List.mem_singleton]
    exact u8_ten (by omega)
  · rw [if_neg h1]
    simp only [List.mem_cons, List.not_mem_nil, or_false, not_or]
    exact ⟨u8_ten (by omega), u8_ten (by omega)⟩
theorem num2_len (n : Nat) : (num2 n).length ≤ 2 := by
  unfold num2
  split <;> simp
def lineB (n : Nat) : BS := [108, 105, 110, 101, 32] ++ num2 n ++ [10]
def otherB (n : Nat) : BS := [111, 116, 104, 101, 114, 32] ++ num2 n ++ [10]
def lined (x : BS) : Prop := ∃ p : BS, (10 : UInt8) ∉ p ∧ x = p ++ [10]
theorem line_lined {n : Nat} (h : n < 100) : lined (lineB n) := ⟨[108, 105, 110, 101, 32] ++ num2 n, by
  have := num2_ten h
  simp only [List.mem_append, not_or]
  exact ⟨by decide, this⟩, rfl⟩
theorem other_lined {n : Nat} (h : n < 100) : lined (otherB n) := ⟨[111, 116, 104, 101, 114, 32] ++ num2 n, by
  have := num2_ten h
  simp only [List.mem_append, not_or]
  exact ⟨by decide, this⟩, rfl⟩
theorem split_lined : ∀ (l : List BS), (∀ x ∈ l, lined x) → splitL l.flatten = l
  | [], _ => by simp [splitL]
  | x :: l, h => by
    obtain ⟨p, hp, rfl⟩ := h x (List.mem_cons_self ..)
    have e : ((p ++ [10]) :: l).flatten = p ++ 10 :: l.flatten := by simp
    rw [e, splitL_cut p _ hp, split_lined l fun y hy => h y (List.mem_cons_of_mem _ hy)]
theorem line_inj {n m : Nat} (hn : n < 100) (hm : m < 100) (h : lineB n = lineB m) : n = m := by
  unfold lineB at h
  rw [List.append_assoc, List.append_assoc, List.append_right_inj, List.append_left_inj] at h
  exact num2_inj hn hm h
theorem line_other (n m : Nat) : lineB n ≠ otherB m := fun h => by
  unfold lineB otherB at h
  simp at h
theorem line_len (n : Nat) : (lineB n).length ≤ 9 := by
  have := num2_len n
  unfold lineB
  simp only [List.length_append, List.length_cons, List.length_nil]
  omega
theorem other_len (n : Nat) : (otherB n).length ≤ 9 := by
  have := num2_len n
  unfold otherB
  simp only [List.length_append, List.length_cons, List.length_nil]
  omega
def apTab : List Nat := [0, 1, 1, 2, 2, 0, 0]
def apNow (who k : Nat) : Nat := if who + apTab.getD k 0 = 3 then 0 else apTab.getD k 0
def apKd (who k : Nat) : Nat := if who + apTab.getD k 0 = 3 then 0 else k
def apO (i who k : Nat) : List BS := if apKd who k = 1 ∨ apKd who k = 3 then [otherB i] else []
def apIt (i who k : Nat) : It :=
  ⟨lineB i, if apNow who k = 1 then apO i who k else [lineB i], if apNow who k = 2 then apO i who k else [lineB i], if apNow who k = 0 then [lineB i] else apO i who k, apNow who k⟩
def apI (ks : Nat → Nat) : Nat → List It × Nat
  | 0 => ([], 0)
  | i + 1 => ((apI ks i).1 ++ [apIt i (apI ks i).2 (ks i)], apNow (apI ks i).2 (ks i))
theorem tab_le (k : Nat) : apTab.getD k 0 ≤ 2 := by
  rcases Nat.lt_or_ge k 7 with h | h
  · have : ∀ k, k < 7 → apTab.getD k 0 ≤ 2 := by decide
    exact this k h
  · rw [show apTab.getD k 0 = 0 from by simp [apTab, List.getD, List.getElem?_eq_none (show [0, 1, 1, 2, 2, 0, 0].length ≤ k from h)]]
    omega
theorem now_le (w k : Nat) : apNow w k ≤ 2 := by
  unfold apNow
  split
  · omega
  · exact tab_le k
theorem now_sum {w k : Nat} (hw : w ≤ 2) : w + apNow w k ≠ 3 := by
  unfold apNow
  split
  · omega
  · assumption
theorem apO_mem {i w k : Nat} {x : BS} (h : x ∈ apO i w k) : x = otherB i := by
  unfold apO at h
  split at h
  · simpa using h
  · simp at h
theorem apO_len (i w k : Nat) : (apO i w k).length ≤ 1 := by
  unfold apO
  split <;> simp
theorem apI_len (ks : Nat → Nat) : ∀ n, (apI ks n).1.length = n
  | 0 => rfl
  | n + 1 => by rw [apI]; simp [apI_len ks n]
theorem apI_who (ks : Nat → Nat) : ∀ n, (apI ks n).2 ≤ 2
  | 0 => by simp [apI]
  | n + 1 => by rw [apI]; exact now_le _ _
theorem apI_at (ks : Nat → Nat) : ∀ (n i : Nat), i < n → (apI ks n).1.getD i it0 = apIt i (apI ks i).2 (ks i)
  | 0, _, h => by omega
  | n + 1, i, h => by
    rw [apI]
    rcases Nat.lt_or_ge i n with h' | h'
    · have e := apI_len ks n
      rw [← apI_at ks n i h']
      simp only [List.getD]
      rw [List.getElem?_append_left (by omega)]
    · obtain rfl : i = n := by omega
      have e := apI_len ks i
      simp only [List.getD]
      rw [List.getElem?_append_right (by omega), e]
      simp
theorem apI_mem {ks : Nat → Nat} {n : Nat} {t : It} (h : t ∈ (apI ks n).1) : ∃ i, i < n ∧ t = apIt i (apI ks i).2 (ks i) := by
  obtain ⟨i, hi, e⟩ := List.mem_iff_getElem.1 h
  have hl := apI_len ks n
  refine ⟨i, by omega, ?_⟩
  rw [← apI_at ks n i (by omega), gd_lt _ _ hi, e]
theorem apI_s (ks : Nat → Nat) : ∀ n, (apI ks n).1.map It.s = (List.range n).map lineB
  | 0 => rfl
  | n + 1 => by
    rw [apI, List.range_succ]
    simp only [List.map_append, apI_s ks n]
    rfl
theorem apIt_l {i w k : Nat} {x : BS} (h : x ∈ (apIt i w k).l) : x = lineB i ∨ x = otherB i := by
  unfold apIt at h
  dsimp only at h
  split at h
  · exact .inr (apO_mem h)
  · exact .inl (by simpa using h)
theorem apIt_r {i w k : Nat} {x : BS} (h : x ∈ (apIt i w k).r) : x = lineB i ∨ x = otherB i := by
  unfold apIt at h
  dsimp only at h
  split at h
  · exact .inr (apO_mem h)
  · exact .inl (by simpa using h)
theorem not_line {ks : Nat → Nat} {n i : Nat} : otherB i ∉ (apI ks n).1.map It.s := by
  rw [apI_s]
  intro h
  obtain ⟨j, _, e⟩ := List.mem_map.1 h
  exact line_other _ _ e
theorem apI_ok (ks : Nat → Nat) {n : Nat} (hn : n ≤ 100) : ItsOK (apI ks n).1 := by
  refine ⟨fun t ht => ?_, ?_, fun t ht x hx hm => ?_, fun t ht x hx hm => ?_, fun i hi => ?_⟩
  · obtain ⟨i, hi, rfl⟩ := apI_mem ht
    have ho : lineB i ∉ apO i (apI ks i).2 (ks i) := fun h => line_other _ _ (apO_mem h)
    have hl := apO_len i (apI ks i).2 (ks i)
    have h2 := now_le (apI ks i).2 (ks i)
    generalize (apI ks i).2 = w at *
    generalize ks i = k at *
    unfold itOK apIt
    dsimp only
    rcases Nat.lt_or_ge 1 (apNow w k) with h | h
    · have e : apNow w k = 2 := by omega
      rw [e]
      exact .inr (.inr ⟨rfl, by simp, by simp, by simpa using ho, by simpa using hl⟩)
    · rcases Nat.lt_or_ge 0 (apNow w k) with h' | h'
      · have e : apNow w k = 1 := by omega
        rw [e]
        exact .inr (.inl ⟨rfl, by simp, by simp, by simpa using ho, by simpa using hl⟩)
      · have e : apNow w k = 0 := by omega
        rw [e]
        exact .inl ⟨rfl, by simp, by simp, by simp⟩
  · rw [apI_s]
    unfold List.Nodup
    rw [List.pairwise_map]
    refine List.Pairwise.imp_of_mem (fun ha hb hne h => hne (line_inj ?_ ?_ h)) List.nodup_range
    · have := List.mem_range.1 ha; omega
    · have := List.mem_range.1 hb; omega
  · obtain ⟨i, hi, rfl⟩ := apI_mem ht
    rcases apIt_l hx with rfl | rfl
    · rfl
    · exact absurd hm not_line
  · obtain ⟨i, hi, rfl⟩ := apI_mem ht
    rcases apIt_r hx with rfl | rfl
    · rfl
    · exact absurd hm not_line
  · have hl := apI_len ks n
    rw [apI_at ks n i (by omega), apI_at ks n (i + 1) (by omega)]
    have e : (apIt i (apI ks i).2 (ks i)).k = (apI ks (i + 1)).2 := rfl
    have e2 : (apIt (i + 1) (apI ks (i + 1)).2 (ks (i + 1))).k = apNow (apI ks (i + 1)).2 (ks (i + 1)) := rfl
    rw [e, e2]
    exact now_sum (apI_who ks _)
def apBs (ks : Nat → Nat) (n : Nat) : BS := ((apI ks n).1.map It.s).flatten
def apLs (ks : Nat → Nat) (n : Nat) : BS := ((apI ks n).1.flatMap It.l).flatten
def apRs (ks : Nat → Nat) (n : Nat) : BS := ((apI ks n).1.flatMap It.r).flatten
def apWs (ks : Nat → Nat) (n : Nat) : BS := ((apI ks n).1.flatMap It.w).flatten
theorem ap_files {ks : Nat → Nat} {n : Nat} (hn : n ≤ 100) : filesF (apBs ks n) (apLs ks n) (apRs ks n) = itF (apI ks n).1 := by
  unfold filesF itF apBs apLs apRs
  rw [split_lined, split_lined, split_lined]
  · intro x hx
    obtain ⟨t, ht, hx⟩ := List.mem_flatMap.1 hx
    obtain ⟨i, hi, rfl⟩ := apI_mem ht
    rcases apIt_r hx with rfl | rfl
    · exact line_lined (by omega)
    · exact other_lined (by omega)
  · intro x hx
    obtain ⟨t, ht, hx⟩ := List.mem_flatMap.1 hx
    obtain ⟨i, hi, rfl⟩ := apI_mem ht
    rcases apIt_l hx with rfl | rfl
    · exact line_lined (by omega)
    · exact other_lined (by omega)
  · intro x hx
    rw [apI_s] at hx
    obtain ⟨i, hi, rfl⟩ := List.mem_map.1 hx
    exact line_lined (by have := List.mem_range.1 hi; omega)
theorem apBs_succ (ks : Nat → Nat) (i : Nat) : apBs ks (i + 1) = apBs ks i ++ lineB i := by
  unfold apBs
  rw [apI]
  simp only [List.map_append, List.flatten_append]
  simp [apIt]
theorem apLs_succ (ks : Nat → Nat) (i : Nat) : apLs ks (i + 1) = apLs ks i ++ (if apNow (apI ks i).2 (ks i) = 1 then (apO i (apI ks i).2 (ks i)).flatten else lineB i) := by
  unfold apLs
  rw [apI]
  simp only [List.flatMap_append, List.flatten_append]
  congr 1
  simp only [List.flatMap_cons, List.flatMap_nil, List.append_nil, apIt]
  split <;> simp
theorem apRs_succ (ks : Nat → Nat) (i : Nat) : apRs ks (i + 1) = apRs ks i ++ (if apNow (apI ks i).2 (ks i) = 2 then (apO i (apI ks i).2 (ks i)).flatten else lineB i) := by
  unfold apRs
  rw [apI]
  simp only [List.flatMap_append, List.flatten_append]
  congr 1
  simp only [List.flatMap_cons, List.flatMap_nil, List.append_nil, apIt]
  split <;> simp
theorem apWs_succ (ks : Nat → Nat) (i : Nat) : apWs ks (i + 1) = apWs ks i ++ (if apNow (apI ks i).2 (ks i) = 0 then lineB i else (apO i (apI ks i).2 (ks i)).flatten) := by
  unfold apWs
  rw [apI]
  simp only [List.flatMap_append, List.flatten_append]
  congr 1
  simp only [List.flatMap_cons, List.flatMap_nil, List.append_nil, apIt]
  split <;> simp
theorem apO_flat (i w k : Nat) : (apO i w k).flatten.length ≤ 9 := by
  have := other_len i
  unfold apO
  split
  · simpa using this
  · simp
theorem ap_len (ks : Nat → Nat) : ∀ n, (apBs ks n).length ≤ 9 * n ∧ (apLs ks n).length ≤ 9 * n ∧ (apRs ks n).length ≤ 9 * n ∧ (apWs ks n).length ≤ 9 * n
  | 0 => by simp [apBs, apLs, apRs, apWs, apI]
  | n + 1 => by
    obtain ⟨h1, h2, h3, h4⟩ := ap_len ks n
    have hl := line_len n
    have ho := apO_flat n (apI ks n).2 (ks n)
    rw [apBs_succ, apLs_succ, apRs_succ, apWs_succ]
    simp only [List.length_append]
    refine ⟨by omega, ?_, ?_, ?_⟩ <;> split <;> omega
theorem ap_shortM {ks : Nat → Nat} {n : Nat} (hn : n ≤ 100) : okM (apBs ks n) (apLs ks n) (apRs ks n) := by
  obtain ⟨h1, h2, h3, _⟩ := ap_len ks n
  refine ⟨by omega, by omega, by omega, .inl ?_⟩
  have e : (filesF (apBs ks n) (apLs ks n) (apRs ks n)).1 = splitL (apBs ks n) := rfl
  rw [← e, ap_files hn]
  have := apI_len ks n
  simp only [itF, List.length_map]
  omega
theorem ap_merge {ks : Nat → Nat} {n : Nat} (hn : n ≤ 100) : cntF (filesF (apBs ks n) (apLs ks n) (apRs ks n)) (mrgK (filesF (apBs ks n) (apLs ks n) (apRs ks n))) = 0 ∧ ∀ st lb v w, printL w (mrgD (apBs ks n) (apLs ks n) (apRs ks n) st lb v) = apWs ks n := by
  obtain ⟨h1, h2⟩ := apart_text (apI_ok ks hn)
  rw [← ap_files hn] at h1 h2
  exact ⟨none_cnt h1, fun st lb v w => by rw [mrg_clean h1, h2]; rfl⟩
end Go.Proofs.YtjfmigpahglajaaGreatDoor
set_option linter.unusedSimpArgs false
set_option linter.unusedVariables false
set_option maxRecDepth 100000
set_option maxHeartbeats 8000000
namespace Go.Proofs.YtjfmigpahglajaaGreatDoor
open Go
attribute [local irreducible] AW AVle ASle RowLe
theorem digit_at : ∀ k : Nat, k < 10 → List.drop k (List.take (k + 1) [48, 49, 50, 51, 52, 53, 54, 55, 56, 57]) = [UInt8.ofNat (48 + k)] := by decide
def sNumD : Spec := Spec.f1 kI (fun n => 0 ≤ n ∧ n < 10) (fun n => kS.enc (num2 n.toNat))
theorem okNumD : SpecOK Tryz.prog 48 sNumD := by
  refine SpecOK.f1 Tryz.func48 rfl (by decide) Tryz.results48 Tryz.ntmps48 (by decide) fun n hn => ?_
  have hΓ : GOK Tryz.prog (gam []) := GOK.nil
  obtain ⟨h0, h1⟩ := hn
  refine AW.of hΓ mixed [99999] _ _ _ rfl ?_
  simp only [go_sem]
  refine ⟨fun h => by omega, fun _ => ⟨fun h => by omega, fun _ => ⟨fun _ => ⟨⟨by omega, by omega⟩, ⟨by omega, by omega, by omega⟩, ?_⟩, fun h => by omega⟩⟩⟩
  obtain ⟨k, rfl⟩ := Int.eq_ofNat_of_zero_le h0
  have h1 : k < 10 := by omega
  rw [show ((k : Int) + 1).toNat = k + 1 by omega, Int.toNat_natCast, digit_at k h1, num2, if_pos h1]
def sNum2 : Spec := Spec.f1 kI (fun n => 0 ≤ n ∧ n < 100) (fun n => kS.enc (num2 n.toNat))
theorem okNum2 : SpecOK Tryz.prog 48 sNum2 := by
  refine SpecOK.f1 Tryz.func48 rfl (by decide) Tryz.results48 Tryz.ntmps48 (by decide) fun n hn => ?_
  have hΓ : GOK Tryz.prog (gam [(48, sNumD)]) := (.cons okNumD .nil)
  obtain ⟨h0, h1⟩ := hn
  obtain ⟨k, rfl⟩ := Int.eq_ofNat_of_zero_le h0
  have h1 : k < 100 := by omega
  have e1 : (k : Int).tdiv 10 = ((k / 10 : Nat) : Int) := by rw [Int.tdiv_eq_ediv_of_nonneg h0]; omega
  have e2 : (k : Int).tmod 10 = ((k % 10 : Nat) : Int) := by rw [Int.tmod_eq_emod_of_nonneg h0]; omega
  have hl := num2_len (k / 10)
  refine AW.of hΓ mixed [99999] _ _ _ rfl ?_
  simp only [go_sem, sNumD, e1, e2]
  refine ⟨fun h => by omega, fun _ => ⟨fun h => by omega, fun _ => ⟨fun _ => ⟨⟨by omega, by omega⟩, ⟨by omega, by omega, by omega⟩, ?_⟩, fun h => ⟨⟨by omega, by omega⟩, ⟨by omega, by omega⟩, ⟨by omega, by omega⟩, ⟨by omega, by omega, by omega⟩, ?_, ?_⟩⟩⟩⟩
  · have h1 : k < 10 := by omega
    rw [digit_at k h1, num2, if_pos h1]
  · omega
  · rw [digit_at _ (Nat.mod_lt _ (by omega))]
    have h2 : ¬ k < 10 := by omega
    have h3 : k / 10 < 10 := by omega
    unfold num2
    rw [if_neg h2, if_pos h3]
    rfl
def ksH (how : List Int) (i : Nat) : Nat := (u64r (how.getD i 0) 7).toNat
def sTripartiteApart : Spec := Spec.f2 (kL eI) (kA eHw) (fun l h => l.length ≤ 140737488351232 ∧ rchH h) (fun _ _ => kB.enc true)
theorem okTripartiteApart : SpecOK Tryz.prog 12 sTripartiteApart := by
  refine SpecOK.f2 Tryz.func12 rfl (by decide) Tryz.results12 Tryz.ntmps12 (by decide) fun how h hh => ?_
  have hΓ : GOK Tryz.prog (gam [(31, sFitsT), (32, sAlive), (27, sOPTM), (16, sTexts), (26, sCleanM), (48, sNum2)]) := (.cons okFitsT (.cons okAlive (.cons okOPTM (.cons okTexts (.cons okCleanM (.cons okNum2 .nil))))))
  obtain ⟨hw0, hh⟩ := hh
  obtain ⟨st, w, v, l1, l2, l3⟩ := h
  refine AW.of hΓ mixed [0] _ _ _ rfl ?_
  simp only [go_sem, sFitsT, sAlive, sOPTM, sTexts, sCleanM, sNum2]
  refine AW.still 3 0 0 24 6 _ rfl rfl (fun j hj => match j, hj with | 0, _ => rfl | 1, _ => rfl | 2, _ => rfl | 3, _ => rfl | 4, _ => rfl | 5, _ => rfl) ?_
  refine AW.of hΓ mixed [5] _ _ _ rfl ?_
  simp only [go_sem, sFitsT, sAlive, sOPTM, sTexts, sCleanM, sNum2]
  refine ⟨hh, fun hfew => ?_⟩
  have hfew : fewH (st, w, v, l1, l2, l3) = true := by simpa using hfew
  obtain ⟨m1, m2, m3, s, u, ho, hw, hl, hl2⟩ := few_opt hfew
  refine AW.to (fun x : { i : Nat // i ≤ 40 } => Sh.st ⟨[(3, .ps 6 (eHw.enc (st, w, v, l1, l2, l3))), (5, .st (apBs (ksH how) x.1)), (6, .st (apLs (ksH how) x.1)), (7, .st (apRs (ksH how) x.1)), (8, .st (apWs (ksH how) x.1))], [], 119, 1, 1, []⟩) ?_ fun x => ?_
  · refine AW.block (AW.round (α := { i : Nat // i ≤ how.length ∧ i ≤ 40 }) (fun x => ⟨[(0, sL eI how), (3, .ps 6 (eHw.enc (st, w, v, l1, l2, l3))), (5, .st (apBs (ksH how) x.1)), (6, .st (apLs (ksH how) x.1)), (7, .st (apRs (ksH how) x.1)), (8, .st (apWs (ksH how) x.1)), (9, .val (.int .i64 (apI (ksH how) x.1).2)), (10, .val (.int .i64 x.1))], [], 119, 1, 1, []⟩) (fun x => 40 - x.1) ⟨0, Nat.zero_le _, by omega⟩ ?_ ?_)
    · simp only [go_sem, sFitsT, sAlive, sOPTM, sTexts, sCleanM, sNum2]
      exact ⟨rfl, rfl, rfl, rfl, rfl⟩
    · rintro ⟨i, hi, hi2⟩
      by_cases hlt : i < how.length ∧ i < 40
      · obtain ⟨k1, k2⟩ := hlt
        have hlI : ((i : Int) < (how.length : Nat)) = True := eq_true (by omega)
        have hlJ : ((i : Int) < 40) = True := eq_true (by omega)
        have hk := u64r_in (how.getD i 0) (m := 7) (by decide)
        have hkN : ((ksH how i : Nat) : Int) = u64r (how.getD i 0) 7 := by unfold ksH; omega
        have hk7 : ksH how i < 7 := by omega
        have hkt : (IntKind.u64.wrap (how.getD i 0)).tmod 7 = ((ksH how i : Nat) : Int) := hkN.symm
        have hB := apBs_succ (ksH how) i
        have hL := apLs_succ (ksH how) i
        have hR := apRs_succ (ksH how) i
        have hW := apWs_succ (ksH how) i
        have hwho := apI_who (ksH how) i
        have hnx : (apI (ksH how) (i + 1)).2 = apNow (apI (ksH how) i).2 (ksH how i) := rfl
        obtain ⟨b1, b2, b3, b4⟩ := ap_len (ksH how) i
        generalize ksH how i = k at *
        generalize (apI (ksH how) i).2 = wh at *
        have hlen := num2_len i
        by_cases hs : wh + apTab.getD k 0 = 3
        · have hN : apNow wh k = 0 := by unfold apNow; exact if_pos hs
          rw [hN] at hL hR hW hnx
          simp only [if_true, if_false, reduceIte, Nat.reduceEqDiff] at hL hR hW
          have hc : (wh = 2 ∧ k = 1) ∨ (wh = 2 ∧ k = 2) ∨ (wh = 1 ∧ k = 3) ∨ (wh = 1 ∧ k = 4) := by
            have hk' : k = 0 ∨ k = 1 ∨ k = 2 ∨ k = 3 ∨ k = 4 ∨ k = 5 ∨ k = 6 := by omega
            rcases hk' with rfl | rfl | rfl | rfl | rfl | rfl | rfl <;>
              simp only [show apTab.getD 0 0 = 0 from rfl, show apTab.getD 1 0 = 1 from rfl, show apTab.getD 2 0 = 1 from rfl, show apTab.getD 3 0 = 2 from rfl, show apTab.getD 4 0 = 2 from rfl, show apTab.getD 5 0 = 0 from rfl, show apTab.getD 6 0 = 0 from rfl] at hs <;> omega
          rcases hc with ⟨rfl, rfl⟩ | ⟨rfl, rfl⟩ | ⟨rfl, rfl⟩ | ⟨rfl, rfl⟩
          · refine AW.of hΓ mixed [99999] _ _ _ rfl ?_
            simp only [go_sem, sFitsT, sAlive, sOPTM, sTexts, sCleanM, sNum2, hlI, hlJ, hkt]
            (repeat' apply And.intro) <;> first | omega | exact ⟨⟨i + 1, by omega, by omega⟩, ⟨hB.symm, hL.symm, hR.symm, hW.symm, by dsimp only; rw [hnx]; rfl, by dsimp only; omega⟩, by dsimp only; omega⟩
          · refine AW.of hΓ mixed [99999] _ _ _ rfl ?_
            simp only [go_sem, sFitsT, sAlive, sOPTM, sTexts, sCleanM, sNum2, hlI, hlJ, hkt]
            (repeat' apply And.intro) <;> first | omega | exact ⟨⟨i + 1, by omega, by omega⟩, ⟨hB.symm, hL.symm, hR.symm, hW.symm, by dsimp only; rw [hnx]; rfl, by dsimp only; omega⟩, by dsimp only; omega⟩
          · refine AW.of hΓ mixed [99999] _ _ _ rfl ?_
            simp only [go_sem, sFitsT, sAlive, sOPTM, sTexts, sCleanM, sNum2, hlI, hlJ, hkt]
            (repeat' apply And.intro) <;> first | omega | exact ⟨⟨i + 1, by omega, by omega⟩, ⟨hB.symm, hL.symm, hR.symm, hW.symm, by dsimp only; rw [hnx]; rfl, by dsimp only; omega⟩, by dsimp only; omega⟩
          · refine AW.of hΓ mixed [99999] _ _ _ rfl ?_
            simp only [go_sem, sFitsT, sAlive, sOPTM, sTexts, sCleanM, sNum2, hlI, hlJ, hkt]
            (repeat' apply And.intro) <;> first | omega | exact ⟨⟨i + 1, by omega, by omega⟩, ⟨hB.symm, hL.symm, hR.symm, hW.symm, by dsimp only; rw [hnx]; rfl, by dsimp only; omega⟩, by dsimp only; omega⟩
        · have hk' : k = 0 ∨ k = 5 ∨ k = 6 ∨ k = 1 ∨ k = 2 ∨ k = 3 ∨ k = 4 := by omega
          rcases hk' with e | e | e | e | e | e | e
          · subst e
            have hN : apNow wh 0 = 0 := by unfold apNow; rw [if_neg hs]; rfl
            have hs' : ((wh : Int) = 3) = False := eq_false (by omega)
            rw [hN] at hL hR hW hnx
            simp only [if_true, if_false, reduceIte, Nat.reduceEqDiff] at hL hR hW
            refine AW.of hΓ mixed [99999] _ _ _ rfl ?_
            simp only [go_sem, sFitsT, sAlive, sOPTM, sTexts, sCleanM, sNum2, hlI, hlJ, hkt, hs', Int.add_zero]
            (repeat' apply And.intro) <;> first | omega | exact ⟨⟨i + 1, by omega, by omega⟩, ⟨hB.symm, hL.symm, hR.symm, hW.symm, by dsimp only; rw [hnx]; rfl, by dsimp only; omega⟩, by dsimp only; omega⟩
          · subst e
            have hN : apNow wh 5 = 0 := by unfold apNow; rw [if_neg hs]; rfl
            have hs' : ((wh : Int) = 3) = False := eq_false (by omega)
            rw [hN] at hL hR hW hnx
            simp only [if_true, if_false, reduceIte, Nat.reduceEqDiff] at hL hR hW
            refine AW.of hΓ mixed [99999] _ _ _ rfl ?_
            simp only [go_sem, sFitsT, sAlive, sOPTM, sTexts, sCleanM, sNum2, hlI, hlJ, hkt, hs', Int.add_zero]
            (repeat' apply And.intro) <;> first | omega | exact ⟨⟨i + 1, by omega, by omega⟩, ⟨hB.symm, hL.symm, hR.symm, hW.symm, by dsimp only; rw [hnx]; rfl, by dsimp only; omega⟩, by dsimp only; omega⟩
          · subst e
            have hN : apNow wh 6 = 0 := by unfold apNow; rw [if_neg hs]; rfl
            have hs' : ((wh : Int) = 3) = False := eq_false (by omega)
            rw [hN] at hL hR hW hnx
            simp only [if_true, if_false, reduceIte, Nat.reduceEqDiff] at hL hR hW
            refine AW.of hΓ mixed [99999] _ _ _ rfl ?_
            simp only [go_sem, sFitsT, sAlive, sOPTM, sTexts, sCleanM, sNum2, hlI, hlJ, hkt, hs', Int.add_zero]
            (repeat' apply And.intro) <;> first | omega | exact ⟨⟨i + 1, by omega, by omega⟩, ⟨hB.symm, hL.symm, hR.symm, hW.symm, by dsimp only; rw [hnx]; rfl, by dsimp only; omega⟩, by dsimp only; omega⟩
          · -- 1
            subst e
            have hN : apNow wh 1 = 1 := by unfold apNow; exact if_neg hs
            have hO : apO i wh 1 = [otherB i] := by unfold apO apKd; rw [if_neg (show ¬ wh + apTab.getD 1 0 = 3 from hs)]; rfl
            have hs' : ((wh : Int) + 1 = 3) = False := eq_false (by have : ¬ wh + 1 = 3 := hs; omega)
            rw [hN] at hL hR hW hnx
            rw [hO] at hL hR hW
            simp only [if_true, if_false, List.flatten_cons, List.flatten_nil, List.append_nil, reduceIte, Nat.reduceEqDiff] at hL hR hW
            refine AW.of hΓ mixed [99999] _ _ _ rfl ?_
            simp only [go_sem, sFitsT, sAlive, sOPTM, sTexts, sCleanM, sNum2, hlI, hlJ, hkt, hs']
            (repeat' apply And.intro) <;> first | omega | exact ⟨⟨i + 1, by omega, by omega⟩, ⟨hB.symm, hL.symm, hR.symm, hW.symm, by dsimp only; rw [hnx]; rfl, by dsimp only; omega⟩, by dsimp only; omega⟩
          · -- 2
            subst e
            have hN : apNow wh 2 = 1 := by unfold apNow; exact if_neg hs
            have hO : apO i wh 2 = [] := by unfold apO apKd; rw [if_neg (show ¬ wh + apTab.getD 2 0 = 3 from hs)]; rfl
            have hs' : ((wh : Int) + 1 = 3) = False := eq_false (by have : ¬ wh + 1 = 3 := hs; omega)
            rw [hN] at hL hR hW hnx
            rw [hO] at hL hR hW
            simp only [if_true, if_false, List.flatten_cons, List.flatten_nil, reduceIte, Nat.reduceEqDiff] at hL hR hW
            refine AW.of hΓ mixed [99999] _ _ _ rfl ?_
            simp only [go_sem, sFitsT, sAlive, sOPTM, sTexts, sCleanM, sNum2, hlI, hlJ, hkt, hs']
            (repeat' apply And.intro) <;> first | omega | exact ⟨⟨i + 1, by omega, by omega⟩, ⟨hB.symm, hL.symm, hR.symm, hW.symm, by dsimp only; rw [hnx]; rfl, by dsimp only; omega⟩, by dsimp only; omega⟩
          · -- 3
            subst e
            have hN : apNow wh 3 = 2 := by unfold apNow; exact if_neg hs
            have hO : apO i wh 3 = [otherB i] := by unfold apO apKd; rw [if_neg (show ¬ wh + apTab.getD 3 0 = 3 from hs)]; rfl
            have hs' : ((wh : Int) + 2 = 3) = False := eq_false (by have : ¬ wh + 2 = 3 := hs; omega)
            rw [hN] at hL hR hW hnx
            rw [hO] at hL hR hW
            simp only [if_true, if_false, List.flatten_cons, List.flatten_nil, List.append_nil, reduceIte, Nat.reduceEqDiff] at hL hR hW
            refine AW.of hΓ mixed [99999] _ _ _ rfl ?_
            simp only [go_sem, sFitsT, sAlive, sOPTM, sTexts, sCleanM, sNum2, hlI, hlJ, hkt, hs']
            (repeat' apply And.intro) <;> first | omega | exact ⟨⟨i + 1, by omega, by omega⟩, ⟨hB.symm, hL.symm, hR.symm, hW.symm, by dsimp only; rw [hnx]; rfl, by dsimp only; omega⟩, by dsimp only; omega⟩
          · -- 4
            subst e
            have hN : apNow wh 4 = 2 := by unfold apNow; exact if_neg hs
            have hO : apO i wh 4 = [] := by unfold apO apKd; rw [if_neg (show ¬ wh + apTab.getD 4 0 = 3 from hs)]; rfl
            have hs' : ((wh : Int) + 2 = 3) = False := eq_false (by have : ¬ wh + 2 = 3 := hs; omega)
            rw [hN] at hL hR hW hnx
            rw [hO] at hL hR hW
            simp only [if_true, if_false, List.flatten_cons, List.flatten_nil, reduceIte, Nat.reduceEqDiff] at hL hR hW
            refine AW.of hΓ mixed [99999] _ _ _ rfl ?_
            simp only [go_sem, sFitsT, sAlive, sOPTM, sTexts, sCleanM, sNum2, hlI, hlJ, hkt, hs']
            (repeat' apply And.intro) <;> first | omega | exact ⟨⟨i + 1, by omega, by omega⟩, ⟨hB.symm, hL.symm, hR.symm, hW.symm, by dsimp only; rw [hnx]; rfl, by dsimp only; omega⟩, by dsimp only; omega⟩
      · rcases Nat.lt_or_ge i how.length with hl1 | hl1
        · have hlI : ((i : Int) < (how.length : Nat)) = True := eq_true (by omega)
          have hlJ : ((i : Int) < 40) = False := eq_false (by omega)
          refine AW.of hΓ mixed [99999] _ _ _ rfl ?_
          simp only [go_sem, sFitsT, sAlive, sOPTM, sTexts, sCleanM, sNum2, hlI, hlJ]
          refine ⟨⟨i, hi2⟩, toFits ?_⟩
          simp only [go_sem, sFitsT, sAlive, sOPTM, sTexts, sCleanM, sNum2]
        · have hlI : ((i : Int) < (how.length : Nat)) = False := eq_false (by omega)
          refine AW.of hΓ mixed [99999] _ _ _ rfl ?_
          simp only [go_sem, sFitsT, sAlive, sOPTM, sTexts, sCleanM, sNum2, hlI]
          refine ⟨⟨i, hi2⟩, toFits ?_⟩
          simp only [go_sem, sFitsT, sAlive, sOPTM, sTexts, sCleanM, sNum2]
  · obtain ⟨n, hn⟩ := x
    obtain ⟨c1, c2⟩ := ap_merge (ks := ksH how) (n := n) (by omega)
    have hM := ap_shortM (ks := ksH how) (n := n) (by omega)
    have hO : ∃ D l r K W, mrgO (apBs (ksH how) n) (apLs (ksH how) n) (apRs (ksH how) n) ((m1, m2, m3), s, u, 0) = (D, l, r, K, apWs (ksH how) n, W, 0) := by
      rw [O_eq hw]
      unfold mrgT
      rw [c1, c2]
      exact ⟨_, _, _, _, _, rfl⟩
    obtain ⟨D, lp, rp, K, W, hO⟩ := hO
    simp only [go_sem, sFitsT, sAlive, sOPTM, sTexts, sCleanM, sNum2, ho, hw, hO]
    exact ⟨hl2, hM, by omega⟩
end Go.Proofs.YtjfmigpahglajaaGreatDoor
