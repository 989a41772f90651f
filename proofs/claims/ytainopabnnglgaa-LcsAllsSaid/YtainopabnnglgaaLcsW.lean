/-
  lcs: what the functions of its search come to.
-/
import Derived.Test.YtainopabnnglgaaTrimW
import Derived.Test.YtainopabnnglgaaLcsF
import Derived.Test.YtainopabnnglgaaAxm
set_option linter.unusedSimpArgs false
set_option linter.unusedVariables false
set_option maxRecDepth 100000
set_option maxHeartbeats 2000000
namespace Go.Proofs.Ytainopabnnglgaa
open Go
attribute [local irreducible] AW AVle ASle RowLe

/-- A walk: two lists, and how far the ways have come. -/
def wAV (x y z : AV) : AV := .ag 3 fun j => if j = 0 then x else if j = 1 then y else z
def kW : Kd (List Int × List Int × List Int) where
  enc w := wAV (sL eI w.1) (sL eI w.2.1) (sL eI w.2.2)
  dec | .ag _ c => (gL eI (c 0), gL eI (c 1), gL eI (c 2))
      | _ => ([], [], [])
  law w := by simp only [wAV, Nat.one_ne_zero, if_true, if_false, (by decide : (2 : Nat) ≠ 0), (by decide : (2 : Nat) ≠ 1), gL_sL]
theorem kW_ok {a b f : List Int} {c : Nat → AV} (h0 : AVle (c 0) (sL eI a)) (h1 : AVle (c 1) (sL eI b)) (h2 : AVle (c 2) (sL eI f)) (e0 : gL eI (c 0) = a) (e1 : gL eI (c 1) = b) (e2 : gL eI (c 2) = f) : kW.ok (.ag 3 c) := by
  subst e0 e1 e2
  refine AVle.ag fun j hj => ?_
  match j, hj with
  | 0, _ => exact h0
  | 1, _ => exact h1
  | 2, _ => exact h2
theorem kW_dec (c : Nat → AV) : kW.dec (.ag 3 c) = (gL eI (c 0), gL eI (c 1), gL eI (c 2)) := rfl

theorem gL_row (l : List Int) : gL eI (.sn l.length 1 fun i => eI.enc (l.getD i 0)) = l := gL_sL eI l
def big (n : Int) : Prop := 0 ≤ n ∧ n < 1000000000
def sDiagonals : Spec := Spec.f3 kI kI kI (fun d n m => big d ∧ big n ∧ big m) (fun d n m => tu2 (kI.enc (lowD d.toNat m.toNat)) (kI.enc (highD d.toNat n.toNat)))
theorem okDiagonals : SpecOK Try.prog 44 sDiagonals := by
  refine SpecOK.f3 Try.func44 rfl (by decide) Try.results44 Try.ntmps44 (by decide) fun d n m hd => ?_
  have hΓ : GOK Try.prog (gam []) := GOK.nil
  obtain ⟨⟨h1, h2⟩, ⟨h3, h4⟩, h5, h6⟩ := hd
  have hl : lowD d.toNat m.toNat = if m < d then -m + (d - m).tmod 2 else -d := by
    unfold lowD
    rw [Int.toNat_of_nonneg h1, Int.toNat_of_nonneg h5]
  have hh : highD d.toNat n.toNat = if n < d then n - (d - n).tmod 2 else d := by
    unfold highD
    rw [Int.toNat_of_nonneg h1, Int.toNat_of_nonneg h3]
  have t1 : m < d → (d - m).tmod 2 = (d - m) % 2 := fun h => tmod2 _ (by omega)
  have t2 : n < d → (d - n).tmod 2 = (d - n) % 2 := fun h => tmod2 _ (by omega)
  have b1 : m < d → 0 ≤ (d - m).tmod 2 ∧ (d - m).tmod 2 ≤ 1 := fun h => by rw [t1 h]; omega
  have b2 : n < d → 0 ≤ (d - n).tmod 2 ∧ (d - n).tmod 2 ≤ 1 := fun h => by rw [t2 h]; omega
  rw [hl, hh]
  refine AW.of hΓ mixed [99999] _ _ _ rfl ?_
  simp only [go_sem]
  clear hl hh t1 t2
  generalize (d - m).tmod 2 = r1 at *
  generalize (d - n).tmod 2 = r2 at *
  refine ⟨by omega, fun g1 => ?_, fun g1 => ?_⟩
  · have := b1 g1
    simp only [if_pos g1]
    refine ⟨by omega, by omega, by omega, fun g2 => ?_, fun g2 => ?_⟩
    · have := b2 g2
      simp only [if_pos g2]
      exact ⟨by omega, by omega, by trivial, by trivial⟩
    · simp only [if_neg g2]
      exact ⟨by trivial, by trivial⟩
  · simp only [if_neg g1]
    refine ⟨fun g2 => ?_, fun g2 => ?_⟩
    · have := b2 g2
      simp only [if_pos g2]
      exact ⟨by omega, by omega, by trivial, by trivial⟩
    · simp only [if_neg g2]
      exact ⟨by trivial, by trivial⟩
def sReached : Spec := Spec.f2 kW kI (fun w k => -(w.2.1.length : Int) - 1 ≤ k ∧ k ≤ w.1.length + 1 ∧ w.2.2.length = w.1.length + w.2.1.length + 3 ∧ w.2.2.length < 1000000000) (fun w k => kI.enc (rch w.2.1.length w.2.2 k))
theorem okReached : SpecOK Try.prog 46 sReached := by
  refine SpecOK.f2 Try.func46 rfl (by decide) Try.results46 Try.ntmps46 (by decide) fun w k hd => ?_
  have hΓ : GOK Try.prog (gam []) := GOK.nil
  obtain ⟨a, b, far⟩ := w
  simp only at hd
  refine AW.of hΓ mixed [99999] _ _ _ rfl ?_
  simp only [go_sem, kW, wAV]
  exact ⟨by omega, by omega, by omega, rfl⟩
/-- How far ways come stays within this. -/
def okFar (far : List Int) : Prop := ∀ y ∈ far, -1 ≤ y ∧ y < 1000000000
theorem gL_part (l r : List Int) : gL eI (.sn l.length 1 fun i => eI.enc ((l ++ r).getD i 0)) = l := by
  unfold gL
  simp only [eI.law]
  apply List.ext_getElem
  · simp
  · intro i h1 h2
    simp [List.getD, List.getElem?_append_left h2, List.getElem?_eq_getElem h2]
theorem part_le (l r : List Int) : AVle (.sn l.length 1 fun i => eI.enc ((l ++ r).getD i 0)) (sL eI l) :=
  vw_row (E := eI) rfl rfl (by simp) (by simp)
def sAdvance0 : MSpec := fun args hp top nx K => ∃ a b far rest k ver x far', args = [wAV (sL eI a) (sL eI b) (.ow 0 ver far.length), kI.enc k] ∧ hp = rws [(0, rowL ver 3 eI (far ++ rest))] ∧ top = 1 ∧
  okFar far ∧ a.length < 100000000 ∧ b.length < 100000000 ∧ advF a b far k = some (x, far') ∧ ∀ hp' top' nx', RowLe (hp' 0) (rowL ver 3 eI (far' ++ rest)) → nx ≤ nx' → K (kI.enc x) hp' top' nx'
theorem okAdvance0 : MethOK Try.prog 45 sAdvance0 := by
  refine MethOK.mk Try.func45 rfl (by decide) Try.results45 Try.ntmps45 ?_
  rintro args hp top nx K ⟨a, b, far, rest, k, ver, x, far', rfl, rfl, rfl, hfar, ha, hb, hadv, hK⟩
  have hΓ : GOK Try.prog (gam [(46, sReached)]) := (.cons okReached .nil)
  refine ⟨Nat.le_of_ble_eq_true rfl, ?_⟩
  unfold advF at hadv
  split at hadv
  · rename_i hc
    obtain ⟨c1, c2, c3, c4, c5⟩ := hc
    have hr : ∀ j : Int, -(b.length : Int) - 1 ≤ j → j ≤ a.length + 1 → -1 ≤ rch b.length far j ∧ rch b.length far j < 1000000000 := fun j h1 h2 => by
      unfold rch
      rw [gd_lt _ _ (by omega)]
      exact hfar _ (List.getElem_mem _)
    have hu := hr (k - 1) (by omega) (by omega)
    have hv := hr (k + 1) (by omega) (by omega)
    have hs : startD a b (rch b.length far (k - 1)) (rch b.length far (k + 1)) k = min (min (max (rch b.length far (k - 1) + 1) (rch b.length far (k + 1))) ↑a.length) (↑b.length + k) := rfl
    simp only [Option.some.injEq, Prod.mk.injEq] at hadv
    obtain ⟨hx, hfar'⟩ := hadv
    generalize hsg : startD a b (rch b.length far (k - 1)) (rch b.length far (k + 1)) k = s at *
    have s1 : s ≤ a.length := by omega
    have s2 : s ≤ b.length + k := by omega
    have hal := ahd_le (a.drop s.toNat) (b.drop (s - k).toNat)
    have has := ahd_spec 0 (a.drop s.toNat) (b.drop (s - k).toNat)
    simp only [List.length_drop, getD_drop'] at hal has
    refine AW.of hΓ mixed [] _ _ _ rfl ?_
    simp only [go_sem, sReached, kW_dec, wAV, gL_sL, gL_part]
    refine ⟨by omega, ⟨by omega, kW_ok (a := a) (b := b) (f := far) (AVle.refl _) (AVle.refl _) (part_le far rest) (gL_sL _ _) (gL_sL _ _) (gL_part far rest), by omega, by omega, by omega, by omega⟩, by omega, by omega, ⟨by omega, kW_ok (a := a) (b := b) (f := far) (AVle.refl _) (AVle.refl _) (part_le far rest) (gL_sL _ _) (gL_sL _ _) (gL_part far rest), by omega, by omega, by omega, by omega⟩, by omega, ?_⟩
    rw [← hs]
    refine AW.round (α := { i : Nat // i ≤ ahd (a.drop s.toNat) (b.drop (s - k).toNat) })
      (fun i => ⟨[(1, .val (.int .i64 k)), (2, .pt 1 nx 0), (5, .val (.int .i64 (s + i.1)))], [(0, rowL ver 3 eI (far ++ rest)), (1, .box nx 57 3 fun j => if j = 0 then sL eI a else if j = 1 then sL eI b else .ow 0 ver far.length)], 68, 2, nx + 1, []⟩) (fun i => a.length - i.1) ⟨0, Nat.zero_le _⟩ ?_ ?_
    · simp only [go_sem, sReached]
      exact ⟨by omega, RowLe.refl _, RowLe.refl _⟩
    · rintro ⟨i, hi⟩
      refine AW.of hΓ mixed [99999] _ _ _ rfl ?_
      simp only [go_sem, sReached]
      have t1 : (s + i).toNat = s.toNat + i := by omega
      have t2 : (s + i - k).toNat = (s - k).toNat + i := by omega
      refine ⟨fun _ => by omega, fun h => by omega, fun _ => by omega, fun h => by omega, fun ⟨⟨h1, h2⟩, h3⟩ => ⟨by omega, ⟨i + 1, ?_⟩, ⟨by dsimp only; omega, RowLe.refl _, RowLe.refl _⟩, by dsimp only; omega⟩, fun hno => ⟨by omega, by omega, by omega, by omega, ?_⟩⟩
      · rcases Nat.lt_or_ge i (ahd (a.drop s.toNat) (b.drop (s - k).toNat)) with g | g
        · exact g
        · have e : ahd (a.drop s.toNat) (b.drop (s - k).toNat) = i := by omega
          rw [e] at has
          rw [t1, t2] at h3
          exact absurd h3 (has.2 (by omega) (by omega))
      · have e : s + (i : Int) = x := by
          rcases Nat.lt_or_ge i (ahd (a.drop s.toNat) (b.drop (s - k).toNat)) with g | g
          · refine absurd ?_ (hno ⟨by omega, by omega⟩)
            rw [t1, t2]
            exact has.1 i g
          · omega
        rw [e]
        refine hK _ _ _ ?_ (by omega)
        exact row_set (E := eI) rfl (by rw [← hfar', hx, List.set_append_left _ _ (by omega)]) (by simp) (by simp) (fun _ _ => AVle.refl _)
  · cases hadv
theorem startR_set (far : List Int) {i : Nat} (h : i < far.length) : startR (i + 1) ++ far.drop (i + 1) = (startR i ++ far.drop i).set i (-1) := by
  rw [List.set_append_right _ _ (by simp [startR]), List.drop_eq_getElem_cons h, show i - (startR i).length = 0 by simp [startR]]
  simp only [startR, List.replicate_succ', List.append_assoc, List.set_cons_zero, List.cons_append, List.nil_append]
def sNewWalk0 : MSpec := fun args hp top nx K => ∃ a b far ver, args = [sL eI a, sL eI b, .ow 0 ver far.length] ∧ hp = rws [(0, rowL ver 3 eI far)] ∧ top = 1 ∧
  a.length < 100000000 ∧ b.length < 100000000 ∧ a.length + b.length + 3 ≤ far.length ∧ far.length < 1000000000 ∧
  ∀ r hp' top' nx', AVle r (wAV (sL eI a) (sL eI b) (.ow 0 ver (a.length + b.length + 3))) → RowLe (hp' 0) (rowL ver 3 eI (startR (a.length + b.length + 3) ++ far.drop (a.length + b.length + 3))) → nx ≤ nx' → K r hp' top' nx'
theorem okNewWalk0 : MethOK Try.prog 43 sNewWalk0 := by
  refine MethOK.mk Try.func43 rfl (by decide) Try.results43 Try.ntmps43 ?_
  rintro args hp top nx K ⟨a, b, far, ver, rfl, rfl, rfl, ha, hb, hf, hl, hK⟩
  have hΓ : GOK Try.prog (gam []) := GOK.nil
  refine ⟨Nat.le_of_ble_eq_true rfl, ?_⟩
  refine AW.of hΓ mixed [] _ _ _ rfl ?_
  simp only [go_sem]
  have en : ((a.length : Int) + b.length + 3).toNat = a.length + b.length + 3 := by omega
  have ez : ∀ i, i ≤ a.length + b.length + 3 → (startR i ++ far.drop i).length = far.length := fun i hi => by simp [startR]; omega
  rw [en]
  refine ⟨by omega, by omega, by omega, ?_⟩
  refine AW.round (α := { i : Nat // i ≤ a.length + b.length + 3 })
    (fun i => ⟨[(0, sL eI a), (1, sL eI b), (6, .pt 1 nx 0), (7, .ow 0 ver (a.length + b.length + 3)), (18, .val (.int .i64 (a.length + b.length + 3 : Nat))), (19, .val (.int .i64 i.1))], [(0, rowL ver 3 eI (startR i.1 ++ far.drop i.1)), (1, .box nx 57 3 (zC [Value.slice none 0 0, Value.slice none 0 0, Value.slice none 0 0]))], 30, 2, nx + 1, []⟩) (fun i => a.length + b.length + 3 - i.1) ⟨0, Nat.zero_le _⟩ ?_ ?_
  · simp only [go_sem]
    exact ⟨RowLe.sl (by simp [startR]) fun i hi j hj => AVle.of_eq (by simp [startR]), RowLe.refl _⟩
  · rintro ⟨i, hi⟩
    refine AW.of hΓ mixed [99999] _ _ _ rfl ?_
    simp only [go_sem]
    refine ⟨fun hlt => ⟨by omega, by simp [startR]; omega, by omega, ⟨i + 1, by omega⟩, ⟨by dsimp only; omega, ?_, RowLe.refl _⟩, by dsimp only; omega⟩, fun hge => ?_⟩
    · exact row_set (E := eI) (l := startR i ++ far.drop i) rfl (startR_set far (by omega)) (by simp) (by simp) (fun _ _ => AVle.refl _)
    · have hn : i = a.length + b.length + 3 := by omega
      subst hn
      refine hK _ _ _ _ ?_ ?_ (by omega)
      · refine AVle.ag fun j hj => ?_
        match j, hj with
        | 0, _ => exact AVle.refl _
        | 1, _ => exact AVle.refl _
        | 2, _ => exact AVle.refl _
      · show RowLe (Row.sl ver 3 1 ((startR (a.length + b.length + 3)).length + (far.length - (a.length + b.length + 3))) fun i => eI.enc ((startR (a.length + b.length + 3) ++ far.drop (a.length + b.length + 3)).getD i 0)) _
        exact RowLe.sl (by simp) fun _ _ _ _ => AVle.refl _
end Go.Proofs.Ytainopabnnglgaa
