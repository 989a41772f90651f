/-
  The laws of lines: what they come to.
-/
import Derived.Test.YtainopabnnglgaaDoorLinesX
import Derived.Test.YtainopabnnglgaaDoorSameW
set_option linter.unusedSimpArgs false
set_option linter.unusedVariables false
set_option maxRecDepth 100000
namespace Go.Proofs.YtainopabnnglgaaDoor
open Go
attribute [local irreducible] AW AVle ASle RowLe

def sRefWhole : Spec := Spec.f1 (kL eS) (fun l => l.length ≤ 100000000 ∧ ∀ x ∈ l, x.length ≤ 100000000) (fun l => kB.enc (wholeL l))
theorem okRefWhole : SpecOK Tryd.prog 14 sRefWhole := by
  refine SpecOK.f1 Tryd.func14 rfl (by decide) Tryd.results14 Tryd.ntmps14 (by decide) fun l ⟨hl, hx⟩ => ?_
  have hΓ : GOK Tryd.prog (gam [(9, sRefSplit), (25, sRefEnds)]) := (.cons okRefSplit (.cons okRefEnds .nil))
  refine AW.of hΓ mixed [] _ _ _ rfl ?_
  simp only [go_sem, sRefSplit, sRefEnds]
  refine AW.round (α := { i : Nat // i ≤ l.length ∧ ∀ k, k < i → oneL (l.getD k []) = true ∧ (k + 1 < l.length → endsL (l.getD k []) = true) }) (fun i => ⟨[(0, sL eS l), (3, .val (.int .i64 i.1))], [], 32, 0, 0, []⟩) (fun i => l.length - i.1) ⟨0, by simp⟩ ?_ ?_
  · simp only [go_sem, sRefSplit, sRefEnds]
  · rintro ⟨i, hi, hk⟩
    refine AW.of hΓ mixed [99999] _ _ _ rfl ?_
    simp only [go_sem, sRefSplit, sRefEnds]
    refine ⟨fun hil => ?_, fun hil => ?_⟩
    · have hlt : i < l.length := by omega
      have hxi := hx _ (gd_lt l [] hlt ▸ List.getElem_mem hlt)
      have hw := wholeL_iff l
      have ho : oneL (l.getD i []) = decide ((splitL (l.getD i [])).length = 1) := rfl
      generalize hxe : l.getD i [] = x at *
      generalize hn : (splitL x).length = n at *
      have hc : ((n : Int) = 1) ↔ n = 1 := by omega
      have hc2 : ((i : Int) + 1 < l.length) ↔ i + 1 < l.length := by omega
      simp only [hc, hc2]
      refine ⟨by omega, by omega, fun _ => by omega, fun _ => by omega, fun _ => by omega, ?_, ?_, fun h => ?_, fun h => ⟨by omega, ⟨i + 1, by omega, fun k hk' => ?_⟩, by dsimp only; omega, by dsimp only; omega⟩⟩
      · intro h1 h2; simp [h2]
      · intro h1; simpa using h1
      · refine (Bool.eq_false_iff.2 fun hh => ?_).symm
        have h3 := hw.1 hh i hlt
        rw [hxe, ho] at h3
        simp only [decide_eq_true_eq] at h3
        simp only [h3.1, not_true_eq_false, decide_false, Bool.false_or, Bool.and_eq_true, decide_eq_true_eq, Bool.not_eq_true'] at h
        have := h3.2 h.1
        rw [h.2] at this
        cases this
      · rcases Nat.lt_or_ge k i with h' | h'
        · exact hk k h'
        · obtain rfl : k = i := by omega
          simp only [Bool.or_eq_false_iff, decide_eq_false_iff_not, Decidable.not_not, Bool.and_eq_false_imp, decide_eq_true_eq, Bool.not_eq_false'] at h
          rw [hxe, ho]
          exact ⟨by simpa using h.1, h.2⟩
    · refine ((wholeL_iff l).2 fun k hk' => hk k (by omega)).symm
theorem idx_at : ∀ (ks : List (List UInt8)) (x : List UInt8) (n : Nat), n ≤ ks.length → (∀ m, m < n → ks.getD m [] ≠ x) → (n < ks.length → ks.getD n [] = x) → n = ks.idxOf x
  | [], x, n, h, _, _ => by simp at h; simp [h]
  | y :: ks, x, 0, _, _, h => by
    have : y = x := by simpa using h (by simp)
    subst this
    simp
  | y :: ks, x, n + 1, h, hm, hn => by
    have h0 : y ≠ x := by simpa using hm 0 (by omega)
    have ih := idx_at ks x n (by simpa using h) (fun m h' => by simpa using hm (m + 1) (by omega)) fun hl => by simpa using hn (by simpa using hl)
    have hb : (y == x) = false := by simpa using h0
    rw [List.idxOf_cons, hb, ih]
    rfl
def sRefNumber : Spec := Spec.f1 (kL (eL eS)) (fun l => l.length ≤ 1000000 ∧ ∀ f ∈ l, f.length ≤ 1000000) (fun l => sL (eL eI) (numF [] l))
theorem okRefNumber : SpecOK Tryd.prog 16 sRefNumber := by
  refine SpecOK.f1 Tryd.func16 rfl (by decide) Tryd.results16 Tryd.ntmps16 (by decide) fun fs ⟨hl, hf⟩ => ?_
  have hΓ : GOK Tryd.prog (gam []) := GOK.nil
  refine AW.of hΓ mixed [] _ _ _ rfl ?_
  simp only [go_sem]
  refine AW.adopt 3 9 1 (fun _ _ => .any) rfl ?_
  refine AW.adopt 4 37 1 (fun _ _ => .any) rfl ?_
  refine AW.round (α := { x : Nat × Nat × Nat × Nat // x.1 ≤ fs.length ∧ x.2.1 < x.2.2.2 ∧ x.2.2.1 < x.2.2.2 ∧ ((fs.take x.1).foldl (fun k f => (numL k f).1) []).length ≤ x.1 * 1000000 })
    (fun x => ⟨[(0, sL (eL eS) fs), (3, .ow 0 x.1.2.1 ((fs.take x.1.1).foldl (fun k f => (numL k f).1) []).length), (4, .ow 1 x.1.2.2.1 x.1.1), (5, .val (.int .i64 x.1.1))],
      [(0, rowL x.1.2.1 9 eS ((fs.take x.1.1).foldl (fun k f => (numL k f).1) [])), (1, rowL x.1.2.2.1 37 (eL eI) (numF [] (fs.take x.1.1)))], 67, 2, x.1.2.2.2, []⟩) (fun x => fs.length - x.1.1) ⟨(0, 0, 1, 2), by simp⟩ ?_ ?_
  · simp only [go_sem]
    exact ⟨rfl, row_nil rfl, row_nil rfl⟩
  · rintro ⟨⟨i, v, u, nx⟩, hi, hv, hu, hks⟩
    simp only at hi hv hu hks
    refine AW.of hΓ mixed [7] _ _ _ rfl ?_
    simp only [go_sem]
    refine ⟨fun hil => ?_, fun hil => ?_⟩
    · have hlt : i < fs.length := by omega
      have hfi := hf _ (gd_lt fs [] hlt ▸ List.getElem_mem hlt)
      generalize hfe : fs.getD i [] = f at *
      obtain ⟨ks0, hke⟩ : ∃ ks0, (fs.take i).foldl (fun k f => (numL k f).1) [] = ks0 := ⟨_, rfl⟩
      have hks0 := hks
      rw [hke] at hks0
      refine AW.adopt 6 3 1 (fun _ _ => .any) rfl ?_
      refine AW.to (fun x : { x : Nat × Nat // nx < x.2 ∧ x.1 < x.2 } => Sh.st ⟨[(0, sL (eL eS) fs), (3, .ow 0 x.1.1 (numL ks0 f).1.length), (4, .ow 1 u i), (5, .val (.int .i64 i)), (6, sL eI (numL ks0 f).2)],
        [(0, rowL x.1.1 9 eS (numL ks0 f).1), (1, rowL u 37 (eL eI) (numF [] (fs.take i)))], 67, 3, x.1.2, []⟩) ?_ ?_
      · refine AW.block (AW.round (α := { x : Nat × Nat × Nat × Nat // x.1 ≤ f.length ∧ x.2.1 < x.2.2.2 ∧ x.2.2.1 < x.2.2.2 ∧ nx < x.2.2.2 })
          (fun x => ⟨[(0, sL (eL eS) fs), (3, .ow 0 x.1.2.1 (numL ks0 (f.take x.1.1)).1.length), (4, .ow 1 u i), (5, .val (.int .i64 i)), (6, .ow 2 x.1.2.2.1 x.1.1), (7, .val (.int .i64 x.1.1))],
          [(0, rowL x.1.2.1 9 eS (numL ks0 (f.take x.1.1)).1), (1, rowL u 37 (eL eI) (numF [] (fs.take i))), (2, rowL x.1.2.2.1 3 eI (numL ks0 (f.take x.1.1)).2)], 67, 3, x.1.2.2.2, []⟩) (fun x => f.length - x.1.1) ⟨(0, v, nx, nx + 1), by simp; omega⟩ ?_ ?_)
        · simp only [go_sem, hke]
          exact ⟨rfl, by simpa [numL] using RowLe.refl _, RowLe.refl _, row_nil rfl⟩
        · rintro ⟨⟨k, v', w, nx'⟩, hk, hv', hw, hnx⟩
          simp only at hk hv' hw hnx
          have hlen : (numL ks0 (f.take k)).2.length = k := by rw [numL_len]; simp; omega
          have hkl : (numL ks0 (f.take k)).1.length ≤ ks0.length + k := by
            have := numL_ks ks0 (f.take k)
            simp at this; omega
          by_cases hkf : k < f.length
          · have hs := numL_snoc ks0 f hkf
            have hkc : (k : Int) < f.length := by omega
            generalize hx : f.getD k [] = x at *
            refine AW.of hΓ mixed [10] _ _ _ rfl ?_
            simp only [go_sem, hkc, hx, hfe]
            generalize hks' : (numL ks0 (f.take k)).1 = ks at *
            generalize hns' : (numL ks0 (f.take k)).2 = ns at *
            have hidx : ks.idxOf x ≤ ks.length := List.idxOf_le_length
            refine ⟨by omega, ?_⟩
            refine AW.seqTo (fun _ : Unit => Sh.st ⟨[(0, sL (eL eS) fs), (3, .ow 0 v' ks.length), (4, .ow 1 u i), (5, .val (.int .i64 i)), (6, .ow 2 w k), (7, .val (.int .i64 k)), (8, .val (.int .i64 (ks.idxOf x)))],
              [(0, rowL v' 9 eS ks), (1, rowL u 37 (eL eI) (numF [] (fs.take i))), (2, rowL w 3 eI ns)], 67, 3, nx', []⟩) ?_ ?_
            · refine AW.block (AW.round (α := { n : Nat // n ≤ ks.length ∧ ∀ m, m < n → ks.getD m [] ≠ x })
                (fun n => ⟨[(0, sL (eL eS) fs), (3, .ow 0 v' ks.length), (4, .ow 1 u i), (5, .val (.int .i64 i)), (6, .ow 2 w k), (7, .val (.int .i64 k)), (8, .val (.int .i64 n.1))],
                [(0, rowL v' 9 eS ks), (1, rowL u 37 (eL eI) (numF [] (fs.take i))), (2, rowL w 3 eI ns)], 67, 3, nx', []⟩) (fun n => ks.length - n.1) ⟨0, Nat.zero_le _, fun m h => absurd h (Nat.not_lt_zero _)⟩ ?_ ?_)
              · simp only [go_sem]
                exact ⟨RowLe.refl _, RowLe.refl _, RowLe.refl _⟩
              · rintro ⟨n, hn, hm⟩
                refine AW.of hΓ mixed [99999] _ _ _ rfl ?_
                simp only [go_sem, hx, hfe]
                refine ⟨fun _ => by omega, fun _ => by omega, fun _ => by omega, fun _ => by omega, fun h => ?_, fun h => ?_⟩
                · refine ⟨by omega, ⟨n + 1, by omega, fun m hm' => ?_⟩, ⟨by dsimp only; omega, RowLe.refl _, RowLe.refl _, RowLe.refl _⟩, by dsimp only; omega⟩
                  rcases Nat.lt_or_ge m n with h' | h'
                  · exact hm m h'
                  · obtain rfl : m = n := by omega
                    exact h.2
                · have hne : n = ks.idxOf x := idx_at ks x n hn hm fun hl => Decidable.not_not.1 (h (by omega))
                  refine ⟨(), toFits ?_⟩
                  simp only [go_sem]
                  exact ⟨by omega, RowLe.refl _, RowLe.refl _, RowLe.refl _⟩
            · intro _
              by_cases hb : x ∈ ks
              · have hlt : ks.idxOf x < ks.length := List.idxOf_lt_length_of_mem hb
                have hne : ¬ ((ks.idxOf x : Int) = ks.length) := by omega
                rw [if_pos hb] at hs
                refine AW.of hΓ mixed [99999] _ _ _ rfl ?_
                simp only [go_sem, hne, hx, hfe]
                refine ⟨⟨by omega, by omega⟩, by omega, ⟨(k + 1, v', nx', nx' + 1), by dsimp only; omega, by dsimp only; omega, by dsimp only; omega, by dsimp only; omega⟩, ⟨Nat.le_refl _, ⟨⟨rfl, by dsimp only; rw [hs]⟩, ⟨rfl, rfl⟩, by dsimp only; omega⟩, ?_, RowLe.refl _, ?_⟩, by dsimp only; omega⟩
                · dsimp only; rw [hs]; exact RowLe.refl _
                · dsimp only; rw [hs]; exact row_app1 rfl rfl hlen.symm rfl rfl fun _ _ => AVle.refl _
              · have heq : ks.idxOf x = ks.length := List.idxOf_eq_length hb
                rw [if_neg hb] at hs
                refine AW.of hΓ mixed [99999] _ _ _ rfl ?_
                simp only [go_sem, heq, hx, hfe]
                refine ⟨by omega, by omega, by omega, ⟨by omega, by omega⟩, by omega, ⟨(k + 1, nx', nx' + 1, nx' + 1 + 1), by dsimp only; omega, by dsimp only; omega, by dsimp only; omega, by dsimp only; omega⟩, ⟨Nat.le_refl _, ⟨⟨rfl, by dsimp only; rw [hs]; simp⟩, ⟨rfl, rfl⟩, by dsimp only; omega⟩, ?_, RowLe.refl _, ?_⟩, by dsimp only; omega⟩
                · dsimp only; rw [hs]; exact row_app1 rfl rfl rfl rfl (by simp) fun _ _ => AVle.refl _
                · dsimp only; rw [hs, heq]; exact row_app1 rfl rfl hlen.symm rfl rfl fun _ _ => AVle.refl _
          · obtain rfl : k = f.length := by omega
            refine AW.of hΓ mixed [10] _ _ _ rfl ?_
            simp only [go_sem, hfe]
            have hlf : (numL ks0 f).2.length = f.length := numL_len ks0 f
            refine ⟨by omega, ⟨(v', nx'), hnx, hv'⟩, ASle.trans (ASle.freeze 2 w 3 1 _ _ rfl fun _ _ _ _ => rfl) (toFits ?_)⟩
            simp only [go_sem, hlf]
            exact ⟨vw_all rfl rfl hlf.symm, RowLe.refl _, RowLe.refl _⟩
      · rintro ⟨⟨v', nx'⟩, hnx, hvn⟩
        simp only at hnx hvn
        simp only [go_sem]
        have hft : fs.take (i + 1) = fs.take i ++ [f] := by rw [take_snoc fs [] hlt, hfe]
        have hfo : (fs.take (i + 1)).foldl (fun k f => (numL k f).1) [] = (numL ks0 f).1 := by rw [hft, List.foldl_append, hke]; rfl
        have hkl := numL_ks ks0 f
        refine ⟨⟨by rw [numF_len]; simp; omega, by omega⟩, by omega, ⟨(i + 1, v', nx', nx' + 1), by dsimp only; omega, by dsimp only; omega, by dsimp only; omega, by dsimp only; rw [hfo]; omega⟩, ⟨Nat.le_refl _, ⟨⟨rfl, by dsimp only; rw [hfo]⟩, ⟨rfl, rfl⟩, by dsimp only; omega⟩, ?_, ?_⟩, by dsimp only; omega⟩
        · dsimp only
          rw [hfo]
          exact RowLe.refl _
        · dsimp only
          rw [hft, numF_snoc, hke]
          exact row_app1 rfl rfl (by rw [numF_len]; simp; omega) rfl (by simp [numF_len]) fun _ _ => AVle.refl _
    · obtain rfl : i = fs.length := by omega
      refine ⟨by rw [numF_len]; simp, ?_⟩
      rw [List.take_length]
      exact vw_all rfl rfl (by rw [numF_len])
theorem flat_le (l : List (List UInt8)) (m : Nat) (h : ∀ x ∈ l, x.length ≤ m) : l.flatten.length ≤ l.length * m := by
  induction l with
  | nil => simp
  | cons x l ih =>
    have h1 := ih fun y hy => h y (List.mem_cons_of_mem _ hy)
    have h2 := h x (List.mem_cons_self ..)
    simp only [List.flatten_cons, List.length_append, List.length_cons, Nat.add_mul]
    omega
/-- A list that can be looked at. -/
def fewL (l : List (List UInt8)) : Bool := decide ((∀ x ∈ l, x.length ≤ 400) ∧ l.length ≤ 200)
def sFew1 : Spec := Spec.f1 (kL eS) (fun l => l.length ≤ 9223372036854775807 ∧ ∀ x ∈ l, x.length ≤ 9223372036854775807) (fun l => kB.enc (fewL l))
theorem okFew1 : SpecOK Tryd.prog 12 sFew1 := by
  refine SpecOK.f1 Tryd.func12 rfl (by decide) Tryd.results12 Tryd.ntmps12 (by decide) fun l ⟨hl0, hl⟩ => ?_
  have hΓ : GOK Tryd.prog (gam []) := GOK.nil
  unfold fewL
  refine AW.of hΓ mixed [] _ _ _ rfl ?_
  simp only [go_sem]
  refine AW.round (α := { i : Nat // i ≤ l.length ∧ ∀ k, k < i → (l.getD k []).length ≤ 400 }) (fun i => ⟨[(0, sL eS l), (3, .val (.int .i64 i.1))], [], 19, 0, 0, []⟩) (fun i => l.length - i.1) ⟨0, by simp⟩ ?_ ?_
  · simp only [go_sem]
  · rintro ⟨i, hi, hk⟩
    refine AW.of hΓ mixed [99999] _ _ _ rfl ?_
    simp only [go_sem]
    refine ⟨fun hil => ?_, fun hil => ?_⟩
    · have hlt : i < l.length := by omega
      have hm : l.getD i [] ∈ l := gd_lt l [] hlt ▸ List.getElem_mem hlt
      refine ⟨by omega, fun h hh => ?_, fun h => ⟨by omega, ⟨i + 1, by omega, fun k hk' => ?_⟩, by dsimp only; omega, by dsimp only; omega⟩⟩
      · have := hh.1 _ hm
        omega
      · rcases Nat.lt_or_ge k i with h' | h'
        · exact hk k h'
        · obtain rfl : k = i := by omega
          omega
    · obtain rfl : i = l.length := by omega
      have : ∀ x ∈ l, x.length ≤ 400 := fun x hx => by
        obtain ⟨k, hk1, rfl⟩ := List.mem_iff_getElem.1 hx
        have := hk k hk1
        rwa [gd_lt _ _ hk1] at this
      rw [decide_eq_decide]
      exact ⟨fun h => ⟨this, by omega⟩, fun h => by omega⟩
def sTold1 : Spec := Spec.f0 (kB.enc true)
theorem okTold1 : SpecOK Tryd.prog 7 sTold1 := by
  refine SpecOK.f0 Tryd.func7 rfl (by decide) Tryd.results7 Tryd.ntmps7 ?_
  have hΓ : GOK Tryd.prog (gam [(6, sSplit), (10, sJoin), (15, sNumber), (20, sRun), (17, sLongest), (11, sWhole)]) := (.cons okSplit (.cons okJoin (.cons okNumber (.cons okRun (.cons okLongest (.cons okWhole .nil))))))
  have e1 : splitL [97, 10, 98] = [[97, 10], [98]] := by decide
  have e2 : numF [] [[[97, 10], [98]], [[98]]] = [[0, 1], [1]] := by decide
  have e3 : runL [61, 61, 61, 120] = 3 := by decide
  have e4 : longL [[[97, 10], [98]], [[60, 60]]].flatten = 2 := by decide
  have e7 : ([[97, 10], [98]] : List (List UInt8)).flatten = [97, 10, 98] := by decide
  have e8 : okLs [[97, 10], [98]] := by unfold okLs; decide
  have e9 : okLs [[97], [98]] := by unfold okLs; decide
  have e10 : okLs [[60, 60]] := by unfold okLs; decide
  have e5 : wholeL [[97, 10], [98]] = true := by decide
  have e6 : wholeL [[97], [98]] = false := by decide
  refine AW.of hΓ mixed [] _ _ _ rfl ?_
  simp only [go_sem, sSplit, sJoin, sNumber, sRun, sLongest, sWhole, e1, e2, e3, e4, e5, e6, e7, e8, e9, e10]
def sLinesSplits : Spec := Spec.f1 kS (fun _ => True) (fun _ => kB.enc true)
theorem okLinesSplits : SpecOK Tryd.prog 3 sLinesSplits := by
  refine SpecOK.f1 Tryd.func3 rfl (by decide) Tryd.results3 Tryd.ntmps3 (by decide) fun s _ => ?_
  have hΓ : GOK Tryd.prog (gam [(6, sSplit), (7, sTold1), (9, sRefSplit), (8, sSameS), (10, sJoin), (11, sWhole)]) := (.cons okSplit (.cons okTold1 (.cons okRefSplit (.cons okSameS (.cons okJoin (.cons okWhole .nil))))))
  refine AW.of hΓ mixed [1] _ _ _ rfl ?_
  simp only [go_sem, sSplit, sTold1, sRefSplit, sSameS, sJoin, sWhole]
  refine ⟨by omega, ?_⟩
  have e : (min (s.length : Int) 1000).toNat = min s.length 1000 := by omega
  have ht : (s.take (min s.length 1000)).length ≤ 1000 := by simp; omega
  rw [e]
  generalize s.take (min s.length 1000) = t at *
  have h1 := splitL_len t
  have h2 := splitL_flat t
  have h3 := wholeL_splitL _ t (Nat.le_refl _)
  refine AW.of hΓ mixed [] _ _ _ rfl ?_
  simp only [go_sem, sSplit, sTold1, sRefSplit, sSameS, sJoin, sWhole, h2, h3]
  exact ⟨by omega, by omega, by omega, by unfold okLs; rw [h2]; omega⟩
def sLinesJoins : Spec := Spec.f1 (kL eS) (fun l => l.length ≤ 9223372036854775807 ∧ ∀ x ∈ l, x.length ≤ 9223372036854775807) (fun _ => kB.enc true)
theorem okLinesJoins : SpecOK Tryd.prog 4 sLinesJoins := by
  refine SpecOK.f1 Tryd.func4 rfl (by decide) Tryd.results4 Tryd.ntmps4 (by decide) fun l ⟨hl0, hl⟩ => ?_
  have hΓ : GOK Tryd.prog (gam [(6, sSplit), (7, sTold1), (8, sSameS), (10, sJoin), (11, sWhole), (12, sFew1), (13, sRefJoin), (14, sRefWhole)]) := (.cons okSplit (.cons okTold1 (.cons okSameS (.cons okJoin (.cons okWhole (.cons okFew1 (.cons okRefJoin (.cons okRefWhole .nil))))))))
  refine AW.of hΓ mixed [99999] _ _ _ rfl ?_
  simp only [go_sem, sSplit, sTold1, sSameS, sJoin, sWhole, sFew1, sRefJoin, sRefWhole]
  refine ⟨⟨hl0, hl⟩, fun h => ?_⟩
  simp only [Bool.not_eq_false', fewL, decide_eq_true_eq] at h
  obtain ⟨h1, h2⟩ := h
  have hfl := flat_le l 400 h1
  have h3 : l.length * 400 ≤ 200 * 400 := Nat.mul_le_mul_right _ h2
  have h4 := splitL_len l.flatten
  have hok : okLs l := ⟨by omega, by omega⟩
  have hx : ∀ x ∈ l, x.length ≤ 100000000 := fun x hx => by have := h1 x hx; omega
  refine ⟨hok, hok, hok, ⟨by omega, hx⟩, ⟨by omega, hx⟩, fun _ => by omega, fun _ => ⟨by omega, by omega⟩, fun h => by simpa using h, ?_⟩
  cases hw : wholeL l with
  | false => rfl
  | true => simp [wholeL_split l hw]
theorem numF_getD (fs : List (List (List UInt8))) (i : Nat) : ((numF [] fs).getD i []).length ≤ (fs.getD i []).length := by
  have h : ∀ (fs : List (List (List UInt8))) (ks : List (List UInt8)) (i : Nat), ((numF ks fs).getD i []).length ≤ (fs.getD i []).length := by
    intro fs
    induction fs with
    | nil => intro ks i; simp [numF]
    | cons f fs ih =>
      intro ks i
      cases i with
      | zero => simp [numF, numL_len]
      | succ i => simpa [numF] using ih _ i
  exact h fs [] i
def sLinesNumbers : Spec := Spec.f3 (kL eS) (kL eS) (kL eS) (fun a b c => (a.length ≤ 9223372036854775807 ∧ ∀ x ∈ a, x.length ≤ 9223372036854775807) ∧ (b.length ≤ 9223372036854775807 ∧ ∀ x ∈ b, x.length ≤ 9223372036854775807) ∧ (c.length ≤ 9223372036854775807 ∧ ∀ x ∈ c, x.length ≤ 9223372036854775807)) (fun _ _ _ => kB.enc true)
theorem okLinesNumbers : SpecOK Tryd.prog 5 sLinesNumbers := by
  refine SpecOK.f3 Tryd.func5 rfl (by decide) Tryd.results5 Tryd.ntmps5 (by decide) fun a b c ⟨ha, hb, hc⟩ => ?_
  have hΓ : GOK Tryd.prog (gam [(12, sFew1), (7, sTold1), (15, sNumber), (16, sRefNumber), (17, sLongest), (18, sRefLongest), (19, sSameI), (20, sRun), (21, sRefRun)]) := (.cons okFew1 (.cons okTold1 (.cons okNumber (.cons okRefNumber (.cons okLongest (.cons okRefLongest (.cons okSameI (.cons okRun (.cons okRefRun .nil)))))))))
  cases h1 : fewL a with
  | false =>
    refine AW.of hΓ mixed [99999] _ _ _ rfl ?_
    simp only [go_sem, sFew1, sTold1, sNumber, sRefNumber, sLongest, sRefLongest, sSameI, sRun, sRefRun, h1]
    exact ha
  | true =>
  cases h2 : fewL b with
  | false =>
    refine AW.of hΓ mixed [99999] _ _ _ rfl ?_
    simp only [go_sem, sFew1, sTold1, sNumber, sRefNumber, sLongest, sRefLongest, sSameI, sRun, sRefRun, h1, h2]
    exact ⟨ha, hb⟩
  | true =>
  cases h3 : fewL c with
  | false =>
    refine AW.of hΓ mixed [99999] _ _ _ rfl ?_
    simp only [go_sem, sFew1, sTold1, sNumber, sRefNumber, sLongest, sRefLongest, sSameI, sRun, sRefRun, h1, h2, h3]
    exact ⟨ha, hb, hc⟩
  | true =>
  have hn : (numF [] [a, b, c]).length = 3 := numF_len _ _
  have hg : (longL [a, b, c].flatten : Int) = max (max (longL a : Int) (longL b)) (longL c) := by
    simp only [List.flatten_cons, List.flatten_nil, List.append_nil, longL_app]
    omega
  have okf : ∀ l, fewL l = true → okLs l ∧ l.length ≤ 200 := fun l h => by
    simp only [fewL, decide_eq_true_eq] at h
    have hfl := flat_le l 400 h.1
    have h3 : l.length * 400 ≤ 200 * 400 := Nat.mul_le_mul_right _ h.2
    exact ⟨⟨by omega, by omega⟩, h.2⟩
  obtain ⟨oa, la⟩ := okf a h1
  obtain ⟨ob, lb⟩ := okf b h2
  obtain ⟨oc, lc⟩ := okf c h3
  refine AW.of hΓ mixed [99999] _ _ _ rfl ?_
  simp only [go_sem, sFew1, sTold1, sNumber, sRefNumber, sLongest, sRefLongest, sSameI, sRun, sRefRun, h1, h2, h3, hn, hg]
  refine ⟨ha, hb, hc, ⟨by omega, by omega, by omega⟩, ⟨by omega, by omega, by omega⟩, ⟨oa, ob, oc⟩, oa, ob, oc, ?_⟩
  have hnl : ∀ i, ((numF [] [a, b, c]).getD i []).length < 1000000000 := fun i => by
    have := numF_getD [a, b, c] i
    have h : (([a, b, c] : List (List (List UInt8))).getD i []).length ≤ 200 := by
      match i with
      | 0 => exact la
      | 1 => exact lb
      | 2 => exact lc
      | i + 3 => simp
    omega
  generalize numF [] [a, b, c] = N at *
  refine AW.round (α := { i : Nat // i ≤ 3 }) (fun i => ⟨[(0, sL eS a), (7, sL (eL eI) N), (8, sL (eL eI) N), (9, .val (.int .i64 i.1))], [], 88, 0, 0, []⟩) (fun i => 3 - i.1) ⟨0, by omega⟩ ?_ ?_
  · simp only [go_sem, sFew1, sTold1, sNumber, sRefNumber, sLongest, sRefLongest, sSameI, sRun, sRefRun]
  · rintro ⟨i, hi⟩
    refine AW.of hΓ mixed [99999] _ _ _ rfl ?_
    simp only [go_sem, sFew1, sTold1, sNumber, sRefNumber, sLongest, sRefLongest, sSameI, sRun, sRefRun, hn]
    refine ⟨fun hil => ?_, fun hil => ?_⟩
    · exact ⟨by omega, by omega, hnl i, by omega, ⟨i + 1, by omega⟩, by dsimp only; omega, by dsimp only; omega⟩
    · refine AW.round (α := { i : Nat // i ≤ a.length }) (fun i => ⟨[(0, sL eS a), (10, .val (.int .i64 i.1))], [], 88, 0, 0, []⟩) (fun i => a.length - i.1) ⟨0, by omega⟩ ?_ ?_
      · simp only [go_sem, sFew1, sTold1, sNumber, sRefNumber, sLongest, sRefLongest, sSameI, sRun, sRefRun]
      · rintro ⟨i, hi⟩
        refine AW.of hΓ mixed [99999] _ _ _ rfl ?_
        simp only [go_sem, sFew1, sTold1, sNumber, sRefNumber, sLongest, sRefLongest, sSameI, sRun, sRefRun]
        intro hil
        have hfl := flat_len a i
        have := oa.2
        exact ⟨by omega, by omega, by omega, by omega, by omega, ⟨i + 1, by omega⟩, by dsimp only; omega, by dsimp only; omega⟩
end Go.Proofs.YtainopabnnglgaaDoor
