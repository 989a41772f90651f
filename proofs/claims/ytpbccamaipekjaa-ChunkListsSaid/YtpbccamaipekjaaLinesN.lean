/-
  lines: equal texts get equal numbers.
-/
import Derived.Test.YtpbccamaipekjaaAxt
import Derived.Test.YtpbccamaipekjaaAxj
import Derived.Test.YtpbccamaipekjaaAxi
import Derived.Test.YtpbccamaipekjaaLinesM
set_option linter.unusedSimpArgs false
set_option linter.unusedVariables false
set_option maxRecDepth 100000
namespace Go.Proofs.Ytpbccamaipekjaa
open Go
attribute [local irreducible] AW AVle ASle RowLe
/-! ### Number -/
def sNumber : Spec := Spec.f1 (kL (eL eS)) (fun l => l.length ≤ 1000000 ∧ ∀ f ∈ l, f.length ≤ 1000000) (fun l => sL (eL eI) (numF [] l))
theorem numF_snoc (ks : List (List UInt8)) (fs : List (List (List UInt8))) (f : List (List UInt8)) : numF ks (fs ++ [f]) = numF ks fs ++ [(numL (fs.foldl (fun k f => (numL k f).1) ks) f).2] := by
  rw [numF_app]; rfl
theorem take_snoc {α : Type} (l : List α) (d : α) {i : Nat} (h : i < l.length) : l.take (i + 1) = l.take i ++ [l.getD i d] := by
  rw [List.take_add_one, gd_lt _ _ h]; simp [h]
theorem numL_snoc (ks f : List (List UInt8)) {k : Nat} (h : k < f.length) : numL ks (f.take (k + 1)) =
    (if f.getD k [] ∈ (numL ks (f.take k)).1 then (numL ks (f.take k)).1 else (numL ks (f.take k)).1 ++ [f.getD k []], (numL ks (f.take k)).2 ++ [((numL ks (f.take k)).1.idxOf (f.getD k []) : Int)]) := by
  rw [take_snoc f [] h, numL_app]
  simp [numL]
theorem okNumber : SpecOK Try.prog 37 sNumber := by
  refine SpecOK.f1 Try.func37 rfl (by decide) Try.results37 Try.ntmps37 (by decide) fun fs ⟨hl, hf⟩ => ?_
  have hΓ : GOK Try.prog (gam []) := GOK.nil
  refine AW.of hΓ mixed [] _ _ _ rfl ?_
  simp only [go_sem]
  refine ⟨by omega, ?_⟩
  refine AW.round (α := { x : Nat × Nat × Nat // x.1 ≤ fs.length ∧ x.2.1 < x.2.2 })
    (fun x => ⟨[(3, .mp 0 0), (4, .ow 1 x.1.2.1 x.1.1), (16, sL (eL eS) fs), (17, .val (.int .i64 fs.length)), (18, .val (.int .i64 x.1.1))],
      [(0, .mp 0 true ((fs.take x.1.1).foldl (fun k f => (numL k f).1) []).length (mapS ((fs.take x.1.1).foldl (fun k f => (numL k f).1) []))), (1, rowL x.1.2.1 77 (eL eI) (numF [] (fs.take x.1.1)))], 55, 2, x.1.2.2, []⟩) (fun x => fs.length - x.1.1) ⟨(0, 1, 2), by simp⟩ ?_ ?_
  · simp only [go_sem]
    refine ⟨RowLe.of_eq ?_, row_nil rfl⟩
    simp [mapS]
    funext k
    cases k <;> simp [mapS]
  · rintro ⟨⟨i, v, nx⟩, hi, hv⟩
    simp only at hi hv
    refine AW.of hΓ mixed [7] _ _ _ rfl ?_
    simp only [go_sem]
    refine ⟨fun hil => ?_, fun hil => ?_⟩
    · have hlt : i < fs.length := by omega
      have hfi := hf _ (gd_lt fs [] hlt ▸ List.getElem_mem hlt)
      generalize hfe : fs.getD i [] = f at *
      generalize hke : (fs.take i).foldl (fun k f => (numL k f).1) [] = ks0
      refine ⟨by omega, by omega, ?_⟩
      refine AW.to (fun x : { x : Nat // nx < x } => Sh.st ⟨[(3, .mp 0 0), (4, .ow 1 v i), (7, sL eI (numL ks0 f).2), (16, sL (eL eS) fs), (17, .val (.int .i64 fs.length)), (18, .val (.int .i64 i))],
        [(0, .mp 0 true (numL ks0 f).1.length (mapS (numL ks0 f).1)), (1, rowL v 77 (eL eI) (numF [] (fs.take i)))], 55, 3, x.1, []⟩) ?_ ?_
      · refine AW.block (AW.round (α := { x : Nat × Nat × Nat // x.1 ≤ f.length ∧ x.2.1 < x.2.2 ∧ nx < x.2.2 })
          (fun x => ⟨[(3, .mp 0 0), (4, .ow 1 v i), (7, .ow 2 x.1.2.1 x.1.1), (16, sL (eL eS) fs), (17, .val (.int .i64 fs.length)), (18, .val (.int .i64 i)), (25, sL eS f), (26, .val (.int .i64 f.length)), (27, .val (.int .i64 x.1.1))],
          [(0, .mp 0 true (numL ks0 (f.take x.1.1)).1.length (mapS (numL ks0 (f.take x.1.1)).1)), (1, rowL v 77 (eL eI) (numF [] (fs.take i))), (2, rowL x.1.2.1 3 eI (numL ks0 (f.take x.1.1)).2)], 55, 3, x.1.2.2, []⟩) (fun x => f.length - x.1.1) ⟨(0, nx, nx + 1), by simp⟩ ?_ ?_)
        · simp only [go_sem, hke]
          exact ⟨RowLe.of_eq (by simp [numL]), RowLe.refl _, row_nil (by simp [numL])⟩
        · rintro ⟨⟨k, u, nx'⟩, hk, hu, hnx⟩
          simp only at hk hu hnx
          have hlen : (numL ks0 (f.take k)).2.length = k := by rw [numL_len]; simp; omega
          have hkl : (numL ks0 (f.take k)).1.length ≤ ks0.length + k := by
            have := numL_ks ks0 (f.take k)
            simp at this; omega
          by_cases hkf : k < f.length
          · have hs := numL_snoc ks0 f hkf
            have hkc : (k : Int) < f.length := by omega
            generalize hx : f.getD k [] = x at *
            generalize (numL ks0 (f.take k)).1 = ks at *
            generalize (numL ks0 (f.take k)).2 = ns at *
            by_cases hb : x ∈ ks
            · rw [if_pos hb] at hs
              refine AW.of hΓ mixed [99999] _ _ _ rfl ?_
              simp only [go_sem, hb, hx, hkc]
              refine ⟨by omega, ⟨by omega, by omega⟩, by omega, ⟨(k + 1, nx', nx' + 1), by dsimp only; omega, by dsimp only; omega, by dsimp only; omega⟩, ⟨Nat.le_refl _, ⟨⟨rfl, rfl⟩, by dsimp only; omega⟩, ?_, RowLe.refl _, ?_⟩, by dsimp only; omega⟩
              · rw [hs]; exact RowLe.refl _
              · rw [hs]; exact row_app1 rfl rfl hlen.symm rfl rfl fun _ _ => AVle.refl _
            · rw [if_neg hb] at hs
              refine AW.of hΓ mixed [99999] _ _ _ rfl ?_
              simp only [go_sem, hb, hx, hkc]
              have hidx : ks.idxOf x = ks.length := List.idxOf_eq_length hb
              refine ⟨by omega, ⟨by omega, by omega⟩, by omega, ⟨(k + 1, nx', nx' + 1), by dsimp only; omega, by dsimp only; omega, by dsimp only; omega⟩, ⟨Nat.le_refl _, ⟨⟨rfl, rfl⟩, by dsimp only; omega⟩, ?_, RowLe.refl _, ?_⟩, by dsimp only; omega⟩
              · rw [hs, mapS_push ks x hb]; exact RowLe.of_eq (by simp)
              · rw [hs, hidx]; exact row_app1 rfl rfl hlen.symm rfl rfl fun _ _ => AVle.refl _
          · obtain rfl : k = f.length := by omega
            refine AW.of hΓ mixed [99999] _ _ _ rfl ?_
            simp only [go_sem]
            have hlf : (numL ks0 f).2.length = f.length := numL_len ks0 f
            refine ⟨⟨nx', hnx⟩, ASle.trans (ASle.freeze 2 u 3 1 _ _ rfl fun _ _ _ _ => rfl) (toFits ?_)⟩
            simp only [go_sem, hlf]
            exact ⟨vw_all rfl rfl hlf.symm, RowLe.refl _, RowLe.refl _⟩
      · rintro ⟨nx', hnx⟩
        simp only [go_sem]
        have hft : fs.take (i + 1) = fs.take i ++ [f] := by rw [take_snoc fs [] hlt, hfe]
        refine ⟨⟨by rw [numF_len]; simp; omega, by omega⟩, by omega, ⟨(i + 1, nx', nx' + 1), by dsimp only; omega, by dsimp only; omega⟩, ⟨Nat.le_refl _, ⟨⟨rfl, rfl⟩, by dsimp only; omega⟩, ?_, ?_⟩, by dsimp only; omega⟩
        · dsimp only
          rw [hft, List.foldl_append, hke]
          exact RowLe.refl _
        · dsimp only
          rw [hft, numF_snoc, hke]
          exact row_app1 rfl rfl (by rw [numF_len]; simp; omega) rfl (by simp [numF_len]) fun _ _ => AVle.refl _
    · obtain rfl : i = fs.length := by omega
      refine ⟨by rw [numF_len]; simp, ?_⟩
      rw [List.take_length]
      exact vw_all rfl rfl (by rw [numF_len])
theorem idx_at : ∀ (ks : List (List UInt8)) (x : List UInt8) (n : Nat), n ≤ ks.length → (∀ m, m < n → ks.getD m [] ≠ x) → (n < ks.length → ks.getD n [] = x) → n = ks.idxOf x
  | [], x, n, h, _, _ => by simp at h; simp [h]
  | y :: ks, x, 0, _, _, h => by
    have : y = x := by simpa using h (by simp)
    subst this
    simp
  | y :: ks, x, n + 1, h, hm, hn => by
    have h0 : y ≠ x := by simpa using hm 0 (by omega)
    have ih := idx_at ks x n (by simpa using h) (fun m h' => by simpa using hm (m + 1) (by omega)) fun hl => by simpa using hn (by simpa using hl)
    have hb : (y == x) = false := by simpa using h0
    rw [List.idxOf_cons, hb, ih]
    rfl
def sRefNumber : Spec := Spec.f1 (kL (eL eS)) (fun l => l.length ≤ 1000000 ∧ ∀ f ∈ l, f.length ≤ 1000000) (fun l => sL (eL eI) (numF [] l))
theorem okRefNumber : SpecOK Try.prog 40 sRefNumber := by
  refine SpecOK.f1 Try.func40 rfl (by decide) Try.results40 Try.ntmps40 (by decide) fun fs ⟨hl, hf⟩ => ?_
  have hΓ : GOK Try.prog (gam []) := GOK.nil
  refine AW.of hΓ mixed [] _ _ _ rfl ?_
  simp only [go_sem]
  refine AW.adopt 3 9 1 (fun _ _ => .any) rfl ?_
  refine AW.adopt 4 77 1 (fun _ _ => .any) rfl ?_
  refine AW.round (α := { x : Nat × Nat × Nat × Nat // x.1 ≤ fs.length ∧ x.2.1 < x.2.2.2 ∧ x.2.2.1 < x.2.2.2 ∧ ((fs.take x.1).foldl (fun k f => (numL k f).1) []).length ≤ x.1 * 1000000 })
    (fun x => ⟨[(0, sL (eL eS) fs), (3, .ow 0 x.1.2.1 ((fs.take x.1.1).foldl (fun k f => (numL k f).1) []).length), (4, .ow 1 x.1.2.2.1 x.1.1), (5, .val (.int .i64 x.1.1))],
      [(0, rowL x.1.2.1 9 eS ((fs.take x.1.1).foldl (fun k f => (numL k f).1) [])), (1, rowL x.1.2.2.1 77 (eL eI) (numF [] (fs.take x.1.1)))], 67, 2, x.1.2.2.2, []⟩) (fun x => fs.length - x.1.1) ⟨(0, 0, 1, 2), by simp⟩ ?_ ?_
  · simp only [go_sem]
    exact ⟨rfl, row_nil rfl, row_nil rfl⟩
  · rintro ⟨⟨i, v, u, nx⟩, hi, hv, hu, hks⟩
    simp only at hi hv hu hks
    refine AW.of hΓ mixed [7] _ _ _ rfl ?_
    simp only [go_sem]
    refine ⟨fun hil => ?_, fun hil => ?_⟩
    · have hlt : i < fs.length := by omega
      have hfi := hf _ (gd_lt fs [] hlt ▸ List.getElem_mem hlt)
      generalize hfe : fs.getD i [] = f at *
      obtain ⟨ks0, hke⟩ : ∃ ks0, (fs.take i).foldl (fun k f => (numL k f).1) [] = ks0 := ⟨_, rfl⟩
      have hks0 := hks
      rw [hke] at hks0
      refine AW.adopt 6 3 1 (fun _ _ => .any) rfl ?_
      refine AW.to (fun x : { x : Nat × Nat // nx < x.2 ∧ x.1 < x.2 } => Sh.st ⟨[(0, sL (eL eS) fs), (3, .ow 0 x.1.1 (numL ks0 f).1.length), (4, .ow 1 u i), (5, .val (.int .i64 i)), (6, sL eI (numL ks0 f).2)],
        [(0, rowL x.1.1 9 eS (numL ks0 f).1), (1, rowL u 77 (eL eI) (numF [] (fs.take i)))], 67, 3, x.1.2, []⟩) ?_ ?_
      · refine AW.block (AW.round (α := { x : Nat × Nat × Nat × Nat // x.1 ≤ f.length ∧ x.2.1 < x.2.2.2 ∧ x.2.2.1 < x.2.2.2 ∧ nx < x.2.2.2 })
          (fun x => ⟨[(0, sL (eL eS) fs), (3, .ow 0 x.1.2.1 (numL ks0 (f.take x.1.1)).1.length), (4, .ow 1 u i), (5, .val (.int .i64 i)), (6, .ow 2 x.1.2.2.1 x.1.1), (7, .val (.int .i64 x.1.1))],
          [(0, rowL x.1.2.1 9 eS (numL ks0 (f.take x.1.1)).1), (1, rowL u 77 (eL eI) (numF [] (fs.take i))), (2, rowL x.1.2.2.1 3 eI (numL ks0 (f.take x.1.1)).2)], 67, 3, x.1.2.2.2, []⟩) (fun x => f.length - x.1.1) ⟨(0, v, nx, nx + 1), by simp; omega⟩ ?_ ?_)
        · simp only [go_sem, hke]
          exact ⟨rfl, by simpa [numL] using RowLe.refl _, RowLe.refl _, row_nil rfl⟩
        · rintro ⟨⟨k, v', w, nx'⟩, hk, hv', hw, hnx⟩
          simp only at hk hv' hw hnx
          have hlen : (numL ks0 (f.take k)).2.length = k := by rw [numL_len]; simp; omega
          have hkl : (numL ks0 (f.take k)).1.length ≤ ks0.length + k := by
            have := numL_ks ks0 (f.take k)
            simp at this; omega
          by_cases hkf : k < f.length
          · have hs := numL_snoc ks0 f hkf
            have hkc : (k : Int) < f.length := by omega
            generalize hx : f.getD k [] = x at *
            refine AW.of hΓ mixed [10] _ _ _ rfl ?_
            simp only [go_sem, hkc, hx, hfe]
            generalize hks' : (numL ks0 (f.take k)).1 = ks at *
            generalize hns' : (numL ks0 (f.take k)).2 = ns at *
            have hidx : ks.idxOf x ≤ ks.length := List.idxOf_le_length
            refine ⟨by omega, ?_⟩
            refine AW.seqTo (fun _ : Unit => Sh.st ⟨[(0, sL (eL eS) fs), (3, .ow 0 v' ks.length), (4, .ow 1 u i), (5, .val (.int .i64 i)), (6, .ow 2 w k), (7, .val (.int .i64 k)), (8, .val (.int .i64 (ks.idxOf x)))],
              [(0, rowL v' 9 eS ks), (1, rowL u 77 (eL eI) (numF [] (fs.take i))), (2, rowL w 3 eI ns)], 67, 3, nx', []⟩) ?_ ?_
            · refine AW.block (AW.round (α := { n : Nat // n ≤ ks.length ∧ ∀ m, m < n → ks.getD m [] ≠ x })
                (fun n => ⟨[(0, sL (eL eS) fs), (3, .ow 0 v' ks.length), (4, .ow 1 u i), (5, .val (.int .i64 i)), (6, .ow 2 w k), (7, .val (.int .i64 k)), (8, .val (.int .i64 n.1))],
                [(0, rowL v' 9 eS ks), (1, rowL u 77 (eL eI) (numF [] (fs.take i))), (2, rowL w 3 eI ns)], 67, 3, nx', []⟩) (fun n => ks.length - n.1) ⟨0, Nat.zero_le _, fun m h => absurd h (Nat.not_lt_zero _)⟩ ?_ ?_)
              · simp only [go_sem]
                exact ⟨RowLe.refl _, RowLe.refl _, RowLe.refl _⟩
              · rintro ⟨n, hn, hm⟩
                refine AW.of hΓ mixed [99999] _ _ _ rfl ?_
                simp only [go_sem, hx, hfe]
                refine ⟨fun _ => by omega, fun _ => by omega, fun _ => by omega, fun _ => by omega, fun h => ?_, fun h => ?_⟩
                · refine ⟨by omega, ⟨n + 1, by omega, fun m hm' => ?_⟩, ⟨by dsimp only; omega, RowLe.refl _, RowLe.refl _, RowLe.refl _⟩, by dsimp only; omega⟩
                  rcases Nat.lt_or_ge m n with h' | h'
                  · exact hm m h'
                  · obtain rfl : m = n := by omega
                    exact h.2
                · have hne : n = ks.idxOf x := idx_at ks x n hn hm fun hl => Decidable.not_not.1 (h (by omega))
                  refine ⟨(), toFits ?_⟩
                  simp only [go_sem]
                  exact ⟨by omega, RowLe.refl _, RowLe.refl _, RowLe.refl _⟩
            · intro _
              by_cases hb : x ∈ ks
              · have hlt : ks.idxOf x < ks.length := List.idxOf_lt_length_of_mem hb
                have hne : ¬ ((ks.idxOf x : Int) = ks.length) := by omega
                rw [if_pos hb] at hs
                refine AW.of hΓ mixed [99999] _ _ _ rfl ?_
                simp only [go_sem, hne, hx, hfe]
                refine ⟨⟨by omega, by omega⟩, by omega, ⟨(k + 1, v', nx', nx' + 1), by dsimp only; omega, by dsimp only; omega, by dsimp only; omega, by dsimp only; omega⟩, ⟨Nat.le_refl _, ⟨⟨rfl, by dsimp only; rw [hs]⟩, ⟨rfl, rfl⟩, by dsimp only; omega⟩, ?_, RowLe.refl _, ?_⟩, by dsimp only; omega⟩
                · dsimp only; rw [hs]; exact RowLe.refl _
                · dsimp only; rw [hs]; exact row_app1 rfl rfl hlen.symm rfl rfl fun _ _ => AVle.refl _
              · have heq : ks.idxOf x = ks.length := List.idxOf_eq_length hb
                rw [if_neg hb] at hs
                refine AW.of hΓ mixed [99999] _ _ _ rfl ?_
                simp only [go_sem, heq, hx, hfe]
                refine ⟨by omega, by omega, by omega, ⟨by omega, by omega⟩, by omega, ⟨(k + 1, nx', nx' + 1, nx' + 1 + 1), by dsimp only; omega, by dsimp only; omega, by dsimp only; omega, by dsimp only; omega⟩, ⟨Nat.le_refl _, ⟨⟨rfl, by dsimp only; rw [hs]; simp⟩, ⟨rfl, rfl⟩, by dsimp only; omega⟩, ?_, RowLe.refl _, ?_⟩, by dsimp only; omega⟩
                · dsimp only; rw [hs]; exact row_app1 rfl rfl rfl rfl (by simp) fun _ _ => AVle.refl _
                · dsimp only; rw [hs, heq]; exact row_app1 rfl rfl hlen.symm rfl rfl fun _ _ => AVle.refl _
          · obtain rfl : k = f.length := by omega
            refine AW.of hΓ mixed [10] _ _ _ rfl ?_
            simp only [go_sem, hfe]
            have hlf : (numL ks0 f).2.length = f.length := numL_len ks0 f
            refine ⟨by omega, ⟨(v', nx'), hnx, hv'⟩, ASle.trans (ASle.freeze 2 w 3 1 _ _ rfl fun _ _ _ _ => rfl) (toFits ?_)⟩
            simp only [go_sem, hlf]
            exact ⟨vw_all rfl rfl hlf.symm, RowLe.refl _, RowLe.refl _⟩
      · rintro ⟨⟨v', nx'⟩, hnx, hvn⟩
        simp only at hnx hvn
        simp only [go_sem]
        have hft : fs.take (i + 1) = fs.take i ++ [f] := by rw [take_snoc fs [] hlt, hfe]
        have hfo : (fs.take (i + 1)).foldl (fun k f => (numL k f).1) [] = (numL ks0 f).1 := by rw [hft, List.foldl_append, hke]; rfl
        have hkl := numL_ks ks0 f
        refine ⟨⟨by rw [numF_len]; simp; omega, by omega⟩, by omega, ⟨(i + 1, v', nx', nx' + 1), by dsimp only; omega, by dsimp only; omega, by dsimp only; omega, by dsimp only; rw [hfo]; omega⟩, ⟨Nat.le_refl _, ⟨⟨rfl, by dsimp only; rw [hfo]⟩, ⟨rfl, rfl⟩, by dsimp only; omega⟩, ?_, ?_⟩, by dsimp only; omega⟩
        · dsimp only
          rw [hfo]
          exact RowLe.refl _
        · dsimp only
          rw [hft, numF_snoc, hke]
          exact row_app1 rfl rfl (by rw [numF_len]; simp; omega) rfl (by simp [numF_len]) fun _ _ => AVle.refl _
    · obtain rfl : i = fs.length := by omega
      refine ⟨by rw [numF_len]; simp, ?_⟩
      rw [List.take_length]
      exact vw_all rfl rfl (by rw [numF_len])
end Go.Proofs.Ytpbccamaipekjaa
