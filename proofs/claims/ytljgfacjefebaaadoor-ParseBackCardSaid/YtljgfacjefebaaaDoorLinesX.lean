/-
  lines, and the document's answers on it, further.
-/
import Derived.Test.YtljgfacjefebaaaDoorLinesW
set_option linter.unusedSimpArgs false
set_option linter.unusedVariables false
set_option maxRecDepth 100000
namespace Go.Proofs.YtljgfacjefebaaaDoor
open Go
attribute [local irreducible] AW AVle ASle RowLe

/-! ### Run -/
def sRun : Spec := Spec.f1 kS (fun l => l.length ≤ 100000000000) (fun l => kI.enc (runL l))
def sIndexByte : Spec := Spec.f2 kS kU (fun _ _ => True) (fun a c => kI.enc (Lib.indexByte a c.toNat.toUInt8))
theorem okIndexByte : SpecOK Tryd.prog 72 sIndexByte := by
  refine SpecOK.raw Tryd.func72 rfl (by decide) fun args hp w L vs hL ha => ?_
  match args, hp with
  | [x, y], hp =>
    obtain ⟨h1, h2, h3⟩ := hp
    cases ha with
    | cons hx hr => cases hr with
      | cons hy hr => cases hr with
        | nil =>
          have ex := okGet h1 hx
          have ey := okGet h2 hy
          obtain rfl := ex
          obtain rfl := ey
          refine (Tryd.strings_IndexByte _ _ w).mono ?_
          rintro e w' ⟨rfl, rfl⟩
          exact ⟨_, rfl, Fr.refl _ _, rfl⟩
theorem ix_iff (c : UInt8) : Lib.indexByte [60, 124, 61, 62] c.toNat.toUInt8 < 0 ↔ ¬ (c = 60 ∨ c = 124 ∨ c = 61 ∨ c = 62) := by
  have e : c.toNat.toUInt8 = c := by simp
  rw [e]
  constructor
  · intro h0 h1
    rcases h1 with rfl | rfl | rfl | rfl <;> exact absurd h0 (by decide)
  · intro h0
    rcases Int.lt_or_le (Lib.indexByte [60, 124, 61, 62] c) 0 with h1 | h1
    · exact h1
    · obtain ⟨o, ho⟩ := Int.eq_ofNat_of_zero_le h1
      have := (Lib.indexByte_some (o := o) ho).1
      have hm := List.mem_of_getElem? this
      simp only [List.mem_cons, List.not_mem_nil, or_false] at hm
      exact absurd hm h0
theorem run_head (l : List UInt8) (h : l ≠ []) : (Lib.indexByte [60, 124, 61, 62] (l.getD 0 0).toNat.toUInt8 < 0 → runL l = 0) ∧
    (¬ Lib.indexByte [60, 124, 61, 62] (l.getD 0 0).toNat.toUInt8 < 0 → ∀ n, 1 ≤ n → n ≤ l.length → (∀ k, k < n → l.getD k 0 = l.getD 0 0) → (n < l.length → l.getD n 0 ≠ l.getD 0 0) → n = runL l) := by
  cases l with
  | nil => exact absurd rfl h
  | cons c r =>
    have e : ∀ c : UInt8, c.toNat.toUInt8 = c := fun c => by simp
    simp only [List.getD_cons_zero, e]
    have hc : Lib.indexByte [60, 124, 61, 62] c < 0 ↔ ¬ (c = 60 ∨ c = 124 ∨ c = 61 ∨ c = 62) := by
      constructor
      · intro h0 h1
        rcases h1 with rfl | rfl | rfl | rfl <;> exact absurd h0 (by decide)
      · intro h0
        rcases Int.lt_or_le (Lib.indexByte [60, 124, 61, 62] c) 0 with h1 | h1
        · exact h1
        · obtain ⟨o, ho⟩ := Int.eq_ofNat_of_zero_le h1
          have := (Lib.indexByte_some (o := o) ho).1
          have hm := List.mem_of_getElem? this
          simp only [List.mem_cons, List.not_mem_nil, or_false] at hm
          exact absurd hm h0
    refine ⟨fun h0 => ?_, fun h0 n h1 h2 h3 h4 => ?_⟩
    · rw [runL, if_neg (hc.1 h0)]
    · rw [runL, if_pos (Decidable.not_not.1 fun hh => h0 (hc.2 hh))]
      obtain ⟨m, rfl⟩ : ∃ m, n = m + 1 := ⟨n - 1, by omega⟩
      rw [takeWhile_at c r m (by simpa using h2) (fun k hk => by simpa using h3 (k + 1) (by omega)) (fun hm => by simpa using h4 (by simpa using hm))]
      omega
theorem okRun : SpecOK Tryd.prog 51 sRun := by
  refine SpecOK.f1 Tryd.func51 rfl (by decide) Tryd.results51 Tryd.ntmps51 (by decide) fun l hl => ?_
  have hΓ : GOK Tryd.prog (gam [(72, sIndexByte)]) := (.cons okIndexByte .nil)
  by_cases h : l = []
  · subst h
    refine AW.of hΓ mixed [99999] _ _ _ rfl ?_
    simp only [go_sem, sIndexByte]
    rfl
  · obtain ⟨r1, r2⟩ := run_head l h
    have hpos : 0 < l.length := List.length_pos_iff.2 h
    refine AW.of hΓ mixed [99999] _ _ _ rfl ?_
    simp only [go_sem, sIndexByte, h]
    refine ⟨by omega, fun h0 => by rw [r1 h0]; rfl, fun h0 => ?_⟩
    refine AW.round (α := { n : Nat // 1 ≤ n ∧ n ≤ l.length ∧ ∀ k, k < n → l.getD k 0 = l.getD 0 0 }) (fun n => ⟨[(0, .st l), (3, .val (.int .i64 n.1))], [], 27, 0, 0, []⟩) (fun n => l.length - n.1) ⟨1, Nat.le_refl _, hpos, fun k hk => by rw [show k = 0 by omega]⟩ ?_ ?_
    · simp only [go_sem, sIndexByte]
    · rintro ⟨n, h1, h2, h3⟩
      refine AW.of hΓ mixed [99999] _ _ _ rfl ?_
      simp only [go_sem, sIndexByte]
      refine ⟨fun _ => by omega, fun _ => by omega, fun ⟨ha, hb⟩ => ⟨by omega, ⟨n + 1, by omega, by omega, fun k hk => ?_⟩, by dsimp only; omega⟩, fun hh => ?_⟩
      · rcases Nat.lt_or_ge k n with h' | h'
        · exact h3 k h'
        · obtain rfl : k = n := by omega
          exact hb
      · rw [r2 h0 n h1 h2 h3 fun hl => hh (by omega)]
def sRefRun : Spec := Spec.f1 kS (fun l => l.length ≤ 100000000000) (fun l => kI.enc (runL l))
theorem okRefRun : SpecOK Tryd.prog 53 sRefRun := by
  refine SpecOK.f1 Tryd.func53 rfl (by decide) Tryd.results53 Tryd.ntmps53 (by decide) fun l hl => ?_
  have hΓ : GOK Tryd.prog (gam []) := GOK.nil
  by_cases h : l = []
  · subst h
    refine AW.of hΓ mixed [99999] _ _ _ rfl ?_
    simp only [go_sem]
    rfl
  · obtain ⟨r1, r2⟩ := run_head l h
    have hpos : 0 < l.length := List.length_pos_iff.2 h
    have hix : Lib.indexByte [60, 124, 61, 62] (l.getD 0 0).toNat.toUInt8 < 0 ↔ (((¬l.getD 0 0 = 60 ∧ ¬l.getD 0 0 = 124) ∧ ¬l.getD 0 0 = 61) ∧ ¬l.getD 0 0 = 62) := by
      rw [ix_iff]
      generalize l.getD 0 0 = c
      simp [not_or, and_assoc]
    refine AW.of hΓ mixed [99999] _ _ _ rfl ?_
    simp only [go_sem, h]
    refine ⟨by omega, fun _ => by omega, fun _ => by omega, fun _ => by omega, fun h0 => by rw [r1 (hix.2 h0)]; rfl, fun h0 => ?_⟩
    have h0 : ¬ Lib.indexByte [60, 124, 61, 62] (l.getD 0 0).toNat.toUInt8 < 0 := fun hh => h0 (hix.1 hh).1 (hix.1 hh).2
    refine AW.round (α := { n : Nat // n ≤ l.length ∧ ∀ k, k < n → l.getD k 0 = l.getD 0 0 }) (fun n => ⟨[(0, .st l), (3, .val (.int .i64 n.1))], [], 41, 0, 0, []⟩) (fun n => l.length - n.1) ⟨0, Nat.zero_le _, fun k hk => absurd hk (Nat.not_lt_zero _)⟩ ?_ ?_
    · simp only [go_sem]
    · rintro ⟨n, h2, h3⟩
      refine AW.of hΓ mixed [99999] _ _ _ rfl ?_
      simp only [go_sem]
      refine ⟨fun _ => by omega, fun _ => by omega, fun ⟨ha, hb⟩ => ⟨by omega, ⟨n + 1, by omega, fun k hk => ?_⟩, by dsimp only; omega⟩, fun hh => ?_⟩
      · rcases Nat.lt_or_ge k n with h' | h'
        · exact h3 k h'
        · obtain rfl : k = n := by omega
          exact hb
      · have h1 : 1 ≤ n := by
          rcases Nat.eq_zero_or_pos n with e | e
          · subst e; exact absurd rfl (hh (by omega))
          · exact e
        rw [r2 h0 n h1 h2 h3 fun hl => hh (by omega)]
theorem longL_snoc (l : List (List UInt8)) (x : List UInt8) : longL (l ++ [x]) = max (longL l) (runL x) := by
  unfold longL
  rw [List.foldl_append]
  rfl
theorem longL_app (l m : List (List UInt8)) : longL (l ++ m) = max (longL l) (longL m) := by
  have h : ∀ (m : List (List UInt8)) (n : Nat), m.foldl (fun n x => max n (runL x)) n = max n (longL m) := by
    intro m
    induction m with
    | nil => intro n; simp [longL]
    | cons x m ih => intro n; simp only [longL, List.foldl_cons]; rw [ih, ih]; omega
  unfold longL
  rw [List.foldl_append, h]
  rfl
def sLongest : Spec := Spec.f1 (kL (eL eS)) (fun l => l.length ≤ 100000000 ∧ ∀ f ∈ l, okLs f) (fun l => kI.enc (longL l.flatten))
theorem okLongest : SpecOK Tryd.prog 67 sLongest := by
  refine SpecOK.f1 Tryd.func67 rfl (by decide) Tryd.results67 Tryd.ntmps67 (by decide) fun fs ⟨hl, hf⟩ => ?_
  have hΓ : GOK Tryd.prog (gam [(51, sRun)]) := (.cons okRun .nil)
  refine AW.of hΓ mixed [] _ _ _ rfl ?_
  simp only [go_sem, sRun]
  refine AW.round (α := { i : Nat // i ≤ fs.length }) (fun i => ⟨[(3, .val (.int .i64 (longL (fs.take i.1).flatten))), (8, sL (eL eS) fs), (9, .val (.int .i64 fs.length)), (10, .val (.int .i64 i.1))], [], 27, 0, 0, []⟩) (fun i => fs.length - i.1) ⟨0, by simp⟩ ?_ ?_
  · simp only [go_sem, sRun]
    rfl
  · rintro ⟨i, hi⟩
    refine AW.of hΓ mixed [5] _ _ _ rfl ?_
    simp only [go_sem, sRun]
    refine ⟨fun hil => ?_, fun hil => ?_⟩
    · have hlt : i < fs.length := by omega
      have hfi := hf _ (gd_lt fs [] hlt ▸ List.getElem_mem hlt)
      have hft : (fs.take (i + 1)).flatten = (fs.take i).flatten ++ fs.getD i [] := by rw [take_snoc fs [] hlt]; simp
      generalize hfe : fs.getD i [] = f at *
      obtain ⟨hf1, hf2⟩ := hfi
      refine ⟨by omega, ?_⟩
      refine AW.to (fun _ : Unit => Sh.st ⟨[(3, .val (.int .i64 (longL ((fs.take i).flatten ++ f)))), (8, sL (eL eS) fs), (9, .val (.int .i64 fs.length)), (10, .val (.int .i64 i))], [], 27, 0, 0, []⟩) ?_ ?_
      · refine AW.block (AW.round (α := { k : Nat // k ≤ f.length }) (fun k => ⟨[(3, .val (.int .i64 (longL ((fs.take i).flatten ++ f.take k.1)))), (8, sL (eL eS) fs), (9, .val (.int .i64 fs.length)), (10, .val (.int .i64 i)), (14, sL eS f), (15, .val (.int .i64 f.length)), (16, .val (.int .i64 k.1))], [], 27, 0, 0, []⟩) (fun k => f.length - k.1) ⟨0, by simp⟩ ?_ ?_)
        · simp only [go_sem, sRun]
          simp
        · rintro ⟨k, hk⟩
          refine AW.of hΓ mixed [99999] _ _ _ rfl ?_
          simp only [go_sem, sRun]
          refine ⟨fun hkf => ?_, fun hkf => ?_⟩
          · have hkl : k < f.length := by omega
            have hfl := flat_len f k
            refine ⟨by omega, by omega, by omega, ⟨k + 1, by omega⟩, ⟨?_, by dsimp only; omega⟩, by dsimp only; omega⟩
            dsimp only
            rw [take_snoc f [] hkl, ← List.append_assoc, longL_snoc]
            omega
          · obtain rfl : k = f.length := by omega
            refine ⟨(), toFits ?_⟩
            simp only [go_sem, sRun]
      · intro _
        simp only [go_sem, sRun]
        exact ⟨by omega, ⟨i + 1, by omega⟩, ⟨by dsimp only; rw [hft], by dsimp only; omega⟩, by dsimp only; omega⟩
    · obtain rfl : i = fs.length := by omega
      rw [List.take_length]
def sRefLongest : Spec := Spec.f1 (kL eS) okLs (fun l => kI.enc (longL l))
theorem okRefLongest : SpecOK Tryd.prog 43 sRefLongest := by
  refine SpecOK.f1 Tryd.func43 rfl (by decide) Tryd.results43 Tryd.ntmps43 (by decide) fun l ⟨hl, hf⟩ => ?_
  have hΓ : GOK Tryd.prog (gam [(53, sRefRun)]) := (.cons okRefRun .nil)
  refine AW.of hΓ mixed [] _ _ _ rfl ?_
  simp only [go_sem, sRefRun]
  refine AW.round (α := { i : Nat // i ≤ l.length }) (fun i => ⟨[(0, sL eS l), (3, .val (.int .i64 (longL (l.take i.1)))), (4, .val (.int .i64 i.1))], [], 19, 0, 0, []⟩) (fun i => l.length - i.1) ⟨0, by simp⟩ ?_ ?_
  · simp only [go_sem, sRefRun]
    rfl
  · rintro ⟨i, hi⟩
    refine AW.of hΓ mixed [99999] _ _ _ rfl ?_
    simp only [go_sem, sRefRun]
    refine ⟨fun hil => ?_, fun hil => ?_⟩
    · have hlt : i < l.length := by omega
      have hfl := flat_len l i
      refine ⟨by omega, by omega, by omega, ⟨i + 1, by omega⟩, ⟨?_, by dsimp only; omega⟩, by dsimp only; omega⟩
      dsimp only
      rw [take_snoc l [] hlt, longL_snoc]
      omega
    · obtain rfl : i = l.length := by omega
      rw [List.take_length]
theorem split_step {s : List UInt8} {a i : Nat} (h1 : a ≤ i) (h2 : i < s.length) (h3 : ∀ k, a ≤ k → k < i → s.getD k 0 ≠ 10) (h4 : s.getD i 0 = 10 ∨ i + 1 = s.length) :
    splitL (s.drop a) = (s.take (i + 1)).drop a :: splitL (s.drop (i + 1)) := by
  have e1 : s.drop a = (s.take i).drop a ++ s.getD i 0 :: s.drop (i + 1) := by
    have : s = s.take i ++ s.getD i 0 :: s.drop (i + 1) := by
      rw [gd_lt _ _ h2, ← List.drop_eq_getElem_cons h2, List.take_append_drop]
    conv => lhs; rw [this]
    rw [List.drop_append_of_le_length (by simp; omega)]
  have e2 : (s.take (i + 1)).drop a = (s.take i).drop a ++ [s.getD i 0] := by
    rw [take_snoc s 0 h2, List.drop_append_of_le_length (by simp; omega)]
  have hno : (10 : UInt8) ∉ (s.take i).drop a := by
    intro hm
    obtain ⟨k, hk, hx⟩ := List.mem_iff_getElem.1 hm
    simp only [List.length_drop, List.length_take] at hk
    rw [List.getElem_drop, List.getElem_take] at hx
    exact h3 (a + k) (by omega) (by omega) (by rw [gd_lt _ _ (by omega)]; exact hx)
  rw [e1, e2]
  by_cases hc : s.getD i 0 = 10
  · rw [hc, splitL_cut _ _ hno]
  · have hl : i + 1 = s.length := h4.resolve_left hc
    rw [hl, List.drop_length]
    have : (10 : UInt8) ∉ (s.take i).drop a ++ [s.getD i 0] := by
      simp only [List.mem_append, List.mem_singleton, not_or]
      exact ⟨hno, fun h => hc h.symm⟩
    rw [splitL_one _ this (by simp)]
    rfl
def sRefSplit : Spec := Spec.f1 kS (fun l => l.length ≤ 100000000) (fun l => sL eS (splitL l))
theorem okRefSplit : SpecOK Tryd.prog 44 sRefSplit := by
  refine SpecOK.f1 Tryd.func44 rfl (by decide) Tryd.results44 Tryd.ntmps44 (by decide) fun s hs => ?_
  have hΓ : GOK Tryd.prog (gam []) := GOK.nil
  refine AW.of hΓ mixed [] _ _ _ rfl ?_
  simp only [go_sem]
  refine AW.adopt 3 9 1 (fun _ _ => .any) rfl ?_
  refine AW.round (α := { x : Nat × Nat × List (List UInt8) × Nat × Nat // x.2.1 ≤ x.1 ∧ x.1 ≤ s.length ∧ x.2.2.1 ++ splitL (s.drop x.2.1) = splitL s ∧ (∀ k, x.2.1 ≤ k → k < x.1 → s.getD k 0 ≠ 10) ∧ (x.1 = s.length → x.2.1 = s.length) ∧ x.2.2.1.length ≤ x.1 })
    (fun x => ⟨[(0, .st s), (3, .ow 0 x.1.2.2.2.1 x.1.2.2.1.length), (4, .val (.int .i64 x.1.2.1)), (5, .val (.int .i64 x.1.1))], [(0, rowL x.1.2.2.2.1 9 eS x.1.2.2.1)], 34, 1, x.1.2.2.2.2, []⟩) (fun x => s.length - x.1.1) ⟨(0, 0, [], 0, 1), by simp⟩ ?_ ?_
  · simp only [go_sem]
    exact row_nil rfl
  · rintro ⟨⟨i, from_, out, v, nx⟩, h1, h2, h3, h4, h5, h6⟩
    simp only at h1 h2 h3 h4 h5 h6
    refine AW.of hΓ mixed [99999] _ _ _ rfl ?_
    simp only [go_sem]
    refine ⟨fun hil => ?_, fun hil => ?_⟩
    · have hlt : i < s.length := by omega
      refine ⟨by omega, fun _ => by omega, fun h => by simpa using h, fun hb => ?_, fun hb => ?_⟩
      · have hst := split_step h1 hlt h4 (by simp only [Bool.or_eq_true, decide_eq_true_eq] at hb; rcases hb with hb | hb; exact .inl hb; exact .inr (by omega))
        refine ⟨by omega, by omega, by omega, by omega, by omega, ⟨(i + 1, i + 1, out ++ [(s.take (i + 1)).drop from_], nx, nx + 1), ?_⟩, ⟨Nat.le_refl _, ⟨⟨rfl, by simp⟩, by dsimp only; omega, by dsimp only; omega⟩, ?_⟩, by dsimp only; omega⟩
        · dsimp only
          refine ⟨Nat.le_refl _, by omega, ?_, fun k ha hb => by omega, fun h => h, by simp; omega⟩
          rw [← h3, hst]
          simp
        · exact row_app1 rfl rfl rfl rfl (by simp) fun _ _ => AVle.refl _
      · simp only [Bool.or_eq_false_iff, decide_eq_false_iff_not] at hb
        refine ⟨by omega, ⟨(i + 1, from_, out, v, nx), ?_⟩, ⟨Nat.le_refl _, ⟨⟨rfl, rfl⟩, rfl, by dsimp only; omega⟩, RowLe.refl _⟩, by dsimp only; omega⟩
        dsimp only
        refine ⟨by omega, by omega, h3, fun k ha hk => ?_, fun h => by omega, by omega⟩
        rcases Nat.lt_or_ge k i with h' | h'
        · exact h4 k ha h'
        · obtain rfl : k = i := by omega
          exact hb.1
    · obtain rfl : i = s.length := by omega
      obtain rfl := h5 rfl
      rw [List.drop_length] at h3
      have h3 : out = splitL s := by simpa [splitL] using h3
      rw [h3]
      exact vw_all rfl rfl rfl
def sRefJoin : Spec := Spec.f1 (kL eS) okLs (fun l => kS.enc l.flatten)
def sRefEnds : Spec := Spec.f1 kS (fun l => l.length ≤ 100000000000) (fun l => kB.enc (endsL l))
theorem okRefEnds : SpecOK Tryd.prog 78 sRefEnds := by
  refine SpecOK.f1 Tryd.func78 rfl (by decide) Tryd.results78 Tryd.ntmps78 (by decide) fun l hl => ?_
  have hΓ : GOK Tryd.prog (gam []) := GOK.nil
  refine AW.of hΓ mixed [] _ _ _ rfl ?_
  simp only [go_sem]
  refine ⟨fun _ => by omega, fun _ => by omega, ?_⟩
  unfold endsL
  rcases Nat.eq_zero_or_pos l.length with h | h
  · obtain rfl := List.length_eq_zero_iff.1 h
    rfl
  · have e : ((l.length : Int) - 1).toNat = l.length - 1 := by omega
    rw [e, List.getLast?_eq_getElem?, gd_lt _ _ (by omega), List.getElem?_eq_getElem (by omega)]
    simp [h]
end Go.Proofs.YtljgfacjefebaaaDoor
