/-
  lines, and the document's answers on it: what each function comes to.
-/
import Derived.Test.YtainopabnnglgaaDoorAxt
import Derived.Test.YtainopabnnglgaaDoorAxj
import Derived.Test.YtainopabnnglgaaDoorShelf
import Derived.Test.YtainopabnnglgaaDoorLinesM
set_option linter.unusedSimpArgs false
set_option linter.unusedVariables false
set_option maxRecDepth 100000
namespace Go.Proofs.YtainopabnnglgaaDoor
open Go
attribute [local irreducible] AW AVle ASle RowLe

/-! ### the library's -/
def sIndex1 : Spec := Spec.f2 kS kS (fun _ b => b = [10]) (fun a _ => kI.enc (Lib.indexByte a 10))
theorem okIndex1 : SpecOK Tryd.prog 24 sIndex1 := by
  refine SpecOK.ss Tryd.func24 rfl (by decide) fun a b hd w => ?_
  subst hd
  refine (Tryd.strings_Index_one ⟨a.toArray⟩ 10 w).mono ?_
  rintro e w' ⟨rfl, rfl⟩
  exact ⟨_, rfl, Fr.refl _ _, fun _ => rfl⟩
def sCount1 : Spec := Spec.f2 kS kS (fun _ b => b = [10]) (fun a _ => kI.enc (a.count 10 : Nat))
theorem okCount1 : SpecOK Tryd.prog 34 sCount1 := by
  refine SpecOK.ss Tryd.func34 rfl (by decide) fun a b hd w => ?_
  subst hd
  refine (Tryd.strings_Count_one ⟨a.toArray⟩ 10 w).mono ?_
  rintro e w' ⟨rfl, rfl⟩
  exact ⟨_, rfl, Fr.refl _ _, fun _ => rfl⟩

/-! ### Split -/
theorem spA_step {r : List UInt8} (h : (10 : UInt8) ∈ r) : ∃ m : Nat, Lib.indexByte r 10 = m ∧ m + 1 ≤ r.length ∧ spA r = r.take (m + 1) :: spA (r.drop (m + 1)) ∧ (r.drop (m + 1)).count 10 + 1 = r.count 10 := by
  rcases idx_cases r with ⟨_, h'⟩ | ⟨p, q, rfl, hp, hm⟩
  · exact absurd h h'
  · have e0 : p ++ 10 :: q = (p ++ [10]) ++ q := by simp
    have el : p.length + 1 = (p ++ [10]).length := by simp
    have e1 : (p ++ 10 :: q).take (p.length + 1) = p ++ [10] := by rw [e0, el, List.take_left]
    have e2 : (p ++ 10 :: q).drop (p.length + 1) = q := by rw [e0, el, List.drop_left]
    refine ⟨p.length, hm, by simp, ?_, ?_⟩
    · rw [e1, e2, spA_cut p q hp]
    · rw [e2, List.count_append, List.count_eq_zero.2 hp]
      simp
def sGenSplit : Spec := Spec.f4 kS kS kI kI (fun s b k n => s.length ≤ 100000000 ∧ b = [10] ∧ k = 1 ∧ n = -1) (fun s _ _ _ => sL eS (spA s))
theorem okGenSplit : SpecOK Tryd.prog 27 sGenSplit := by
  refine SpecOK.f4 Tryd.func27 rfl (by decide) Tryd.results27 Tryd.ntmps27 (by decide) fun s b k n ⟨hs, hb, hk, hn⟩ => ?_
  have hΓ : GOK Tryd.prog (gam [(24, sIndex1), (34, sCount1)]) := (.cons okIndex1 (.cons okCount1 .nil))
  subst hb hk hn
  have hc : s.count 10 ≤ s.length := List.count_le_length
  have hn : min ((s.count 10 : Int) + 1) ((s.length : Int) + 1) = (s.count 10 : Nat) + 1 := by omega
  refine AW.of hΓ mixed [99999] _ _ _ rfl ?_
  simp only [go_sem, sIndex1, sCount1, hn]
  refine ⟨by omega, by omega, by omega, by omega, ?_⟩
  refine AW.round (α := { x : List (List UInt8) × List UInt8 // x.1 ++ spA x.2 = spA s ∧ x.1.length + x.2.count 10 = s.count 10 ∧ x.2.length ≤ s.length })
    (fun x => ⟨[(0, .st x.1.2), (1, .st [10]), (2, .val (.int .i64 1)), (3, .val (.int .i64 (s.count 10 : Nat))), (9, .ow 0 0 (s.count 10 + 1)), (10, .val (.int .i64 x.1.1.length))],
      [(0, rowL 0 9 eS (x.1.1 ++ List.replicate (x.1.2.count 10 + 1) []))], 66, 1, 1, []⟩) (fun x => s.count 10 - x.1.1.length) ⟨([], s), by simp, by simp, Nat.le_refl _⟩ ?_ ?_
  · simp only [go_sem, sIndex1, sCount1]
    exact row_make rfl rfl (by simp) zC_S
  · rintro ⟨⟨acc, r⟩, h1, h2, h3⟩
    simp only at h1 h2 h3
    refine AW.of hΓ mixed [] _ _ _ rfl ?_
    simp only [go_sem, sIndex1, sCount1]
    have hcr : r.count 10 ≤ r.length := List.count_le_length
    refine ⟨fun hi => ?_, fun hi => ?_⟩
    · obtain ⟨m, hm1, hm2, hm3, hm4⟩ := spA_step (List.count_pos_iff.1 (by omega : 0 < r.count 10))
      rw [hm1, toNat_add1]
      refine ⟨fun h => absurd h (by omega), fun _ => ?_⟩
      refine ⟨by omega, by omega, by omega, by omega, by omega, by omega, by omega, ⟨(acc ++ [r.take (m + 1)], r.drop (m + 1)), ?_, ?_, ?_⟩, ⟨⟨rfl, ?_⟩, ?_⟩, ?_⟩
      · simp [← h1, hm3]
      · simp; omega
      · simp; omega
      · simp
      · refine row_set (l := acc ++ List.replicate (r.count 10 + 1) []) rfl ?_ (by simp) (by simp <;> omega) (fun j _ => AVle.refl _)
        have e : ∀ x : List UInt8, (List.replicate (r.count 10 + 1) []).set 0 x = x :: List.replicate (r.count 10) [] := fun x => by rw [List.replicate_succ]; rfl
        rw [List.set_append_right _ _ (Nat.le_refl _), Nat.sub_self, e, ← hm4]
        simp
      · simp; omega
    · have h0 : r.count 10 = 0 := by omega
      have hno : (10 : UInt8) ∉ r := List.count_eq_zero.1 h0
      refine ⟨by omega, by omega, by omega, by omega, ⟨by omega, fun i _ j _ => stE_flat (fun _ _ => rfl) (fun _ => rfl) i j⟩, ?_⟩
      refine sn_set rfl rfl ?_ (by simp <;> omega) (fun j _ => AVle.refl _)
      rw [← h1, spA_one r hno, h0, List.set_append_right _ _ (Nat.le_refl _), Nat.sub_self]
      exact (List.take_of_length_le (by simp)).symm
def sSplitAfter : Spec := Spec.f2 kS kS (fun s b => s.length ≤ 100000000 ∧ b = [10]) (fun s _ => sL eS (spA s))
theorem okSplitAfter : SpecOK Tryd.prog 22 sSplitAfter := by
  refine SpecOK.f2 Tryd.func22 rfl (by decide) Tryd.results22 Tryd.ntmps22 (by decide) fun s b ⟨hs, hb⟩ => ?_
  have hΓ : GOK Tryd.prog (gam [(27, sGenSplit)]) := (.cons okGenSplit .nil)
  subst hb
  refine AW.of hΓ mixed [] _ _ _ rfl ?_
  simp only [go_sem, sGenSplit]
  exact hs
def sSplit : Spec := Spec.f1 kS (fun s => s.length ≤ 100000000) (fun s => sL eS (splitL s))
theorem okSplit : SpecOK Tryd.prog 6 sSplit := by
  refine SpecOK.f1 Tryd.func6 rfl (by decide) Tryd.results6 Tryd.ntmps6 (by decide) fun s hs => ?_
  have hΓ : GOK Tryd.prog (gam [(22, sSplitAfter)]) := (.cons okSplitAfter .nil)
  have hl := splitL_len s
  rcases spA_split s with e | ⟨e, hn⟩
  · refine AW.of hΓ mixed [99999] _ _ _ rfl ?_
    simp only [go_sem, sSplitAfter, e]
    have e1 : (((splitL s).length + 1 : Nat) : Int) - 1 = (splitL s).length := by omega
    have e2 : (splitL s ++ [[]]).getD (splitL s).length [] = [] := by simp [List.getD]
    rw [e1, Int.toNat_natCast]
    refine ⟨hs, by omega, by omega, fun _ => ⟨by omega, vw_row rfl rfl (by simp) (by simp)⟩, fun h => absurd e2 h⟩
  · have hne : splitL s ≠ [] := e ▸ spA_ne s
    have hpos : 0 < (splitL s).length := List.length_pos_iff.2 hne
    refine AW.of hΓ mixed [99999] _ _ _ rfl ?_
    simp only [go_sem, sSplitAfter, e]
    have e1 : (((splitL s).length : Nat) : Int) - 1 = ((splitL s).length - 1 : Nat) := by omega
    rw [e1, Int.toNat_natCast]
    refine ⟨hs, by omega, by omega, fun h => absurd h (hn _ ?_)⟩
    rw [gd_lt _ _ (by omega)]
    exact List.getElem_mem _
/-! ### Join -/
/-- A list that can be looked at. -/
def okLs (l : List (List UInt8)) : Prop := l.length ≤ 100000000 ∧ l.flatten.length ≤ 100000000000
theorem flat_len (l : List (List UInt8)) (i : Nat) : (l.getD i []).length ≤ l.flatten.length := by
  rcases Nat.lt_or_ge i l.length with h | h
  · rw [gd_lt _ _ h]
    exact (List.sublist_flatten_of_mem (List.getElem_mem h)).length_le
  · simp [List.getD, List.getElem?_eq_none h]
theorem join_nil (xs : List (List UInt8)) : Lib.join xs [] = xs.flatten := by
  cases xs with
  | nil => rfl
  | cons x r => rw [Lib.join_cons]; simp [Lib.joinTail]
def sJoinS : Spec := Spec.f2 (kL eS) kS (fun l b => l.length ≤ 100000000 ∧ l.flatten.length ≤ 100000000000 ∧ b = []) (fun l _ => kS.enc l.flatten)
theorem okJoinS : SpecOK Tryd.prog 23 sJoinS := by
  refine SpecOK.raw Tryd.func23 rfl (by decide) fun args hp w L vs hL ha => ?_
  match args, hp with
  | [x, y], hp =>
    obtain ⟨h1, h2, h3, h4, h5⟩ := hp
    cases ha with
    | cons hx hr => cases hr with
      | cons hy hr => cases hr with
        | nil =>
          have ex := okGet h1 hx
          have ey := okGet h2 hy
          show Calls _ _ _ _ fun e w' => ∃ v, e = .returned v ∧ Fr (fun _ => False) w w' ∧ Rep w' noEnv L (kS.enc ((kL eS).dec x).flatten) v
          generalize (kL eS).dec x = l at *
          rw [h5] at ey
          obtain ⟨a, cap, rfl, hcap, hc⟩ := ex
          obtain rfl := ey
          rcases Nat.eq_zero_or_pos l.length with h0 | h0
          · rw [h0]
            refine (Tryd.strings_Join_none a cap ⟨#[]⟩ w).mono ?_
            rintro e w' ⟨rfl, rfl⟩
            have : l = [] := List.length_eq_zero_iff.1 h0
            subst this
            exact ⟨_, rfl, Fr.refl _ _, rfl⟩
          · obtain ⟨b, off, rfl, hb, hcells⟩ := hc h0 (by decide)
            have hget : ∀ (j : Nat) y, (l.map fun y => (⟨y.toArray⟩ : ByteArray))[j]? = some y → w.cell? ⟨b, off + j, none⟩ = some (.string y) := fun j y hj => by
              rw [List.getElem?_map] at hj
              cases hl : l[j]? with
              | none => rw [hl] at hj; cases hj
              | some z =>
                rw [hl] at hj
                simp only [Option.map_some, Option.some.injEq] at hj
                subst hj
                obtain ⟨hlt, _⟩ := List.getElem?_eq_some_iff.1 hl
                obtain ⟨u, hu, _, hrep⟩ := hcells j hlt 0 (by decide)
                have e : l.getD j eS.dflt = z := by simp [List.getD, hl]
                have hrep : Rep w noEnv L (eS.enc (l.getD j eS.dflt) 0) u := hrep
                rw [e] at hrep
                have : u = .string ⟨z.toArray⟩ := hrep
                subst this
                simpa [eS_sz] using hu
            have e1 : (l.map fun y => (⟨y.toArray⟩ : ByteArray)).map (·.data.toList) = l := by simp [Function.comp_def]
            have hbs : b < w.heap.size := by
              obtain ⟨u, hu, _⟩ := hcells 0 h0 0 (by decide)
              exact World.block_lt_of_cell? w _ hu
            have hJ := Tryd.strings_Join b off cap (l.map fun y => ⟨y.toArray⟩) ⟨#[]⟩ w hget hbs (by simp; omega) (by simpa using hcap) (by rw [e1]; show (Lib.join l []).length ≤ _; rw [join_nil]; omega)
            rw [e1, List.length_map] at hJ
            refine hJ.mono ?_
            rintro e w' ⟨rfl, hbel⟩
            refine ⟨_, rfl, Fr.of_below hbel _, ?_⟩
            show Value.string ⟨(Lib.join l []).toArray⟩ = .string ⟨l.flatten.toArray⟩
            rw [join_nil]
def sJoin : Spec := Spec.f1 (kL eS) okLs (fun l => kS.enc l.flatten)
theorem okJoin : SpecOK Tryd.prog 10 sJoin := by
  refine SpecOK.f1 Tryd.func10 rfl (by decide) Tryd.results10 Tryd.ntmps10 (by decide) fun l ⟨h1, h2⟩ => ?_
  have hΓ : GOK Tryd.prog (gam [(23, sJoinS)]) := (.cons okJoinS .nil)
  refine AW.of hΓ mixed [] _ _ _ rfl ?_
  simp only [go_sem, sJoinS]
  exact ⟨h1, h2⟩
/-! ### Whole -/
theorem whole_step (l : List (List UInt8)) (i : Nat) (hi : i < l.length) :
    ((¬(0 ≤ Lib.indexByte (l.getD i []) 10 ∧ Lib.indexByte (l.getD i []) 10 = ((l.getD i []).length : Int) - 1) ∧ ¬(Lib.indexByte (l.getD i []) 10 < 0 ∧ l.getD i [] ≠ [] ∧ (i : Int) = (l.length : Int) - 1)) → wholeL l = false) ∧
    (((0 ≤ Lib.indexByte (l.getD i []) 10 ∧ Lib.indexByte (l.getD i []) 10 = ((l.getD i []).length : Int) - 1) ∨ (Lib.indexByte (l.getD i []) 10 < 0 ∧ l.getD i [] ≠ [] ∧ (i : Int) = (l.length : Int) - 1)) → oneL (l.getD i []) = true ∧ (i + 1 < l.length → endsL (l.getD i []) = true)) := by
  have hw := wholeL_iff l
  generalize hx : l.getD i [] = x
  rcases idx_cases x with ⟨h1, h2⟩ | ⟨p, r, rfl, h2, h1⟩
  · rw [h1]
    refine ⟨fun ⟨_, h⟩ => ?_, fun h => ?_⟩
    · refine Bool.eq_false_iff.2 fun hh => ?_
      have := hw.1 hh i hi
      rw [hx, oneL_no x h2, endsL_no x h2] at this
      exact h ⟨by omega, by simpa using this.1, by
        rcases Nat.lt_or_ge (i + 1) l.length with h' | h'
        · exact absurd (this.2 h') (by decide)
        · omega⟩
    · rcases h with h | ⟨_, h3, h4⟩
      · omega
      · exact ⟨by rw [oneL_no x h2]; simpa using h3, fun h => by omega⟩
  · rw [h1]
    have e : ((p ++ 10 :: r).length : Int) = p.length + 1 + r.length := by simp; omega
    refine ⟨fun ⟨h, _⟩ => ?_, fun h => ?_⟩
    · refine Bool.eq_false_iff.2 fun hh => ?_
      have := hw.1 hh i hi
      rw [hx, oneL_cut p r h2] at this
      obtain rfl : r = [] := by simpa using this.1
      exact h ⟨by omega, by rw [e]; simp⟩
    · rcases h with ⟨_, h⟩ | ⟨h, _⟩
      · obtain rfl : r = [] := List.length_eq_zero_iff.1 (by omega)
        exact ⟨by rw [oneL_cut p [] h2]; rfl, fun _ => by simp [endsL]⟩
      · omega
def sWhole : Spec := Spec.f1 (kL eS) okLs (fun l => kB.enc (wholeL l))
theorem okWhole : SpecOK Tryd.prog 11 sWhole := by
  refine SpecOK.f1 Tryd.func11 rfl (by decide) Tryd.results11 Tryd.ntmps11 (by decide) fun l ⟨hl, hfl⟩ => ?_
  have hΓ : GOK Tryd.prog (gam [(24, sIndex1)]) := (.cons okIndex1 .nil)
  refine AW.of hΓ mixed [] _ _ _ rfl ?_
  simp only [go_sem, sIndex1]
  refine AW.round (α := { i : Nat // i ≤ l.length ∧ ∀ k, k < i → oneL (l.getD k []) = true ∧ (k + 1 < l.length → endsL (l.getD k []) = true) }) (fun i => ⟨[(0, sL eS l), (8, sL eS l), (9, .val (.int .i64 l.length)), (10, .val (.int .i64 i.1))], [], 46, 0, 0, []⟩) (fun i => l.length - i.1) ⟨0, by simp⟩ ?_ ?_
  · simp only [go_sem, sIndex1]
  · rintro ⟨i, hi, hk⟩
    refine AW.of hΓ mixed [99999] _ _ _ rfl ?_
    simp only [go_sem, sIndex1]
    refine ⟨fun hil => ?_, fun hil => ?_⟩
    · have hlt : i < l.length := by omega
      obtain ⟨w1, w2⟩ := whole_step l i hlt
      have hxl := flat_len l i
      generalize hx : l.getD i [] = x at *
      refine ⟨by omega, fun _ => by omega, fun _ => by omega, fun ⟨a, b⟩ => ?_, fun h => ⟨by omega, ⟨i + 1, by omega, fun k hk' => ?_⟩, by simp, by simp; omega⟩⟩
      · refine (w1 ?_).symm
        simp only [Bool.not_eq_true', Bool.and_eq_false_imp, decide_eq_true_eq, decide_eq_false_iff_not, Bool.and_eq_true] at a b
        exact ⟨fun c => a c.1 c.2, fun c => b ⟨c.1, c.2.1⟩ c.2.2⟩
      · rcases Nat.lt_or_ge k i with h' | h'
        · exact hk k h'
        · obtain rfl : k = i := by omega
          rw [hx]
          refine w2 ?_
          simp only [Bool.not_eq_true', Bool.not_eq_false', Bool.and_eq_false_imp, decide_eq_true_eq, decide_eq_false_iff_not, Bool.and_eq_true] at h
          by_cases c : 0 ≤ Lib.indexByte x 10 ∧ Lib.indexByte x 10 = (x.length : Int) - 1
          · exact .inl c
          · obtain ⟨⟨h1, h2⟩, h3⟩ := h fun a b => c ⟨a, b⟩
            exact .inr ⟨h1, h2, h3⟩
    · refine ((wholeL_iff l).2 fun k hk' => hk k (by omega)).symm
/-! ### Number -/
def sNumber : Spec := Spec.f1 (kL (eL eS)) (fun l => l.length ≤ 1000000 ∧ ∀ f ∈ l, f.length ≤ 1000000) (fun l => sL (eL eI) (numF [] l))
theorem numF_snoc (ks : List (List UInt8)) (fs : List (List (List UInt8))) (f : List (List UInt8)) : numF ks (fs ++ [f]) = numF ks fs ++ [(numL (fs.foldl (fun k f => (numL k f).1) ks) f).2] := by
  rw [numF_app]; rfl
theorem take_snoc {α : Type} (l : List α) (d : α) {i : Nat} (h : i < l.length) : l.take (i + 1) = l.take i ++ [l.getD i d] := by
  rw [List.take_add_one, gd_lt _ _ h]; simp [h]
theorem numL_snoc (ks f : List (List UInt8)) {k : Nat} (h : k < f.length) : numL ks (f.take (k + 1)) =
    (if f.getD k [] ∈ (numL ks (f.take k)).1 then (numL ks (f.take k)).1 else (numL ks (f.take k)).1 ++ [f.getD k []], (numL ks (f.take k)).2 ++ [((numL ks (f.take k)).1.idxOf (f.getD k []) : Int)]) := by
  rw [take_snoc f [] h, numL_app]
  simp [numL]
theorem okNumber : SpecOK Tryd.prog 15 sNumber := by
  refine SpecOK.f1 Tryd.func15 rfl (by decide) Tryd.results15 Tryd.ntmps15 (by decide) fun fs ⟨hl, hf⟩ => ?_
  have hΓ : GOK Tryd.prog (gam []) := GOK.nil
  refine AW.of hΓ mixed [] _ _ _ rfl ?_
  simp only [go_sem]
  refine ⟨by omega, ?_⟩
  refine AW.round (α := { x : Nat × Nat × Nat // x.1 ≤ fs.length ∧ x.2.1 < x.2.2 })
    (fun x => ⟨[(3, .mp 0 0), (4, .ow 1 x.1.2.1 x.1.1), (16, sL (eL eS) fs), (17, .val (.int .i64 fs.length)), (18, .val (.int .i64 x.1.1))],
      [(0, .mp 0 true ((fs.take x.1.1).foldl (fun k f => (numL k f).1) []).length (mapS ((fs.take x.1.1).foldl (fun k f => (numL k f).1) []))), (1, rowL x.1.2.1 37 (eL eI) (numF [] (fs.take x.1.1)))], 55, 2, x.1.2.2, []⟩) (fun x => fs.length - x.1.1) ⟨(0, 1, 2), by simp⟩ ?_ ?_
  · simp only [go_sem]
    refine ⟨RowLe.of_eq ?_, row_nil rfl⟩
    simp [mapS]
    funext k
    cases k <;> simp [mapS]
  · rintro ⟨⟨i, v, nx⟩, hi, hv⟩
    simp only at hi hv
    refine AW.of hΓ mixed [7] _ _ _ rfl ?_
    simp only [go_sem]
    refine ⟨fun hil => ?_, fun hil => ?_⟩
    · have hlt : i < fs.length := by omega
      have hfi := hf _ (gd_lt fs [] hlt ▸ List.getElem_mem hlt)
      generalize hfe : fs.getD i [] = f at *
      generalize hke : (fs.take i).foldl (fun k f => (numL k f).1) [] = ks0
      refine ⟨by omega, by omega, ?_⟩
      refine AW.to (fun x : { x : Nat // nx < x } => Sh.st ⟨[(3, .mp 0 0), (4, .ow 1 v i), (7, sL eI (numL ks0 f).2), (16, sL (eL eS) fs), (17, .val (.int .i64 fs.length)), (18, .val (.int .i64 i))],
        [(0, .mp 0 true (numL ks0 f).1.length (mapS (numL ks0 f).1)), (1, rowL v 37 (eL eI) (numF [] (fs.take i)))], 55, 3, x.1, []⟩) ?_ ?_
      · refine AW.block (AW.round (α := { x : Nat × Nat × Nat // x.1 ≤ f.length ∧ x.2.1 < x.2.2 ∧ nx < x.2.2 })
          (fun x => ⟨[(3, .mp 0 0), (4, .ow 1 v i), (7, .ow 2 x.1.2.1 x.1.1), (16, sL (eL eS) fs), (17, .val (.int .i64 fs.length)), (18, .val (.int .i64 i)), (25, sL eS f), (26, .val (.int .i64 f.length)), (27, .val (.int .i64 x.1.1))],
          [(0, .mp 0 true (numL ks0 (f.take x.1.1)).1.length (mapS (numL ks0 (f.take x.1.1)).1)), (1, rowL v 37 (eL eI) (numF [] (fs.take i))), (2, rowL x.1.2.1 3 eI (numL ks0 (f.take x.1.1)).2)], 55, 3, x.1.2.2, []⟩) (fun x => f.length - x.1.1) ⟨(0, nx, nx + 1), by simp⟩ ?_ ?_)
        · simp only [go_sem, hke]
          exact ⟨RowLe.of_eq (by simp [numL]), RowLe.refl _, row_nil (by simp [numL])⟩
        · rintro ⟨⟨k, u, nx'⟩, hk, hu, hnx⟩
          simp only at hk hu hnx
          have hlen : (numL ks0 (f.take k)).2.length = k := by rw [numL_len]; simp; omega
          have hkl : (numL ks0 (f.take k)).1.length ≤ ks0.length + k := by
            have := numL_ks ks0 (f.take k)
            simp at this; omega
          by_cases hkf : k < f.length
          · have hs := numL_snoc ks0 f hkf
            have hkc : (k : Int) < f.length := by omega
            generalize hx : f.getD k [] = x at *
            generalize (numL ks0 (f.take k)).1 = ks at *
            generalize (numL ks0 (f.take k)).2 = ns at *
            by_cases hb : x ∈ ks
            · rw [if_pos hb] at hs
              refine AW.of hΓ mixed [99999] _ _ _ rfl ?_
              simp only [go_sem, hb, hx, hkc]
              refine ⟨by omega, ⟨by omega, by omega⟩, by omega, ⟨(k + 1, nx', nx' + 1), by dsimp only; omega, by dsimp only; omega, by dsimp only; omega⟩, ⟨Nat.le_refl _, ⟨⟨rfl, rfl⟩, by dsimp only; omega⟩, ?_, RowLe.refl _, ?_⟩, by dsimp only; omega⟩
              · rw [hs]; exact RowLe.refl _
              · rw [hs]; exact row_app1 rfl rfl hlen.symm rfl rfl fun _ _ => AVle.refl _
            · rw [if_neg hb] at hs
              refine AW.of hΓ mixed [99999] _ _ _ rfl ?_
              simp only [go_sem, hb, hx, hkc]
              have hidx : ks.idxOf x = ks.length := List.idxOf_eq_length hb
              refine ⟨by omega, ⟨by omega, by omega⟩, by omega, ⟨(k + 1, nx', nx' + 1), by dsimp only; omega, by dsimp only; omega, by dsimp only; omega⟩, ⟨Nat.le_refl _, ⟨⟨rfl, rfl⟩, by dsimp only; omega⟩, ?_, RowLe.refl _, ?_⟩, by dsimp only; omega⟩
              · rw [hs, mapS_push ks x hb]; exact RowLe.of_eq (by simp)
              · rw [hs, hidx]; exact row_app1 rfl rfl hlen.symm rfl rfl fun _ _ => AVle.refl _
          · obtain rfl : k = f.length := by omega
            refine AW.of hΓ mixed [99999] _ _ _ rfl ?_
            simp only [go_sem]
            have hlf : (numL ks0 f).2.length = f.length := numL_len ks0 f
            refine ⟨⟨nx', hnx⟩, ASle.trans (ASle.freeze 2 u 3 1 _ _ rfl fun _ _ _ _ => rfl) (toFits ?_)⟩
            simp only [go_sem, hlf]
            exact ⟨vw_all rfl rfl hlf.symm, RowLe.refl _, RowLe.refl _⟩
      · rintro ⟨nx', hnx⟩
        simp only [go_sem]
        have hft : fs.take (i + 1) = fs.take i ++ [f] := by rw [take_snoc fs [] hlt, hfe]
        refine ⟨⟨by rw [numF_len]; simp; omega, by omega⟩, by omega, ⟨(i + 1, nx', nx' + 1), by dsimp only; omega, by dsimp only; omega⟩, ⟨Nat.le_refl _, ⟨⟨rfl, rfl⟩, by dsimp only; omega⟩, ?_, ?_⟩, by dsimp only; omega⟩
        · dsimp only
          rw [hft, List.foldl_append, hke]
          exact RowLe.refl _
        · dsimp only
          rw [hft, numF_snoc, hke]
          exact row_app1 rfl rfl (by rw [numF_len]; simp; omega) rfl (by simp [numF_len]) fun _ _ => AVle.refl _
    · obtain rfl : i = fs.length := by omega
      refine ⟨by rw [numF_len]; simp, ?_⟩
      rw [List.take_length]
      exact vw_all rfl rfl (by rw [numF_len])
end Go.Proofs.YtainopabnnglgaaDoor
