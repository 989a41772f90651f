/-
  lines, and the document's answers on it: what each function comes to.
-/
import Derived.Test.YtljgfacjefebaaaDoorAxt
import Derived.Test.YtljgfacjefebaaaDoorAxj
import Derived.Test.YtljgfacjefebaaaDoorShelf
import Derived.Test.YtljgfacjefebaaaDoorLinesN
set_option linter.unusedSimpArgs false
set_option linter.unusedVariables false
set_option maxRecDepth 100000
namespace Go.Proofs.YtljgfacjefebaaaDoor
open Go
attribute [local irreducible] AW AVle ASle RowLe

/-! ### the library's -/
def sIndex1 : Spec := Spec.f2 kS kS (fun _ b => b = [10]) (fun a _ => kI.enc (Lib.indexByte a 10))
theorem okIndex1 : SpecOK Tryd.prog 99 sIndex1 := by
  refine SpecOK.ss Tryd.func99 rfl (by decide) fun a b hd w => ?_
  subst hd
  refine (Tryd.strings_Index_one ⟨a.toArray⟩ 10 w).mono ?_
  rintro e w' ⟨rfl, rfl⟩
  exact ⟨_, rfl, Fr.refl _ _, fun _ => rfl⟩
def sCount1 : Spec := Spec.f2 kS kS (fun _ b => b = [10]) (fun a _ => kI.enc (a.count 10 : Nat))
theorem okCount1 : SpecOK Tryd.prog 106 sCount1 := by
  refine SpecOK.ss Tryd.func106 rfl (by decide) fun a b hd w => ?_
  subst hd
  refine (Tryd.strings_Count_one ⟨a.toArray⟩ 10 w).mono ?_
  rintro e w' ⟨rfl, rfl⟩
  exact ⟨_, rfl, Fr.refl _ _, fun _ => rfl⟩

/-! ### Split -/
theorem spA_step {r : List UInt8} (h : (10 : UInt8) ∈ r) : ∃ m : Nat, Lib.indexByte r 10 = m ∧ m + 1 ≤ r.length ∧ spA r = r.take (m + 1) :: spA (r.drop (m + 1)) ∧ (r.drop (m + 1)).count 10 + 1 = r.count 10 := by
  rcases idx_cases r with ⟨_, h'⟩ | ⟨p, q, rfl, hp, hm⟩
  · exact absurd h h'
  · have e0 : p ++ 10 :: q = (p ++ [10]) ++ q := by simp
    have el : p.length + 1 = (p ++ [10]).length := by simp
    have e1 : (p ++ 10 :: q).take (p.length + 1) = p ++ [10] := by rw [e0, el, List.take_left]
    have e2 : (p ++ 10 :: q).drop (p.length + 1) = q := by rw [e0, el, List.drop_left]
    refine ⟨p.length, hm, by simp, ?_, ?_⟩
    · rw [e1, e2, spA_cut p q hp]
    · rw [e2, List.count_append, List.count_eq_zero.2 hp]
      simp
def sGenSplit : Spec := Spec.f4 kS kS kI kI (fun s b k n => s.length ≤ 100000000 ∧ b = [10] ∧ k = 1 ∧ n = -1) (fun s _ _ _ => sL eS (spA s))
theorem okGenSplit : SpecOK Tryd.prog 96 sGenSplit := by
  refine SpecOK.f4 Tryd.func96 rfl (by decide) Tryd.results96 Tryd.ntmps96 (by decide) fun s b k n ⟨hs, hb, hk, hn⟩ => ?_
  have hΓ : GOK Tryd.prog (gam [(99, sIndex1), (106, sCount1)]) := (.cons okIndex1 (.cons okCount1 .nil))
  subst hb hk hn
  have hc : s.count 10 ≤ s.length := List.count_le_length
  have hn : min ((s.count 10 : Int) + 1) ((s.length : Int) + 1) = (s.count 10 : Nat) + 1 := by omega
  refine AW.of hΓ mixed [99999] _ _ _ rfl ?_
  simp only [go_sem, sIndex1, sCount1, hn]
  refine ⟨by omega, by omega, by omega, by omega, ?_⟩
  refine AW.round (α := { x : List (List UInt8) × List UInt8 // x.1 ++ spA x.2 = spA s ∧ x.1.length + x.2.count 10 = s.count 10 ∧ x.2.length ≤ s.length })
    (fun x => ⟨[(0, .st x.1.2), (1, .st [10]), (2, .val (.int .i64 1)), (3, .val (.int .i64 (s.count 10 : Nat))), (9, .ow 0 0 (s.count 10 + 1)), (10, .val (.int .i64 x.1.1.length))],
      [(0, rowL 0 9 eS (x.1.1 ++ List.replicate (x.1.2.count 10 + 1) []))], 66, 1, 1, []⟩) (fun x => s.count 10 - x.1.1.length) ⟨([], s), by simp, by simp, Nat.le_refl _⟩ ?_ ?_
  · simp only [go_sem, sIndex1, sCount1]
    exact row_make rfl rfl (by simp) zC_S
  · rintro ⟨⟨acc, r⟩, h1, h2, h3⟩
    simp only at h1 h2 h3
    refine AW.of hΓ mixed [] _ _ _ rfl ?_
    simp only [go_sem, sIndex1, sCount1]
    have hcr : r.count 10 ≤ r.length := List.count_le_length
    refine ⟨fun hi => ?_, fun hi => ?_⟩
    · obtain ⟨m, hm1, hm2, hm3, hm4⟩ := spA_step (List.count_pos_iff.1 (by omega : 0 < r.count 10))
      rw [hm1, toNat_add1]
      refine ⟨fun h => absurd h (by omega), fun _ => ?_⟩
      refine ⟨by omega, by omega, by omega, by omega, by omega, by omega, by omega, ⟨(acc ++ [r.take (m + 1)], r.drop (m + 1)), ?_, ?_, ?_⟩, ⟨⟨rfl, ?_⟩, ?_⟩, ?_⟩
      · simp [← h1, hm3]
      · simp; omega
      · simp; omega
      · simp
      · refine row_set (l := acc ++ List.replicate (r.count 10 + 1) []) rfl ?_ (by simp) (by simp <;> omega) (fun j _ => AVle.refl _)
        have e : ∀ x : List UInt8, (List.replicate (r.count 10 + 1) []).set 0 x = x :: List.replicate (r.count 10) [] := fun x => by rw [List.replicate_succ]; rfl
        rw [List.set_append_right _ _ (Nat.le_refl _), Nat.sub_self, e, ← hm4]
        simp
      · simp; omega
    · have h0 : r.count 10 = 0 := by omega
      have hno : (10 : UInt8) ∉ r := List.count_eq_zero.1 h0
      refine ⟨by omega, by omega, by omega, by omega, ⟨by omega, fun i _ => stE_flat (fun _ _ => rfl) (fun _ => rfl) i 0⟩, ?_⟩
      refine sn_set rfl rfl ?_ (by simp <;> omega) (fun j _ => AVle.refl _)
      rw [← h1, spA_one r hno, h0, List.set_append_right _ _ (Nat.le_refl _), Nat.sub_self]
      exact (List.take_of_length_le (by simp)).symm
def sSplitAfter : Spec := Spec.f2 kS kS (fun s b => s.length ≤ 100000000 ∧ b = [10]) (fun s _ => sL eS (spA s))
theorem okSplitAfter : SpecOK Tryd.prog 79 sSplitAfter := by
  refine SpecOK.f2 Tryd.func79 rfl (by decide) Tryd.results79 Tryd.ntmps79 (by decide) fun s b ⟨hs, hb⟩ => ?_
  have hΓ : GOK Tryd.prog (gam [(96, sGenSplit)]) := (.cons okGenSplit .nil)
  subst hb
  refine AW.of hΓ mixed [] _ _ _ rfl ?_
  simp only [go_sem, sGenSplit]
  exact hs
def sSplit : Spec := Spec.f1 kS (fun s => s.length ≤ 100000000) (fun s => sL eS (splitL s))
theorem okSplit : SpecOK Tryd.prog 61 sSplit := by
  refine SpecOK.f1 Tryd.func61 rfl (by decide) Tryd.results61 Tryd.ntmps61 (by decide) fun s hs => ?_
  have hΓ : GOK Tryd.prog (gam [(79, sSplitAfter)]) := (.cons okSplitAfter .nil)
  have hl := splitL_len s
  rcases spA_split s with e | ⟨e, hn⟩
  · refine AW.of hΓ mixed [99999] _ _ _ rfl ?_
    simp only [go_sem, sSplitAfter, e]
    have e1 : (((splitL s).length + 1 : Nat) : Int) - 1 = (splitL s).length := by omega
    have e2 : (splitL s ++ [[]]).getD (splitL s).length [] = [] := by simp [List.getD]
    rw [e1, Int.toNat_natCast]
    refine ⟨hs, by omega, by omega, fun _ => ⟨by omega, vw_row rfl rfl (by simp) (by simp)⟩, fun h => absurd e2 h⟩
  · have hne : splitL s ≠ [] := e ▸ spA_ne s
    have hpos : 0 < (splitL s).length := List.length_pos_iff.2 hne
    refine AW.of hΓ mixed [99999] _ _ _ rfl ?_
    simp only [go_sem, sSplitAfter, e]
    have e1 : (((splitL s).length : Nat) : Int) - 1 = ((splitL s).length - 1 : Nat) := by omega
    rw [e1, Int.toNat_natCast]
    refine ⟨hs, by omega, by omega, fun h => absurd h (hn _ ?_)⟩
    rw [gd_lt _ _ (by omega)]
    exact List.getElem_mem _
/-! ### Join -/
/-- A list that can be looked at. -/
def okLs (l : List (List UInt8)) : Prop := l.length ≤ 100000000 ∧ l.flatten.length ≤ 100000000000
theorem flat_len (l : List (List UInt8)) (i : Nat) : (l.getD i []).length ≤ l.flatten.length := by
  rcases Nat.lt_or_ge i l.length with h | h
  · rw [gd_lt _ _ h]
    exact (List.sublist_flatten_of_mem (List.getElem_mem h)).length_le
  · simp [List.getD, List.getElem?_eq_none h]
theorem join_nil (xs : List (List UInt8)) : Lib.join xs [] = xs.flatten := by
  cases xs with
  | nil => rfl
  | cons x r => rw [Lib.join_cons]; simp [Lib.joinTail]
def sJoinS : Spec := Spec.f2 (kL eS) kS (fun l b => l.length ≤ 100000000 ∧ l.flatten.length ≤ 100000000000 ∧ b = []) (fun l _ => kS.enc l.flatten)
theorem okJoinS : SpecOK Tryd.prog 85 sJoinS := by
  refine SpecOK.raw Tryd.func85 rfl (by decide) fun args hp w L vs hL ha => ?_
  match args, hp with
  | [x, y], hp =>
    obtain ⟨h1, h2, h3, h4, h5⟩ := hp
    cases ha with
    | cons hx hr => cases hr with
      | cons hy hr => cases hr with
        | nil =>
          have ex := okGet h1 hx
          have ey := okGet h2 hy
          show Calls _ _ _ _ fun e w' => ∃ v, e = .returned v ∧ Fr (fun _ => False) w w' ∧ Rep w' noEnv L (kS.enc ((kL eS).dec x).flatten) v
          generalize (kL eS).dec x = l at *
          rw [h5] at ey
          obtain ⟨a, cap, rfl, hcap, hc⟩ := ex
          obtain rfl := ey
          rcases Nat.eq_zero_or_pos l.length with h0 | h0
          · rw [h0]
            refine (Tryd.strings_Join_none a cap ⟨#[]⟩ w).mono ?_
            rintro e w' ⟨rfl, rfl⟩
            have : l = [] := List.length_eq_zero_iff.1 h0
            subst this
            exact ⟨_, rfl, Fr.refl _ _, rfl⟩
          · obtain ⟨b, off, rfl, hb, hcells⟩ := hc h0 (by decide)
            have hget : ∀ (j : Nat) y, (l.map fun y => (⟨y.toArray⟩ : ByteArray))[j]? = some y → w.cell? ⟨b, off + j, none⟩ = some (.string y) := fun j y hj => by
              rw [List.getElem?_map] at hj
              cases hl : l[j]? with
              | none => rw [hl] at hj; cases hj
              | some z =>
                rw [hl] at hj
                simp only [Option.map_some, Option.some.injEq] at hj
                subst hj
                obtain ⟨hlt, _⟩ := List.getElem?_eq_some_iff.1 hl
                obtain ⟨u, hu, _, hrep⟩ := hcells j hlt 0 (by decide)
                have e : l.getD j eS.dflt = z := by simp [List.getD, hl]
                have hrep : Rep w noEnv L (eS.enc (l.getD j eS.dflt) 0) u := hrep
                rw [e] at hrep
                have : u = .string ⟨z.toArray⟩ := hrep
                subst this
                simpa [eS_sz] using hu
            have e1 : (l.map fun y => (⟨y.toArray⟩ : ByteArray)).map (·.data.toList) = l := by simp [Function.comp_def]
            have hbs : b < w.heap.size := by
              obtain ⟨u, hu, _⟩ := hcells 0 h0 0 (by decide)
              exact World.block_lt_of_cell? w _ hu
            have hJ := Tryd.strings_Join b off cap (l.map fun y => ⟨y.toArray⟩) ⟨#[]⟩ w hget hbs (by simp; omega) (by simpa using hcap) (by rw [e1]; show (Lib.join l []).length ≤ _; rw [join_nil]; omega)
            rw [e1, List.length_map] at hJ
            refine hJ.mono ?_
            rintro e w' ⟨rfl, hbel⟩
            refine ⟨_, rfl, Fr.of_below hbel _, ?_⟩
            show Value.string ⟨(Lib.join l []).toArray⟩ = .string ⟨l.flatten.toArray⟩
            rw [join_nil]
def sJoin : Spec := Spec.f1 (kL eS) okLs (fun l => kS.enc l.flatten)
theorem okJoin : SpecOK Tryd.prog 66 sJoin := by
  refine SpecOK.f1 Tryd.func66 rfl (by decide) Tryd.results66 Tryd.ntmps66 (by decide) fun l ⟨h1, h2⟩ => ?_
  have hΓ : GOK Tryd.prog (gam [(85, sJoinS)]) := (.cons okJoinS .nil)
  refine AW.of hΓ mixed [] _ _ _ rfl ?_
  simp only [go_sem, sJoinS]
  exact ⟨h1, h2⟩
/-! ### Whole -/
theorem whole_step (l : List (List UInt8)) (i : Nat) (hi : i < l.length) :
    ((¬(0 ≤ Lib.indexByte (l.getD i []) 10 ∧ Lib.indexByte (l.getD i []) 10 = ((l.getD i []).length : Int) - 1) ∧ ¬(Lib.indexByte (l.getD i []) 10 < 0 ∧ l.getD i [] ≠ [] ∧ (i : Int) = (l.length : Int) - 1)) → wholeL l = false) ∧
    (((0 ≤ Lib.indexByte (l.getD i []) 10 ∧ Lib.indexByte (l.getD i []) 10 = ((l.getD i []).length : Int) - 1) ∨ (Lib.indexByte (l.getD i []) 10 < 0 ∧ l.getD i [] ≠ [] ∧ (i : Int) = (l.length : Int) - 1)) → oneL (l.getD i []) = true ∧ (i + 1 < l.length → endsL (l.getD i []) = true)) := by
  have hw := wholeL_iff l
  generalize hx : l.getD i [] = x
  rcases idx_cases x with ⟨h1, h2⟩ | ⟨p, r, rfl, h2, h1⟩
  · rw [h1]
    refine ⟨fun ⟨_, h⟩ => ?_, fun h => ?_⟩
    · refine Bool.eq_false_iff.2 fun hh => ?_
      have := hw.1 hh i hi
      rw [hx, oneL_no x h2, endsL_no x h2] at this
      exact h ⟨by omega, by simpa using this.1, by
        rcases Nat.lt_or_ge (i + 1) l.length with h' | h'
        · exact absurd (this.2 h') (by decide)
        · omega⟩
    · rcases h with h | ⟨_, h3, h4⟩
      · omega
      · exact ⟨by rw [oneL_no x h2]; simpa using h3, fun h => by omega⟩
  · rw [h1]
    have e : ((p ++ 10 :: r).length : Int) = p.length + 1 + r.length := by simp; omega
    refine ⟨fun ⟨h, _⟩ => ?_, fun h => ?_⟩
    · refine Bool.eq_false_iff.2 fun hh => ?_
      have := hw.1 hh i hi
      rw [hx, oneL_cut p r h2] at this
      obtain rfl : r = [] := by simpa using this.1
      exact h ⟨by omega, by rw [e]; simp⟩
    · rcases h with ⟨_, h⟩ | ⟨h, _⟩
      · obtain rfl : r = [] := List.length_eq_zero_iff.1 (by omega)
        exact ⟨by rw [oneL_cut p [] h2]; rfl, fun _ => by simp [endsL]⟩
      · omega
def sWhole : Spec := Spec.f1 (kL eS) okLs (fun l => kB.enc (wholeL l))
end Go.Proofs.YtljgfacjefebaaaDoor
