/-
  lcs: what both lists have.
-/
import Derived.Test.YtainopabnnglgaaLcsF
import Derived.Test.YtainopabnnglgaaAxm
import Derived.Test.YtainopabnnglgaaAxt
import Derived.Test.YtainopabnnglgaaSameW
set_option linter.unusedSimpArgs false
set_option linter.unusedVariables false
set_option maxRecDepth 100000
set_option maxHeartbeats 2000000
namespace Go.Proofs.Ytainopabnnglgaa
open Go
attribute [local irreducible] AW AVle ASle RowLe
/-- A map that holds true for these. -/
def mapB (ks : List Int) : Key → Option Value
  | .i n => if n ∈ ks then some (.bool true) else none
  | .s _ => none
theorem mapB_i (ks : List Int) (n : Int) : mapB ks (.i n) = if n ∈ ks then some (.bool true) else none := rfl
theorem mapB_push (ks : List Int) (n : Int) : setKey (mapB ks) (.i n) (.bool true) = mapB (ks ++ [n]) := by
  funext k
  cases k with
  | i m =>
    simp only [setKey, mapB]
    by_cases h : m = n
    · subst h; simp
    · rw [if_neg (fun e => h (by injection e))]; simp [h]
  | s x => simp [setKey, mapB]
theorem mapB_nil : mapB [] = fun _ => none := by
  funext k
  cases k <;> simp [mapB]
def sShared : Spec := Spec.f2 (kL eI) (kL eI) (fun a b => a.length < 100000000 ∧ b.length < 100000000) (fun a b => tu2 (sL eI (shI a b)) (sL eI (shQ a b)))
theorem okShared : SpecOK Try.prog 30 sShared := by
  refine SpecOK.f2 Try.func30 rfl (by decide) Try.results30 Try.ntmps30 (by decide) fun a b ⟨ha, hb⟩ => ?_
  have hΓ : GOK Try.prog (gam []) := GOK.nil
  refine AW.of hΓ mixed [] _ _ _ rfl ?_
  simp only [go_sem]
  refine AW.round (α := { x : Nat × Nat // x.1 ≤ b.length })
    (fun x => ⟨[(0, sL eI a), (6, .mp 0 0), (16, sL eI b), (17, .val (.int .i64 b.length)), (18, .val (.int .i64 x.1.1))], [(0, .mp 0 false x.1.2 (mapB (b.take x.1.1)))], 46, 1, 1, []⟩) (fun x => b.length - x.1.1) ⟨(0, 0), Nat.zero_le _⟩ ?_ ?_
  · simp only [go_sem]
    exact RowLe.of_eq (by rw [List.take_zero, mapB_nil])
  · rintro ⟨⟨i, n⟩, hi⟩
    simp only at hi
    refine AW.of hΓ mixed [99999] _ _ _ rfl ?_
    simp only [go_sem]
    refine ⟨fun hlt => ⟨by omega, by omega, ⟨(i + 1, if (mapB (b.take i) (Key.i (b.getD i 0))).isSome = true then n else n + 1), by dsimp only; omega⟩, ⟨by dsimp only; omega, RowLe.of_eq (by rw [mapB_push, ← take_snoc' (by omega)])⟩, by dsimp only; omega⟩, fun hge => ?_⟩
    obtain rfl : i = b.length := by omega
    rw [List.take_length]
    refine AW.adopt 9 3 1 (fun _ _ => .any) rfl ?_
    refine AW.adopt 10 3 1 (fun _ _ => .any) rfl ?_
    refine AW.round (α := { x : Nat × Nat × Nat × Nat // x.1 ≤ a.length })
      (fun x => ⟨[(6, .mp 0 0), (9, .ow 1 x.1.2.1 ((a.take x.1.1).filter fun y => b.contains y).length), (10, .ow 2 x.1.2.2.1 (plc (fun y => b.contains y) 0 (a.take x.1.1)).length), (25, sL eI a), (26, .val (.int .i64 a.length)), (27, .val (.int .i64 x.1.1))],
        [(0, .mp 0 false n (mapB b)), (1, rowL x.1.2.1 3 eI ((a.take x.1.1).filter fun y => b.contains y)), (2, rowL x.1.2.2.1 3 eI (plc (fun y => b.contains y) 0 (a.take x.1.1)))], 46, 3, x.1.2.2.2, []⟩) (fun x => a.length - x.1.1) ⟨(0, 1, 2, 3), Nat.zero_le _⟩ ?_ ?_
    · simp only [go_sem]
      exact ⟨⟨rfl, rfl⟩, RowLe.refl _, row_nil (E := eI) rfl, row_nil (E := eI) rfl⟩
    · rintro ⟨⟨j, v1, v2, nx⟩, hj⟩
      simp only at hj
      refine AW.of hΓ mixed [99999] _ _ _ rfl ?_
      simp only [go_sem, mapB_i]
      have l1 : ((a.take j).filter fun y => b.contains y).length ≤ j := Nat.le_trans (List.length_filter_le _ _) (by simp; omega)
      have l2 := plc_len (fun y => b.contains y) 0 (a.take j)
      refine ⟨fun hlt => ⟨by omega, ?_⟩, fun hge => ?_⟩
      · have ht : a.take (j + 1) = a.take j ++ [a.getD j 0] := take_snoc' (by omega)
        have hp := plc_snoc (fun y => b.contains y) (a.getD j 0) 0 (a.take j)
        have hk : (0 : Int) + ((a.take j).length : Int) = j := by simp; omega
        by_cases hm : a.getD j 0 ∈ b
        · have hc : b.contains (a.getD j 0) = true := by simpa using hm
          have e1 : ((a.take (j + 1)).filter fun y => b.contains y) = ((a.take j).filter fun y => b.contains y) ++ [a.getD j 0] := by
            rw [ht, List.filter_append, List.filter_cons_of_pos hc]; rfl
          have e2 : plc (fun y => b.contains y) 0 (a.take (j + 1)) = plc (fun y => b.contains y) 0 (a.take j) ++ [(j : Int)] := by
            rw [ht, hp, if_pos hc, hk]
          rw [if_pos hm]
          simp only [Option.getD_some]
          refine ⟨fun _ => ⟨by omega, by omega, by omega, ⟨(j + 1, nx, nx + 1, nx + 2), by dsimp only; omega⟩, ⟨by dsimp only; omega, ⟨⟨rfl, by dsimp only; rw [e1]; simp⟩, ⟨rfl, by dsimp only; rw [e2]; simp⟩, by dsimp only; omega⟩, RowLe.refl _, ?_, ?_⟩, by dsimp only; omega⟩, fun h => by cases h⟩
          · exact row_app1 (E := eI) rfl e1 rfl rfl rfl (fun _ _ => AVle.refl _)
          · exact row_app1 (E := eI) rfl e2 rfl rfl rfl (fun _ _ => AVle.refl _)
        · have hc : ¬ b.contains (a.getD j 0) = true := by simpa using hm
          have e1 : ((a.take (j + 1)).filter fun y => b.contains y) = ((a.take j).filter fun y => b.contains y) := by
            rw [ht, List.filter_append, List.filter_cons_of_neg hc]; simp
          have e2 : plc (fun y => b.contains y) 0 (a.take (j + 1)) = plc (fun y => b.contains y) 0 (a.take j) := by
            rw [ht, hp, if_neg hc]; simp
          rw [if_neg hm]
          simp only [Option.getD_none]
          refine ⟨fun h => (by cases h), fun _ => ⟨by omega, ⟨(j + 1, v1, v2, nx), by dsimp only; omega⟩, ⟨Nat.le_refl _, ⟨⟨rfl, by dsimp only; rw [e1]⟩, ⟨rfl, by dsimp only; rw [e2]⟩, by dsimp only; omega⟩, RowLe.refl _, by dsimp only; rw [e1]; exact RowLe.refl _, by dsimp only; rw [e2]; exact RowLe.refl _⟩, by dsimp only; omega⟩⟩
      · obtain rfl : j = a.length := by omega
        rw [List.take_length]
        exact ⟨vw_all (E := eI) (l := shI a b) rfl rfl rfl, vw_all (E := eI) (l := shQ a b) rfl rfl rfl⟩
end Go.Proofs.Ytainopabnnglgaa
