/-
  edit: the document's script, text by text.
-/
import Derived.Test.YtpbccamaipekjaaEditU
set_option linter.unusedSimpArgs false
set_option linter.unusedVariables false
set_option maxRecDepth 100000
set_option maxHeartbeats 2000000
namespace Go.Proofs.Ytpbccamaipekjaa
open Go
attribute [local irreducible] AW AVle ASle RowLe
theorem snA1 {α : Type} {E : El α} {l l' : List α} {x d : α} {n z : Nat} {dd : Nat → Nat → AV} (hd : d = E.dflt) (hz : z = E.sz) (hl : l' = l ++ [x]) (hn : n = l.length) (hc : ∀ j, j < z → AVle (dd 0 j) (E.enc x j)) :
    AVle (.sn (n + 1) z (apC n (fun i => E.enc (l.getD i d)) dd)) (sL E l') := by
  subst hd hz hl hn
  unfold sL
  rw [List.length_append, List.length_singleton]
  refine AVle.sn fun i hi j hj => ?_
  simp only [apC]
  by_cases e : i < l.length
  · rw [if_pos e]
    rw [show (l ++ [x]).getD i E.dflt = l.getD i E.dflt by simp [List.getD, List.getElem?_append_left e]]
    exact AVle.refl _
  · obtain rfl : i = l.length := by omega
    rw [if_neg e, Nat.sub_self, show (l ++ [x]).getD l.length E.dflt = x by simp [List.getD]]
    exact hc j hj
theorem apC_flat1 {c d : Nat → Nat → AV} {n j : Nat} (hc : ∀ i, (c i j).flat = true) (hd : (d 0 j).flat = true) {i : Nat} (hi : i < n + 1) : (apC n c d i j).flat = true := by
  simp only [apC]
  by_cases e : i < n
  · rw [if_pos e]
    exact hc i
  · obtain rfl : i = n := by omega
    rw [if_neg e, Nat.sub_self]
    exact hd
theorem one_more {l : List (List UInt8)} {s : List UInt8} : AVle (.sn (l.length + 1) 1 (apC l.length (fun i => eS.enc (l.getD i [])) fun i => [fun _ => AV.st s].getD i fun _ => AV.any)) (sL eS (l ++ [s])) :=
  snA1 (E := eS) rfl rfl rfl rfl fun j hj => AVle.refl _
theorem one_texts {s : List UInt8} : AVle (.sn 1 1 fun i => [fun _ => AV.st s].getD i fun _ => AV.any) (sL eS [s]) := by
  refine AVle.sn fun i hi j hj => ?_
  obtain rfl : i = 0 := by simpa using hi
  exact AVle.refl _
theorem one_same {m : List (Int × List (List UInt8))} {x : Int × List (List UInt8)} {k : Int} {s : List UInt8} {c : Nat → AV} (h0 : c 0 = .val (.int .i64 k)) (h1 : c 1 = .ow 1 2 (x.2.length + 1)) : ∀ i, i < m.length + 1 → ∀ j, j < 2 →
    AVle (fz 1 2 (x.2.length + 1) 1 (apC x.2.length (fun i => eS.enc (x.2.getD i [])) fun i => [fun _ => AV.st s].getD i fun _ => AV.any) (stE (fun i => (eP eI (eL eS)).enc ((m ++ [x]).getD i (0, []))) m.length 0 2 c i j))
      ((eP eI (eL eS)).enc ((m ++ [(k, x.2 ++ [s])]).getD i (0, [])) j) := fun i hi j hj => by
  simp only [stE]
  by_cases e : i = m.length
  · subst e
    rw [if_pos ⟨rfl, by omega, by omega⟩, Nat.sub_zero, snoc_get]
    match j, hj with
    | 0, _ =>
      rw [h0]
      exact AVle.refl _
    | 1, _ =>
      rw [h1]
      simp only [fz, and_self, if_true, Nat.le_refl]
      exact one_more
  · rw [if_neg (fun h => e h.1), snoc_lt (by omega), snoc_lt (by omega)]
    match j, hj with
    | 0, _ => exact AVle.refl _
    | 1, _ => exact AVle.refl _
def sOneE : Spec := Spec.f3 (kL (eP eI (eL eS))) kI kS (fun l k s => l.length < 10000000 ∧ ∀ x ∈ l, x.2.length < 100000000) (fun l k s => sL (eP eI (eL eS)) (putL l k [s]))
theorem okOneE : SpecOK Try.prog 42 sOneE := by
  refine SpecOK.f3 Try.func42 rfl (by decide) Try.results42 Try.ntmps42 (by decide) fun l k s ⟨hl, hs⟩ => ?_
  have hΓ : GOK Try.prog (gam []) := GOK.nil
  have h1 : ¬ [s].length = 0 := by simp
  rcases l.eq_nil_or_concat with rfl | ⟨m, x, hms⟩
  · refine AW.of hΓ mixed [99999] _ _ _ rfl ?_
    simp only [go_sem, st_sz, sp0, sp1, st_d]
    rw [putL_first h1]
    refine ⟨⟨rfl, rfl⟩, snA1 (E := eP eI (eL eS)) (l := []) rfl rfl rfl rfl fun j hj => ?_⟩
    match j, hj with
    | 0, _ => exact AVle.refl _
    | 1, _ => exact one_texts
  · rw [List.concat_eq_append] at hms
    subst hms
    have e1 : (((m.length + 1 : Nat) : Int) - 1) = (m.length : Int) := by omega
    have e2 : (0 < (m.length : Int) + 1) = True := eq_true (by omega)
    have hx := hs x (by simp)
    have hlm : m.length + 1 < 10000000 := by simpa using hl
    refine AW.of hΓ mixed [4, 99999] _ _ _ rfl ?_
    simp only [go_sem, st_sz, sp0, sp1, st_d, snoc_get, e1, e2]
    refine ⟨by omega, fun _ => by omega, fun _ => by omega, fun ⟨_, hk⟩ => ⟨by omega, by omega, by omega, by omega, by omega, by omega, by omega, ?_⟩, fun hk => ⟨by omega, fun i hi => ⟨apC_flat1 (fun _ => rfl) rfl hi, apC_flat1 (fun _ => rfl) rfl hi⟩, ?_⟩⟩
    · refine AW.freeze 1 2 9 1 (x.2.length + 1) _ rfl (fun i hi j hj => apC_flat1 (fun _ => rfl) rfl hi) ?_
      refine AW.cut ⟨[(8, .ow 0 0 (m.length + 1))], [(0, rowL 0 92 (eP eI (eL eS)) (m ++ [(k, x.2 ++ [s])]))], 51, 2, 3, []⟩ ?_ ?_
      · simp only [go_sem, st_sz]
        refine RowLe.sl (by simp) (one_same rfl rfl)
      · rw [putL_same h1 hk]
        refine AW.of hΓ mixed [] _ _ _ rfl ?_
        simp only [go_sem, st_sz]
        exact ⟨fun i hi => ⟨rfl, rfl⟩, vw_all (E := eP eI (eL eS)) rfl rfl (by simp)⟩
    · rw [putL_new h1 (hk (by omega))]
      refine snA1 (E := eP eI (eL eS)) rfl rfl rfl (by simp) fun j hj => ?_
      match j, hj with
      | 0, _ => exact AVle.refl _
      | 1, _ => exact one_texts
end Go.Proofs.Ytpbccamaipekjaa
