/-
  parse: a text's Doc; back from what was printed.
-/
import Derived.Test.YtljgfacjefebaaaDoorParseW
set_option linter.unusedSimpArgs false
set_option linter.unusedVariables false
set_option maxRecDepth 100000
set_option maxHeartbeats 2000000
namespace Go.Proofs.YtljgfacjefebaaaDoor
open Go
attribute [local irreducible] AW AVle ASle RowLe
/-- What is known of a reader in the midst of a text. -/
def InvT (s : BS) (w : Int) (i fr at_ : Nat) (af : Int) (c : Pt) (ps : List Pt) : Prop :=
  i ≤ (splitL s).length ∧ ((splitL s).take i).flatten = s.take at_ ∧ at_ ≤ s.length ∧ fr ≤ at_ ∧ txP c = [] ∧ sumT ps ≤ fr ∧ ps.length ≤ 2 * i ∧
  runR w (splitL s) 0 [] ePt.dflt [] 0 = runR w ((splitL s).drop i) af (nowR (s, fr, at_, af, c, ps)) c ps i
theorem txP_putC (a : Int) (m : Mk) (sd : BS) {c : Pt} (h : txP c = []) : txP (putC a m sd c) = [] := by
  have hp : txP (putS a sd c) = [] := by
    unfold putS
    split
    · exact h
    · split
      · exact h
      · split
        · exact h
        · exact h
  unfold putC
  split
  · rfl
  · split
    · exact hp
    · split
      · exact hp
      · exact hp
theorem take_now {s : BS} {i at_ : Nat} (h : ((splitL s).take i).flatten = s.take at_) (ha : at_ ≤ s.length) (hi : i < (splitL s).length) :
    at_ + ((splitL s).getD i []).length ≤ s.length ∧ s.take (at_ + ((splitL s).getD i []).length) = s.take at_ ++ (splitL s).getD i [] ∧ ((splitL s).take (i + 1)).flatten = s.take (at_ + ((splitL s).getD i []).length) := by
  have e1 : ((splitL s).take (i + 1)).flatten = s.take at_ ++ (splitL s).getD i [] := by
    rw [take_snoc _ [] hi, List.flatten_append, h]
    simp
  have e2 : s = ((splitL s).take (i + 1)).flatten ++ ((splitL s).drop (i + 1)).flatten := by
    rw [← List.flatten_append, List.take_append_drop, splitL_flat]
  rw [e1] at e2
  generalize (splitL s).getD i [] = l at *
  generalize ((splitL s).drop (i + 1)).flatten = r at *
  have hl : (s.take at_).length = at_ := by rw [List.length_take]; omega
  have e3 := congrArg List.length e2
  simp only [List.length_append, hl] at e3
  have e4 : s.take (at_ + l.length) = s.take at_ ++ l := by
    have h5 : (s.take at_ ++ l).length = at_ + l.length := by rw [List.length_append, hl]
    conv => lhs; rw [e2]
    rw [← h5, List.take_left]
  exact ⟨by omega, e4, by rw [e1, e4]⟩
theorem now_more {s : BS} {fr at_ n : Nat} {l : BS} (h : s.take n = s.take at_ ++ l) (hf : fr ≤ at_) (ha : at_ ≤ s.length) : (s.take n).drop fr = (s.take at_).drop fr ++ l := by
  rw [h, List.drop_append_of_le_length (by rw [List.length_take]; omega)]
theorem inv_text {s : BS} {w : Int} {i fr at_ : Nat} {af : Int} {c : Pt} {ps : List Pt} (h : InvT s w i fr at_ af c ps) (hi : i < (splitL s).length) (hr : (readM ((splitL s).getD i []) w).2.1 = false) (he : (readM ((splitL s).getD i []) w).2.2 = 0) :
    InvT s w (i + 1) fr (at_ + ((splitL s).getD i []).length) af c ps := by
  obtain ⟨h1, h2, h3, h4, h5, h6, h7, h8⟩ := h
  obtain ⟨t1, t2, t3⟩ := take_now h2 h3 hi
  refine ⟨hi, t3, t1, by omega, h5, h6, by omega, ?_⟩
  rw [h8, List.drop_eq_getElem_cons hi, ← gd_lt _ [] hi, runR, if_neg (by rw [hr]; simp), if_neg (by rw [he]; simp)]
  congr 1
  exact (now_more t2 h4 h3).symm
theorem inv_mark {s : BS} {w : Int} {i fr at_ : Nat} {af : Int} {c : Pt} {ps : List Pt} (h : InvT s w i fr at_ af c ps) (hi : i < (splitL s).length) (hr : (readM ((splitL s).getD i []) w).2.1 = true)
    (he : (takeR af (nowR (s, fr, at_, af, c, ps)) c ps (readM ((splitL s).getD i []) w).1).1 = 0) :
    InvT s w (i + 1) (at_ + ((splitL s).getD i []).length) (at_ + ((splitL s).getD i []).length) (takeR af (nowR (s, fr, at_, af, c, ps)) c ps (readM ((splitL s).getD i []) w).1).2.1
      (takeR af (nowR (s, fr, at_, af, c, ps)) c ps (readM ((splitL s).getD i []) w).1).2.2.1 (takeR af (nowR (s, fr, at_, af, c, ps)) c ps (readM ((splitL s).getD i []) w).1).2.2.2 := by
  obtain ⟨h1, h2, h3, h4, h5, h6, h7, h8⟩ := h
  obtain ⟨t1, t2, t3⟩ := take_now h2 h3 hi
  have hnl : (nowR (s, fr, at_, af, c, ps)).length = at_ - fr := by
    unfold nowR
    simp only [List.length_drop, List.length_take]
    omega
  have hk : txP (takeR af (nowR (s, fr, at_, af, c, ps)) c ps (readM ((splitL s).getD i []) w).1).2.2.1 = [] ∧ sumT (takeR af (nowR (s, fr, at_, af, c, ps)) c ps (readM ((splitL s).getD i []) w).1).2.2.2 ≤ at_ ∧ (takeR af (nowR (s, fr, at_, af, c, ps)) c ps (readM ((splitL s).getD i []) w).1).2.2.2.length ≤ ps.length + 1 := by
    generalize (readM ((splitL s).getD i []) w).1 = m
    generalize nowR (s, fr, at_, af, c, ps) = now at *
    have h0 : txP c = [] ∧ sumT ps ≤ at_ ∧ ps.length ≤ ps.length + 1 := ⟨h5, by omega, by omega⟩
    unfold takeR
    split
    · exact h0
    · split
      · exact h0
      · split
        · exact h0
        · rename_i sd _
          refine ⟨txP_putC _ _ _ h5, ?_, ?_⟩
          · dsimp only
            unfold putL
            split
            · rw [sumT_app, sumT_one]
              show sumT ps + now.length ≤ at_
              omega
            · split
              · rw [sumT_app, sumT_one, txP_putC _ _ _ h5]
                simp
                omega
              · omega
          · dsimp only
            unfold putL
            split
            · simp
            · split
              · simp
              · omega
  refine ⟨hi, t3, t1, Nat.le_refl _, hk.1, by omega, by omega, ?_⟩
  rw [h8, List.drop_eq_getElem_cons hi, ← gd_lt _ [] hi, runR, if_pos hr, if_neg (by rw [he]; simp)]
  congr 1
  unfold nowR
  simp only
  exact (List.drop_of_length_le (by rw [List.length_take]; omega)).symm
theorem err_text {s : BS} {w : Int} {i fr at_ : Nat} {af : Int} {c : Pt} {ps : List Pt} (h : InvT s w i fr at_ af c ps) (hi : i < (splitL s).length) (hr : (readM ((splitL s).getD i []) w).2.1 = false) (he : (readM ((splitL s).getD i []) w).2.2 ≠ 0) :
    runR w (splitL s) 0 [] ePt.dflt [] 0 = ([], (readM ((splitL s).getD i []) w).2.2, (i : Int) + 1) := by
  rw [h.2.2.2.2.2.2.2, List.drop_eq_getElem_cons hi, ← gd_lt _ [] hi, runR, if_neg (by rw [hr]; simp), if_pos he]
theorem err_mark {s : BS} {w : Int} {i fr at_ : Nat} {af : Int} {c : Pt} {ps : List Pt} (h : InvT s w i fr at_ af c ps) (hi : i < (splitL s).length) (hr : (readM ((splitL s).getD i []) w).2.1 = true)
    (he : (takeR af (nowR (s, fr, at_, af, c, ps)) c ps (readM ((splitL s).getD i []) w).1).1 ≠ 0) :
    runR w (splitL s) 0 [] ePt.dflt [] 0 = ([], (takeR af (nowR (s, fr, at_, af, c, ps)) c ps (readM ((splitL s).getD i []) w).1).1, (i : Int) + 1) := by
  rw [h.2.2.2.2.2.2.2, List.drop_eq_getElem_cons hi, ← gd_lt _ [] hi, runR, if_pos hr, if_pos he]
end Go.Proofs.YtljgfacjefebaaaDoor
