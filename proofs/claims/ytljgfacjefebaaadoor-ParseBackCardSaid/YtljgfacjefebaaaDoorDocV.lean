/-
  doc: the Doc of some parts.
-/
import Derived.Test.YtljgfacjefebaaaDoorDocW
set_option linter.unusedSimpArgs false
set_option linter.unusedVariables false
set_option maxRecDepth 100000
set_option maxHeartbeats 2000000
namespace Go.Proofs.YtljgfacjefebaaaDoor
open Go
attribute [local irreducible] AW AVle ASle RowLe
theorem rangeMap (l : List BS) : (List.range l.length).map (fun i => l.getD i []) = l := by
  refine list_ext_getD [] (by simp) fun t ht => ?_
  simp at ht
  simp [List.getD, ht]
def sWith0 : MSpec := fun args hp top nx K => ∃ (d : List Pt) (v : Nat) (ts : List BS) (u : Nat), args = [.ow 0 v d.length, .ow 1 u ts.length] ∧ hp = rws [(0, rowL v 66 ePt d), (1, rowL u 9 eS ts)] ∧ top = 2 ∧ d.length < 100000000 ∧ okLs ts ∧
  ∀ v' nx', (v' = v ∨ nx ≤ v') → nx ≤ nx' → K (.ow 0 v' (withD d ts).length) (rws [(0, rowL v' 66 ePt (withD d ts)), (1, rowL u 9 eS ts)]) 2 nx'
theorem okWith0 : MethOK Tryd.prog 38 sWith0 := by
  refine MethOK.mk Tryd.func38 rfl (by decide) Tryd.results38 Tryd.ntmps38 ?_
  rintro args hp top nx K ⟨d, v, ts, u, rfl, rfl, rfl, hl, hts, hK⟩
  have hΓ : GOK Tryd.prog (gam [(66, sJoin)]) := (.cons okJoin .nil)
  refine ⟨Nat.le_of_ble_eq_true rfl, AW.late ?_⟩
  refine AW.of hΓ mixed [99999] _ _ _ rfl ?_
  simp only [go_sem, sJoin, rangeMap]
  refine ⟨hts, fun h => ⟨by omega, ?_⟩, fun h => ?_⟩
  · have e : withD d ts = d ++ [textP ts.flatten] := if_neg h
    refine ⟨_, toFitsV (fun p => p) (l := [(4, .ow 0 nx (d.length + 1))]) (r := [(0, rowL nx 66 ePt (withD d ts)), (1, rowL u 9 eS ts)]) (sz := 16) (top := 2) (nx := nx + 1) (df := []) ?_, ?_⟩
    · rw [e]
      simp only [go_sem, sJoin]
      refine ⟨row_app1 (E := ePt) rfl rfl rfl rfl (by simp) fun j hj => ?_, RowLe.refl _⟩
      match j, hj with
      | 0, _ => exact AVle.refl _
      | 1, _ => exact AVle.refl _
      | 2, _ => exact AVle.refl _
      | 3, _ => exact AVle.refl _
      | 4, _ => exact AVle.refl _
      | 5, _ => exact AVle.refl _
      | 6, _ => exact AVle.refl _
      | 7, _ => exact AVle.refl _
      | 8, _ => exact AVle.refl _
    · simp only [go_sem, sJoin]
      have := hK nx (nx + 1) (.inr (Nat.le_refl _)) (by omega)
      rwa [show (withD d ts).length = d.length + 1 by rw [e]; simp] at this
  · have e : withD d ts = d := if_pos (Decidable.not_not.1 h)
    refine ⟨_, ASle.refl _, ?_⟩
    simp only [go_sem, sJoin]
    have := hK v nx (.inl rfl) (Nat.le_refl _)
    rwa [e] at this
def sWith : MSpec := framed sWith0
theorem okWith : MethOK Tryd.prog 38 sWith := okWith0.frame
theorem rows_two {hp : Nat → Row} {p q : Nat} {r s : Row} (h : RowLe (hp p) r) (h2 : RowLe (hp q) s) : ∀ (i o : Nat), [p, q][i]? = some o → RowLe (hp o) (rws [(0, r), (1, s)] i) := by
  intro i o hq
  match i with
  | 0 =>
    simp only [List.getElem?_cons_zero, Option.some.injEq] at hq
    subst hq
    exact h
  | 1 =>
    simp only [List.getElem?_cons_succ, List.getElem?_cons_zero, Option.some.injEq] at hq
    subst hq
    exact h2
  | i + 2 => simp at hq
theorem with_go {d : List Pt} {ts : List BS} {p q v u n m : Nat} {hp : Nat → Row} {top nx : Nat} {K : AV → (Nat → Row) → Nat → Nat → Prop} (hn : n = d.length) (hm : m = ts.length) (hpq : p ≠ q)
    (hr : RowLe (hp p) (rowL v 66 ePt d)) (hr2 : RowLe (hp q) (rowL u 9 eS ts)) (ht : p < top ∧ q < top) (hl : d.length < 100000000) (hts : okLs ts)
    (hK : ∀ v' nx', nx ≤ nx' → K (.ow p v' (withD d ts).length) (updR (updR hp p (rowL v' 66 ePt (withD d ts))) q (rowL u 9 eS ts)) top nx') :
    sWith [.ow p v n, .ow q u m] hp top nx K := by
  subst hn hm
  have e1 : (hp p).ver = some v := hr.vers.symm
  have e2 : (hp q).ver = some u := hr2.vers.symm
  refine ⟨[p, q], [.ow 0 v d.length, .ow 1 u ts.length], rws [(0, rowL v 66 ePt d), (1, rowL u 9 eS ts)], by simp [hpq], by simp; omega, .cons AVle.ow (.cons AVle.ow .nil), rows_two hr hr2, fun i hi => rws_top (top := 2) (by simp) i (by simpa using hi), d, v, ts, u, rfl, rfl, rfl, hl, hts, fun v' nx' h1 h3 => ?_⟩
  refine ⟨.ow p v' (withD d ts).length, _, AVle.ow, fun i o ho => ?_, fun o ho => ?_, fun o ho w hv => ?_, hK v' nx' h3⟩
  · match i with
    | 0 =>
      simp only [List.getElem?_cons_zero, Option.some.injEq] at ho
      subst ho
      rw [updR_ne _ _ hpq, updR_at]
      exact RowLe.refl _
    | 1 =>
      simp only [List.getElem?_cons_succ, List.getElem?_cons_zero, Option.some.injEq] at ho
      subst ho
      rw [updR_at]
      exact RowLe.refl _
    | i + 2 => simp at ho
  · simp only [List.mem_cons, List.not_mem_nil, or_false, not_or] at ho
    rw [updR_ne _ _ ho.2, updR_ne _ _ ho.1]
  · simp only [List.mem_cons, List.not_mem_nil, or_false] at ho
    rcases ho with rfl | rfl
    · rw [updR_ne _ _ hpq, updR_at] at hv
      have : some v' = some w := hv
      obtain rfl := Option.some.inj this
      rcases h1 with rfl | h1
      · exact .inl e1
      · exact .inr h1
    · rw [updR_at] at hv
      have : some u = some w := hv
      obtain rfl := Option.some.inj this
      exact .inl e2
theorem with_len (d : List Pt) (ts : List BS) : (withD d ts).length ≤ d.length + ts.length := by
  unfold withD
  split
  · omega
  · rename_i h
    have : 0 < ts.length := List.length_pos_iff.2 fun e => h (by rw [e]; rfl)
    simp only [List.length_append, List.length_cons, List.length_nil]
    omega
def sOfD : Spec := Spec.f1 (kL ePt) (fun l => l.length < 100000000 ∧ sumT l ≤ 1000000000) (fun l => sL ePt (ofD l))
theorem okOfD : SpecOK Tryd.prog 13 sOfD := by
  refine SpecOK.f1 Tryd.func13 rfl (by decide) Tryd.results13 Tryd.ntmps13 (by decide) fun l ⟨hl, hs⟩ => ?_
  have hΓ : GOK Tryd.prog (gam [(37, sIsText), (38, sWith)]) := (.cons okIsText (.cons okWith .nil))
  refine AW.of hΓ mixed [2, 200008] _ _ _ rfl ?_
  simp only [go_sem, sIsText, sWith]
  refine AW.adopt 3 66 9 (fun i => ePt.enc (([] : List Pt).getD i ePt.dflt)) rfl ?_
  refine AW.adopt 4 9 1 (fun i => eS.enc (([] : List BS).getD i [])) rfl ?_
  refine AW.of hΓ mixed [3, 200008] _ _ _ rfl ?_
  simp only [go_sem, sIsText, sWith]
  refine AW.block (AW.roundL (α := { x : Nat × List Pt × List BS × Nat × Nat × Nat // x.1 ≤ l.length ∧ ofD l = ofGo (l.drop x.1) x.2.1 x.2.2.1 ∧ x.2.1.length + x.2.2.1.length ≤ x.1 ∧ x.2.2.1.length ≤ x.1 ∧ x.2.2.1.flatten.length ≤ sumT (l.take x.1) })
    (fun x => (Sh.mk [(3, .ow 0 x.1.2.2.2.1 x.1.2.1.length), (4, .ow 1 x.1.2.2.2.2.1 x.1.2.2.1.length), (7, sL ePt l), (8, .val (.int .i64 l.length)), (9, .val (.int .i64 x.1.1))]
      [(0, rowL x.1.2.2.2.1 66 ePt x.1.2.1), (1, rowL x.1.2.2.2.2.1 9 eS x.1.2.2.1)] 30 2 x.1.2.2.2.2.2 []).st) (fun x => l.length - x.1.1) ⟨(0, [], [], 0, 1, 2), Nat.zero_le _, rfl, by simp, by simp, by simp⟩ ?_ ?_)
  · refine Sh.fitsV.le (σ := fun p => p) ?_
    simp only [go_sem, sIsText, sWith]
    exact ⟨RowLe.refl _, RowLe.refl _⟩
  · rintro ⟨⟨i, d, ts, v, u, nx⟩, hi, he, hd, ht, hs2⟩
    simp only at hi he hd ht hs2
    refine AW.of hΓ mixed [5, 99999, 200008] _ _ _ rfl ?_
    simp only [go_sem, sIsText, sWith]
    have hst := sumT_take l i
    refine ⟨fun hil => ⟨by omega, ?_⟩, fun hil => ?_⟩
    · have hlt : i < l.length := by omega
      have hdr : l.drop i = l.getD i ePt.dflt :: l.drop (i + 1) := by
        rw [List.drop_eq_getElem_cons hlt, ← gd_lt l ePt.dflt hlt]
      have hsum : sumT (l.take (i + 1)) = sumT (l.take i) + (txP (l.getD i ePt.dflt)).length := by
        rw [take_snoc l ePt.dflt hlt, sumT_app, sumT_one]
      have hst1 := sumT_take l (i + 1)
      rw [hdr, ofGo] at he
      generalize hpe : l.getD i ePt.dflt = p at *
      refine AW.cut ⟨[(3, .ow 0 v d.length), (4, .ow 1 u ts.length), (6, .pt 2 nx 0), (7, sL ePt l), (8, .val (.int .i64 l.length)), (9, .val (.int .i64 i))],
        [(0, rowL v 66 ePt d), (1, rowL u 9 eS ts), (2, .box nx 66 9 (ePt.enc p))], 30, 3, nx + 1, []⟩ ?_ ?_
      · simp only [go_sem, sIsText, sWith]
        exact ⟨RowLe.refl _, RowLe.refl _, RowLe.box fun j hj => AVle.of_eq (stC_in (Nat.zero_le _) (by omega))⟩
      refine AW.still 6 2 nx 66 9 _ rfl rfl (fun j hj => match j, hj with | 0, _ => rfl | 1, _ => rfl | 2, _ => rfl | 3, _ => rfl | 4, _ => rfl | 5, _ => rfl | 6, _ => rfl | 7, _ => rfl | 8, _ => rfl) ?_
      refine AW.of hΓ mixed [99999, 200008] _ _ _ rfl ?_
      simp only [go_sem, sIsText, sWith, pt_eta]
      refine ⟨fun hp => ⟨by omega, by omega, ⟨(i + 1, d, ts ++ [txP p], v, nx + 1, nx + 1 + 1), by dsimp only; omega, ?_, by simp; omega, by simp; omega, ?_⟩, ?_, by dsimp only; omega⟩, fun hp => ?_⟩
      · dsimp only
        rw [he, if_pos hp]
      · dsimp only
        rw [hsum, List.flatten_append, List.length_append]
        exact Nat.add_le_add hs2 (by simp)
      · refine toFitsV (fun p => p) ?_
        simp only [go_sem, sIsText, sWith]
        refine ⟨by omega, RowLe.refl _, ?_⟩
        exact row_app1 (E := eS) rfl rfl rfl rfl (by simp) fun j hj => AVle.refl _
      · rw [if_neg (by simp [hp])] at he
        refine AW.drawZ hΓ mixed 2 [3, 4] [3, 4] [] (by decide +kernel) ?_
        simp only [go_sem, sIsText, sWith]
        have hwl := with_len d ts
        refine with_go rfl rfl (by decide) (RowLe.refl _) (RowLe.refl _) (by decide) (by omega) ⟨by omega, by omega⟩ fun v1 n1 h1 => ?_
        generalize withD d ts = w at *
        simp only [go_sem, sIsText, sWith]
        refine ⟨by omega, by omega, ⟨(i + 1, w ++ [p], [], n1, n1 + 1, n1 + 2), by dsimp only; omega, he, by simp; omega, by simp, by simp⟩, ?_, by dsimp only; omega⟩
        refine (ASle.adopt (s := 4) 9 1 (fun i => eS.enc (([] : List BS).getD i [])) rfl).trans (toFitsV (fun p => if p = 1 then 3 else p) ?_)
        simp only [go_sem, sIsText, sWith]
        exact ⟨by omega, row_app1 (E := ePt) rfl rfl rfl rfl (by simp) fun j hj => AVle.refl _, RowLe.refl _⟩
    · obtain rfl : i = l.length := by omega
      rw [List.drop_length, ofGo] at he
      have hwl := with_len d ts
      refine with_go rfl rfl (by decide) (RowLe.refl _) (RowLe.refl _) (by decide) (by omega) ⟨by omega, by omega⟩ fun v1 n1 h1 => ?_
      generalize withD d ts = w at *
      simp only [go_sem, sIsText, sWith]
      rw [he]
      exact vw_all (E := ePt) rfl rfl rfl
end Go.Proofs.YtljgfacjefebaaaDoor
