/-
  Part 4 of what the proof rests on: values that are told, code that is walked, what comes out.
-/
import Derived.Test.YtnhfobhdbablaaaMb3
import Derived.Lib.AppendStr
import Derived.ProofKit
import Derived.OpenShut
import Derived.SizedLaws
import Derived.Laws.Runes
import Derived.Laws.BytesArg
set_option linter.unusedSimpArgs false
set_option linter.unusedVariables false
set_option maxRecDepth 100000
set_option maxHeartbeats 2000000
namespace Go.Proofs.Ytnhfobhdbablaaa
open Go
attribute [local irreducible] AW AVle ASle RowLe
theorem rangeMap (l : List BS) : (List.range l.length).map (fun i => l.getD i []) = l := by
  refine list_ext_getD [] (by simp) fun t ht => ?_
  simp at ht
  simp [List.getD, ht]
def sWith0 : MSpec := fun args hp top nx K => ∃ (d : List Pt) (v : Nat) (ts : List BS) (u : Nat), args = [.ow 0 v d.length, .ow 1 u ts.length] ∧ hp = rws [(0, rowL v 62 ePt d), (1, rowL u 9 eS ts)] ∧ top = 2 ∧ d.length < 100000000 ∧ okLs ts ∧
  ∀ v' nx', (v' = v ∨ nx ≤ v') → nx ≤ nx' → K (.ow 0 v' (withD d ts).length) (rws [(0, rowL v' 62 ePt (withD d ts)), (1, rowL u 9 eS ts)]) 2 nx'
theorem okWith0 : MethOK Try.prog 77 sWith0 := by
  refine MethOK.mk Try.func77 rfl (by decide) Try.results77 Try.ntmps77 ?_
  rintro args hp top nx K ⟨d, v, ts, u, rfl, rfl, rfl, hl, hts, hK⟩
  have hΓ : GOK Try.prog (gam [(75, sJoin)]) := (.cons okJoin .nil)
  refine ⟨Nat.le_of_ble_eq_true rfl, AW.late ?_⟩
  refine AW.of hΓ mixed [99999] _ _ _ rfl ?_
  simp only [go_sem, sJoin, rangeMap]
  refine ⟨hts, fun h => ⟨by omega, ?_⟩, fun h => ?_⟩
  · have e : withD d ts = d ++ [textP ts.flatten] := if_neg h
    refine ⟨_, toFitsV (fun p => p) (l := [(4, .ow 0 nx (d.length + 1))]) (r := [(0, rowL nx 62 ePt (withD d ts)), (1, rowL u 9 eS ts)]) (sz := 16) (top := 2) (nx := nx + 1) (df := []) ?_, ?_⟩
    · rw [e]
      simp only [go_sem, sJoin]
      refine ⟨row_app1 (E := ePt) rfl rfl rfl rfl (by simp) fun j hj => ?_, RowLe.refl _⟩
      match j, hj with
      | 0, _ => exact AVle.refl _
      | 1, _ => exact AVle.refl _
      | 2, _ => exact AVle.refl _
      | 3, _ => exact AVle.refl _
      | 4, _ => exact AVle.refl _
      | 5, _ => exact AVle.refl _
      | 6, _ => exact AVle.refl _
      | 7, _ => exact AVle.refl _
      | 8, _ => exact AVle.refl _
    · simp only [go_sem, sJoin]
      have := hK nx (nx + 1) (.inr (Nat.le_refl _)) (by omega)
      rwa [show (withD d ts).length = d.length + 1 by rw [e]; simp] at this
  · have e : withD d ts = d := if_pos (Decidable.not_not.1 h)
    refine ⟨_, ASle.refl _, ?_⟩
    simp only [go_sem, sJoin]
    have := hK v nx (.inl rfl) (Nat.le_refl _)
    rwa [e] at this
def sWith : MSpec := framed sWith0
theorem okWith : MethOK Try.prog 77 sWith := okWith0.frame
theorem rows_two {hp : Nat → Row} {p q : Nat} {r s : Row} (h : RowLe (hp p) r) (h2 : RowLe (hp q) s) : ∀ (i o : Nat), [p, q][i]? = some o → RowLe (hp o) (rws [(0, r), (1, s)] i) := by
  intro i o hq
  match i with
  | 0 =>
    simp only [List.getElem?_cons_zero, Option.some.injEq] at hq
    subst hq
    exact h
  | 1 =>
    simp only [List.getElem?_cons_succ, List.getElem?_cons_zero, Option.some.injEq] at hq
    subst hq
    exact h2
  | i + 2 => simp at hq
theorem with_go {d : List Pt} {ts : List BS} {p q v u n m : Nat} {hp : Nat → Row} {top nx : Nat} {K : AV → (Nat → Row) → Nat → Nat → Prop} (hn : n = d.length) (hm : m = ts.length) (hpq : p ≠ q)
    (hr : RowLe (hp p) (rowL v 62 ePt d)) (hr2 : RowLe (hp q) (rowL u 9 eS ts)) (ht : p < top ∧ q < top) (hl : d.length < 100000000) (hts : okLs ts)
    (hK : ∀ v' nx', nx ≤ nx' → K (.ow p v' (withD d ts).length) (updR (updR hp p (rowL v' 62 ePt (withD d ts))) q (rowL u 9 eS ts)) top nx') :
    sWith [.ow p v n, .ow q u m] hp top nx K := by
  subst hn hm
  have e1 : (hp p).ver = some v := hr.vers.symm
  have e2 : (hp q).ver = some u := hr2.vers.symm
  refine ⟨[p, q], [.ow 0 v d.length, .ow 1 u ts.length], rws [(0, rowL v 62 ePt d), (1, rowL u 9 eS ts)], by simp [hpq], by simp; omega, .cons AVle.ow (.cons AVle.ow .nil), rows_two hr hr2, fun i hi => rws_top (top := 2) (by simp) i (by simpa using hi), d, v, ts, u, rfl, rfl, rfl, hl, hts, fun v' nx' h1 h3 => ?_⟩
  refine ⟨.ow p v' (withD d ts).length, _, AVle.ow, fun i o ho => ?_, fun o ho => ?_, fun o ho w hv => ?_, hK v' nx' h3⟩
  · match i with
    | 0 =>
      simp only [List.getElem?_cons_zero, Option.some.injEq] at ho
      subst ho
      rw [updR_ne _ _ hpq, updR_at]
      exact RowLe.refl _
    | 1 =>
      simp only [List.getElem?_cons_succ, List.getElem?_cons_zero, Option.some.injEq] at ho
      subst ho
      rw [updR_at]
      exact RowLe.refl _
    | i + 2 => simp at ho
  · simp only [List.mem_cons, List.not_mem_nil, or_false, not_or] at ho
    rw [updR_ne _ _ ho.2, updR_ne _ _ ho.1]
  · simp only [List.mem_cons, List.not_mem_nil, or_false] at ho
    rcases ho with rfl | rfl
    · rw [updR_ne _ _ hpq, updR_at] at hv
      have : some v' = some w := hv
      obtain rfl := Option.some.inj this
      rcases h1 with rfl | h1
      · exact .inl e1
      · exact .inr h1
    · rw [updR_at] at hv
      have : some u = some w := hv
      obtain rfl := Option.some.inj this
      exact .inl e2
theorem with_len (d : List Pt) (ts : List BS) : (withD d ts).length ≤ d.length + ts.length := by
  unfold withD
  split
  · omega
  · rename_i h
    have : 0 < ts.length := List.length_pos_iff.2 fun e => h (by rw [e]; rfl)
    simp only [List.length_append, List.length_cons, List.length_nil]
    omega
def sOfD : Spec := Spec.f1 (kL ePt) (fun l => l.length < 100000000 ∧ sumT l ≤ 1000000000) (fun l => sL ePt (ofD l))
theorem okOfD : SpecOK Try.prog 47 sOfD := by
  refine SpecOK.f1 Try.func47 rfl (by decide) Try.results47 Try.ntmps47 (by decide) fun l ⟨hl, hs⟩ => ?_
  have hΓ : GOK Try.prog (gam [(76, sIsText), (77, sWith)]) := (.cons okIsText (.cons okWith .nil))
  refine AW.of hΓ mixed [2, 200008] _ _ _ rfl ?_
  simp only [go_sem, sIsText, sWith]
  refine AW.adopt 3 62 9 (fun i => ePt.enc (([] : List Pt).getD i ePt.dflt)) rfl ?_
  refine AW.adopt 4 9 1 (fun i => eS.enc (([] : List BS).getD i [])) rfl ?_
  refine AW.of hΓ mixed [3, 200008] _ _ _ rfl ?_
  simp only [go_sem, sIsText, sWith]
  refine AW.block (AW.roundL (α := { x : Nat × List Pt × List BS × Nat × Nat × Nat // x.1 ≤ l.length ∧ ofD l = ofGo (l.drop x.1) x.2.1 x.2.2.1 ∧ x.2.1.length + x.2.2.1.length ≤ x.1 ∧ x.2.2.1.length ≤ x.1 ∧ x.2.2.1.flatten.length ≤ sumT (l.take x.1) })
    (fun x => (Sh.mk [(3, .ow 0 x.1.2.2.2.1 x.1.2.1.length), (4, .ow 1 x.1.2.2.2.2.1 x.1.2.2.1.length), (7, sL ePt l), (8, .val (.int .i64 l.length)), (9, .val (.int .i64 x.1.1))]
      [(0, rowL x.1.2.2.2.1 62 ePt x.1.2.1), (1, rowL x.1.2.2.2.2.1 9 eS x.1.2.2.1)] 30 2 x.1.2.2.2.2.2 []).st) (fun x => l.length - x.1.1) ⟨(0, [], [], 0, 1, 2), Nat.zero_le _, rfl, by simp, by simp, by simp⟩ ?_ ?_)
  · refine Sh.fitsV.le (σ := fun p => p) ?_
    simp only [go_sem, sIsText, sWith]
    exact ⟨RowLe.refl _, RowLe.refl _⟩
  · rintro ⟨⟨i, d, ts, v, u, nx⟩, hi, he, hd, ht, hs2⟩
    simp only at hi he hd ht hs2
    refine AW.of hΓ mixed [5, 99999, 200008] _ _ _ rfl ?_
    simp only [go_sem, sIsText, sWith]
    have hst := sumT_take l i
    refine ⟨fun hil => ⟨by omega, ?_⟩, fun hil => ?_⟩
    · have hlt : i < l.length := by omega
      have hdr : l.drop i = l.getD i ePt.dflt :: l.drop (i + 1) := by
        rw [List.drop_eq_getElem_cons hlt, ← gd_lt l ePt.dflt hlt]
      have hsum : sumT (l.take (i + 1)) = sumT (l.take i) + (txP (l.getD i ePt.dflt)).length := by
        rw [take_snoc l ePt.dflt hlt, sumT_app, sumT_one]
      have hst1 := sumT_take l (i + 1)
      rw [hdr, ofGo] at he
      generalize hpe : l.getD i ePt.dflt = p at *
      refine AW.cut ⟨[(3, .ow 0 v d.length), (4, .ow 1 u ts.length), (6, .pt 2 nx 0), (7, sL ePt l), (8, .val (.int .i64 l.length)), (9, .val (.int .i64 i))],
        [(0, rowL v 62 ePt d), (1, rowL u 9 eS ts), (2, .box nx 62 9 (ePt.enc p))], 30, 3, nx + 1, []⟩ ?_ ?_
      · simp only [go_sem, sIsText, sWith]
        exact ⟨RowLe.refl _, RowLe.refl _, RowLe.box fun j hj => AVle.of_eq (stC_in (Nat.zero_le _) (by omega))⟩
      refine AW.still 6 2 nx 62 9 _ rfl rfl (fun j hj => match j, hj with | 0, _ => rfl | 1, _ => rfl | 2, _ => rfl | 3, _ => rfl | 4, _ => rfl | 5, _ => rfl | 6, _ => rfl | 7, _ => rfl | 8, _ => rfl) ?_
      refine AW.of hΓ mixed [99999, 200008] _ _ _ rfl ?_
      simp only [go_sem, sIsText, sWith, pt_eta]
      refine ⟨fun hp => ⟨by omega, by omega, ⟨(i + 1, d, ts ++ [txP p], v, nx + 1, nx + 1 + 1), by dsimp only; omega, ?_, by simp; omega, by simp; omega, ?_⟩, ?_, by dsimp only; omega⟩, fun hp => ?_⟩
      · dsimp only
        rw [he, if_pos hp]
      · dsimp only
        rw [hsum, List.flatten_append, List.length_append]
        exact Nat.add_le_add hs2 (by simp)
      · refine toFitsV (fun p => p) ?_
        simp only [go_sem, sIsText, sWith]
        refine ⟨by omega, RowLe.refl _, ?_⟩
        exact row_app1 (E := eS) rfl rfl rfl rfl (by simp) fun j hj => AVle.refl _
      · rw [if_neg (by simp [hp])] at he
        refine AW.drawZ hΓ mixed 2 [3, 4] [3, 4] [] (by decide +kernel) ?_
        simp only [go_sem, sIsText, sWith]
        have hwl := with_len d ts
        refine with_go rfl rfl (by decide) (RowLe.refl _) (RowLe.refl _) (by decide) (by omega) ⟨by omega, by omega⟩ fun v1 n1 h1 => ?_
        generalize withD d ts = w at *
        simp only [go_sem, sIsText, sWith]
        refine ⟨by omega, by omega, ⟨(i + 1, w ++ [p], [], n1, n1 + 1, n1 + 2), by dsimp only; omega, he, by simp; omega, by simp, by simp⟩, ?_, by dsimp only; omega⟩
        refine (ASle.adopt (s := 4) 9 1 (fun i => eS.enc (([] : List BS).getD i [])) rfl).trans (toFitsV (fun p => if p = 1 then 3 else p) ?_)
        simp only [go_sem, sIsText, sWith]
        exact ⟨by omega, row_app1 (E := ePt) rfl rfl rfl rfl (by simp) fun j hj => AVle.refl _, RowLe.refl _⟩
    · obtain rfl : i = l.length := by omega
      rw [List.drop_length, ofGo] at he
      have hwl := with_len d ts
      refine with_go rfl rfl (by decide) (RowLe.refl _) (RowLe.refl _) (by decide) (by omega) ⟨by omega, by omega⟩ fun v1 n1 h1 => ?_
      generalize withD d ts = w at *
      simp only [go_sem, sIsText, sWith]
      rw [he]
      exact vw_all (E := ePt) rfl rfl rfl
end Go.Proofs.Ytnhfobhdbablaaa
set_option linter.unusedSimpArgs false
set_option linter.unusedVariables false
set_option maxRecDepth 100000
set_option maxHeartbeats 2000000
namespace Go.Proofs.Ytnhfobhdbablaaa
open Go
attribute [local irreducible] AW AVle ASle RowLe
abbrev eFl : El Fl := eP (eL eS) (eP (eL eS) (eL eS))
/-- Texts that are small enough. -/
def okFl (f : Fl) : Prop := (f.1.length ≤ 10000 ∧ f.1.flatten.length ≤ 10000) ∧ (f.2.1.length ≤ 10000 ∧ f.2.1.flatten.length ≤ 10000) ∧ f.2.2.length ≤ 10000 ∧ f.2.2.flatten.length ≤ 10000
def sIsSty : Spec := Spec.f1 kI (fun _ => True) (fun n => kB.enc (styOK n))
theorem okIsSty : SpecOK Try.prog 40 sIsSty := by
  refine SpecOK.f1 Try.func40 rfl (by decide) Try.results40 Try.ntmps40 (by decide) fun n _ => ?_
  have hΓ : GOK Try.prog (gam []) := GOK.nil
  refine AW.of hΓ mixed [] _ _ _ rfl ?_
  simp only [go_sem]
  refine ⟨fun h => by rw [decide_eq_false h]; rfl, fun h => by rw [h]; rfl, ?_⟩
  unfold styOK
  rw [Bool.or_assoc]
def sIsFav : Spec := Spec.f1 kI (fun _ => True) (fun n => kB.enc (favOK n))
theorem okIsFav : SpecOK Try.prog 41 sIsFav := by
  refine SpecOK.f1 Try.func41 rfl (by decide) Try.results41 Try.ntmps41 (by decide) fun n _ => ?_
  have hΓ : GOK Try.prog (gam []) := GOK.nil
  refine AW.of hΓ mixed [] _ _ _ rfl ?_
  simp only [go_sem]
  refine ⟨fun h => by rw [decide_eq_false h]; rfl, fun h => by rw [h]; rfl, ?_⟩
  unfold favOK
  rw [Bool.or_assoc]
def sTextB : Spec := Spec.f1 (kL eS) okLs (fun l => (kA ePt).enc (textP l.flatten))
theorem okTextB : SpecOK Try.prog 45 sTextB := by
  refine SpecOK.f1 Try.func45 rfl (by decide) Try.results45 Try.ntmps45 (by decide) fun l hl => ?_
  have hΓ : GOK Try.prog (gam [(75, sJoin)]) := (.cons okJoin .nil)
  refine AW.of hΓ mixed [] _ _ _ rfl ?_
  simp only [go_sem, sJoin]
  exact ⟨hl, pt_le rfl rfl rfl rfl rfl rfl rfl rfl rfl⟩
def sSideB : Spec := Spec.f4 (kA eFl) (kA eCk) kI kI (fun f _ _ _ => okFl f) (fun f c k v => sL eS (sideF f c k v))
theorem okSideB : SpecOK Try.prog 46 sSideB := by
  refine SpecOK.f4 Try.func46 rfl (by decide) Try.results46 Try.ntmps46 (by decide) fun f c k v ⟨hf1, hf2, hf3⟩ => ?_
  have hΓ : GOK Try.prog (gam [(73, sCutK)]) := (.cons okCutK .nil)
  obtain ⟨fb, fl, fr⟩ := f
  obtain ⟨cs, ⟨cb1, cb2⟩, ⟨cl1, cl2⟩, cr1, cr2⟩ := c
  dsimp only at hf1 hf2 hf3
  unfold sideF cutB cutT cutO
  refine AW.of hΓ mixed [99999] _ _ _ rfl ?_
  simp only [go_sem, sCutK]
  refine ⟨fun h => ⟨by omega, by rw [if_pos h]; exact AVle.refl _⟩, fun h => ⟨fun h2 => ⟨by omega, by rw [if_neg h, if_pos h2]; exact AVle.refl _⟩, fun h2 => ⟨fun h3 => ⟨fun h4 => ⟨by omega, by rw [if_neg h, if_neg h2, if_pos ⟨h3, h4⟩]; exact AVle.refl _⟩, fun h4 => ⟨by omega, by rw [if_neg h, if_neg h2, if_neg fun e => h4 e.2]; exact AVle.refl _⟩⟩, fun h3 => ⟨by omega, by rw [if_neg h, if_neg h2, if_neg fun e => h3 e.1]; exact AVle.refl _⟩⟩⟩⟩
def sHoistB : Spec := Spec.f2 (kL eS) (kL eS) (fun a b => a.length < 1000000000 ∧ b.length < 1000000000) (fun a b => tu2 (kI.enc (ahd a b)) (kI.enc (bhd (a.drop (ahd a b)) (b.drop (ahd a b)))))
theorem okHoistB : SpecOK Try.prog 25 sHoistB := by
  refine SpecOK.f2 Try.func25 rfl (by decide) Try.results25 Try.ntmps25 (by decide) fun a b ⟨ha, hb⟩ => ?_
  have hΓ : GOK Try.prog (gam [(55, sEndsS)]) := (.cons okEndsS .nil)
  refine AW.of hΓ mixed [] _ _ _ rfl ?_
  simp only [go_sem, sEndsS]
  exact ⟨ha, hb⟩
theorem sub_flat {a b : List BS} (h : a.Sublist b) : a.flatten.length ≤ b.flatten.length := by
  induction h with
  | slnil => exact Nat.le_refl _
  | cons x _ ih => rw [List.flatten_cons, List.length_append]; omega
  | cons_cons x _ ih => rw [List.flatten_cons, List.flatten_cons, List.length_append, List.length_append]; omega
theorem okLs_sub {a b : List BS} (h : a.Sublist b) (h1 : b.length ≤ 10000) (h2 : b.flatten.length ≤ 10000) : okLs a := by
  have := h.length_le
  have := sub_flat h
  exact ⟨by omega, by omega⟩
theorem cutS_sub (s : Sp) (l : List BS) : (cutS s l).Sublist l := by
  unfold cutS
  split
  · exact List.nil_sublist _
  · exact (List.drop_sublist _ _).trans (List.take_sublist _ _)
theorem pt_box {ver ety : Nat} {ll bl rl : BS} {h : Bool} {t l b r : BS} {hb : Bool} {c : Nat → AV} (h0 : c 0 = .st ll) (h1 : c 1 = .st bl) (h2 : c 2 = .st rl) (h3 : c 3 = .val (.bool h)) (h4 : c 4 = .st t) (h5 : c 5 = .st l) (h6 : c 6 = .st b) (h7 : c 7 = .st r) (h8 : c 8 = .val (.bool hb)) :
    RowLe (.box ver ety 9 c) (.box ver ety 9 (ePt.enc (ll, bl, rl, h, t, l, b, r, hb))) :=
  RowLe.box fun j hj => AVle.of_eq (match j, hj with
    | 0, _ => h0
    | 1, _ => h1
    | 2, _ => h2
    | 3, _ => h3
    | 4, _ => h4
    | 5, _ => h5
    | 6, _ => h6
    | 7, _ => h7
    | 8, _ => h8)
theorem sn_parts {l : List (Nat → AV)} {L : List Pt} {n : Nat} (hn : n = L.length) (h : ∀ i, i < n → ∀ j, j < 9 → AVle (l.getD i (fun _ => .any) j) (ePt.enc (L.getD i ePt.dflt) j)) : AVle (.sn n 9 fun i => l.getD i fun _ => .any) (sL ePt L) := by
  subst hn
  exact AVle.sn h
def sConflB : Spec := Spec.f4 (kA eFl) (kA eCk) kI (kA eLb) (fun f _ _ _ => okFl f) (fun f c st lb => sL ePt (confL f c st lb))
theorem okConflB : SpecOK Try.prog 44 sConflB := by
  refine SpecOK.f4 Try.func44 rfl (by decide) Try.results44 Try.ntmps44 (by decide) fun f c st lb ⟨hf1, hf2, hf3⟩ => ?_
  have hΓ : GOK Try.prog (gam [(73, sCutK), (25, sHoistB), (75, sJoin), (45, sTextB)]) := (.cons okCutK (.cons okHoistB (.cons okJoin (.cons okTextB .nil))))
  obtain ⟨fb, fl, fr⟩ := f
  obtain ⟨cs, ⟨cb1, cb2⟩, ⟨cl1, cl2⟩, cr1, cr2⟩ := c
  obtain ⟨lb1, lb2, lb3⟩ := lb
  dsimp only at hf1 hf2 hf3
  refine AW.of hΓ mixed [0] _ _ _ rfl ?_
  simp only [go_sem, sCutK, sHoistB, sJoin, sTextB]
  refine AW.still 4 0 0 35 3 _ rfl rfl (fun j hj => match j, hj with | 0, _ => rfl | 1, _ => rfl | 2, _ => rfl) ?_
  refine AW.still 5 1 1 88 7 _ rfl rfl (fun j hj => match j, hj with | 0, _ => rfl | 1, _ => rfl | 2, _ => rfl | 3, _ => rfl | 4, _ => rfl | 5, _ => rfl | 6, _ => rfl) ?_
  refine AW.still 7 2 2 45 3 _ rfl rfl (fun j hj => match j, hj with | 0, _ => rfl | 1, _ => rfl | 2, _ => rfl) ?_
  have g1 := cutS_sub (cb1, cb2) fb
  have g2 := cutS_sub (cl1, cl2) fl
  have g3 := cutS_sub (cr1, cr2) fr
  unfold confL confP cutO cutT cutB
  refine AW.of hΓ mixed [2] _ _ _ rfl ?_
  simp only [go_sem, sCutK, sHoistB, sJoin, sTextB]
  refine ⟨by omega, by omega, ?_⟩
  generalize cutS (cl1, cl2) fl = O at *
  generalize cutS (cr1, cr2) fr = T at *
  have hO := okLs_sub g2 hf2.1 hf2.2
  have hT := okLs_sub g3 hf3.1 hf3.2
  have hB := okLs_sub g1 hf1.1 hf1.2
  have hh := hoist_le st O T
  have i1 := g2.length_le
  have i2 := g3.length_le
  refine AW.cut ⟨[(2, .val (.int .i64 st)), (4, .ps 3 (eFl.enc (fb, fl, fr))), (5, .ps 7 (eCk.enc (cs, (cb1, cb2), (cl1, cl2), cr1, cr2))), (7, .ps 3 (eLb.enc (lb1, lb2, lb3))), (9, sL eS O), (10, sL eS T), (11, .val (.int .i64 0)), (12, .val (.int .i64 0))], [], 74, 3, 3, []⟩ ?_ ?_
  · simp only [go_sem, sCutK, sHoistB, sJoin, sTextB]
  refine AW.seqTo (fun _ : Unit => Sh.st ⟨[(2, .val (.int .i64 st)), (4, .ps 3 (eFl.enc (fb, fl, fr))), (5, .ps 7 (eCk.enc (cs, (cb1, cb2), (cl1, cl2), cr1, cr2))), (7, .ps 3 (eLb.enc (lb1, lb2, lb3))), (9, sL eS O), (10, sL eS T), (11, .val (.int .i64 (hoistF st O T).1)), (12, .val (.int .i64 (hoistF st O T).2))], [], 74, 3, 3, []⟩) ?_ fun _ => ?_
  · refine AW.of hΓ mixed [99999] _ _ _ rfl ?_
    simp only [go_sem, sCutK, sHoistB, sJoin, sTextB]
    refine ⟨fun h2 => ⟨⟨by omega, by omega⟩, (), toFits ?_⟩, fun h2 => ⟨(), toFits ?_⟩⟩
    · unfold hoistF
      rw [if_pos h2]
      simp only [go_sem, sCutK, sHoistB, sJoin, sTextB]
    · unfold hoistF
      rw [if_neg h2]
      simp only [go_sem, sCutK, sHoistB, sJoin, sTextB]
  generalize hoistF st O T = h at *
  obtain ⟨u, v⟩ := h
  dsimp only at hh ⊢
  have eO : (List.range (((O.length : Int) - (v : Int)).toNat - u)).map (fun i => O.getD (u + i) []) = cutL O u (O.length - v) := by
    rw [cut_map (by omega), show ((O.length : Int) - (v : Int)).toNat - u = O.length - v - u by omega]
  have eT : (List.range (((T.length : Int) - (v : Int)).toNat - u)).map (fun i => T.getD (u + i) []) = cutL T u (T.length - v) := by
    rw [cut_map (by omega), show ((T.length : Int) - (v : Int)).toNat - u = T.length - v - u by omega]
  have sO : (cutL O u (O.length - v)).Sublist O := (List.drop_sublist _ _).trans (List.take_sublist _ _)
  have sT : (cutL T u (T.length - v)).Sublist T := (List.drop_sublist _ _).trans (List.take_sublist _ _)
  have kO : okLs (cutL O u (O.length - v)) := okLs_sub (sO.trans g2) hf2.1 hf2.2
  have kT : okLs (cutL T u (T.length - v)) := okLs_sub (sT.trans g3) hf3.1 hf3.2
  have kA1 : okLs (O.take u) := okLs_sub ((List.take_sublist _ _).trans g2) hf2.1 hf2.2
  have kA2 : okLs (O.drop (O.length - v)) := okLs_sub ((List.drop_sublist _ _).trans g2) hf2.1 hf2.2
  refine AW.of hΓ mixed [6] _ _ _ rfl ?_
  simp only [go_sem, sCutK, sHoistB, sJoin, sTextB, eO, eT]
  refine ⟨⟨by omega, by omega⟩, ⟨by omega, by omega, by omega⟩, kO, ⟨by omega, by omega⟩, ⟨by omega, by omega, by omega⟩, kT, ?_⟩
  generalize (cutL O u (O.length - v)).flatten = X at *
  generalize (cutL T u (T.length - v)).flatten = Y at *
  refine AW.cut ⟨[(2, .val (.int .i64 st)), (4, .ps 3 (eFl.enc (fb, fl, fr))), (5, .ps 7 (eCk.enc (cs, (cb1, cb2), (cl1, cl2), cr1, cr2))), (9, sL eS O), (11, .val (.int .i64 u)), (12, .val (.int .i64 v)), (13, .val (.int .i64 ((O.length : Int) - v))), (14, .pt 3 3 0)],
    [(3, .box 3 62 9 (ePt.enc (lb1, lb2, lb3, true, [], X, [], Y, false)))], 74, 4, 4, []⟩ ?_ ?_
  · simp only [go_sem, sCutK, sHoistB, sJoin, sTextB]
    exact pt_box rfl rfl rfl rfl rfl rfl rfl rfl rfl
  refine AW.seqTo (fun _ : Unit => Sh.st ⟨[(9, sL eS O), (11, .val (.int .i64 u)), (12, .val (.int .i64 v)), (13, .val (.int .i64 ((O.length : Int) - v))), (14, .pt 3 3 0)],
    [(3, .box 3 62 9 (ePt.enc (lb1, (if st = 0 then [] else lb2), lb3, true, [], X, (if st = 0 then [] else (cutS (cb1, cb2) fb).flatten), Y, decide (st ≠ 0))))], 74, 4, 4, []⟩) ?_ fun _ => ?_
  · refine AW.of hΓ mixed [99999] _ _ _ rfl ?_
    simp only [go_sem, sCutK, sHoistB, sJoin, sTextB]
    refine ⟨fun h0 => ⟨(), toFits ?_⟩, fun h0 => ⟨by omega, hB, (), toFits ?_⟩⟩
    · subst h0
      simp only [go_sem, sCutK, sHoistB, sJoin, sTextB]
      exact pt_box rfl rfl rfl rfl rfl rfl rfl rfl rfl
    · rw [if_neg h0, if_neg h0, decide_eq_true h0]
      simp only [go_sem, sCutK, sHoistB, sJoin, sTextB]
      exact pt_box rfl rfl rfl rfl rfl rfl rfl rfl rfl
  have eA1 : (List.range (u - 0)).map (fun i => O.getD i []) = O.take u := by
    refine list_ext_getD [] (by simp; omega) fun k hk => ?_
    have hk : k < u := by simpa using hk
    simp [List.getD, List.getElem?_take, hk]
  have eA2 : (List.range (O.length - ((O.length : Int) - (v : Int)).toNat)).map (fun i => O.getD (((O.length : Int) - (v : Int)).toNat + i) []) = O.drop (O.length - v) := by
    have e : ((O.length : Int) - (v : Int)).toNat = O.length - v := by omega
    rw [e]
    refine list_ext_getD [] (by simp) fun k hk => ?_
    have hk : k < O.length - (O.length - v) := by simpa using hk
    simp [List.getD, hk]
    rw [List.getElem?_eq_getElem (by omega)]
    rfl
  refine AW.of hΓ mixed [] _ _ _ rfl ?_
  simp only [go_sem, sCutK, sHoistB, sJoin, sTextB, eA1, eA2]
  refine ⟨⟨by omega, by omega⟩, kA1, ⟨by omega, by omega, by omega⟩, kA2, ?_⟩
  exact sn_parts rfl fun i hi j hj => match i, hi with
    | 0, _ => AVle.refl _
    | 1, _ => AVle.refl _
    | 2, _ => AVle.refl _
end Go.Proofs.Ytnhfobhdbablaaa
set_option linter.unusedSimpArgs false
set_option linter.unusedVariables false
set_option maxRecDepth 100000
set_option maxHeartbeats 2000000
namespace Go.Proofs.Ytnhfobhdbablaaa
open Go
attribute [local irreducible] AW AVle ASle RowLe
theorem textP_sum (t : BS) : sumT [textP t] = t.length := by rw [sumT_one]; rfl
theorem cut_len (s : Sp) {l : List BS} (h : l.flatten.length ≤ 10000) : (cutS s l).flatten.length ≤ 10000 := Nat.le_trans (sub_flat (cutS_sub s l)) h
theorem ckPs_len (f : Fl) (st : Int) (lb : BS × BS × BS) (v : Int) (c : Ck) : (ckPs f st lb v c).length ≤ 3 := by
  unfold ckPs
  split
  · exact Nat.le_refl 3
  · exact Nat.le_of_ble_eq_true rfl
theorem ckPs_sum {f : Fl} (hf : okFl f) (st : Int) (lb : BS × BS × BS) (v : Int) (c : Ck) : sumT (ckPs f st lb v c) ≤ 20000 := by
  obtain ⟨h1, h2, h3⟩ := hf
  have c1 : (cutB f c).flatten.length ≤ 10000 := cut_len _ h1.2
  have c2 : (cutO f c).flatten.length ≤ 10000 := cut_len _ h2.2
  have c3 : (cutT f c).flatten.length ≤ 10000 := cut_len _ h3.2
  unfold ckPs
  split
  · unfold confL
    have e1 : ∀ a b d : Pt, sumT [a, b, d] = (txP a).length + (txP b).length + (txP d).length := fun a b d => by
      rw [show [a, b, d] = [a] ++ ([b] ++ [d]) from rfl, sumT_app, sumT_app, sumT_one, sumT_one, sumT_one]
      omega
    rw [e1]
    have s1 := sub_flat (List.take_sublist (hoistF st (cutO f c) (cutT f c)).1 (cutO f c))
    have s2 := sub_flat (List.drop_sublist ((cutO f c).length - (hoistF st (cutO f c) (cutT f c)).2) (cutO f c))
    have z : (txP (confP f c st lb)).length = 0 := rfl
    have z1 : ∀ t : BS, (txP (textP t)).length = t.length := fun _ => rfl
    rw [z, z1, z1]
    omega
  · rw [textP_sum]
    unfold sideF
    split
    · omega
    · split
      · omega
      · split <;> omega
theorem flat_sum {f : Fl} (hf : okFl f) (st : Int) (lb : BS × BS × BS) (v : Int) : ∀ L : List Ck, sumT (L.flatMap (ckPs f st lb v)) ≤ 20000 * L.length ∧ (L.flatMap (ckPs f st lb v)).length ≤ 3 * L.length
  | [] => by simp [sumT]
  | c :: L => by
    obtain ⟨h1, h2⟩ := flat_sum hf st lb v L
    have h3 := ckPs_sum hf st lb v c
    have h4 := ckPs_len f st lb v c
    rw [List.flatMap_cons, sumT_app, List.length_append, List.length_cons]
    omega
/-- Labels that are short enough. -/
def okLb (lb : BS × BS × BS) : Prop := lb.1.length ≤ 100000000 ∧ lb.2.1.length ≤ 100000000 ∧ lb.2.2.length ≤ 100000000
def sDocB : Spec := Spec.f5 (kA eFl) (kL eCk) kI (kA eLb) kI (fun f L _ lb _ => (okFl f ∧ L.length ≤ 10000) ∧ okLb lb) (fun f L st lb v => tu2 (sL ePt (docF f L st lb v).1) (kI.enc (docF f L st lb v).2))
theorem okDocB : SpecOK Try.prog 14 sDocB := by
  refine SpecOK.f5 Try.func14 rfl (by decide) Try.results14 Try.ntmps14 (by decide) fun f L st lb v ⟨⟨hf, hL⟩, hlb1, hlb2, hlb3⟩ => ?_
  have hΓ : GOK Try.prog (gam [(40, sIsSty), (41, sIsFav), (42, sPlainL), (43, sClassK), (44, sConflB), (46, sSideB), (45, sTextB), (47, sOfD)]) := (.cons okIsSty (.cons okIsFav (.cons okPlainL (.cons okClassK (.cons okConflB (.cons okSideB (.cons okTextB (.cons okOfD .nil))))))))
  have hff := hf
  obtain ⟨fb, fl, fr⟩ := f
  obtain ⟨lb1, lb2, lb3⟩ := lb
  obtain ⟨hf1, hf2, hf3⟩ := hff
  dsimp only at hf1 hf2 hf3 hlb1 hlb2 hlb3
  have fs := fun j => flat_sum hf st (lb1, lb2, lb3) v (L.take j)
  have d5 : (styOK st && favOK v) = false → docF (fb, fl, fr) L st (lb1, lb2, lb3) v = ([], 5) := fun h => by unfold docF; rw [if_pos h]
  have d3 : (styOK st && favOK v) = true → plainLb (lb1, lb2, lb3) = false → docF (fb, fl, fr) L st (lb1, lb2, lb3) v = ([], 3) := fun h h2 => by unfold docF; rw [if_neg (by rw [h]; simp), if_pos h2]
  have d0 : (styOK st && favOK v) = true → plainLb (lb1, lb2, lb3) = true → docF (fb, fl, fr) L st (lb1, lb2, lb3) v = (ofD (L.flatMap (ckPs (fb, fl, fr) st (lb1, lb2, lb3) v)), 0) := fun h h2 => by unfold docF; rw [if_neg (by rw [h]; simp), if_neg (by rw [h2]; simp)]
  refine AW.of hΓ mixed [0] _ _ _ rfl ?_
  simp only [go_sem]
  refine AW.still 5 0 0 35 3 _ rfl rfl (fun j hj => match j, hj with | 0, _ => rfl | 1, _ => rfl | 2, _ => rfl) ?_
  refine AW.still 8 1 1 45 3 _ rfl rfl (fun j hj => match j, hj with | 0, _ => rfl | 1, _ => rfl | 2, _ => rfl) ?_
  cases h1 : styOK st with
  | false =>
    rw [d5 (by rw [h1]; rfl)]
    refine AW.of hΓ mixed [] _ _ _ rfl ?_
    simp only [go_sem, sIsSty, sIsFav, sPlainL, sClassK, sConflB, sSideB, sTextB, sOfD, h1]
    exact em_sL _
  | true =>
    cases h2 : favOK v with
    | false =>
      rw [d5 (by rw [h1, h2]; rfl)]
      refine AW.of hΓ mixed [] _ _ _ rfl ?_
      simp only [go_sem, sIsSty, sIsFav, sPlainL, sClassK, sConflB, sSideB, sTextB, sOfD, h1, h2]
      exact em_sL _
    | true =>
      cases hp : plainLb (lb1, lb2, lb3) with
      | false =>
        rw [d3 (by rw [h1, h2]; rfl) hp]
        unfold plainLb at hp
        dsimp only at hp
        refine AW.of hΓ mixed [] _ _ _ rfl ?_
        simp only [go_sem, sIsSty, sIsFav, sPlainL, sClassK, sConflB, sSideB, sTextB, sOfD, h1, h2, hp]
        exact ⟨⟨by omega, by omega, by omega⟩, em_sL _⟩
      | true =>
        rw [d0 (by rw [h1, h2]; rfl) hp]
        unfold plainLb at hp
        dsimp only at hp
        refine AW.of hΓ mixed [5] _ _ _ rfl ?_
        simp only [go_sem, sIsSty, sIsFav, sPlainL, sClassK, sConflB, sSideB, sTextB, sOfD, h1, h2, hp]
        refine ⟨⟨by omega, by omega, by omega⟩, ?_⟩
        refine AW.adopt 12 62 9 (fun i => ePt.enc (([] : List Pt).getD i ePt.dflt)) rfl ?_
        refine AW.seqTo (fun x : Nat × Nat => Sh.st ⟨[(12, .ow 2 x.1 (L.flatMap (ckPs (fb, fl, fr) st (lb1, lb2, lb3) v)).length)], [(2, rowL x.1 62 ePt (L.flatMap (ckPs (fb, fl, fr) st (lb1, lb2, lb3) v)))], 66, 3, x.2, []⟩) ?_ fun ⟨u, nx⟩ => ?_
        rotate_left
        · have fL := flat_sum hf st (lb1, lb2, lb3) v L
          generalize L.flatMap (ckPs (fb, fl, fr) st (lb1, lb2, lb3) v) = S at *
          refine AW.freeze 2 u 62 9 S.length (fun i => ePt.enc (S.getD i ePt.dflt)) rfl (fun _ _ j hj => match j, hj with | 0, _ => rfl | 1, _ => rfl | 2, _ => rfl | 3, _ => rfl | 4, _ => rfl | 5, _ => rfl | 6, _ => rfl | 7, _ => rfl | 8, _ => rfl) ?_
          refine AW.cut ⟨[(12, sL ePt S)], [], 66, 3, nx, []⟩ ?_ ?_
          · simp only [go_sem, sIsSty, sIsFav, sPlainL, sClassK, sConflB, sSideB, sTextB, sOfD]
            exact vw_all (E := ePt) rfl rfl rfl
          refine AW.of hΓ mixed [] _ _ _ rfl ?_
          simp only [go_sem, sIsSty, sIsFav, sPlainL, sClassK, sConflB, sSideB, sTextB, sOfD]
          exact ⟨by omega, by omega⟩
        refine AW.of hΓ mixed [] _ _ _ rfl ?_
        simp only [go_sem, sIsSty, sIsFav, sPlainL, sClassK, sConflB, sSideB, sTextB, sOfD]
        refine AW.round (α := { x : Nat × List Pt × Nat × Nat // x.1 ≤ L.length ∧ x.2.1 = (L.take x.1).flatMap (ckPs (fb, fl, fr) st (lb1, lb2, lb3) v) })
          (fun x => ⟨[(2, .val (.int .i64 st)), (4, .val (.int .i64 v)), (5, .ps 3 (eFl.enc (fb, fl, fr))), (8, .ps 3 (eLb.enc (lb1, lb2, lb3))), (12, .ow 2 x.1.2.2.1 x.1.2.1.length), (27, sL eCk L), (28, .val (.int .i64 L.length)), (29, .val (.int .i64 x.1.1))],
            [(2, rowL x.1.2.2.1 62 ePt x.1.2.1)], 66, 3, x.1.2.2.2, []⟩) (fun x => L.length - x.1.1) ⟨(0, [], 2, 3), Nat.zero_le _, rfl⟩ ?_ ?_
        · simp only [go_sem, sIsSty, sIsFav, sPlainL, sClassK, sConflB, sSideB, sTextB, sOfD]
          exact RowLe.refl _
        · rintro ⟨⟨i, S, u, nx⟩, hi, hS⟩
          simp only at hi hS
          have fi := fs i
          rw [← hS, List.length_take] at fi
          refine AW.of hΓ mixed [8, 99999] _ _ _ rfl ?_
          simp only [go_sem, sIsSty, sIsFav, sPlainL, sClassK, sConflB, sSideB, sTextB, sOfD]
          refine ⟨fun hlt => ⟨by omega, ?_⟩, fun hge => ?_⟩
          · have hlt' : i < L.length := by omega
            have hsn : (L.take (i + 1)).flatMap (ckPs (fb, fl, fr) st (lb1, lb2, lb3) v) = S ++ ckPs (fb, fl, fr) st (lb1, lb2, lb3) v (L.getD i eCk.dflt) := by
              rw [take_snoc L eCk.dflt hlt', List.flatMap_append, ← hS]
              simp
            generalize L.getD i eCk.dflt = c at *
            obtain ⟨cs, ⟨cb1, cb2⟩, ⟨cl1, cl2⟩, cr1, cr2⟩ := c
            have hcl := ckPs_len (fb, fl, fr) st (lb1, lb2, lb3) v (cs, (cb1, cb2), (cl1, cl2), cr1, cr2)
            have hcs : ckPs (fb, fl, fr) st (lb1, lb2, lb3) v (cs, (cb1, cb2), (cl1, cl2), cr1, cr2) = if clsF (fb, fl, fr) (cs, (cb1, cb2), (cl1, cl2), cr1, cr2) = 4 ∧ v = 0 then confL (fb, fl, fr) (cs, (cb1, cb2), (cl1, cl2), cr1, cr2) st (lb1, lb2, lb3) else [textP (sideF (fb, fl, fr) (cs, (cb1, cb2), (cl1, cl2), cr1, cr2) (clsF (fb, fl, fr) (cs, (cb1, cb2), (cl1, cl2), cr1, cr2)) v).flatten] := rfl
            have hsd : okLs (sideF (fb, fl, fr) (cs, (cb1, cb2), (cl1, cl2), cr1, cr2) (clsF (fb, fl, fr) (cs, (cb1, cb2), (cl1, cl2), cr1, cr2)) v) := by
              unfold sideF
              split
              · exact okLs_sub (cutS_sub _ _) hf1.1 hf1.2
              · split
                · exact okLs_sub (cutS_sub _ _) hf3.1 hf3.2
                · split
                  · exact okLs_sub (cutS_sub _ _) hf3.1 hf3.2
                  · exact okLs_sub (cutS_sub _ _) hf2.1 hf2.2
            have hcc : classK (cs, (cb1, cb2), (cl1, cl2), cr1, cr2) fb fl fr = clsF (fb, fl, fr) (cs, (cb1, cb2), (cl1, cl2), cr1, cr2) := rfl
            generalize clsF (fb, fl, fr) (cs, (cb1, cb2), (cl1, cl2), cr1, cr2) = k at *
            refine AW.cut ⟨[(2, .val (.int .i64 st)), (4, .val (.int .i64 v)), (5, .ps 3 (eFl.enc (fb, fl, fr))), (8, .ps 3 (eLb.enc (lb1, lb2, lb3))), (12, .ow 2 u S.length), (14, .pt 3 nx 0), (27, sL eCk L), (28, .val (.int .i64 L.length)), (29, .val (.int .i64 i))],
              [(2, rowL u 62 ePt S), (3, .box nx 88 7 (eCk.enc (cs, (cb1, cb2), (cl1, cl2), cr1, cr2)))], 66, 4, nx + 1, []⟩ ?_ ?_
            · simp only [go_sem, sIsSty, sIsFav, sPlainL, sClassK, sConflB, sSideB, sTextB, sOfD]
              exact ⟨RowLe.refl _, box_st⟩
            refine AW.still 14 3 nx 88 7 _ rfl rfl (fun j hj => match j, hj with | 0, _ => rfl | 1, _ => rfl | 2, _ => rfl | 3, _ => rfl | 4, _ => rfl | 5, _ => rfl | 6, _ => rfl) ?_
            refine AW.of hΓ mixed [99999] _ _ _ rfl ?_
            simp only [go_sem, sIsSty, sIsFav, sPlainL, sClassK, sConflB, sSideB, sTextB, sOfD, hcc]
            refine ⟨⟨by omega, by omega, by omega⟩, fun hk => ?_, fun hk => ?_⟩
            · rw [if_pos hk] at hcs
              rw [hcs] at hsn hcl
              refine ⟨hf, by omega, ⟨by omega, by omega⟩, ⟨(i + 1, S ++ confL (fb, fl, fr) (cs, (cb1, cb2), (cl1, cl2), cr1, cr2) st (lb1, lb2, lb3), nx + 1, nx + 2), by dsimp only; omega, hsn.symm⟩, ⟨Nat.le_refl _, ⟨⟨rfl, by dsimp only; rw [List.length_append]⟩, by dsimp only; omega⟩, ?_⟩, by dsimp only; omega⟩
              exact row_app (E := ePt) rfl rfl rfl rfl (by simp) fun i _ j _ => AVle.refl _
            · rw [if_neg (fun e => hk e.1 e.2)] at hcs
              rw [hcs] at hsn hcl
              refine ⟨hf, hsd, by omega, ⟨by omega, by omega⟩, ⟨(i + 1, S ++ [textP (sideF (fb, fl, fr) (cs, (cb1, cb2), (cl1, cl2), cr1, cr2) k v).flatten], nx + 1, nx + 2), by dsimp only; omega, hsn.symm⟩, ⟨Nat.le_refl _, ⟨⟨rfl, by simp⟩, by dsimp only; omega⟩, ?_⟩, by dsimp only; omega⟩
              exact row_app1 (E := ePt) rfl rfl rfl rfl (by simp) fun j _ => AVle.refl _
          · obtain rfl : i = L.length := by omega
            rw [List.take_length] at hS
            refine ⟨(u, nx), toFits ?_⟩
            rw [← hS]
            simp only [go_sem, sIsSty, sIsFav, sPlainL, sClassK, sConflB, sSideB, sTextB, sOfD]
            exact RowLe.refl _
theorem cnt_le (f : Fl) (L : List Ck) : cntF f L ≤ L.length := List.length_filter_le _ _
def sCountB : Spec := Spec.f2 (kA eFl) (kL eCk) (fun f L => okFl f ∧ L.length ≤ 10000) (fun f L => kI.enc (cntF f L))
theorem okCountB : SpecOK Try.prog 18 sCountB := by
  refine SpecOK.f2 Try.func18 rfl (by decide) Try.results18 Try.ntmps18 (by decide) fun f L ⟨hf, hL⟩ => ?_
  have hΓ : GOK Try.prog (gam [(43, sClassK)]) := (.cons okClassK .nil)
  have hff := hf
  obtain ⟨fb, fl, fr⟩ := f
  obtain ⟨hf1, hf2, hf3⟩ := hff
  dsimp only at hf1 hf2 hf3
  refine AW.of hΓ mixed [0] _ _ _ rfl ?_
  simp only [go_sem, sClassK]
  refine AW.still 2 0 0 35 3 _ rfl rfl (fun j hj => match j, hj with | 0, _ => rfl | 1, _ => rfl | 2, _ => rfl) ?_
  refine AW.of hΓ mixed [] _ _ _ rfl ?_
  simp only [go_sem, sClassK]
  refine AW.round (α := { x : Nat × Nat // x.1 ≤ L.length })
    (fun x => ⟨[(2, .ps 3 (eFl.enc (fb, fl, fr))), (5, .val (.int .i64 (cntF (fb, fl, fr) (L.take x.1.1)))), (8, sL eCk L), (9, .val (.int .i64 L.length)), (10, .val (.int .i64 x.1.1))], [], 27, 1, x.1.2, []⟩) (fun x => L.length - x.1.1) ⟨(0, 1), Nat.zero_le _⟩ ?_ ?_
  · simp only [go_sem, sClassK]
    rfl
  · rintro ⟨⟨i, nx⟩, hi⟩
    simp only at hi
    have hcn := cnt_le (fb, fl, fr) (L.take i)
    rw [List.length_take] at hcn
    refine AW.of hΓ mixed [4, 99999] _ _ _ rfl ?_
    simp only [go_sem, sClassK]
    refine ⟨fun hlt => ⟨by omega, ?_⟩, fun hge => ?_⟩
    · have hlt' : i < L.length := by omega
      have hsn := cnt_snoc (fb, fl, fr) (L.getD i eCk.dflt) (L.take i)
      rw [← take_snoc L eCk.dflt hlt'] at hsn
      generalize L.getD i eCk.dflt = c at *
      obtain ⟨cs, ⟨cb1, cb2⟩, ⟨cl1, cl2⟩, cr1, cr2⟩ := c
      have hcc : classK (cs, (cb1, cb2), (cl1, cl2), cr1, cr2) fb fl fr = clsF (fb, fl, fr) (cs, (cb1, cb2), (cl1, cl2), cr1, cr2) := rfl
      generalize clsF (fb, fl, fr) (cs, (cb1, cb2), (cl1, cl2), cr1, cr2) = k at *
      refine AW.cut ⟨[(2, .ps 3 (eFl.enc (fb, fl, fr))), (5, .val (.int .i64 (cntF (fb, fl, fr) (L.take i)))), (7, .pt 1 nx 0), (8, sL eCk L), (9, .val (.int .i64 L.length)), (10, .val (.int .i64 i))],
        [(1, .box nx 88 7 (eCk.enc (cs, (cb1, cb2), (cl1, cl2), cr1, cr2)))], 27, 2, nx + 1, []⟩ ?_ ?_
      · simp only [go_sem, sClassK]
        exact box_st
      refine AW.still 7 1 nx 88 7 _ rfl rfl (fun j hj => match j, hj with | 0, _ => rfl | 1, _ => rfl | 2, _ => rfl | 3, _ => rfl | 4, _ => rfl | 5, _ => rfl | 6, _ => rfl) ?_
      refine AW.of hΓ mixed [99999] _ _ _ rfl ?_
      simp only [go_sem, sClassK, hcc]
      refine ⟨⟨by omega, by omega, by omega⟩, fun hk => ⟨⟨by omega, by omega⟩, ⟨by omega, by omega⟩, ⟨(i + 1, nx + 1), by dsimp only; omega⟩, ⟨Nat.le_refl _, ?_, by dsimp only; omega⟩, by dsimp only; omega⟩, fun hk => ⟨⟨by omega, by omega⟩, ⟨(i + 1, nx + 1), by dsimp only; omega⟩, ⟨Nat.le_refl _, ?_, by dsimp only; omega⟩, by dsimp only; omega⟩⟩
      · dsimp only
        rw [hsn, if_pos hk]
        omega
      · dsimp only
        rw [hsn, if_neg hk]
        omega
    · obtain rfl : i = L.length := by omega
      rw [List.take_length]
end Go.Proofs.Ytnhfobhdbablaaa
set_option linter.unusedSimpArgs false
set_option linter.unusedVariables false
set_option maxRecDepth 100000
set_option maxHeartbeats 2000000
namespace Go.Proofs.Ytnhfobhdbablaaa
open Go
attribute [local irreducible] AW AVle ASle RowLe
def sRefPlain1 : Spec := Spec.f1 kS (fun l => l.length ≤ 100000000000) (fun l => kB.enc (plainB l))
theorem okRefPlain1 : SpecOK Try.prog 78 sRefPlain1 := by
  refine SpecOK.f1 Try.func78 rfl (by decide) Try.results78 Try.ntmps78 (by decide) fun l hl => ?_
  have hΓ : GOK Try.prog (gam []) := GOK.nil
  refine AW.of hΓ mixed [] _ _ _ rfl ?_
  simp only [go_sem]
  refine AW.round (α := { x : Nat × Nat × Nat // x.1 ≤ l.length ∧ ∀ k, k < x.1 → l.getD k 0 ≠ 10 }) (fun x => ⟨[(0, .st l), (3, .val (.int .i64 x.1.1))], [], 14, x.1.2.2, x.1.2.1, []⟩) (fun x => l.length - x.1.1) ⟨(0, 0, 0), Nat.zero_le _, fun k hk => absurd hk (Nat.not_lt_zero _)⟩ ?_ ?_
  · simp only [go_sem]
  · rintro ⟨⟨i, nx, tp⟩, hi, hk⟩
    simp only at hi hk
    refine AW.of hΓ mixed [99999] _ _ _ rfl ?_
    simp only [go_sem]
    refine ⟨fun hlt => ⟨by omega, fun h10 => ?_, fun hn => ⟨by omega, ⟨(i + 1, nx, tp), by dsimp only; omega, fun k hk' => ?_⟩, ⟨Nat.le_refl _, by dsimp only; omega⟩, by dsimp only; omega⟩⟩, fun hge => ?_⟩
    · refine (decide_eq_false fun hh => hh ?_).symm
      rw [← h10, gd_lt l _ (by omega)]
      exact List.getElem_mem _
    · dsimp only at hk'
      rcases Nat.lt_or_ge k i with h' | h'
      · exact hk k h'
      · obtain rfl : k = i := by omega
        exact hn
    · have hno : ¬ (10 : UInt8) ∈ l := fun hm => ?_
      · unfold plainB
        rw [decide_eq_true hno]
      obtain ⟨k, hk1, hk2⟩ := List.getElem_of_mem hm
      exact hk k (by omega) (by rw [gd_lt l _ hk1]; exact hk2)
def sRefPlain : Spec := Spec.f1 (kA ePt) (fun p => p.1.length ≤ 100000000 ∧ p.2.1.length ≤ 100000000 ∧ p.2.2.1.length ≤ 100000000) (fun p => kB.enc (plainD p))
theorem okRefPlain : SpecOK Try.prog 48 sRefPlain := by
  refine SpecOK.f1 Try.func48 rfl (by decide) Try.results48 Try.ntmps48 (by decide) fun p ⟨h1, h2, h3⟩ => ?_
  have hΓ : GOK Try.prog (gam [(78, sRefPlain1)]) := (.cons okRefPlain1 .nil)
  obtain ⟨ll, bl, rl, h, t, l, b, r, hb⟩ := p
  simp only at h1 h2 h3
  refine AW.of hΓ mixed [] _ _ _ rfl ?_
  simp only [go_sem, sRefPlain1]
  refine ⟨by omega, fun _ => by omega, fun _ => by omega, ?_⟩
  unfold plainD
  rw [Bool.and_assoc]
def oneR (p : Pt) : Bool := if hkP p = true then decide (p.2.2.2.2.1 = []) && (p.2.2.2.2.2.2.2.2 || (decide (p.2.2.2.2.2.2.1 = []) && decide (p.2.1 = []))) else isTextD p
def okRef (l : List Pt) (i : Nat) : Bool := (oneR (l.getD i ePt.dflt) && plainD (l.getD i ePt.dflt)) && (hkP (l.getD i ePt.dflt) || !(decide (txP (l.getD i ePt.dflt) = []) || (decide (0 < i) && !hkP (l.getD (i - 1) ePt.dflt)) || (decide (i + 1 < l.length) && !endsL (txP (l.getD i ePt.dflt)))))
theorem okAt_ref (l : List Pt) (i : Nat) : okAt l i = okRef l i := by
  unfold okAt okRef
  generalize l.getD i ePt.dflt = p
  generalize hkP (l.getD (i - 1) ePt.dflt) = q
  obtain ⟨ll, bl, rl, h, t, lf, b, r, hb⟩ := p
  have e0 : (decide (0 < i)) = !(decide (i = 0)) := by
    by_cases c : i = 0
    · simp [c]
    · simp [c]; omega
  rw [e0]
  generalize decide (i = 0) = z
  generalize decide (i + 1 < l.length) = an
  cases h with
  | true =>
    have e1 : aheadD (ll, bl, rl, true, t, lf, b, r, hb) an = false := by
      unfold aheadD
      rw [show isTextD (ll, bl, rl, true, t, lf, b, r, hb) = false by
        cases c : isTextD (ll, bl, rl, true, t, lf, b, r, hb) with
        | false => rfl
        | true => have := (isText_iff ll bl rl true t lf b r hb).1 c; simp at this]
      rfl
    have e2 : oneR (ll, bl, rl, true, t, lf, b, r, hb) = (decide (t = []) && (hb || (decide (b = []) && decide (bl = [])))) := rfl
    have e3 : confD (ll, bl, rl, true, t, lf, b, r, hb) = (decide (t = []) && ((hb || (decide (b = []) && decide (bl = []))) && plainD (ll, bl, rl, true, t, lf, b, r, hb))) := rfl
    rw [e1, e2, e3]
    simp [hkP, Bool.and_assoc]
  | false =>
    have e3 : confD (ll, bl, rl, false, t, lf, b, r, hb) = false := rfl
    have e2 : oneR (ll, bl, rl, false, t, lf, b, r, hb) = isTextD (ll, bl, rl, false, t, lf, b, r, hb) := rfl
    rw [e2, e3]
    unfold aheadD
    simp only [hkP, txP]
    cases c : isTextD (ll, bl, rl, false, t, lf, b, r, hb) with
    | false => simp
    | true =>
      obtain ⟨rfl, rfl, rfl, _⟩ := (isText_iff ll bl rl false t lf b r hb).1 c
      have e4 : plainD ([], [], [], false, t, lf, b, r, hb) = true := rfl
      rw [e4]
      by_cases ht : t = []
      · simp [ht]
      · generalize endsL t = e
        simp only [ht]
        cases z <;> cases q <;> cases an <;> cases e <;> simp [ht]
theorem right_ref (l : List Pt) : rightD l = decide (∀ i, i < l.length → okRef l i = true) := by
  unfold rightD
  simp only [okAt_ref]
def sRefOne : Spec := Spec.f1 (kA ePt) (fun _ => True) (fun p => kB.enc (oneR p))
theorem okRefOne : SpecOK Try.prog 85 sRefOne := by
  refine SpecOK.f1 Try.func85 rfl (by decide) Try.results85 Try.ntmps85 (by decide) fun p _ => ?_
  have hΓ : GOK Try.prog (gam []) := GOK.nil
  obtain ⟨ll, bl, rl, h, t, lf, b, r, hb⟩ := p
  cases h with
  | true =>
    have e2 : oneR (ll, bl, rl, true, t, lf, b, r, hb) = (decide (t = []) && (hb || (decide (b = []) && decide (bl = [])))) := rfl
    rw [e2]
    refine AW.of hΓ mixed [] _ _ _ rfl ?_
    simp only [go_sem]
    exact ⟨fun ⟨h1, h2⟩ h3 => by rw [decide_eq_true h1, h2, h3]; rfl, fun h1 h2 => by rw [decide_eq_true h1, h2]; rfl⟩
  | false =>
    have e2 : oneR (ll, bl, rl, false, t, lf, b, r, hb) = isTextD (ll, bl, rl, false, t, lf, b, r, hb) := rfl
    rw [e2]
    refine AW.of hΓ mixed [] _ _ _ rfl ?_
    simp only [go_sem]
    rw [Bool.eq_iff_iff, isText_iff]
    simp only [Bool.and_eq_true, decide_eq_true_eq, true_and]
def sRefRight : Spec := Spec.f1 (kL ePt) (fun l => l.length < 100000000 ∧ ∀ p ∈ l, (p.1.length ≤ 100000000 ∧ p.2.1.length ≤ 100000000 ∧ p.2.2.1.length ≤ 100000000) ∧ (txP p).length ≤ 100000000) (fun l => kB.enc (rightD l))
theorem okRefRight : SpecOK Try.prog 60 sRefRight := by
  refine SpecOK.f1 Try.func60 rfl (by decide) Try.results60 Try.ntmps60 (by decide) fun l ⟨hl, hp⟩ => ?_
  have hΓ : GOK Try.prog (gam [(85, sRefOne), (48, sRefPlain), (68, sRefEnds)]) := (.cons okRefOne (.cons okRefPlain (.cons okRefEnds .nil)))
  rw [right_ref]
  refine AW.of hΓ mixed [] _ _ _ rfl ?_
  simp only [go_sem, sRefOne, sRefPlain, sRefEnds]
  refine AW.round (α := { x : Nat × Nat × Nat // x.1 ≤ l.length ∧ ∀ k, k < x.1 → okRef l k = true })
    (fun x => ⟨[(0, sL ePt l), (3, .val (.int .i64 x.1.1))], [], 57, 0, x.1.2.1, []⟩) (fun x => l.length - x.1.1) ⟨(0, 0, 0), Nat.zero_le _, fun k hk => absurd hk (Nat.not_lt_zero _)⟩ ?_ ?_
  · simp only [go_sem, sRefOne, sRefPlain, sRefEnds]
  · rintro ⟨⟨i, nx, tp⟩, hi, hk⟩
    simp only at hi hk
    refine AW.of hΓ mixed [4, 99999] _ _ _ rfl ?_
    simp only [go_sem, sRefOne, sRefPlain, sRefEnds]
    refine ⟨fun hlt => ⟨by omega, ?_⟩, fun hge => ?_⟩
    · have hlt' : i < l.length := by omega
      have hpi : (((l.getD i ePt.dflt).1.length ≤ 100000000 ∧ (l.getD i ePt.dflt).2.1.length ≤ 100000000 ∧ (l.getD i ePt.dflt).2.2.1.length ≤ 100000000) ∧ (txP (l.getD i ePt.dflt)).length ≤ 100000000) := by
        rw [gd_lt l _ hlt']
        exact hp _ (List.getElem_mem _)
      have hok : okRef l i = ((oneR (l.getD i ePt.dflt) && plainD (l.getD i ePt.dflt)) && (hkP (l.getD i ePt.dflt) || !(decide (txP (l.getD i ePt.dflt) = []) || (decide (0 < i) && !hkP (l.getD (i - 1) ePt.dflt)) || (decide (i + 1 < l.length) && !endsL (txP (l.getD i ePt.dflt)))))) := rfl
      have e1 : ((i : Int) - 1).toNat = i - 1 := by omega
      have e2 : ((i : Int) + 1 < (l.length : Nat)) = (i + 1 < l.length) := propext (by omega)
      have e3 : (0 < (i : Int)) = (0 < i) := propext (by omega)
      generalize hpe : l.getD i ePt.dflt = p at *
      refine AW.cut ⟨[(0, sL ePt l), (3, .val (.int .i64 i)), (4, .pt 0 nx 0)], [(0, .box nx 24 9 (ePt.enc p))], 57, 1, nx + 1, []⟩ ?_ ?_
      · simp only [go_sem, sRefOne, sRefPlain, sRefEnds]
        exact RowLe.box fun j hj => AVle.of_eq (stC_in (Nat.zero_le _) (by omega))
      refine AW.still 4 0 nx 24 9 _ rfl rfl (fun j hj => match j, hj with | 0, _ => rfl | 1, _ => rfl | 2, _ => rfl | 3, _ => rfl | 4, _ => rfl | 5, _ => rfl | 6, _ => rfl | 7, _ => rfl | 8, _ => rfl) ?_
      refine AW.of hΓ mixed [99999] _ _ _ rfl ?_
      simp only [go_sem, sRefOne, sRefPlain, sRefEnds, pt_eta, e1, e2, e3]
      have hp2 := hpi.2
      have hp1 := hpi.1
      have hok : okRef l i = ((oneR p && plainD p) && (p.2.2.2.1 || !(decide (p.2.2.2.2.1 = []) || (decide (0 < i) && !(l.getD (i - 1) ePt.dflt).2.2.2.1) || (decide (i + 1 < l.length) && !endsL p.2.2.2.2.1)))) := hok
      generalize endsL p.2.2.2.2.1 = en at *
      generalize (l.getD (i - 1) ePt.dflt).2.2.2.1 = q at *
      generalize oneR p = o at *
      generalize plainD p = pl at *
      have hp2 : p.2.2.2.2.1.length ≤ 100000000 := hp2
      generalize ht0 : decide (p.2.2.2.2.1 = []) = t0 at *
      generalize p.2.2.2.1 = h at *
      refine ⟨fun _ => hp1, fun g => by rw [g]; rfl, fun g hh => ?_, fun g => ⟨fun _ => by omega, fun g => by omega, fun ⟨g1, g2⟩ g3 => by rw [g1, g2, decide_eq_true g3]; rfl, fun g1 g2 => by rw [g1, ← ht0, decide_eq_false g2]; rfl, fun _ => by omega, fun _ => by omega, fun ⟨g1, g2⟩ g3 => by rw [g1, g2, decide_eq_true g3]; rfl, fun g1 g2 => by rw [g1, g2]; rfl, fun ⟨g1, g2⟩ hh => ?_, fun g2 => ⟨by omega, ⟨(i + 1, nx + 1, 0), by dsimp only; omega, fun k hk' => ?_⟩, ⟨Nat.le_refl _, by dsimp only; omega⟩, by dsimp only; omega⟩⟩⟩
      · have := hh i hlt'
        rw [hok] at this
        cases o <;> cases pl <;> simp_all
      · have := hh i hlt'
        rw [hok, g2] at this
        have g1 : h = false := by simpa using g1
        rw [g1] at this
        simp at this
      · dsimp only at hk'
        rcases Nat.lt_or_ge k i with h' | h'
        · exact hk k h'
        · obtain rfl : k = i := by omega
          rw [hok]
          simp only [Bool.or_eq_false_iff, Bool.not_eq_false'] at g
          rw [g.1, g.2]
          cases h with
          | true => rfl
          | false => rw [g2 rfl]; rfl
    · exact fun k hk' => hk k (by omega)
end Go.Proofs.Ytnhfobhdbablaaa
set_option linter.unusedSimpArgs false
set_option linter.unusedVariables false
set_option maxRecDepth 100000
set_option maxHeartbeats 4000000
namespace Go.Proofs.Ytnhfobhdbablaaa
open Go
attribute [local irreducible] AW AVle ASle RowLe
def sRefTextB : Spec := Spec.f1 (kL eS) okLs (fun l => (kA ePt).enc (textP l.flatten))
theorem okRefTextB : SpecOK Try.prog 50 sRefTextB := by
  refine SpecOK.f1 Try.func50 rfl (by decide) Try.results50 Try.ntmps50 (by decide) fun l hl => ?_
  have hΓ : GOK Try.prog (gam [(24, sRefJoin)]) := (.cons okRefJoin .nil)
  refine AW.of hΓ mixed [] _ _ _ rfl ?_
  simp only [go_sem, sRefJoin]
  exact ⟨hl, pt_le rfl rfl rfl rfl rfl rfl rfl rfl rfl⟩
def sRefCountB : Spec := Spec.f2 (kA eFl) (kL eCk) (fun f L => okFl f ∧ L.length ≤ 10000) (fun f L => kI.enc (cntF f L))
theorem okRefCountB : SpecOK Try.prog 19 sRefCountB := by
  refine SpecOK.f2 Try.func19 rfl (by decide) Try.results19 Try.ntmps19 (by decide) fun f L ⟨hf, hL⟩ => ?_
  have hΓ : GOK Try.prog (gam [(23, sRefClassK)]) := (.cons okRefClassK .nil)
  have hff := hf
  obtain ⟨fb, fl, fr⟩ := f
  obtain ⟨hf1, hf2, hf3⟩ := hff
  dsimp only at hf1 hf2 hf3
  refine AW.of hΓ mixed [0] _ _ _ rfl ?_
  simp only [go_sem, sRefClassK]
  refine AW.still 2 0 0 30 3 _ rfl rfl (fun j hj => match j, hj with | 0, _ => rfl | 1, _ => rfl | 2, _ => rfl) ?_
  refine AW.of hΓ mixed [] _ _ _ rfl ?_
  simp only [go_sem, sRefClassK]
  refine AW.round (α := { x : Nat × Nat // x.1 ≤ L.length })
    (fun x => ⟨[(1, sL eCk L), (2, .ps 3 (eFl.enc (fb, fl, fr))), (5, .val (.int .i64 (cntF (fb, fl, fr) (L.take x.1.1)))), (6, .val (.int .i64 x.1.1))], [], 28, 1, x.1.2, []⟩) (fun x => L.length - x.1.1) ⟨(0, 1), Nat.zero_le _⟩ ?_ ?_
  · simp only [go_sem, sRefClassK]
    rfl
  · rintro ⟨⟨i, nx⟩, hi⟩
    simp only at hi
    have hcn := cnt_le (fb, fl, fr) (L.take i)
    rw [List.length_take] at hcn
    rcases Nat.lt_or_ge i L.length with hlt' | hge
    · have hlI : ((i : Int) < (L.length : Nat)) = True := eq_true (by omega)
      have hsn := cnt_snoc (fb, fl, fr) (L.getD i eCk.dflt) (L.take i)
      rw [← take_snoc L eCk.dflt hlt'] at hsn
      generalize hce : L.getD i eCk.dflt = c at *
      obtain ⟨cs, ⟨cb1, cb2⟩, ⟨cl1, cl2⟩, cr1, cr2⟩ := c
      have hcc : classK (cs, (cb1, cb2), (cl1, cl2), cr1, cr2) fb fl fr = clsF (fb, fl, fr) (cs, (cb1, cb2), (cl1, cl2), cr1, cr2) := rfl
      generalize clsF (fb, fl, fr) (cs, (cb1, cb2), (cl1, cl2), cr1, cr2) = k at *
      refine AW.of hΓ mixed [99999] _ _ _ rfl ?_
      simp only [go_sem, sRefClassK, hce, hcc, hlI]
      refine ⟨by omega, ⟨by omega, by omega, by omega⟩, fun hk => ⟨⟨by omega, by omega⟩, ⟨by omega, by omega⟩, ⟨(i + 1, nx), by dsimp only; omega⟩, ⟨Nat.le_refl _, ?_, by dsimp only; omega⟩, by dsimp only; omega⟩, fun hk => ⟨⟨by omega, by omega⟩, ⟨(i + 1, nx), by dsimp only; omega⟩, ⟨Nat.le_refl _, ?_, by dsimp only; omega⟩, by dsimp only; omega⟩⟩
      · dsimp only
        rw [hsn, if_pos hk]
        omega
      · dsimp only
        rw [hsn, if_neg hk]
        rfl
    · obtain rfl : i = L.length := by omega
      refine AW.of hΓ mixed [99999] _ _ _ rfl ?_
      simp only [go_sem, sRefClassK]
/-- A Part's labels alone. -/
def lbP (p : Pt) : BS × BS × BS := (p.1, p.2.1, p.2.2.1)
def sRefDocB : Spec := Spec.f5 (kA eFl) (kL eCk) kI (kA ePt) kI (fun f L _ p _ => (okFl f ∧ L.length ≤ 10000) ∧ okLb (lbP p)) (fun f L st p v => tu2 (sL ePt (docF f L st (lbP p) v).1) (kI.enc (docF f L st (lbP p) v).2))
theorem okRefDocB : SpecOK Try.prog 15 sRefDocB := by
  refine SpecOK.f5 Try.func15 rfl (by decide) Try.results15 Try.ntmps15 (by decide) fun f L st p v ⟨⟨hf, hL⟩, hlb1, hlb2, hlb3⟩ => ?_
  have hΓ : GOK Try.prog (gam [(48, sRefPlain), (49, sRefCutK), (23, sRefClassK), (26, sRefEndsS), (24, sRefJoin), (50, sRefTextB), (51, sRefOf)]) := (.cons okRefPlain (.cons okRefCutK (.cons okRefClassK (.cons okRefEndsS (.cons okRefJoin (.cons okRefTextB (.cons okRefOf .nil)))))))
  have hff := hf
  obtain ⟨fb, fl, fr⟩ := f
  obtain ⟨lb1, lb2, lb3, ph, pt, pl, pb, pr, phb⟩ := p
  obtain ⟨hf1, hf2, hf3⟩ := hff
  dsimp only [lbP] at hf1 hf2 hf3 hlb1 hlb2 hlb3 ⊢
  have fs := fun j => flat_sum hf st (lb1, lb2, lb3) v (L.take j)
  have d5 : (styOK st && favOK v) = false → docF (fb, fl, fr) L st (lb1, lb2, lb3) v = ([], 5) := fun h => by unfold docF; rw [if_pos h]
  have d3 : (styOK st && favOK v) = true → plainLb (lb1, lb2, lb3) = false → docF (fb, fl, fr) L st (lb1, lb2, lb3) v = ([], 3) := fun h h2 => by unfold docF; rw [if_neg (by rw [h]; simp), if_pos h2]
  have d0 : (styOK st && favOK v) = true → plainLb (lb1, lb2, lb3) = true → docF (fb, fl, fr) L st (lb1, lb2, lb3) v = (ofD (L.flatMap (ckPs (fb, fl, fr) st (lb1, lb2, lb3) v)), 0) := fun h h2 => by unfold docF; rw [if_neg (by rw [h]; simp), if_neg (by rw [h2]; simp)]
  refine AW.of hΓ mixed [0, 200022] _ _ _ rfl ?_
  simp only [go_sem, sRefPlain, sRefCutK, sRefClassK, sRefEndsS, sRefJoin, sRefTextB, sRefOf]
  refine AW.still 5 0 0 30 3 _ rfl rfl (fun j hj => match j, hj with | 0, _ => rfl | 1, _ => rfl | 2, _ => rfl) ?_
  refine AW.still 8 1 1 24 9 _ rfl rfl (fun j hj => match j, hj with | 0, _ => rfl | 1, _ => rfl | 2, _ => rfl | 3, _ => rfl | 4, _ => rfl | 5, _ => rfl | 6, _ => rfl | 7, _ => rfl | 8, _ => rfl) ?_
  cases hs : styOK st && favOK v with
  | false =>
    rw [d5 hs]
    have h3 : st < 0 ∨ 2 < st ∨ (v ≠ 0 ∧ v ≠ 1 ∧ v ≠ 3) := by
      unfold styOK favOK at hs
      simp only [Bool.and_eq_false_iff, Bool.or_eq_false_iff, decide_eq_false_iff_not] at hs
      omega
    by_cases e1 : st < 0
    · have g1 : (st < 0) = True := eq_true e1
      refine AW.of hΓ mixed [200022] _ _ _ rfl ?_
      simp only [go_sem, sRefPlain, sRefCutK, sRefClassK, sRefEndsS, sRefJoin, sRefTextB, sRefOf, g1]
      exact em_sL _
    · have g1 : (st < 0) = False := eq_false e1
      by_cases e2 : 2 < st
      · have g2 : (2 < st) = True := eq_true e2
        refine AW.of hΓ mixed [200022] _ _ _ rfl ?_
        simp only [go_sem, sRefPlain, sRefCutK, sRefClassK, sRefEndsS, sRefJoin, sRefTextB, sRefOf, g1, g2]
        exact em_sL _
      · have g2 : (2 < st) = False := eq_false e2
        obtain ⟨e3, e4, e5⟩ : v ≠ 0 ∧ v ≠ 1 ∧ v ≠ 3 := by omega
        refine AW.of hΓ mixed [200022] _ _ _ rfl ?_
        simp only [go_sem, sRefPlain, sRefCutK, sRefClassK, sRefEndsS, sRefJoin, sRefTextB, sRefOf, g1, g2, e3, e4, e5]
        exact em_sL _
  | true =>
    have hst : st = 0 ∨ st = 1 ∨ st = 2 := by
      unfold styOK at hs
      simp only [Bool.and_eq_true, Bool.or_eq_true, decide_eq_true_eq] at hs
      exact hs.1
    have hv : v = 0 ∨ v = 1 ∨ v = 3 := by
      unfold favOK at hs
      simp only [Bool.and_eq_true, Bool.or_eq_true, decide_eq_true_eq] at hs
      exact hs.2
    have g1 : (st < 0) = False := eq_false (by omega)
    have g2 : (2 < st) = False := eq_false (by omega)
    refine AW.seqTo (fun _ : Unit => Sh.st ⟨[(1, sL eCk L), (2, .val (.int .i64 st)), (4, .val (.int .i64 v)), (5, .ps 3 (eFl.enc (fb, fl, fr))), (8, .ps 9 (ePt.enc (lb1, lb2, lb3, ph, pt, pl, pb, pr, phb)))], [], 175, 2, 2, []⟩) ?_ fun _ => ?_
    · rcases hv with rfl | rfl | rfl
      · refine AW.of hΓ mixed [99999] _ _ _ rfl ?_
        simp only [go_sem, sRefPlain, sRefCutK, sRefClassK, sRefEndsS, sRefJoin, sRefTextB, sRefOf, g1, g2]
        exact ⟨(), toFits (by
          simp only [go_sem])⟩
      · refine AW.of hΓ mixed [99999] _ _ _ rfl ?_
        simp only [go_sem, sRefPlain, sRefCutK, sRefClassK, sRefEndsS, sRefJoin, sRefTextB, sRefOf, g1, g2]
        exact ⟨(), toFits (by
          simp only [go_sem])⟩
      · refine AW.of hΓ mixed [99999] _ _ _ rfl ?_
        simp only [go_sem, sRefPlain, sRefCutK, sRefClassK, sRefEndsS, sRefJoin, sRefTextB, sRefOf, g1, g2]
        exact ⟨(), toFits (by
          simp only [go_sem])⟩
    cases hp : plainLb (lb1, lb2, lb3) with
    | false =>
      rw [d3 hs hp]
      unfold plainLb at hp
      dsimp only at hp
      refine AW.of hΓ mixed [200022] _ _ _ rfl ?_
      simp only [go_sem, sRefPlain, sRefCutK, sRefClassK, sRefEndsS, sRefJoin, sRefTextB, sRefOf, hp, plainD]
      exact ⟨⟨by omega, by omega, by omega⟩, em_sL _⟩
    | true =>
      rw [d0 hs hp]
      unfold plainLb at hp
      dsimp only at hp
      refine AW.of hΓ mixed [5, 200022] _ _ _ rfl ?_
      simp only [go_sem, sRefPlain, sRefCutK, sRefClassK, sRefEndsS, sRefJoin, sRefTextB, sRefOf, hp, plainD]
      refine ⟨⟨by omega, by omega, by omega⟩, ?_⟩
      refine AW.adopt 12 24 9 (fun i => ePt.enc (([] : List Pt).getD i ePt.dflt)) rfl ?_
      refine AW.seqTo (fun x : Nat × Nat => Sh.st ⟨[(12, .ow 2 x.1 (L.flatMap (ckPs (fb, fl, fr) st (lb1, lb2, lb3) v)).length)], [(2, rowL x.1 24 ePt (L.flatMap (ckPs (fb, fl, fr) st (lb1, lb2, lb3) v)))], 175, 3, x.2, []⟩) ?_ fun ⟨u, nx⟩ => ?_
      rotate_left
      · have fL := flat_sum hf st (lb1, lb2, lb3) v L
        generalize L.flatMap (ckPs (fb, fl, fr) st (lb1, lb2, lb3) v) = S at *
        refine AW.freeze 2 u 24 9 S.length (fun i => ePt.enc (S.getD i ePt.dflt)) rfl (fun _ _ j hj => match j, hj with | 0, _ => rfl | 1, _ => rfl | 2, _ => rfl | 3, _ => rfl | 4, _ => rfl | 5, _ => rfl | 6, _ => rfl | 7, _ => rfl | 8, _ => rfl) ?_
        refine AW.cut ⟨[(12, sL ePt S)], [], 175, 3, nx, []⟩ ?_ ?_
        · simp only [go_sem, sRefPlain, sRefCutK, sRefClassK, sRefEndsS, sRefJoin, sRefTextB, sRefOf]
          exact vw_all (E := ePt) rfl rfl rfl
        refine AW.of hΓ mixed [] _ _ _ rfl ?_
        simp only [go_sem, sRefPlain, sRefCutK, sRefClassK, sRefEndsS, sRefJoin, sRefTextB, sRefOf]
        exact ⟨by omega, by omega⟩
      refine AW.of hΓ mixed [200022] _ _ _ rfl ?_
      simp only [go_sem, sRefPlain, sRefCutK, sRefClassK, sRefEndsS, sRefJoin, sRefTextB, sRefOf]
      refine AW.round (α := { x : Nat × List Pt × Nat × Nat // x.1 ≤ L.length ∧ x.2.1 = (L.take x.1).flatMap (ckPs (fb, fl, fr) st (lb1, lb2, lb3) v) })
        (fun x => ⟨[(1, sL eCk L), (2, .val (.int .i64 st)), (4, .val (.int .i64 v)), (5, .ps 3 (eFl.enc (fb, fl, fr))), (8, .ps 9 (ePt.enc (lb1, lb2, lb3, ph, pt, pl, pb, pr, phb))), (12, .ow 2 x.1.2.2.1 x.1.2.1.length), (13, .val (.int .i64 x.1.1))],
          [(2, rowL x.1.2.2.1 24 ePt x.1.2.1)], 175, 3, x.1.2.2.2, []⟩) (fun x => L.length - x.1.1) ⟨(0, [], 2, 3), Nat.zero_le _, rfl⟩ ?_ ?_
      · simp only [go_sem, sRefPlain, sRefCutK, sRefClassK, sRefEndsS, sRefJoin, sRefTextB, sRefOf]
        exact RowLe.refl _
      · rintro ⟨⟨i, S, u, nx⟩, hi, hS⟩
        simp only at hi hS
        have fi := fs i
        rw [← hS, List.length_take] at fi
        rcases Nat.lt_or_ge i L.length with hlt' | hge
        · have hlI : ((i : Int) < (L.length : Nat)) = True := eq_true (by omega)
          have hsn : (L.take (i + 1)).flatMap (ckPs (fb, fl, fr) st (lb1, lb2, lb3) v) = S ++ ckPs (fb, fl, fr) st (lb1, lb2, lb3) v (L.getD i eCk.dflt) := by
            rw [take_snoc L eCk.dflt hlt', List.flatMap_append, ← hS]
            simp
          generalize hce : L.getD i eCk.dflt = c at *
          obtain ⟨cs, ⟨cb1, cb2⟩, ⟨cl1, cl2⟩, cr1, cr2⟩ := c
          have hcc : classK (cs, (cb1, cb2), (cl1, cl2), cr1, cr2) fb fl fr = clsF (fb, fl, fr) (cs, (cb1, cb2), (cl1, cl2), cr1, cr2) := rfl
          have hkk : clsF (fb, fl, fr) (cs, (cb1, cb2), (cl1, cl2), cr1, cr2) = 0 ∨ clsF (fb, fl, fr) (cs, (cb1, cb2), (cl1, cl2), cr1, cr2) = 1 ∨ clsF (fb, fl, fr) (cs, (cb1, cb2), (cl1, cl2), cr1, cr2) = 2 ∨ clsF (fb, fl, fr) (cs, (cb1, cb2), (cl1, cl2), cr1, cr2) = 3 ∨ clsF (fb, fl, fr) (cs, (cb1, cb2), (cl1, cl2), cr1, cr2) = 4 := by
            rcases cls_cases (fb, fl, fr) (cs, (cb1, cb2), (cl1, cl2), cr1, cr2) with ⟨h, _⟩ | ⟨_, ⟨h, _⟩ | ⟨h, _⟩ | ⟨h, _⟩ | ⟨h, _⟩⟩
            · exact .inl h
            · exact .inr (.inr (.inl h))
            · exact .inr (.inl h)
            · exact .inr (.inr (.inr (.inl h)))
            · exact .inr (.inr (.inr (.inr h)))
          generalize hke : clsF (fb, fl, fr) (cs, (cb1, cb2), (cl1, cl2), cr1, cr2) = k at *
          have sB := cutS_sub (cb1, cb2) fb
          have sO := cutS_sub (cl1, cl2) fl
          have sT := cutS_sub (cr1, cr2) fr
          refine AW.of hΓ mixed [10, 99999, 200022] _ _ _ rfl ?_
          simp only [go_sem, sRefPlain, sRefCutK, sRefClassK, sRefEndsS, sRefJoin, sRefTextB, sRefOf, hce, hcc, hlI]
          refine ⟨by omega, by omega, by omega, by omega, by omega, by omega, by omega, ⟨by omega, by omega, by omega⟩, ?_⟩
          have kB := okLs_sub sB hf1.1 hf1.2
          have kO := okLs_sub sO hf2.1 hf2.2
          have kT := okLs_sub sT hf3.1 hf3.2
          refine AW.cut ⟨[(1, sL eCk L), (2, .val (.int .i64 st)), (4, .val (.int .i64 v)), (5, .ps 3 (eFl.enc (fb, fl, fr))), (8, .ps 9 (ePt.enc (lb1, lb2, lb3, ph, pt, pl, pb, pr, phb))), (12, .ow 2 u S.length), (13, .val (.int .i64 i)), (14, sL eS (cutS (cb1, cb2) fb)), (15, sL eS (cutS (cl1, cl2) fl)), (16, sL eS (cutS (cr1, cr2) fr)), (17, .val (.int .i64 k))],
            [(2, rowL u 24 ePt S)], 175, 3, nx, []⟩ ?_ ?_
          · simp only [go_sem, sRefPlain, sRefCutK, sRefClassK, sRefEndsS, sRefJoin, sRefTextB, sRefOf]
            exact RowLe.refl _
          rcases hkk with hk | hk | hk | hk | hk
          · subst hk
            have hcs : ckPs (fb, fl, fr) st (lb1, lb2, lb3) v (cs, (cb1, cb2), (cl1, cl2), cr1, cr2) = [textP (cutS (cb1, cb2) fb).flatten] := by
              unfold ckPs
              rw [hke, if_neg (by omega)]
              rfl
            rw [hcs] at hsn
            refine AW.of hΓ mixed [99999, 200022] _ _ _ rfl ?_
            simp only [go_sem, sRefPlain, sRefCutK, sRefClassK, sRefEndsS, sRefJoin, sRefTextB, sRefOf]
            refine ⟨kB, by omega, ⟨by omega, by omega⟩, ⟨(i + 1, S ++ [textP (cutS (cb1, cb2) fb).flatten], nx, nx + 1), by dsimp only; omega, hsn.symm⟩, ⟨Nat.le_refl _, ⟨⟨rfl, by simp⟩, by dsimp only; omega⟩, ?_⟩, by dsimp only; omega⟩
            exact row_app1 (E := ePt) rfl rfl rfl rfl (by simp) fun j _ => AVle.refl _
          · subst hk
            have hcs : ckPs (fb, fl, fr) st (lb1, lb2, lb3) v (cs, (cb1, cb2), (cl1, cl2), cr1, cr2) = [textP (cutS (cl1, cl2) fl).flatten] := by
              unfold ckPs
              rw [hke, if_neg (by omega)]
              rfl
            rw [hcs] at hsn
            refine AW.of hΓ mixed [99999, 200022] _ _ _ rfl ?_
            simp only [go_sem, sRefPlain, sRefCutK, sRefClassK, sRefEndsS, sRefJoin, sRefTextB, sRefOf]
            refine ⟨kO, by omega, ⟨by omega, by omega⟩, ⟨(i + 1, S ++ [textP (cutS (cl1, cl2) fl).flatten], nx, nx + 1), by dsimp only; omega, hsn.symm⟩, ⟨Nat.le_refl _, ⟨⟨rfl, by simp⟩, by dsimp only; omega⟩, ?_⟩, by dsimp only; omega⟩
            exact row_app1 (E := ePt) rfl rfl rfl rfl (by simp) fun j _ => AVle.refl _
          · subst hk
            have hcs : ckPs (fb, fl, fr) st (lb1, lb2, lb3) v (cs, (cb1, cb2), (cl1, cl2), cr1, cr2) = [textP (cutS (cr1, cr2) fr).flatten] := by
              unfold ckPs
              rw [hke, if_neg (by omega)]
              rfl
            rw [hcs] at hsn
            refine AW.of hΓ mixed [99999, 200022] _ _ _ rfl ?_
            simp only [go_sem, sRefPlain, sRefCutK, sRefClassK, sRefEndsS, sRefJoin, sRefTextB, sRefOf]
            refine ⟨kT, by omega, ⟨by omega, by omega⟩, ⟨(i + 1, S ++ [textP (cutS (cr1, cr2) fr).flatten], nx, nx + 1), by dsimp only; omega, hsn.symm⟩, ⟨Nat.le_refl _, ⟨⟨rfl, by simp⟩, by dsimp only; omega⟩, ?_⟩, by dsimp only; omega⟩
            exact row_app1 (E := ePt) rfl rfl rfl rfl (by simp) fun j _ => AVle.refl _
          · subst hk
            have hcs : ckPs (fb, fl, fr) st (lb1, lb2, lb3) v (cs, (cb1, cb2), (cl1, cl2), cr1, cr2) = [textP (cutS (cl1, cl2) fl).flatten] := by
              unfold ckPs
              rw [hke, if_neg (by omega)]
              rfl
            rw [hcs] at hsn
            refine AW.of hΓ mixed [99999, 200022] _ _ _ rfl ?_
            simp only [go_sem, sRefPlain, sRefCutK, sRefClassK, sRefEndsS, sRefJoin, sRefTextB, sRefOf]
            refine ⟨kO, by omega, ⟨by omega, by omega⟩, ⟨(i + 1, S ++ [textP (cutS (cl1, cl2) fl).flatten], nx, nx + 1), by dsimp only; omega, hsn.symm⟩, ⟨Nat.le_refl _, ⟨⟨rfl, by simp⟩, by dsimp only; omega⟩, ?_⟩, by dsimp only; omega⟩
            exact row_app1 (E := ePt) rfl rfl rfl rfl (by simp) fun j _ => AVle.refl _
          · subst hk
            have hcs : ckPs (fb, fl, fr) st (lb1, lb2, lb3) v (cs, (cb1, cb2), (cl1, cl2), cr1, cr2) = if v = 0 then confL (fb, fl, fr) (cs, (cb1, cb2), (cl1, cl2), cr1, cr2) st (lb1, lb2, lb3) else if v = 3 then [textP (cutS (cr1, cr2) fr).flatten] else [textP (cutS (cl1, cl2) fl).flatten] := by
              unfold ckPs sideF
              rw [hke]
              by_cases h0 : v = 0
              · rw [if_pos ⟨rfl, h0⟩, if_pos h0]
              · rw [if_neg (fun e => h0 e.2), if_neg h0, if_neg (by decide), if_neg (by decide)]
                by_cases h3 : v = 3
                · rw [if_pos ⟨rfl, h3⟩, if_pos h3]
                  rfl
                · rw [if_neg (fun e => h3 e.2), if_neg h3]
                  rfl
            rw [hcs] at hsn
            rcases hv with hv | hv | hv
            · subst hv
              rw [if_pos rfl] at hsn
              refine AW.of hΓ mixed [17, 99999, 200022] _ _ _ rfl ?_
              simp only [go_sem, sRefPlain, sRefCutK, sRefClassK, sRefEndsS, sRefJoin, sRefTextB, sRefOf]
              have hh := hoist_le st (cutS (cl1, cl2) fl) (cutS (cr1, cr2) fr)
              have i1 := sO.length_le
              have i2 := sT.length_le
              have hcf : confL (fb, fl, fr) (cs, (cb1, cb2), (cl1, cl2), cr1, cr2) st (lb1, lb2, lb3) = [textP ((cutS (cl1, cl2) fl).take (hoistF st (cutS (cl1, cl2) fl) (cutS (cr1, cr2) fr)).1).flatten,
                (lb1, (if st = 0 then [] else lb2), lb3, true, [], (cutL (cutS (cl1, cl2) fl) (hoistF st (cutS (cl1, cl2) fl) (cutS (cr1, cr2) fr)).1 ((cutS (cl1, cl2) fl).length - (hoistF st (cutS (cl1, cl2) fl) (cutS (cr1, cr2) fr)).2)).flatten, (if st = 0 then [] else (cutS (cb1, cb2) fb).flatten), (cutL (cutS (cr1, cr2) fr) (hoistF st (cutS (cl1, cl2) fl) (cutS (cr1, cr2) fr)).1 ((cutS (cr1, cr2) fr).length - (hoistF st (cutS (cl1, cl2) fl) (cutS (cr1, cr2) fr)).2)).flatten, decide (st ≠ 0)),
                textP ((cutS (cl1, cl2) fl).drop ((cutS (cl1, cl2) fl).length - (hoistF st (cutS (cl1, cl2) fl) (cutS (cr1, cr2) fr)).2)).flatten] := rfl
              rw [hcf] at hsn
              clear hcf hcs hke hcc hce d5 d3 d0
              generalize cutS (cb1, cb2) fb = B at *
              generalize cutS (cl1, cl2) fl = O at *
              generalize cutS (cr1, cr2) fr = T at *
              refine AW.cut ⟨[(2, .val (.int .i64 st)), (8, .ps 9 (ePt.enc (lb1, lb2, lb3, ph, pt, pl, pb, pr, phb))), (1, sL eCk L), (4, .val (.int .i64 0)), (5, .ps 3 (eFl.enc (fb, fl, fr))), (12, .ow 2 u S.length), (13, .val (.int .i64 i)), (14, sL eS B), (15, sL eS O), (16, sL eS T), (18, .val (.int .i64 0)), (19, .val (.int .i64 0))],
                [(2, rowL u 24 ePt S)], 175, 3, nx, []⟩ ?_ ?_
              · simp only [go_sem, sRefPlain, sRefCutK, sRefClassK, sRefEndsS, sRefJoin, sRefTextB, sRefOf]
                exact RowLe.refl _
              refine AW.seqTo (fun _ : Unit => Sh.st ⟨[(2, .val (.int .i64 st)), (8, .ps 9 (ePt.enc (lb1, lb2, lb3, ph, pt, pl, pb, pr, phb))), (1, sL eCk L), (4, .val (.int .i64 0)), (5, .ps 3 (eFl.enc (fb, fl, fr))), (12, .ow 2 u S.length), (13, .val (.int .i64 i)), (14, sL eS B), (15, sL eS O), (16, sL eS T), (18, .val (.int .i64 (hoistF st O T).1)), (19, .val (.int .i64 (hoistF st O T).2))],
                [(2, rowL u 24 ePt S)], 175, 3, nx, []⟩) ?_ fun _ => ?_
              · refine AW.of hΓ mixed [99999] _ _ _ rfl ?_
                simp only [go_sem, sRefPlain, sRefCutK, sRefClassK, sRefEndsS, sRefJoin, sRefTextB, sRefOf]
                refine ⟨fun h2 => ⟨⟨by omega, by omega⟩, (), toFits ?_⟩, fun h2 => ⟨(), toFits ?_⟩⟩
                · unfold hoistF
                  rw [if_pos h2]
                  simp only [go_sem, sRefPlain, sRefCutK, sRefClassK, sRefEndsS, sRefJoin, sRefTextB, sRefOf]
                  exact RowLe.refl _
                · unfold hoistF
                  rw [if_neg h2]
                  simp only [go_sem, sRefPlain, sRefCutK, sRefClassK, sRefEndsS, sRefJoin, sRefTextB, sRefOf]
                  exact RowLe.refl _
              generalize hoistF st O T = h at *
              obtain ⟨h1, h2⟩ := h
              dsimp only at hh hsn ⊢
              have eO : (List.range (((O.length : Int) - (h2 : Int)).toNat - h1)).map (fun i => O.getD (h1 + i) []) = cutL O h1 (O.length - h2) := by
                rw [cut_map (by omega), show ((O.length : Int) - (h2 : Int)).toNat - h1 = O.length - h2 - h1 by omega]
              have eT : (List.range (((T.length : Int) - (h2 : Int)).toNat - h1)).map (fun i => T.getD (h1 + i) []) = cutL T h1 (T.length - h2) := by
                rw [cut_map (by omega), show ((T.length : Int) - (h2 : Int)).toNat - h1 = T.length - h2 - h1 by omega]
              have jO : okLs (cutL O h1 (O.length - h2)) := okLs_sub (((List.drop_sublist _ _).trans (List.take_sublist _ _)).trans sO) hf2.1 hf2.2
              have jT : okLs (cutL T h1 (T.length - h2)) := okLs_sub (((List.drop_sublist _ _).trans (List.take_sublist _ _)).trans sT) hf3.1 hf3.2
              have jA : okLs (O.take h1) := okLs_sub ((List.take_sublist _ _).trans sO) hf2.1 hf2.2
              have jD : okLs (O.drop (O.length - h2)) := okLs_sub ((List.drop_sublist _ _).trans sO) hf2.1 hf2.2
              refine AW.of hΓ mixed [20, 99999, 200022] _ _ _ rfl ?_
              simp only [go_sem, sRefPlain, sRefCutK, sRefClassK, sRefEndsS, sRefJoin, sRefTextB, sRefOf, eO, eT]
              refine ⟨⟨by omega, by omega⟩, ⟨by omega, by omega, by omega⟩, jO, ⟨by omega, by omega⟩, ⟨by omega, by omega, by omega⟩, jT, ?_⟩
              generalize (cutL O h1 (O.length - h2)).flatten = X at *
              generalize (cutL T h1 (T.length - h2)).flatten = Y at *
              refine AW.cut ⟨[(2, .val (.int .i64 st)), (8, .ps 9 (ePt.enc (lb1, lb2, lb3, ph, pt, pl, pb, pr, phb))), (1, sL eCk L), (4, .val (.int .i64 0)), (5, .ps 3 (eFl.enc (fb, fl, fr))), (12, .ow 2 u S.length), (13, .val (.int .i64 i)), (14, sL eS B), (15, sL eS O), (18, .val (.int .i64 h1)), (19, .val (.int .i64 h2)), (20, .pt 3 nx 0)],
                [(2, rowL u 24 ePt S), (3, .box nx 24 9 (ePt.enc (lb1, [], lb3, true, [], X, [], Y, false)))], 175, 4, nx + 1, []⟩ ?_ ?_
              · simp only [go_sem, sRefPlain, sRefCutK, sRefClassK, sRefEndsS, sRefJoin, sRefTextB, sRefOf]
                exact ⟨RowLe.refl _, pt_box rfl rfl rfl rfl rfl rfl rfl rfl rfl⟩
              refine AW.seqTo (fun _ : Unit => Sh.st ⟨[(2, .val (.int .i64 st)), (8, .ps 9 (ePt.enc (lb1, lb2, lb3, ph, pt, pl, pb, pr, phb))), (1, sL eCk L), (4, .val (.int .i64 0)), (5, .ps 3 (eFl.enc (fb, fl, fr))), (12, .ow 2 u S.length), (13, .val (.int .i64 i)), (15, sL eS O), (18, .val (.int .i64 h1)), (19, .val (.int .i64 h2)), (20, .pt 3 nx 0)],
                [(2, rowL u 24 ePt S), (3, .box nx 24 9 (ePt.enc (lb1, (if st = 0 then [] else lb2), lb3, true, [], X, (if st = 0 then [] else B.flatten), Y, decide (st ≠ 0))))], 175, 4, nx + 1, []⟩) ?_ fun _ => ?_
              · refine AW.of hΓ mixed [99999, 200022] _ _ _ rfl ?_
                simp only [go_sem, sRefPlain, sRefCutK, sRefClassK, sRefEndsS, sRefJoin, sRefTextB, sRefOf]
                refine ⟨fun h0 => ?_, fun h0 => ⟨(), toFits ?_⟩⟩
                · rw [if_neg (by omega), if_neg (by omega), decide_eq_true (by omega)]
                  refine AW.drawZ hΓ mixed 5 [6, 8] [1, 2, 3, 4, 6, 8] [] (by kernel_rfl) ?_
                  simp only [go_sem, sRefPlain, sRefCutK, sRefClassK, sRefEndsS, sRefJoin, sRefTextB, sRefOf]
                  refine ⟨kB, (), toFits ?_⟩
                  simp only [go_sem, sRefPlain, sRefCutK, sRefClassK, sRefEndsS, sRefJoin, sRefTextB, sRefOf]
                  exact ⟨RowLe.refl _, pt_box rfl rfl rfl rfl rfl rfl rfl rfl rfl⟩
                · obtain rfl : st = 0 := by omega
                  simp only [go_sem, sRefPlain, sRefCutK, sRefClassK, sRefEndsS, sRefJoin, sRefTextB, sRefOf]
                  exact ⟨RowLe.refl _, pt_box rfl rfl rfl rfl rfl rfl rfl rfl rfl⟩
              have eA1 : (List.range (h1 - 0)).map (fun i => O.getD i []) = O.take h1 := by
                refine list_ext_getD [] (by simp; omega) fun k hk => ?_
                have hk : k < h1 := by simpa using hk
                simp [List.getD, List.getElem?_take, hk]
              have eA2 : (List.range (O.length - ((O.length : Int) - (h2 : Int)).toNat)).map (fun i => O.getD (((O.length : Int) - (h2 : Int)).toNat + i) []) = O.drop (O.length - h2) := by
                have e : ((O.length : Int) - (h2 : Int)).toNat = O.length - h2 := by omega
                rw [e]
                refine list_ext_getD [] (by simp) fun k hk => ?_
                have hk : k < O.length - (O.length - h2) := by simpa using hk
                simp [List.getD, hk]
                rw [List.getElem?_eq_getElem (by omega)]
                rfl
              refine AW.of hΓ mixed [99999, 200022] _ _ _ rfl ?_
              simp only [go_sem, sRefPlain, sRefCutK, sRefClassK, sRefEndsS, sRefJoin, sRefTextB, sRefOf, eA1, eA2]
              refine ⟨⟨by omega, by omega⟩, jA, ⟨by omega, by omega⟩, ⟨by omega, by omega, by omega⟩, jD, by omega, ⟨by omega, by omega⟩, ⟨(i + 1, S ++ [textP (O.take h1).flatten, (lb1, (if st = 0 then [] else lb2), lb3, true, [], X, (if st = 0 then [] else B.flatten), Y, decide (st ≠ 0)), textP (O.drop (O.length - h2)).flatten], nx + 1, nx + 2), by dsimp only; omega, hsn.symm⟩, ⟨Nat.le_refl _, ⟨⟨rfl, by simp⟩, by dsimp only; omega⟩, ?_⟩, by dsimp only; omega⟩
              exact row_app (E := ePt) rfl rfl rfl rfl (by simp) fun i hi j _ => match i, hi with
                | 0, _ => AVle.refl _
                | 1, _ => AVle.refl _
                | 2, _ => AVle.refl _
            · subst hv
              rw [if_neg (by decide), if_neg (by decide)] at hsn
              refine AW.of hΓ mixed [99999, 200022] _ _ _ rfl ?_
              simp only [go_sem, sRefPlain, sRefCutK, sRefClassK, sRefEndsS, sRefJoin, sRefTextB, sRefOf]
              refine ⟨kO, by omega, ⟨by omega, by omega⟩, ⟨(i + 1, S ++ [textP (cutS (cl1, cl2) fl).flatten], nx, nx + 1), by dsimp only; omega, hsn.symm⟩, ⟨Nat.le_refl _, ⟨⟨rfl, by simp⟩, by dsimp only; omega⟩, ?_⟩, by dsimp only; omega⟩
              exact row_app1 (E := ePt) rfl rfl rfl rfl (by simp) fun j _ => AVle.refl _
            · subst hv
              rw [if_neg (by decide), if_pos rfl] at hsn
              refine AW.of hΓ mixed [99999, 200022] _ _ _ rfl ?_
              simp only [go_sem, sRefPlain, sRefCutK, sRefClassK, sRefEndsS, sRefJoin, sRefTextB, sRefOf]
              refine ⟨kT, by omega, ⟨by omega, by omega⟩, ⟨(i + 1, S ++ [textP (cutS (cr1, cr2) fr).flatten], nx, nx + 1), by dsimp only; omega, hsn.symm⟩, ⟨Nat.le_refl _, ⟨⟨rfl, by simp⟩, by dsimp only; omega⟩, ?_⟩, by dsimp only; omega⟩
              exact row_app1 (E := ePt) rfl rfl rfl rfl (by simp) fun j _ => AVle.refl _
        · obtain rfl : i = L.length := by omega
          rw [List.take_length] at hS
          refine AW.of hΓ mixed [99999, 200022] _ _ _ rfl ?_
          simp only [go_sem, sRefPlain, sRefCutK, sRefClassK, sRefEndsS, sRefJoin, sRefTextB, sRefOf]
          refine ⟨(u, nx), toFits ?_⟩
          rw [← hS]
          simp only [go_sem, sRefPlain, sRefCutK, sRefClassK, sRefEndsS, sRefJoin, sRefTextB, sRefOf]
          exact RowLe.refl _
end Go.Proofs.Ytnhfobhdbablaaa
set_option linter.unusedVariables false
namespace Go.Proofs.Ytnhfobhdbablaaa
section
variable (a b : List Int)
def nextR (x : Int) (prev : Nat → Nat) : Nat → Nat
  | 0 => 0
  | k + 1 => if x = b.getD k 0 then prev k + 1 else max (prev (k + 1)) (nextR x prev k)
/-- The length of the longest common sublists of the first i of a, and the first k of b. -/
def tabL : Nat → Nat → Nat
  | 0 => fun _ => 0
  | i + 1 => nextR b (a.getD i 0) (tabL i)
end
section
variable {a b : List Int}
theorem tabL_0 (k : Nat) : tabL a b 0 k = 0 := rfl
theorem tabL_i0 (i : Nat) : tabL a b i 0 = 0 := by cases i <;> rfl
theorem tabL_eq {i k : Nat} (h : a.getD i 0 = b.getD k 0) : tabL a b (i + 1) (k + 1) = tabL a b i k + 1 := by
  show nextR b (a.getD i 0) (tabL a b i) (k + 1) = _
  rw [nextR, if_pos h]
theorem tabL_ne {i k : Nat} (h : a.getD i 0 ≠ b.getD k 0) : tabL a b (i + 1) (k + 1) = max (tabL a b i (k + 1)) (tabL a b (i + 1) k) := by
  show nextR b (a.getD i 0) (tabL a b i) (k + 1) = _
  rw [nextR, if_neg h]
  rfl
/-- One item more adds one, at most. -/
theorem tabL_steps : ∀ (n i k : Nat), i + k ≤ n → tabL a b i k ≤ tabL a b (i + 1) k ∧ tabL a b (i + 1) k ≤ tabL a b i k + 1 ∧ tabL a b i k ≤ tabL a b i (k + 1) ∧ tabL a b i (k + 1) ≤ tabL a b i k + 1
  | n, i, k, hn => by
    have hB : ∀ i k, i + k ≤ n → tabL a b i k ≤ tabL a b i (k + 1) ∧ tabL a b i (k + 1) ≤ tabL a b i k + 1 := by
      intro i k hik
      cases i with
      | zero => simp [tabL_0]
      | succ i =>
        cases n with
        | zero => omega
        | succ n =>
          have h1 := tabL_steps n i k (by omega)
          by_cases h : a.getD i 0 = b.getD k 0
          · rw [tabL_eq h]; omega
          · rw [tabL_ne h]; omega
    have hA : tabL a b i k ≤ tabL a b (i + 1) k ∧ tabL a b (i + 1) k ≤ tabL a b i k + 1 := by
      cases k with
      | zero => simp [tabL_i0]
      | succ k =>
        cases n with
        | zero => omega
        | succ n =>
          have h1 := tabL_steps n i k (by omega)
          by_cases h : a.getD i 0 = b.getD k 0
          · rw [tabL_eq h]; omega
          · have h2 := hB i k (by omega)
            rw [tabL_ne h]; omega
    exact ⟨hA.1, hA.2, hB i k hn⟩
theorem tabL_right (i k : Nat) : tabL a b i k ≤ tabL a b (i + 1) k ∧ tabL a b (i + 1) k ≤ tabL a b i k + 1 := ⟨(tabL_steps _ i k (Nat.le_refl _)).1, (tabL_steps _ i k (Nat.le_refl _)).2.1⟩
theorem tabL_down (i k : Nat) : tabL a b i k ≤ tabL a b i (k + 1) ∧ tabL a b i (k + 1) ≤ tabL a b i k + 1 := (tabL_steps _ i k (Nat.le_refl _)).2.2
theorem tabL_diag (i k : Nat) : tabL a b (i + 1) (k + 1) ≤ tabL a b i k + 1 := by
  by_cases h : a.getD i 0 = b.getD k 0
  · rw [tabL_eq h]; omega
  · rw [tabL_ne h]
    have := tabL_right (a := a) (b := b) i k
    have := tabL_down (a := a) (b := b) i k
    omega
theorem tabL_le (i k : Nat) : tabL a b i k ≤ i ∧ tabL a b i k ≤ k := by
  induction i with
  | zero => simp [tabL_0]
  | succ i ih =>
    constructor
    · have := (tabL_right (a := a) (b := b) i k).2; omega
    · clear ih
      induction k with
      | zero => simp [tabL_i0]
      | succ k ih => have := (tabL_down (a := a) (b := b) (i + 1) k).2; omega
end
/-! ### common sublists -/
theorem sub_snoc {c l : List Int} {z : Int} (h : c.Sublist (l ++ [z])) : c.Sublist l ∨ ∃ d, c = d ++ [z] ∧ d.Sublist l := by
  rw [List.sublist_append_iff] at h
  obtain ⟨c1, c2, rfl, h1, h2⟩ := h
  cases c2 with
  | nil => exact .inl (by simpa using h1)
  | cons y r =>
    have hl := h2.length_le
    simp only [List.length_cons, List.length_nil] at hl
    have hr : r = [] := List.length_eq_zero_iff.1 (by omega)
    subst hr
    have hy : y = z := by
      have := h2.subset (List.mem_cons_self ..)
      simpa using this
    subst hy
    exact .inr ⟨c1, rfl, h1⟩
theorem take_snoc' {l : List Int} {i : Nat} (h : i < l.length) : l.take (i + 1) = l.take i ++ [l.getD i 0] := by
  rw [List.take_add_one, gd_lt _ _ h]; simp [h]
section
variable {a b : List Int}
/-- No common sublist is longer. -/
theorem tabL_max : ∀ (n i k : Nat), i + k ≤ n → i ≤ a.length → k ≤ b.length → ∀ c : List Int, c.Sublist (a.take i) → c.Sublist (b.take k) → c.length ≤ tabL a b i k
  | n, 0, k, _, _, _, c, h1, _ => by simp at h1; simp [h1]
  | n, i + 1, 0, _, _, _, c, _, h2 => by simp at h2; simp [h2]
  | 0, i + 1, k + 1, hn, _, _, _, _, _ => by omega
  | n + 1, i + 1, k + 1, hn, hi, hk, c, h1, h2 => by
    have h1' := h1
    have h2' := h2
    rw [take_snoc' (by omega)] at h1 h2
    by_cases h : a.getD i 0 = b.getD k 0
    · rw [tabL_eq h]
      have d1 : c.dropLast.Sublist (a.take i) := by
        rcases sub_snoc h1 with h | ⟨d, rfl, h⟩
        · exact (List.dropLast_sublist c).trans h
        · simpa using h
      have d2 : c.dropLast.Sublist (b.take k) := by
        rcases sub_snoc h2 with h | ⟨d, rfl, h⟩
        · exact (List.dropLast_sublist c).trans h
        · simpa using h
      have := tabL_max n i k (by omega) (by omega) (by omega) _ d1 d2
      simp at this
      omega
    · rw [tabL_ne h]
      rcases sub_snoc h1 with g1 | ⟨d, rfl, g1⟩
      · have := tabL_max n i (k + 1) (by omega) (by omega) hk c g1 h2'
        omega
      · rcases sub_snoc h2 with g2 | ⟨e, he, g2⟩
        · have := tabL_max n (i + 1) k (by omega) hi (by omega) _ h1' g2
          omega
        · have := List.append_inj' he rfl
          simp at this
          exact absurd this.2 h
/-- Some common sublist is as long. -/
theorem tabL_some : ∀ (n i k : Nat), i + k ≤ n → i ≤ a.length → k ≤ b.length → ∃ c : List Int, c.Sublist (a.take i) ∧ c.Sublist (b.take k) ∧ c.length = tabL a b i k
  | n, 0, k, _, _, _ => ⟨[], by simp, by simp, rfl⟩
  | n, i + 1, 0, _, _, _ => ⟨[], by simp, by simp, by simp [tabL_i0]⟩
  | 0, i + 1, k + 1, hn, _, _ => by omega
  | n + 1, i + 1, k + 1, hn, hi, hk => by
    by_cases h : a.getD i 0 = b.getD k 0
    · obtain ⟨c, h1, h2, h3⟩ := tabL_some n i k (by omega) (by omega) (by omega)
      refine ⟨c ++ [a.getD i 0], ?_, ?_, ?_⟩
      · rw [take_snoc' (by omega)]; exact h1.append (List.Sublist.refl _)
      · rw [take_snoc' (by omega), h]; exact h2.append (List.Sublist.refl _)
      · rw [tabL_eq h]; simp [h3]
    · rw [tabL_ne h]
      rcases Nat.le_total (tabL a b i (k + 1)) (tabL a b (i + 1) k) with g | g
      · obtain ⟨c, h1, h2, h3⟩ := tabL_some n (i + 1) k (by omega) hi (by omega)
        refine ⟨c, h1, ?_, by omega⟩
        rw [take_snoc' (by omega)]
        exact h2.trans (List.sublist_append_left _ _)
      · obtain ⟨c, h1, h2, h3⟩ := tabL_some n i (k + 1) (by omega) (by omega) hk
        refine ⟨c, ?_, h2, by omega⟩
        rw [take_snoc' (by omega)]
        exact h1.trans (List.sublist_append_left _ _)
end
/-- The length of the longest common sublists. -/
def lcsN (a b : List Int) : Nat := tabL a b a.length b.length
theorem lcsN_max {a b c : List Int} (h1 : c.Sublist a) (h2 : c.Sublist b) : c.length ≤ lcsN a b :=
  tabL_max _ _ _ (Nat.le_refl _) (Nat.le_refl _) (Nat.le_refl _) c (by simpa using h1) (by simpa using h2)
theorem lcsN_some (a b : List Int) : ∃ c : List Int, c.Sublist a ∧ c.Sublist b ∧ c.length = lcsN a b := by
  obtain ⟨c, h1, h2, h3⟩ := tabL_some (a := a) (b := b) _ _ _ (Nat.le_refl _) (Nat.le_refl _) (Nat.le_refl _)
  exact ⟨c, by simpa using h1, by simpa using h2, h3⟩
theorem lcsN_eq {a b : List Int} {v : Nat} (h : ∃ c : List Int, c.Sublist a ∧ c.Sublist b ∧ c.length = v) (k : ∀ c : List Int, c.Sublist a → c.Sublist b → c.length ≤ v) : lcsN a b = v := by
  obtain ⟨c, h1, h2, h3⟩ := h
  obtain ⟨e, g1, g2, g3⟩ := lcsN_some a b
  have := lcsN_max h1 h2
  have := k e g1 g2
  omega
theorem tabL_lcs {a b : List Int} {i k : Nat} (hi : i ≤ a.length) (hk : k ≤ b.length) : tabL a b i k = lcsN (a.take i) (b.take k) := by
  refine (lcsN_eq ?_ ?_).symm
  · exact tabL_some _ _ _ (Nat.le_refl _) hi hk
  · exact tabL_max _ _ _ (Nat.le_refl _) hi hk
theorem lcsN_comm (a b : List Int) : lcsN a b = lcsN b a := by
  obtain ⟨c, h1, h2, h3⟩ := lcsN_some b a
  refine lcsN_eq ⟨c, h2, h1, h3⟩ fun c h1 h2 => lcsN_max h2 h1
theorem lcsN_rev (a b : List Int) : lcsN a.reverse b.reverse = lcsN a b := by
  obtain ⟨c, h1, h2, h3⟩ := lcsN_some a b
  refine lcsN_eq ⟨c.reverse, h1.reverse, h2.reverse, by simpa using h3⟩ fun c h1 h2 => ?_
  have := lcsN_max (c := c.reverse) (by simpa using h1.reverse) (by simpa using h2.reverse)
  simpa using this
theorem lcsN_append (a a' b b' : List Int) : lcsN a b + lcsN a' b' ≤ lcsN (a ++ a') (b ++ b') := by
  obtain ⟨c, h1, h2, h3⟩ := lcsN_some a b
  obtain ⟨d, g1, g2, g3⟩ := lcsN_some a' b'
  have := lcsN_max (h1.append g1) (h2.append g2)
  simp at this
  omega
theorem lcsN_nil (b : List Int) : lcsN [] b = 0 := by
  refine lcsN_eq ⟨[], by simp, by simp, rfl⟩ fun c h1 _ => ?_
  have := h1.length_le
  simpa using this
theorem lcsN_nil' (b : List Int) : lcsN b [] = 0 := by rw [lcsN_comm, lcsN_nil]
theorem lcsN_same (a : List Int) : lcsN a a = a.length :=
  lcsN_eq ⟨a, List.Sublist.refl _, List.Sublist.refl _, rfl⟩ fun c h _ => h.length_le
theorem lcsN_sub {a b : List Int} (h : b.Sublist a) : lcsN a b = b.length :=
  lcsN_eq ⟨b, h, List.Sublist.refl _, rfl⟩ fun c _ h => h.length_le
theorem lcsN_le (a b : List Int) : lcsN a b ≤ a.length ∧ lcsN a b ≤ b.length := tabL_le _ _
/-- What both begin with may be matched. -/
theorem lcsN_cons (x : Int) (a b : List Int) : lcsN (x :: a) (x :: b) = lcsN a b + 1 := by
  obtain ⟨c, h1, h2, h3⟩ := lcsN_some a b
  refine lcsN_eq ⟨x :: c, h1.cons_cons x, h2.cons_cons x, by simp [h3]⟩ fun c h1 h2 => ?_
  have t1 : c.tail.Sublist a := by
    cases c with
    | nil => simp
    | cons y c =>
      rcases List.sublist_cons_iff.1 h1 with h | ⟨r, e, h⟩
      · exact (List.tail_sublist _).trans h
      · injection e with _ e; subst e; exact h
  have t2 : c.tail.Sublist b := by
    cases c with
    | nil => simp
    | cons y c =>
      rcases List.sublist_cons_iff.1 h2 with h | ⟨r, e, h⟩
      · exact (List.tail_sublist _).trans h
      · injection e with _ e; subst e; exact h
  have := lcsN_max t1 t2
  simp at this
  omega
theorem lcsN_ahead (p a b : List Int) : lcsN (p ++ a) (p ++ b) = p.length + lcsN a b := by
  induction p with
  | nil => simp
  | cons x p ih => simp only [List.cons_append, lcsN_cons, ih, List.length_cons]; omega
theorem lcsN_behind (p a b : List Int) : lcsN (a ++ p) (b ++ p) = lcsN a b + p.length := by
  rw [← lcsN_rev, List.reverse_append, List.reverse_append, lcsN_ahead, lcsN_rev]
  simp; omega
end Go.Proofs.Ytnhfobhdbablaaa
set_option linter.unusedSimpArgs false
set_option linter.unusedVariables false
set_option maxRecDepth 100000
set_option maxHeartbeats 2000000
namespace Go.Proofs.Ytnhfobhdbablaaa
open Go
attribute [local irreducible] AW AVle ASle RowLe
def sLcsLength : Spec := Spec.f2 (kL eI) (kL eI) (fun a b => a.length < 100000000 ∧ b.length < 100000000) (fun a b => kI.enc (lcsN a b))
def rowN (n : Nat) (f : Nat → Nat) : List Int := (List.range n).map fun k => (f k : Int)
theorem rowN_len (n : Nat) (f : Nat → Nat) : (rowN n f).length = n := by simp [rowN]
theorem rowN_at {n : Nat} (f : Nat → Nat) {k : Nat} (h : k < n) : (rowN n f).getD k 0 = f k := by simp [rowN, List.getD, h]
theorem rowN_set {n k : Nat} {f g : Nat → Nat} {w : Int} (hw : w = g k) (h : ∀ t, t < n → t ≠ k → f t = g t) : (rowN n f).set k w = rowN n g := by
  refine list_ext_getD 0 (by simp [rowN]) fun t ht => ?_
  simp only [List.length_set, rowN_len] at ht
  rw [rowN_at _ ht]
  by_cases e : t = k
  · subst e
    simp [List.getD, rowN_len, ht, hw]
  · have e2 : ((rowN n f).set k w).getD t 0 = (rowN n f).getD t 0 := by simp only [List.getD]; rw [List.getElem?_set_ne (by omega)]
    rw [e2, rowN_at _ ht, h t ht e]
theorem okLcsLength : SpecOK Try.prog 71 sLcsLength := by
  refine SpecOK.f2 Try.func71 rfl (by decide) Try.results71 Try.ntmps71 (by decide) fun a b ⟨ha, hb⟩ => ?_
  have hΓ : GOK Try.prog (gam []) := GOK.nil
  refine AW.of hΓ mixed [] _ _ _ rfl ?_
  simp only [go_sem]
  refine ⟨by omega, by omega, ?_⟩
  refine AW.round (α := { x : Nat × Nat × Nat // x.1 ≤ a.length })
    (fun x => ⟨[(0, sL eI a), (1, sL eI b), (5, .ow 0 x.1.2.1 (b.length + 1)), (6, .val (.int .i64 x.1.1))], [(0, rowL x.1.2.1 3 eI (rowN (b.length + 1) (tabL a b x.1.1)))], 67, 1, x.1.2.2, []⟩) (fun x => a.length - x.1.1) ⟨(0, 0, 1), Nat.zero_le _⟩ ?_ ?_
  · simp only [go_sem]
    refine RowLe.sl (rowN_len _ _) fun k hk j hj => AVle.of_eq ?_
    match j, hj with
    | 0, _ =>
      rw [rowN_at _ hk]
      rfl
  · rintro ⟨⟨i, v, nx⟩, hi⟩
    simp only at hi
    refine AW.of hΓ mixed [5, 99999] _ _ _ rfl ?_
    simp only [go_sem]
    refine ⟨fun hlt => ?_, fun hge => ?_⟩
    · refine ⟨by omega, by omega, ?_⟩
      refine AW.seqTo (fun n3 : Nat => Sh.st ⟨[(0, sL eI a), (1, sL eI b), (6, .val (.int .i64 i)), (7, .ow 0 nx (b.length + 1))], [(0, rowL nx 3 eI (rowN (b.length + 1) (tabL a b (i + 1))))], 67, 1, n3, []⟩) ?_ ?_
      · refine AW.of hΓ mixed [] _ _ _ rfl ?_
        simp only [go_sem]
        refine AW.round (α := { x : Nat × Nat // x.1 ≤ b.length })
          (fun x => ⟨[(0, sL eI a), (1, sL eI b), (5, .ow 0 v (b.length + 1)), (6, .val (.int .i64 i)), (7, .ow 1 nx (b.length + 1)), (8, .val (.int .i64 x.1.1))],
            [(0, rowL v 3 eI (rowN (b.length + 1) (tabL a b i))), (1, rowL nx 3 eI (rowN (b.length + 1) fun t => if t ≤ x.1.1 then tabL a b (i + 1) t else 0))], 67, 2, x.1.2, []⟩) (fun x => b.length - x.1.1) ⟨(0, nx + 1), Nat.zero_le _⟩ ?_ ?_
        · simp only [go_sem]
          refine ⟨RowLe.refl _, RowLe.sl (rowN_len _ _) fun k hk j hj => AVle.of_eq ?_⟩
          match j, hj with
          | 0, _ =>
            rw [rowN_at _ hk]
            by_cases h0 : k ≤ 0
            · obtain rfl : k = 0 := by omega
              rw [if_pos (Nat.le_refl _), tabL_i0]
              rfl
            · rw [if_neg h0]
              rfl
        · rintro ⟨⟨k, n2⟩, hk⟩
          simp only at hk
          refine AW.of hΓ mixed [9, 99999] _ _ _ rfl ?_
          simp only [go_sem]
          refine ⟨fun hlt2 => ?_, fun hge2 => ?_⟩
          · have k1 : k < b.length := by omega
            have g1 := rowN_at (n := b.length + 1) (tabL a b i) (k := k + 1) (by omega)
            have g2 := rowN_at (n := b.length + 1) (fun t => if t ≤ k then tabL a b (i + 1) t else 0) (k := k) (by omega)
            rw [if_pos (Nat.le_refl _)] at g2
            have g3 := rowN_at (n := b.length + 1) (tabL a b i) (k := k) (by omega)
            have g4 := (tabL_le (a := a) (b := b) i k)
            refine ⟨by omega, by omega, by omega, by rw [rowN_len]; omega, by omega, by rw [rowN_len]; omega, by omega, by rw [rowN_len]; omega, ?_⟩
            refine AW.cut ⟨[(0, sL eI a), (1, sL eI b), (5, .ow 0 v (b.length + 1)), (6, .val (.int .i64 i)), (7, .ow 1 nx (b.length + 1)), (8, .val (.int .i64 k))],
              [(0, rowL v 3 eI (rowN (b.length + 1) (tabL a b i))), (1, rowL nx 3 eI ((rowN (b.length + 1) fun t => if t ≤ k then tabL a b (i + 1) t else 0).set (k + 1) (max (tabL a b i (k + 1) : Int) (tabL a b (i + 1) k))))], 67, 2, n2, []⟩ ?_ ?_
            · simp only [go_sem]
              refine ⟨RowLe.refl _, row_set (E := eI) rfl rfl rfl (by simp) fun j hj => AVle.of_eq ?_⟩
              rw [g1, g2]
              rfl
            · by_cases he : a.getD i 0 = b.getD k 0
              · refine AW.of hΓ mixed [99999] _ _ _ rfl ?_
                simp only [go_sem, he, g3]
                have hset : rowN (b.length + 1) (fun t => if t ≤ k + 1 then tabL a b (i + 1) t else 0) = (((rowN (b.length + 1) fun t => if t ≤ k then tabL a b (i + 1) t else 0).set (k + 1) (max (tabL a b i (k + 1) : Int) (tabL a b (i + 1) k))).set (k + 1) ((tabL a b i k : Int) + 1)) := by
                  rw [List.set_set]
                  refine (rowN_set ?_ fun t ht hne => ?_).symm
                  · rw [if_pos (Nat.le_refl _), tabL_eq he]
                    omega
                  · by_cases h1 : t ≤ k
                    · rw [if_pos h1, if_pos (by omega)]
                    · rw [if_neg h1, if_neg (by omega)]
                refine ⟨by omega, by omega, by omega, by omega, by rw [rowN_len]; omega, by omega, by omega, by rw [rowN_len]; omega, by omega, ⟨(k + 1, n2), by dsimp only; omega⟩, ⟨Nat.le_refl _, rfl, RowLe.refl _, ?_⟩, by dsimp only; omega⟩
                exact row_set (E := eI) rfl hset (by simp) (by simp) (fun j hj => AVle.refl _)
              · refine AW.of hΓ mixed [99999] _ _ _ rfl ?_
                simp only [go_sem, he]
                have hset : (rowN (b.length + 1) fun t => if t ≤ k then tabL a b (i + 1) t else 0).set (k + 1) (max (tabL a b i (k + 1) : Int) (tabL a b (i + 1) k)) = rowN (b.length + 1) fun t => if t ≤ k + 1 then tabL a b (i + 1) t else 0 := by
                  refine rowN_set ?_ fun t ht hne => ?_
                  · rw [if_pos (Nat.le_refl _), tabL_ne he]
                    omega
                  · by_cases h1 : t ≤ k
                    · rw [if_pos h1, if_pos (by omega)]
                    · rw [if_neg h1, if_neg (by omega)]
                refine ⟨by omega, by omega, by omega, ⟨(k + 1, n2), by dsimp only; omega⟩, ⟨Nat.le_refl _, rfl, RowLe.refl _, ?_⟩, by dsimp only; omega⟩
                rw [hset, rowN_len, rowN_len]
                exact RowLe.refl _
          · obtain rfl : k = b.length := by omega
            refine ⟨n2, toFitsV (fun _ => 1) ?_⟩
            simp only [go_sem]
            have hall : (rowN (b.length + 1) fun t => if t ≤ b.length then tabL a b (i + 1) t else 0) = rowN (b.length + 1) (tabL a b (i + 1)) := by
              unfold rowN
              refine List.map_congr_left fun t ht => ?_
              dsimp only
              rw [if_pos (by have := List.mem_range.1 ht; omega)]
            rw [hall]
            exact RowLe.refl _
      · intro n3
        refine AW.of hΓ mixed [] _ _ _ rfl ?_
        simp only [go_sem]
        exact ⟨by omega, ⟨(i + 1, nx, n3), by dsimp only; omega⟩, ⟨Nat.le_refl _, ⟨rfl, rfl⟩, RowLe.refl _⟩, by dsimp only; omega⟩
    · obtain rfl : i = a.length := by omega
      have e := rowN_at (n := b.length + 1) (tabL a b a.length) (k := b.length) (by omega)
      exact ⟨by omega, by rw [rowN_len]; omega, e⟩
end Go.Proofs.Ytnhfobhdbablaaa
set_option linter.unusedSimpArgs false
set_option linter.unusedVariables false
namespace Go.Proofs.Ytnhfobhdbablaaa
open Go
section
variable {P : Program} {Γ : Gam} {ops : Array Oper} {st : AS} {K : AS → Prop}
/-- Operations one behind the other, of which some have laws of their own. -/
def xOpsO (P : Program) (Γ : Gam) (ops : Array Oper) : List Bool → List Oper → AS → (AS → Prop) → Prop
  | _, [], st, K => K st
  | true :: W, o :: r, st, K => o.guard = none ∧ OpW P o st fun st' => xOpsO P Γ ops W r st' K
  | false :: W, o :: r, st, K => match gop P Γ ops st o with
    | some (pre, z, row) => (dstOK st.sz o.dst ∧ pre) ∧ xOpsO P Γ ops W r (st.put o.dst z row) K
    | none => o.guard = none ∧ bop P Γ st o fun st' => xOpsO P Γ ops W r st' K
  | [], l, st, K => xOps P Γ ops l st K
theorem xOpsO_seq (hΓ : GOK P Γ) {ops : Array Oper} {Q : Exit → Act → World → Prop} : ∀ (W : List Bool) (l : List Oper) (c : Ctx) (st : AS) (K : AS → Prop) (η : Env) (a : Act) (w : World), SR c st η a w → xOpsO P Γ ops W l st K →
    (∀ st' η' a' w', SR c st' η' a' w' → K st' → Q .normal a' w') → wpList P ops Q l a w
  | [], [], _, _, _, η, a, w, hsr, h, hQ => hQ _ η a w hsr h
  | _ :: _, [], _, _, _, η, a, w, hsr, h, hQ => hQ _ η a w hsr (by unfold xOpsO at h; exact h)
  | [], o :: r, c, st, K, η, a, w, hsr, h, hQ => xOps_seq hΓ (o :: r) c st K η a w hsr h hQ
  | true :: W, o :: r, c, st, K, η, a, w, hsr, h, hQ => by
    unfold xOpsO at h
    refine wpList_step fun KK hKK => ?_
    rw [if_pos (wanted_none h.1)]
    exact h.2 c η a w KK Q hsr fun st' η' a' w' hsr' hx => hKK _ _ (xOpsO_seq hΓ W r c st' K η' a' w' hsr' hx hQ)
  | false :: W, o :: r, c, st, K, η, a, w, hsr, h, hQ => by
    unfold xOpsO at h
    split at h
    · rename_i pre z row hg
      refine wpList_step fun KK hKK => gop_wp hΓ hsr hg h.1.2 h.1.1 fun η' a' w' hsr' => hKK _ _ (xOpsO_seq hΓ W r c _ K η' a' w' hsr' h.2 hQ)
    · refine wpList_step fun KK hKK => ?_
      rw [if_pos (wanted_none h.1)]
      exact bop_wp hΓ h.2 c η a w KK Q hsr fun st' η' a' w' hsr' hx => hKK _ _ (xOpsO_seq hΓ W r c st' K η' a' w' hsr' hx hQ)
/-- What follows. -/
def contO (P : Program) (Γ : Gam) (ops : Array Oper) (W : List Bool) (r : List Oper) (K : AS → Prop) : AS → Prop := fun st => xOpsO P Γ ops W r st K
theorem contO_app {W : List Bool} {r : List Oper} : contO P Γ ops W r K st = xOpsO P Γ ops W r st K := rflN rfl
def goO (P : Program) (Γ : Gam) (ops : Array Oper) (W : List Bool) (o : Oper) (r : List Oper) (K : AS → Prop) (st : AS) : AOut → Prop
  | some (pre, z, row) => (dstOK st.sz o.dst ∧ pre) ∧ xOpsO P Γ ops W r (st.put o.dst z row) K
  | none => o.guard = none ∧ bop P Γ st o (contO P Γ ops W r K)
theorem goO_some {W : List Bool} {o : Oper} {r : List Oper} {pre : Prop} {z : AV} {row : Row} : goO P Γ ops W o r K st (some (pre, z, row)) = ((dstOK st.sz o.dst ∧ pre) ∧ xOpsO P Γ ops W r (st.put o.dst z row) K) := rflN rfl
theorem goO_none {W : List Bool} {o : Oper} {r : List Oper} : goO P Γ ops W o r K st none = (o.guard = none ∧ bop P Γ st o (contO P Γ ops W r K)) := rflN rfl
theorem xOpsO_nil {W : List Bool} : xOpsO P Γ ops W [] st K = K st := rflN (by cases W with
  | nil => rfl
  | cons b W => cases b <;> rfl)
theorem xOpsO_out {o : Oper} {r : List Oper} : xOpsO P Γ ops [] (o :: r) st K = xOps P Γ ops (o :: r) st K := rflN rfl
theorem xOpsO_f {W : List Bool} {o : Oper} {r : List Oper} : xOpsO P Γ ops (false :: W) (o :: r) st K = goO P Γ ops W o r K st (gop P Γ ops st o) := rflN rfl
theorem xOpsO_t {W : List Bool} {o : Oper} {r : List Oper} : xOpsO P Γ ops (true :: W) (o :: r) st K = (o.guard = none ∧ OpW P o st (contO P Γ ops W r K)) := rflN rfl
theorem AW.regionO (hΓ : GOK P Γ) {Q : Exit → AS → Prop} {id : Nat} {l : List Oper} (W : List Bool) (h : xOpsO P Γ l.toArray W l st (Q .normal)) : AW P (.region id l.toArray false) Q st := by
  intro c η a w hsr
  exact wp_region_lit (xOpsO_seq hΓ W l c st _ η a w hsr h fun st' η' a' w' hsr' hq => ⟨st', η', hq, hsr'⟩)
end
attribute [go_sem high] xOpsO_f xOpsO_t
attribute [go_sem] contO_app goO_some goO_none xOpsO_nil xOpsO_out
/-! ### a text appended to bytes -/
section
variable {w : World}
theorem run_append_empty {P : Program} {t t' e ty : TypeId} (ht : P.underlying t = some (.slice e)) (hu : P.underlying t' = some .string) {k : Nat} (hk : P.cellsOf e = k) (h0 : 0 < k) {a : Option Addr} {n cap : Nat} (hn : n ≤ cap) :
    (Builtin.append_ #[t, t'] ty #[.slice a n cap, .string ⟨#[]⟩]).run P w = .ok (.slice a n cap) w := by
  have e0 : ByteArray.size ⟨#[]⟩ = 0 := rfl
  have hf := Lib.run_firstCells_string (P := P) w k ⟨#[]⟩
  rw [e0] at hf
  have e1 : Lib.strCells ⟨#[]⟩ = [] := rfl
  rw [e1] at hf
  cases a <;> simp [Builtin.append_, run_underlying ht, run_underlying hu, run_sizeOf' (P := P) (w := w) hk h0, Builtin.lenOf, e0, hn, hf, storeCells]
def byteC (s : List UInt8) : Nat → Nat → AV := fun i _ => .val (.int .u8 (s.getD i 0).toNat)
theorem strCells_at (s : List UInt8) {η : Env} {L : Nat → Prop} (i : Nat) (hi : i < s.length) (j : Nat) (hj : j < 1) :
    ∃ u, (Lib.strCells ⟨s.toArray⟩)[i * 1 + j]? = some u ∧ u.oneCell' = true ∧ Rep w η L (byteC s i j) u := by
  obtain rfl : j = 0 := by omega
  refine ⟨.int .u8 (s.getD i 0).toNat, ?_, rfl, rfl⟩
  simp [Lib.strCells, List.getD, hi]
theorem strCells_len (s : List UInt8) : (Lib.strCells ⟨s.toArray⟩).length = s.length := by
  rw [Lib.strCells_length]
  simp [ByteArray.size]
theorem appS_wp {P : Program} {st : AS} {o : Oper} {t t' e : TypeId} {x y : Operand} {K : AS → Prop} {p v n : Nat} {cc : Nat → Nat → AV} {s : List UInt8} (ho : o.op = .call ⟨.builtin .append, ⟨[x, y]⟩, ⟨[t, t']⟩⟩) (hu : P.underlying t = some (.slice e)) (hu' : P.underlying t' = some .string)
    (hxe : st.ev x = .ow p v n) (hye : st.ev y = .st s) (hrow : st.hp p = .sl v e 1 n cc) (hd : dstOK st.sz o.dst) (hok : appOK P e 1 (n + s.length))
    (hK : K ⟨updO st.fr o.dst (.ow p st.nx (n + s.length)), updR st.hp p (.sl st.nx e 1 (n + s.length) (apC n cc (byteC s))), st.sz, st.top, st.nx + 1, st.df⟩) : OpW P o st K := by
  intro c η a w next Q hsr hnext
  have hev : ∀ x, Rep w η (Lset c η st.hp) (st.ev x) (a.eval x) := rep_ev hsr.slots
  have fin : ∀ v w', (Builtin.append_ #[t, t'] o.type #[a.eval x, a.eval y]).run P w = .ok v w' → next (a.put o.dst v) w' → o.wp P a w next Q := fun v w' hr hn => by
    unfold Oper.wp
    have : (execOp a.eval o).run P w = .ok (.value v) w' := by
      unfold execOp
      rw [ho]
      simp [resolve, invoke, builtin, hr]
    rw [this]
    exact hn
  have hx := hev x
  have hyv : a.eval y = .string ⟨s.toArray⟩ := by
    have hy := hev y
    rw [hye] at hy
    exact hy
  rw [hxe] at hx
  obtain ⟨hsz, h0, hb0, hbytes, zl, hz, hzl⟩ := hok
  obtain ⟨i, zv, hi, hiz, hzc, his, hib⟩ := info_of hz
  have hisz : i.size = 1 := by rw [his, hsz]
  have hss : (⟨s.toArray⟩ : ByteArray).size = s.length := by simp [ByteArray.size]
  obtain ⟨g, cap, hη, hv⟩ := hx
  have hr := hsr.hs.rows p
  rw [hrow] at hr
  have hr := hr g cap hη
  have hdead : ∀ q row, st.top ≤ q → updR st.hp p row q = .dead ∨ q = p := fun q row hq => by
    by_cases e : q = p
    · exact .inr e
    · rw [updR_ne _ _ e]; exact .inl (hsr.dead q hq)
  have hpt : p < st.top := by
    rcases Nat.lt_or_ge p st.top with h | h
    · exact h
    · rw [hsr.dead p h] at hrow; cases hrow
  have finish : ∀ (v' : Value) (w' : World) (r : Option Nat × Nat) (O : Nat → Prop), (Builtin.append_ #[t, t'] o.type #[a.eval x, a.eval y]).run P w = .ok v' w' → Fr O w w' →
      (∀ k, k < w.heap.size → O k → (st.hp p).blk η = some k) → (∀ g, r.1 = some g → (st.hp p).blk η = some g ∨ (w.heap.size ≤ g ∧ g < w'.heap.size)) →
      ((∀ x u, Rep w η (Lset c η st.hp) x u → Rep w' (layAt η st.nx r) (Lset c (layAt η st.nx r) (updR st.hp p (.sl st.nx e 1 (n + s.length) (apC n cc (byteC s))))) x u) →
        RowOK w' (layAt η st.nx r) (Lset c (layAt η st.nx r) (updR st.hp p (.sl st.nx e 1 (n + s.length) (apC n cc (byteC s))))) (.sl st.nx e 1 (n + s.length) (apC n cc (byteC s)))) →
      (match r.1 with | none => n + s.length = 0 ∧ ∃ a, v' = .slice a 0 0 | some g => v' = .slice (some ⟨g, 0, none⟩) (n + s.length) r.2 ∧ n + s.length ≤ r.2) → o.wp P a w next Q := by
    intro v' w' r O hrun hf hO hrb hrok hval
    obtain ⟨hs', hkeep⟩ := hsr.hs.swap (p := p) (row := .sl st.nx e 1 (n + s.length) (apC n cc (byteC s))) (r := r) rfl hf hO hrb hrok
    refine fin v' w' hrun (hnext _ (layAt η st.nx r) _ _ (hsr.put hd hs' (fun q hq => (hdead q _ hq).resolve_right (by omega)) hkeep ?_) hK)
    exact ⟨r.1, r.2, layAt_at _ _ _, hval⟩
  have hmb : (n + s.length) * 1 ≤ (n + s.length) * P.bytesOf e := Nat.mul_le_mul_left _ hb0
  by_cases hk0 : s.length = 0
  · -- nothing is added
    obtain rfl := List.length_eq_zero_iff.1 hk0
    have hcapn : ∃ av nn cp, a.eval x = .slice av nn cp ∧ nn ≤ cp := by
      cases g with
      | none => obtain ⟨_, av, e⟩ := hv; exact ⟨av, 0, 0, e, Nat.le_refl _⟩
      | some g => obtain ⟨e, hc⟩ := hv; exact ⟨_, _, _, e, hc⟩
    obtain ⟨av, nn, cp, hxv, hcp⟩ := hcapn
    refine finish (a.eval x) w (g, cap) (fun _ => False) (by rw [hxv, hyv]; exact run_append_empty hu hu' hsz h0 hcp) (Fr.refl _ _) (fun _ _ h => h.elim) (fun g' hg' => .inl ?_) (fun hkeep => ?_) ?_
    · simp only at hg'
      rw [hrow]; simp [Row.blk, Row.ver, hη, hg']
    · intro g' cap' he
      rw [layAt_at] at he
      simp only [Option.some.injEq, Prod.mk.injEq] at he
      obtain ⟨rfl, rfl⟩ := he
      cases g with
      | none => simpa using hr
      | some g =>
        obtain ⟨cur, hh, hcs, hnc, hcm, hc⟩ := hr
        refine ⟨cur, hh, hcs, by simp; omega, hcm, fun i hi j hj => ?_⟩
        have hi : i < n := by simpa using hi
        obtain ⟨u, hu', h1, hrep⟩ := hc i hi j hj
        exact ⟨u, hu', h1, by unfold apC; rw [if_pos hi]; exact hkeep _ _ hrep⟩
    · cases g with
      | none => simpa using hv
      | some g => simpa using hv
  · have hnl := strCells_len s
    have hmx : n + s.length ≤ maxLen := by simp only [maxLen]; omega
    cases g with
    | none =>
      obtain ⟨rfl, av, hxv⟩ := hv
      have hgrow : ∃ cap', (Builtin.append_ #[t, t'] o.type #[a.eval x, a.eval y]).run P w = .ok (.slice (some ⟨w.heap.size, 0, none⟩) s.length cap')
          (w.drew.alloc (.cells ((Lib.strCells ⟨s.toArray⟩).toArray ++ Builtin.zeroCells zv.cells (cap' - s.length)) e)) ∧ s.length ≤ cap' ∧ cap' ≤ maxLen := by
        refine ⟨grownCap w s.length 0 e, ?_, grownCap_ge _ _ _ _, grownCap_le_maxLen _ _ _ _ (by omega)⟩
        rw [hxv, hyv]
        cases av with
        | none =>
          have hr := run_append_nil_string (P := P) w t t' o.type e i zv hu hu' hi hiz ⟨s.toArray⟩ (by rw [hss]; omega) (by rw [hss]; omega) (by rw [hss, hib]; simp only [Nat.zero_add] at hbytes; omega)
          have e1 : ((⟨s.toArray⟩ : ByteArray).data.map fun b => Value.int .u8 b.toNat) = (Lib.strCells ⟨s.toArray⟩).toArray := by
            apply Array.ext'
            simp [Lib.strCells]
          rw [hss] at hr
          rw [← e1]
          exact hr
        | some ad =>
          have := Lib.run_append_grow_string (P := P) w t t' o.type e i zv hu hu' hi hiz ad 0 0 [] (by simp) (by simp) ⟨s.toArray⟩ (by rw [hss]; omega) (by rw [hss]; omega) (growslice_fits (by rw [hss]; omega) (by rw [hss, hib]; exact hbytes))
          rw [hss] at this
          simpa using this
      obtain ⟨cap', hrun, hge, hle⟩ := hgrow
      have hf : Fr (fun _ => False) w (w.drew.alloc (.cells ((Lib.strCells ⟨s.toArray⟩).toArray ++ Builtin.zeroCells zv.cells (cap' - s.length)) e)) := (Fr.refl _ w).drew.trans (Fr.alloc _ _ _)
      refine finish _ _ (some w.heap.size, cap') (fun _ => False) hrun hf (fun _ _ h => h.elim) (fun g' hg' => .inr ?_) (fun hkeep => ?_) ⟨by rw [Nat.zero_add], by omega⟩
      · simp only [Option.some.injEq] at hg'
        subst hg'
        simp
      · intro g' cap'' he
        rw [layAt_at] at he
        simp only [Option.some.injEq, Prod.mk.injEq] at he
        obtain ⟨rfl, rfl⟩ := he
        refine ⟨_, heap_alloc_new w.drew _, ?_, by omega, hle, ?_⟩
        · simp only [Array.size_append, List.size_toArray, size_zeroCells, hzc, hzl, hnl]
          omega
        · refine apC_cells (olds := []) (news := Lib.strCells ⟨s.toArray⟩) (by simp) (fun q hq => ?_) (fun i hi => absurd hi (by omega)) (fun i hi j hj => strCells_at s i hi j hj)
          rw [Nat.zero_add] at hq
          rw [List.nil_append, Array.getElem?_append_left (by simp only [List.size_toArray]; omega), List.getElem?_toArray]
    | some g =>
      obtain ⟨hxv, hcap⟩ := hv
      obtain ⟨cur, hh, hcs, hncap, hcm, hc⟩ := hr
      have hblk : (st.hp p).blk η = some g := by rw [hrow]; simp [Row.blk, Row.ver, hη]
      have hold : (cur.toList.take (n * 1)).length = n * 1 := by
        simp; omega
      have holdr : ∀ (w' : World) (η' : Env) (L' : Nat → Prop), (∀ x u, Rep w η (Lset c η st.hp) x u → Rep w' η' L' x u) → ∀ i, i < n → ∀ j, j < 1 → ∃ u, (cur.toList.take (n * 1))[i * 1 + j]? = some u ∧ u.oneCell' = true ∧ Rep w' η' L' (cc i j) u := by
        intro w' η' L' hkeep i hi j hj
        obtain ⟨u, hu', h1, hrep⟩ := hc i hi j hj
        exact ⟨u, by rw [List.getElem?_take, if_pos (by omega), Array.getElem?_toList]; exact hu', h1, hkeep _ _ hrep⟩
      by_cases hroom : n + s.length ≤ cap
      · have hrun := Lib.run_append_room_string (P := P) w t t' o.type e i hu hu' hi hisz g n cap cur hh ⟨s.toArray⟩ (by rw [hss]; exact hroom) (by rw [hss]; omega)
        rw [hss] at hrun
        refine finish _ _ (some g, cap) (fun b => b = g) (by rw [hxv, hyv]; exact hrun) (fr_setRow w g _) (fun k _ e => by rw [e]; exact hblk) (fun g' hg' => .inl (by simp only [Option.some.injEq] at hg'; rw [← hg']; exact hblk)) (fun hkeep => ?_) ⟨rfl, hroom⟩
        intro g' cap'' he
        rw [layAt_at] at he
        simp only [Option.some.injEq, Prod.mk.injEq] at he
        obtain ⟨rfl, rfl⟩ := he
        refine ⟨_, setRow_heap w g cur _ e (0, 0) hh, ?_, hroom, hcm, ?_⟩
        · simp only [List.size_toArray, List.length_append, List.length_take, List.length_drop, Array.length_toList, hnl]
          omega
        · refine apC_cells (olds := cur.toList.take (n * 1)) (news := Lib.strCells ⟨s.toArray⟩) hold (fun q hq => ?_) (holdr _ _ _ hkeep) (fun i hi j hj => strCells_at s i hi j hj)
          rw [List.getElem?_toArray]
          have e1 : cur.toList.take n = cur.toList.take (n * 1) := by rw [Nat.mul_one]
          rw [e1, List.getElem?_append_left (by rw [List.length_append, hold, hnl]; omega)]
      · have hrun := Lib.run_append_grow_string (P := P) w t t' o.type e i zv hu hu' hi hiz ⟨g, 0, none⟩ n cap (cur.toList.take (n * 1)) (by rw [hisz]; exact hold) (fun j v hj => by
            rw [add_off, Nat.zero_add, cell_heap hh, ← Array.getElem?_toList]
            rw [List.getElem?_take] at hj
            split at hj
            · exact hj
            · cases hj) ⟨s.toArray⟩ (by rw [hss]; omega) (by rw [hss]; omega) (growslice_fits (by rw [hss]; omega) (by rw [hss, hib]; exact hbytes))
        rw [hss] at hrun
        have hge := grownCap_ge w (n + s.length) cap e
        have hle := grownCap_le_maxLen w (n + s.length) cap e hmx
        generalize grownCap w (n + s.length) cap e = cap' at hrun hge hle
        have hf : Fr (fun _ => False) w (w.drew.alloc (.cells ((cur.toList.take (n * 1)).toArray ++ (Lib.strCells ⟨s.toArray⟩).toArray ++ Builtin.zeroCells zv.cells (cap' - (n + s.length))) e)) := (Fr.refl _ w).drew.trans (Fr.alloc _ _ _)
        refine finish _ _ (some w.heap.size, cap') (fun _ => False) (by rw [hxv, hyv]; exact hrun) hf (fun _ _ h => h.elim) (fun g' hg' => .inr ?_) (fun hkeep => ?_) ⟨rfl, hge⟩
        · simp only [Option.some.injEq] at hg'
          subst hg'
          simp
        · intro g' cap'' he
          rw [layAt_at] at he
          simp only [Option.some.injEq, Prod.mk.injEq] at he
          obtain ⟨rfl, rfl⟩ := he
          refine ⟨_, heap_alloc_new w.drew _, ?_, hge, hle, ?_⟩
          · simp only [Array.size_append, List.size_toArray, size_zeroCells, hzc, hzl, hnl, hold]
            omega
          · refine apC_cells (olds := cur.toList.take (n * 1)) (news := Lib.strCells ⟨s.toArray⟩) hold (fun q hq => ?_) (holdr _ _ _ hkeep) (fun i hi j hj => strCells_at s i hi j hj)
            rw [Array.getElem?_append_left (by simp only [Array.size_append, List.size_toArray, hold, hnl]; omega)]
            simp only [List.append_toArray, List.getElem?_toArray]
end
/-! ### a row is given up -/
section
variable {c : Ctx} {hp : Nat → Row} {nx : Nat} {η : Env} {w w' : World}
theorem HS.sink (h : HS c hp nx η w) {p g : Nat} (hb : (hp p).blk η = some g) (hf : Fr (fun b => b = g) w w') :
    HS c (updR hp p .dead) nx η w' ∧ ∀ x u, Rep w η (Lset c η hp) x u → Rep w' η (Lset c η (updR hp p .dead)) x u := by
  have hbk : ∀ q b, (updR hp p .dead q).blk η = some b → q ≠ p ∧ (hp q).blk η = some b := fun q b hq => by
    by_cases e : q = p
    · subst e; rw [updR_at] at hq; cases hq
    · rw [updR_ne _ _ e] at hq; exact ⟨e, hq⟩
  have hver : ∀ q v, (updR hp p .dead q).ver = some v → (hp q).ver = some v := fun q v hq => by
    by_cases e : q = p
    · subst e; rw [updR_at] at hq; cases hq
    · rw [updR_ne _ _ e] at hq; exact hq
  have hL : ∀ b, Lset c η (updR hp p .dead) b → Lset c η hp b := by
    rintro b (hl | ⟨q, hq⟩)
    · exact .inl hl
    · exact .inr ⟨q, (hbk q b hq).2⟩
  have hO : ∀ k, k < w.heap.size → k = g → Lset c η hp k := fun k _ e => .inr ⟨p, by rw [e]; exact hb⟩
  refine ⟨⟨h.fr.trans' hf ?_, h.lx, fun q => ?_, fun q r v hq hr => h.vers q r v (hver q v hq) (hver r v hr), fun q v hq => h.bnd q v (hver q v hq), fun q r b hq hr => h.disj q r b (hbk q b hq).2 (hbk r b hr).2, fun q b hq => ?_, h.fresh, h.env⟩,
    fun x u hx => Rep.keep hf hO (fun k _ hl => hL k hl) x η η u (Env.le_refl _) hx⟩
  · intro k hk e
    subst e
    exact (h.own p k hb).1.resolve_right (by omega)
  · by_cases e : q = p
    · subst e; rw [updR_at]; trivial
    · rw [updR_ne _ _ e]
      exact RowOK.keep hf (Env.le_refl _) hO (fun k _ hl => hL k hl) (fun _ _ => rfl) (fun b hq => by
        refine hf.block b (h.own q b hq).2.2 fun e' => e ?_
        subst e'
        exact h.disj q p b hq hb) (h.rows q)
  · have := h.own q b (hbk q b hq).2
    exact ⟨this.1, this.2.1, Nat.lt_of_lt_of_le this.2.2 hf.size⟩
end
end Go.Proofs.Ytnhfobhdbablaaa
set_option linter.unusedSimpArgs false
namespace Go.Proofs.Ytnhfobhdbablaaa
open Go Go.ChangeShapes Go.WideShapes Go.ChangeAt Go.RowKit

/-- No string, slice or map within is longer than any machine bears. -/
def reachW {H : Type} (P : Program) (t : TypeId) (d : DataW H) : Prop := ∀ n ∈ d.weights P t, n ≤ reachBytes
/-- What is read as a value of this type is an element of this kind. -/
structure Opens (P : Program) (t : TypeId) {α : Type} (E : El α) (good : α → Prop) : Prop where
  size : P.cellsOf t = E.sz
  read : ∀ (H : Type) (enc : TypeId × Value → H) (w : World) (base : Nat) (spare : Nat → Bool) (held : Bool) (fuel : Nat) (cs : List Value) (x : DataW H × List MemPlace),
    DataW.trod enc P w base spare held fuel t cs = some x → reachW P t x.1 → ∃ a, good a ∧ ∀ j, j < E.sz → ∃ u, cs[j]? = some u ∧ u.oneCell' = true ∧ Rep w noEnv (fun _ => False) (E.enc a j) u
def gI (n : Int) : Prop := -9223372036854775808 ≤ n ∧ n ≤ 9223372036854775807
def gB (_ : Bool) : Prop := True
def gS (l : List UInt8) : Prop := l.length ≤ 140737488351232
def gLs {α : Type} (g : α → Prop) (l : List α) : Prop := l.length ≤ 140737488351232 ∧ ∀ a ∈ l, g a
def gP {α β : Type} (g : α → Prop) (h : β → Prop) (p : α × β) : Prop := g p.1 ∧ h p.2

section
variable {P : Program} {t e : TypeId}
theorem one_cell {w : World} {α : Type} {E : El α} {a : α} {v : Value} (hs : E.sz = 1) (h1 : v.oneCell' = true) (hr : Rep w noEnv (fun _ => False) (E.enc a 0) v) :
    ∀ j, j < E.sz → ∃ u, [v][j]? = some u ∧ u.oneCell' = true ∧ Rep w noEnv (fun _ => False) (E.enc a j) u := fun j hj => by
  obtain rfl : j = 0 := by omega
  exact ⟨v, rfl, h1, hr⟩
theorem opens_int (ht : P.underlying t = some (.int .i64)) (hs : P.cellsOf t = 1) : Opens P t eI gI := by
  refine ⟨hs, fun H enc w base spare held fuel cs x h hz => ?_⟩
  cases fuel with
  | zero => simp [DataW.trod] at h
  | succ n =>
    unfold DataW.trod at h
    rw [ht] at h
    split at h <;> simp only [reduceCtorEq, Option.some.injEq, TypeDesc.int.injEq] at *
    rename_i m heq
    subst heq
    split at h
    · rename_i hw
      obtain ⟨rfl, hw⟩ := hw
      refine ⟨m, ?_, one_cell rfl rfl rfl⟩
      simp only [Lit.wf, IntKind.min, IntKind.max, IntKind.signed, IntKind.bits, Bool.and_eq_true, decide_eq_true_eq] at hw
      unfold gI
      simp at hw
      omega
    · cases h
theorem opens_bool (ht : P.underlying t = some .bool) (hs : P.cellsOf t = 1) : Opens P t eB gB := by
  refine ⟨hs, fun H enc w base spare held fuel cs x h hz => ?_⟩
  cases fuel with
  | zero => simp [DataW.trod] at h
  | succ n =>
    unfold DataW.trod at h
    rw [ht] at h
    split at h <;> simp only [reduceCtorEq, Option.some.injEq] at *
    rename_i b _
    exact ⟨b, trivial, one_cell rfl rfl rfl⟩
theorem opens_string (ht : P.underlying t = some .string) (hs : P.cellsOf t = 1) : Opens P t eS gS := by
  refine ⟨hs, fun H enc w base spare held fuel cs x h hz => ?_⟩
  cases fuel with
  | zero => simp [DataW.trod] at h
  | succ n =>
    unfold DataW.trod at h
    rw [ht] at h
    split at h <;> simp only [reduceCtorEq, Option.some.injEq] at *
    rename_i s _
    split at h
    · rename_i hm
      refine ⟨s.data.toList, ?_, one_cell rfl rfl rfl⟩
      simp only [Option.some.injEq] at h
      subst h
      have h2 := hz s.data.toList.length (by simp [DataW.weights])
      unfold reachBytes at h2
      exact h2
    · cases h

theorem weights_all {H : Type} {d : DataW H} : ∀ {l : List (DataW H)}, d ∈ l → ∀ n ∈ d.weights P e, n ∈ DataW.weightsAll P e l
  | x :: l, h, n, hn => by
    simp only [DataW.weightsAll, List.mem_append]
    rcases List.mem_cons.1 h with rfl | h
    · exact .inl hn
    · exact .inr (weights_all h n hn)
theorem add_block (a : Addr) (k : Nat) : (a.add k).block = a.block := by unfold Addr.add; split <;> rfl
theorem choose_list {α : Type} (d : α) (Q : Nat → α → Prop) : ∀ n, (∀ i, i < n → ∃ a, Q i a) → ∃ l : List α, l.length = n ∧ ∀ i, i < n → Q i (l.getD i d)
  | 0, _ => ⟨[], rfl, fun i hi => absurd hi (Nat.not_lt_zero _)⟩
  | n + 1, h => by
    obtain ⟨l, hl, hq⟩ := choose_list d Q n fun i hi => h i (by omega)
    obtain ⟨a, ha⟩ := h n (by omega)
    refine ⟨l ++ [a], by simp [hl], fun i hi => ?_⟩
    rcases Nat.lt_or_ge i n with h1 | h1
    · have := hq i h1
      simpa [List.getD, List.getElem?_append_left (show i < l.length by omega)] using this
    · obtain rfl : i = n := by omega
      simpa [List.getD, List.getElem?_append_right (show l.length ≤ i by omega), hl] using ha
theorem mem_getD {α : Type} (d : α) {l : List α} {x : α} (h : x ∈ l) : ∃ i, i < l.length ∧ l.getD i d = x := by
  obtain ⟨i, hi, rfl⟩ := List.getElem_of_mem h
  exact ⟨i, hi, by simp [List.getD, hi]⟩
theorem opens_slice {α : Type} {E : El α} {g : α → Prop} (ht : P.underlying t = some (.slice e)) (hs : P.cellsOf t = 1) (he : Opens P e E g) (h0 : 0 < E.sz) (hby : 0 < P.bytesOf e) : Opens P t (eL E) (gLs g) := by
  refine ⟨hs, fun H enc w base spare held fuel cs x h hz => ?_⟩
  rcases DataW.trod_slice ht h with ⟨rfl, _⟩ | ⟨a, len, cap, elems, rest, n, _, rfl, hx, hb, hl, hm, hlen, hel, _, _⟩
  · refine ⟨[], ⟨Nat.zero_le _, fun _ h => by cases h⟩, one_cell rfl rfl ?_⟩
    exact em_sL E w noEnv _ _ ⟨_, rfl⟩
  · subst hx
    have hw : ∀ m ∈ (elems.map (·.1)).length.add (rest.map (·.1)).length * P.bytesOf e :: (DataW.weightsAll P e (elems.map (·.1)) ++ DataW.weightsAll P e (rest.map (·.1))), m ≤ reachBytes := fun m hm => hz m (by
      simp only [DataW.weights, ht]
      exact hm)
    have hlr : len ≤ 140737488351232 := by
      have h1 := hw _ (List.mem_cons_self ..)
      have h2 : (elems.map (·.1)).length.add (rest.map (·.1)).length ≤ (elems.map (·.1)).length.add (rest.map (·.1)).length * P.bytesOf e := Nat.le_mul_of_pos_right _ hby
      have h3 : (elems.map (·.1)).length.add (rest.map (·.1)).length = len + rest.length := by simp [hlen]
      unfold reachBytes at h1
      omega
    have each : ∀ i, i < len → ∃ y, g y ∧ ∀ j, j < E.sz → ∃ u, w.cell? ((a.add (i * E.sz)).add j) = some u ∧ u.oneCell' = true ∧ Rep w noEnv (fun _ => False) (E.enc y j) u := by
      intro i hi
      have h1 := hel i hi
      rw [List.getElem?_eq_getElem (by omega)] at h1
      obtain ⟨cs, hcs, htr⟩ := Option.bind_eq_some_iff.1 h1
      obtain ⟨y, hy, hj⟩ := he.read H enc w base spare held n cs _ htr fun m hm => hw m (List.mem_cons_of_mem _ (List.mem_append_left _ (weights_all (List.mem_map_of_mem (List.getElem_mem _)) m hm)))
      refine ⟨y, hy, fun j hjs => ?_⟩
      obtain ⟨u, hu, r⟩ := hj j hjs
      refine ⟨u, ?_, r⟩
      unfold World.cells? at hcs
      rw [if_pos (by rw [add_block]; exact hb)] at hcs
      have := mapM_some_get hcs j j (by simp [he.size, hjs])
      rw [he.size] at this
      rw [this, hu]
    obtain ⟨l, hl1, hl2⟩ := choose_list E.dflt _ len each
    refine ⟨l, ⟨by omega, fun x hx => ?_⟩, one_cell rfl rfl ?_⟩
    · obtain ⟨i, hi, rfl⟩ := mem_getD E.dflt hx
      exact (hl2 i (by omega)).1
    · show Rep w noEnv (fun _ => False) (sL E l) _
      refine ⟨some a, cap, by rw [hl1], by omega, fun hp _ => ?_⟩
      obtain ⟨b, off, spot⟩ := a
      obtain ⟨u, hu, _⟩ := (hl2 0 (by omega)).2 0 h0
      have hspot : spot = none := by simpa [Addr.add] using World.cell?_spot hu
      subst hspot
      refine ⟨b, off, rfl, not_false, fun i hi j hj => ?_⟩
      obtain ⟨u, hu, r⟩ := (hl2 i (by omega)).2 j hj
      refine ⟨u, ?_, r⟩
      rwa [add_off, add_off, Nat.add_assoc] at hu

/-- Parts of a value that lie one behind the other. -/
def OpensL (P : Program) (l : List (Nat × TypeId)) (off : Nat) {α : Type} (E : El α) (good : α → Prop) : Prop :=
  ∀ (H : Type) (enc : TypeId × Value → H) (w : World) (base : Nat) (spare : Nat → Bool) (held : Bool) (fuel : Nat) (cs : List Value),
    (∀ (i : Nat) (x : Nat × TypeId), l[i]? = some x → ∃ y, DataW.trod enc P w base spare held fuel x.2 ((cs.drop x.1).take (P.cellsOf x.2)) = some y ∧ reachW P x.2 y.1) →
    ∃ a, good a ∧ ∀ j, j < E.sz → ∃ u, cs[off + j]? = some u ∧ u.oneCell' = true ∧ Rep w noEnv (fun _ => False) (E.enc a j) u
theorem opensL_one {α : Type} {E : El α} {g : α → Prop} {off : Nat} (h : Opens P t E g) : OpensL P [(off, t)] off E g := by
  intro H enc w base spare held fuel cs hx
  obtain ⟨y, hy, hz⟩ := hx 0 _ rfl
  obtain ⟨a, ha, hj⟩ := h.read H enc w base spare held fuel _ y hy hz
  refine ⟨a, ha, fun j hjs => ?_⟩
  obtain ⟨u, hu, r⟩ := hj j hjs
  refine ⟨u, ?_, r⟩
  rw [List.getElem?_take] at hu
  split at hu
  · simpa using hu
  · cases hu
theorem opensL_cons {α β : Type} {A : El α} {B : El β} {g : α → Prop} {k : β → Prop} {off : Nat} {l : List (Nat × TypeId)} (h : Opens P t A g) (hl : OpensL P l (off + A.sz) B k) : OpensL P ((off, t) :: l) off (eP A B) (gP g k) := by
  intro H enc w base spare held fuel cs hx
  obtain ⟨a, ha, h1⟩ := opensL_one h H enc w base spare held fuel cs fun i x hi => hx 0 x (by
    cases i with
    | zero => simpa using hi
    | succ i => simp at hi)
  obtain ⟨b, hb, h2⟩ := hl H enc w base spare held fuel cs fun i x hi => hx (i + 1) x (by simpa using hi)
  refine ⟨(a, b), ⟨ha, hb⟩, fun j hj => ?_⟩
  show ∃ u, _ ∧ _ ∧ Rep w noEnv (fun _ => False) (if j < A.sz then A.enc a j else B.enc b (j - A.sz)) u
  split
  · rename_i hjA
    exact h1 j hjA
  · rename_i hjA
    have hj' : j < A.sz + B.sz := hj
    obtain ⟨u, hu, r⟩ := h2 (j - A.sz) (by omega)
    exact ⟨u, by rw [← hu]; congr 1; omega, r⟩
theorem opens_struct {α : Type} {E : El α} {g : α → Prop} {fs : Array Field} (ht : P.underlying t = some (.struct fs)) (hs : P.cellsOf t = E.sz) {l : List (Nat × TypeId)} (hl : fs.toList.map (fun f => (f.offset, f.type)) = l) (h : OpensL P l 0 E g) : Opens P t E g := by
  refine ⟨hs, fun H enc w base spare held fuel cs x hx hz => ?_⟩
  obtain ⟨xs, n, _, rfl, hlen, hxs, hf⟩ := DataW.trod_struct ht hx
  obtain ⟨a, ha, hj⟩ := h H enc w base spare held n cs fun i y hi => by
    subst hl
    rw [List.getElem?_map] at hi
    cases hfi : fs.toList[i]? with
    | none => rw [hfi] at hi; cases hi
    | some f =>
      rw [hfi] at hi
      simp only [Option.map_some, Option.some.injEq] at hi
      subst hi
      have hi : i < fs.size := by simpa using (List.getElem?_eq_some_iff.1 hfi).1
      have := hf i f (by simpa using hfi)
      rw [List.getElem?_eq_getElem (by omega)] at this
      refine ⟨_, this, fun m hm => hz m ?_⟩
      simp only [DataW.weights, ht]
      exact DataW.weights_mem_each (j := i) (by simp [hfi]) (by simp [show i < xs.length by omega]) m hm
  exact ⟨a, ha, fun j hjs => by simpa using hj j hjs⟩
theorem opens_array {α : Type} {E : El α} {g : α → Prop} {n : Nat} (ht : P.underlying t = some (.array n e)) (hs : P.cellsOf t = E.sz) {l : List (Nat × TypeId)} (hl : (List.range n).map (fun i => (i * P.cellsOf e, e)) = l) (h : OpensL P l 0 E g) : Opens P t E g := by
  refine ⟨hs, fun H enc w base spare held fuel cs x hx hz => ?_⟩
  obtain ⟨xs, m, _, rfl, hlen, hxs, hf⟩ := DataW.trod_array ht hx
  obtain ⟨a, ha, hj⟩ := h H enc w base spare held m cs fun i y hi => by
    subst hl
    rw [List.getElem?_map] at hi
    cases hfi : (List.range n)[i]? with
    | none => rw [hfi] at hi; cases hi
    | some k =>
      rw [hfi] at hi
      simp only [Option.map_some, Option.some.injEq] at hi
      subst hi
      have hi : i < n := by simpa using (List.getElem?_eq_some_iff.1 hfi).1
      obtain rfl : i = k := by
        have := (List.getElem?_eq_some_iff.1 hfi).2
        simpa using this
      have := hf i hi
      rw [List.getElem?_eq_getElem (by omega)] at this
      refine ⟨_, this, fun m hm => hz m ?_⟩
      simp only [DataW.weights, ht]
      exact weights_all (List.mem_map_of_mem (List.getElem_mem _)) m hm
  exact ⟨a, ha, fun j hjs => by simpa using hj j hjs⟩
end
end Go.Proofs.Ytnhfobhdbablaaa
set_option linter.unusedSimpArgs false
namespace Go.Proofs.Ytnhfobhdbablaaa
open Go Go.ChangeShapes Go.WideShapes Go.ChangeAt Go.RowKit

section
variable {P : Program}
/-- An argument of this type is told by this kind. -/
def OpensK (P : Program) (t : TypeId) {α : Type} (K : Kd α) (good : α → Prop) : Prop :=
  ∀ (H : Type) (enc : TypeId × Value → H) (W : World) (base : Nat) (v : Value) (d : DataW H) (p : List MemPlace), Value.okWide P W .any base t v → DataW.Trod enc P W 0 (fun _ => true) true t v d p → reachW P t d →
    ∃ a, good a ∧ Rep W noEnv (fun _ => False) (K.enc a) v
theorem opensK_one {t : TypeId} {α : Type} {E : El α} {g : α → Prop} {K : Kd α} (h : Opens P t E g) (hs : E.sz = 1) (hK : ∀ a, K.enc a = E.enc a 0) (hv : ∀ (W : World) (base : Nat) (v : Value), Value.okWide P W .any base t v → v.cells = #[v]) : OpensK P t K g := by
  intro H enc W base v d p hok ⟨fuel, htr⟩ hz
  obtain ⟨a, ha, hj⟩ := h.read H enc W 0 _ _ fuel _ _ htr hz
  obtain ⟨u, hu, _, hr⟩ := hj 0 (by omega)
  rw [hv W base v hok] at hu
  simp only [List.getElem?_cons_zero, Option.some.injEq] at hu
  subst hu
  exact ⟨a, ha, by rw [hK]; exact hr⟩
theorem opensK_int {t : TypeId} (ht : P.underlying t = some (.int .i64)) (hs : P.cellsOf t = 1) : OpensK P t kI gI :=
  opensK_one (opens_int ht hs) rfl (fun _ => rfl) fun W base v h => by obtain ⟨n, rfl⟩ := okWide_int ht h; rfl
theorem opensK_bool {t : TypeId} (ht : P.underlying t = some .bool) (hs : P.cellsOf t = 1) : OpensK P t kB gB :=
  opensK_one (opens_bool ht hs) rfl (fun _ => rfl) fun W base v h => by obtain ⟨n, rfl⟩ := okWide_bool ht h; rfl
theorem opensK_string {t : TypeId} (ht : P.underlying t = some .string) (hs : P.cellsOf t = 1) : OpensK P t kS gS :=
  opensK_one (opens_string ht hs) rfl (fun _ => rfl) fun W base v h => by obtain ⟨n, rfl⟩ := okWide_string ht h; rfl
theorem opensK_slice {t e : TypeId} {α : Type} {E : El α} {g : α → Prop} (ht : P.underlying t = some (.slice e)) (hs : P.cellsOf t = 1) (he : Opens P e E g) (h0 : 0 < E.sz) (hby : 0 < P.bytesOf e) : OpensK P t (kL E) (gLs g) :=
  opensK_one (opens_slice ht hs he h0 hby) rfl (fun _ => rfl) fun W base v h => by obtain ⟨_, _, _, rfl⟩ := okWide_slice ht h; rfl
theorem opensK_agg {t : TypeId} {α : Type} {E : El α} {g : α → Prop} (hu : aggT P t = some true) (h : Opens P t E g) : OpensK P t (kA E) g := by
  intro H enc W base v d p hok ⟨fuel, htr⟩ hz
  obtain ⟨a, ha, hj⟩ := h.read H enc W 0 _ _ fuel _ _ htr hz
  have : ∃ cs, v = .agg cs ∧ cs.size = P.cellsOf t := by
    unfold aggT at hu
    unfold Value.okWide at hok
    split at hok
    · obtain ⟨cs, hv, hsz, _⟩ := hok; exact ⟨cs, hv, hsz⟩
    · obtain ⟨cs, hv, hsz, _⟩ := hok; exact ⟨cs, hv, hsz⟩
    · rename_i hns hna
      cases hq : P.underlying t with
      | none => rw [hq] at hu; cases hu
      | some q =>
        rw [hq] at hu
        cases q with
        | struct fs => exact absurd hq (hns fs)
        | array n e => exact absurd hq (hna n e)
        | _ => cases hu
  obtain ⟨cs, rfl, hsz⟩ := this
  exact ⟨a, ha, cs, rfl, by rw [hsz, h.size], fun j hjs => by simpa [Value.cells] using hj j hjs⟩

def OpenAll (P : Program) (ts : List TypeId) (Q : List AV → Prop) : Prop :=
  ∀ (H : Type) (enc : TypeId × Value → H) (W : World) (base : Nat) (vs : List Value) (ds : List (DataW H)) (ps : List MemPlace), DataW.TrodAll enc P W 0 (fun _ => true) true ts vs ds ps →
    (∀ (j : Nat) t v, ts[j]? = some t → vs[j]? = some v → Value.okWide P W .any base t v) → (∀ (j : Nat) t d, ts[j]? = some t → ds[j]? = some d → reachW P t d) → ∃ avs, Q avs ∧ All2 (Rep W noEnv fun _ => False) avs vs
theorem openAll_nil : OpenAll P [] (· = []) := by
  intro H enc W base vs ds ps h _ _
  match vs, ds, h with
  | [], [], _ => exact ⟨[], rfl, .nil⟩
theorem openAll_cons {t : TypeId} {ts : List TypeId} {α : Type} {K : Kd α} {g : α → Prop} {Q : List AV → Prop} (h : OpensK P t K g) (k : OpenAll P ts Q) : OpenAll P (t :: ts) (fun avs => ∃ a r, avs = K.enc a :: r ∧ g a ∧ Q r) := by
  intro H enc W base vs ds ps hA hok hz
  match vs, ds, hA with
  | v :: vs, d :: ds, ⟨p, q, h1, h2, _⟩ =>
    obtain ⟨a, ha, hr⟩ := h H enc W base v d p (hok 0 t v rfl rfl) h1 (hz 0 t d rfl rfl)
    obtain ⟨avs, hQ, hrs⟩ := k H enc W base vs ds q h2 (fun j t' v' ht hv => hok (j + 1) t' v' ht hv) fun j t' d' ht hd => hz (j + 1) t' d' ht hd
    exact ⟨K.enc a :: avs, ⟨a, avs, rfl, ha, hQ⟩, .cons hr hrs⟩
theorem trodAll_below {H : Type} {enc : TypeId × Value → H} (hl : laidOutB P = true) {W W' : World} (hb : Below W.heap.size W W') : ∀ (ts : List TypeId) (vs : List Value) (ds : List (DataW H)) (ps : List MemPlace),
    (∀ t ∈ ts, P.readableRec t = true ∧ t < P.types.size) → DataW.TrodAll enc P W 0 (fun _ => true) true ts vs ds ps → (∀ x ∈ ps, x.block < W.heap.size) →
    DataW.TrodAll enc P W' 0 (fun b => decide (b < W.heap.size)) true ts vs ds ps
  | [], [], [], _, _, h, _ => h
  | t :: ts, v :: vs, d :: ds, ps, ht, ⟨p, q, h1, h2, e⟩, hlt => by
    subst e
    exact ⟨p, q, Below.trod hl (ht t (List.mem_cons_self ..)).1 (ht t (List.mem_cons_self ..)).2 h1 hb fun x hx => hlt x (List.mem_append_left _ hx),
      trodAll_below hl hb ts vs ds q (fun t h => ht t (List.mem_cons_of_mem _ h)) h2 fun x hx => hlt x (List.mem_append_right _ hx), rfl⟩
  | [], _ :: _, _, _, _, h, _ => h.elim
  | [], [], _ :: _, _, _, h, _ => h.elim
  | _ :: _, [], _, _, _, h, _ => h.elim
  | _ :: _, _ :: _, [], _, _, h, _ => h.elim

theorem law_calls {H : Type} {enc : TypeId × Value → H} {f : FuncId} {fn : Func} {s : ChangeSpec} {sp : Spec} {ts : List TypeId} {tb : TypeId} {Q : List AV → Prop} (hl : laidOutB P = true) (hs : SpecOK P f sp) (hp : fn.params.toList = ts) (hr : fn.resultTypes = #[tb])
    (hb : P.underlying tb = some .bool) (hopen : OpenAll P ts Q) (hts' : ts.all (fun t => P.readableRec t && decide (t < P.types.size)) = true) (hpre : ∀ avs, Q avs → sp.pre avs ∧ sp.res avs = .val (.bool true))
    (hsv : s.vars = []) (hsf : ∀ ds : List (DataW H), ds.length = ts.length → (s.fn H ds).results = [.lit (.bool true)] ∧ (s.fn H ds).args = ds ∧ (s.fn H ds).vars = [])
    (W : World) (base : Nat) (args : Array Value) (ds gs : List (DataW H)) (before : List MemPlace)
    (hval : ∀ (j : Nat) t v, fn.params[j]? = some t → args[j]? = some v → Value.okWide P W .any base t v)
    (hW : DataW.Whole enc P fn.params.toList s.vars false W args.toList ds gs before) (hz : (DataW.weightsEach P (fn.params.toList ++ s.plain.varTypes P) (ds ++ gs)).all (· ≤ reachBytes) = true) :
    Calls P f args W fun e W' => ∃ v, e = .returned v ∧ s.post enc P fn false true false false W args v W' := by
  have hts : ∀ t ∈ ts, P.readableRec t = true ∧ t < P.types.size := fun t ht => by simpa using List.all_eq_true.1 hts' t ht
  have hW' := hW
  obtain ⟨p, q, hA, hV, hbe, hfz, hnd⟩ := hW
  rw [hsv] at hV
  obtain ⟨rfl, rfl⟩ := trodVars_none hV
  rw [hp] at hA
  obtain ⟨avs, hQ, hreps⟩ := hopen H enc W base args.toList ds p hA (fun j t v ht hv => hval j t v (by
    have : fn.params.toList[j]? = some t := by rw [hp]; exact ht
    simpa using this) (by simpa using hv)) fun j t d ht hd n hn => by
    have h1 : (fn.params.toList ++ s.plain.varTypes P)[j]? = some t := by
      rw [hp, List.getElem?_append_left (List.getElem?_eq_some_iff.1 ht).1]
      exact ht
    have h2 : (ds ++ [])[j]? = some d := by rw [List.append_nil]; exact hd
    simpa using List.all_eq_true.1 hz n (DataW.weights_mem_each h1 h2 n hn)
  obtain ⟨h1, h2⟩ := hpre avs hQ
  have hlen : ds.length = ts.length := by
    have : ∀ (ts : List TypeId) (vs : List Value) (ds : List (DataW H)) (ps : List MemPlace), DataW.TrodAll enc P W 0 (fun _ => true) true ts vs ds ps → ds.length = ts.length := by
      intro ts
      induction ts with
      | nil =>
        intro vs ds ps h
        match vs, ds, h with
        | [], [], _ => rfl
      | cons t ts ih =>
        intro vs ds ps h
        match vs, ds, h with
        | v :: vs, d :: ds, ⟨p, q, _, h2, _⟩ => simp [ih vs ds q h2]
    exact this ts _ _ _ hA
  have hlt : ∀ x ∈ p, x.block < W.heap.size := fun x hx => by
    refine hW'.lt x ?_
    rw [hbe]
    exact List.mem_append_left _ hx
  have hc := hs.2 avs h1 W (fun _ => False) args.toList (fun _ h => h.elim) hreps
  refine (show Calls P f args W _ by simpa using hc).mono ?_
  rintro e W' ⟨v, rfl, hf, hr'⟩
  rw [h2] at hr'
  have hv : v = .bool true := hr'
  subst hv
  obtain ⟨e1, e2, e3⟩ := hsf ds hlen
  refine ⟨_, rfl, ds, [], before, [], p, [], hW', ?_, ?_, ?_, hf.below.frame _, fun h => by cases h⟩
  · rw [hr, List.append_nil, e1]
    exact trodAll_cons_mk (shut_bool hb _) trodAll_mk0
  · rw [hp, List.append_nil, e2]
    exact trodAll_below hl hf.below ts _ _ _ hts hA hlt
  · rw [hsv, List.append_nil, e3]
    rfl
theorem pre_f1 {α : Type} {A : Kd α} {gA : α → Prop} {dom : α → Prop} {out : α → AV} (h : ∀ a, gA a → dom a ∧ out a = .val (.bool true)) (avs : List AV) (hQ : ∃ a r, avs = A.enc a :: r ∧ gA a ∧ r = []) :
    (Spec.f1 A dom out).pre avs ∧ (Spec.f1 A dom out).res avs = .val (.bool true) := by
  obtain ⟨a, _, rfl, ha, rfl⟩ := hQ
  obtain ⟨h1, h2⟩ := h a ha
  simp only [Spec.f1, A.law]
  exact ⟨⟨A.ok_enc a, h1⟩, h2⟩
theorem pre_f2 {α β : Type} {A : Kd α} {B : Kd β} {gA : α → Prop} {gB : β → Prop} {dom : α → β → Prop} {out : α → β → AV} (h : ∀ a b, gA a → gB b → dom a b ∧ out a b = .val (.bool true)) (avs : List AV)
    (hQ : ∃ a r, avs = A.enc a :: r ∧ gA a ∧ ∃ b r', r = B.enc b :: r' ∧ gB b ∧ r' = []) : (Spec.f2 A B dom out).pre avs ∧ (Spec.f2 A B dom out).res avs = .val (.bool true) := by
  obtain ⟨a, _, rfl, ha, b, _, rfl, hb, rfl⟩ := hQ
  obtain ⟨h1, h2⟩ := h a b ha hb
  simp only [Spec.f2, A.law, B.law]
  exact ⟨⟨A.ok_enc a, B.ok_enc b, h1⟩, h2⟩
theorem pre_f3 {α β γ : Type} {A : Kd α} {B : Kd β} {C : Kd γ} {gA : α → Prop} {gB : β → Prop} {gC : γ → Prop} {dom : α → β → γ → Prop} {out : α → β → γ → AV} (h : ∀ a b c, gA a → gB b → gC c → dom a b c ∧ out a b c = .val (.bool true)) (avs : List AV)
    (hQ : ∃ a r, avs = A.enc a :: r ∧ gA a ∧ ∃ b r', r = B.enc b :: r' ∧ gB b ∧ ∃ c r'', r' = C.enc c :: r'' ∧ gC c ∧ r'' = []) : (Spec.f3 A B C dom out).pre avs ∧ (Spec.f3 A B C dom out).res avs = .val (.bool true) := by
  obtain ⟨a, _, rfl, ha, b, _, rfl, hb, c, _, rfl, hc, rfl⟩ := hQ
  obtain ⟨h1, h2⟩ := h a b c ha hb hc
  simp only [Spec.f3, A.law, B.law, C.law]
  exact ⟨⟨A.ok_enc a, B.ok_enc b, C.ok_enc c, h1⟩, h2⟩
end
end Go.Proofs.Ytnhfobhdbablaaa
set_option linter.unusedSimpArgs false
set_option linter.unusedVariables false
namespace Go.Proofs.Ytnhfobhdbablaaa
open Go Go.ChangeShapes Go.WideShapes Go.ChangeAt Go.RowKit
def eU : El Int := ⟨1, fun n _ => .val (.int .u8 n), fun c => (c 0).int, 0, fun _ => rfl, fun _ _ h => by rw [h 0 Nat.one_pos]⟩
@[go_sem] theorem eU_sz : eU.sz = 1 := (rfl)
@[go_sem] theorem eU_enc (n : Int) (j : Nat) : eU.enc n j = .val (.int .u8 n) := rfl
@[go_sem] theorem eU_d : eU.dflt = 0 := rfl
@[go_sem] theorem okc_U (n : Int) : eU.okc (fun _ => .val (.int .u8 n)) = True := eq_true fun _ _ => AVle.refl _
@[go_sem] theorem dec_U (n : Int) : eU.dec (fun _ => .val (.int .u8 n)) = n := rfl
@[go_sem] theorem eU_flat (x : Int) (j : Nat) : (eU.enc x j).flat = true := rfl
@[go_sem] theorem eU_dec (c : Nat → AV) : eU.dec c = kU.dec (c 0) := rfl
@[go_sem] theorem eU_okc (c : Nat → AV) : eU.okc c = kU.ok (c 0) := okc_1 rfl (fun _ => rfl) (fun _ => rfl) c
@[go_sem] theorem eqLf_u8 (k : IntKind) (a b : Int) : eqLf (some (.int k)) (.val (.int .u8 a)) (.val (.int .u8 b)) = some (decide (a = b)) := rfl
theorem nil_em : AVle (.val (.slice none 0 0)) .em := fun _ _ _ _ h => ⟨none, h⟩
def gU (n : Int) : Prop := 0 ≤ n ∧ n ≤ 255
theorem opens_u8 {P : Program} {t : TypeId} (ht : P.underlying t = some (.int .u8)) (hs : P.cellsOf t = 1) : Opens P t eU gU := by
  refine ⟨hs, fun H enc w base spare held fuel cs x h hz => ?_⟩
  cases fuel with
  | zero => simp [DataW.trod] at h
  | succ n =>
    unfold DataW.trod at h
    rw [ht] at h
    split at h <;> simp only [reduceCtorEq, Option.some.injEq, TypeDesc.int.injEq] at *
    rename_i m heq
    subst heq
    split at h
    · rename_i hw
      obtain ⟨rfl, hw⟩ := hw
      refine ⟨m, ?_, one_cell rfl rfl rfl⟩
      simp only [Lit.wf, IntKind.min, IntKind.max, IntKind.signed, IntKind.bits, Bool.and_eq_true, decide_eq_true_eq] at hw
      unfold gU
      simp at hw
      omega
    · cases h
section
variable {P : Program} {st : AS} {K : AS → Prop} {o : Oper}
/-- What is reckoned out of a value, and writes nothing. -/
theorem pure_wp {z : AV} (hd : dstOK st.sz o.dst) (h : ∀ (c : Ctx) (η : Env) (a : Act) (w : World), SR c st η a w → ∃ v, (execOp a.eval o).run P w = .ok (.value v) w ∧ Rep w η (Lset c η st.hp) z v)
    (hK : K ⟨updO st.fr o.dst z, st.hp, st.sz, st.top, st.nx, st.df⟩) : OpW P o st K := by
  intro c η a w next Q hsr hnext
  obtain ⟨v, e, hr⟩ := h c η a w hsr
  unfold Oper.wp
  rw [e]
  exact hnext _ η _ w (hsr.put hd hsr.hs hsr.dead (fun _ _ h => h) hr) hK
/-- A new variable, its cells as they lie. -/
theorem alloc_wp {e : TypeId} {zl : List Value} (ho : o.op = .alloc e) (hz : zeroC P e = some zl) (hd : dstOK st.sz o.dst)
    (hK : K ⟨updO st.fr o.dst (.pt st.top st.nx 0), updR st.hp st.top (.box st.nx e zl.length fun j => .val (zl.getD j undef)), st.sz, st.top + 1, st.nx + 1, st.df⟩) : OpW P o st K := by
  intro c η a w next Q hsr hnext
  obtain ⟨hs', hL⟩ := hsr.hs.declare (p := st.top) (row := .box st.nx e zl.length fun j => .val (zl.getD j undef)) rfl
  obtain ⟨zv, hzr, hzc, hz1⟩ := run_zero (w := w) hz
  have hrow : updR st.hp st.top (.box st.nx e zl.length fun j => .val (zl.getD j undef)) st.top = .box st.nx e zl.length fun j => .val (zl.getD j undef) := updR_at ..
  have hlay := hs'.lay (p := st.top) (ver := st.nx) (cap := 0) (by rw [hrow]; rfl) (hsr.hs.fresh _ (Nat.le_refl _)) hsr.hs.env.2.1 (.cells zl.toArray e) (by
    rw [hrow]
    intro g cap he
    rw [layAt_at] at he
    simp only [Option.some.injEq, Prod.mk.injEq] at he
    obtain ⟨rfl, rfl⟩ := he
    refine ⟨_, _, rfl, heap_alloc_new w _, by simp, fun j hj => ⟨zl[j], by simp [hj], List.all_eq_true.1 hz1 _ (List.getElem_mem hj), ?_⟩⟩
    show zl[j] = zl.getD j undef
    simp [List.getD, hj])
  have run : (execOp a.eval o).run P w = .ok (.value (.pointer (some ⟨w.heap.size, 0, none⟩))) (w.alloc (.cells zl.toArray e)) := by
    simp [execOp, ho, Instr.alloc, hzr, newVar, newRow, hzc]
  unfold Oper.wp
  rw [run]
  have hrep : Rep (w.alloc (.cells zl.toArray e)) (layAt η st.nx (some w.heap.size, 0)) (Lset c (layAt η st.nx (some w.heap.size, 0)) (updR st.hp st.top (.box st.nx e zl.length fun j => .val (zl.getD j undef)))) (.pt st.top st.nx 0) (.pointer (some ⟨w.heap.size, 0, none⟩)) := ⟨w.heap.size, 0, layAt_at _ _ _, rfl⟩
  refine hnext _ (layAt η st.nx (some w.heap.size, 0)) _ _ (hsr.put hd hlay.1 (fun p hp => ?_) (fun x u hx => hlay.2.rep (Rep.less (fun b _ hb => hL b hb) hx)) hrep) hK
  rw [updR_ne _ _ (by omega)]
  exact hsr.dead p (by omega)
theorem rune_wp {s d : TypeId} {x : Operand} {k : IntKind} {n : Int} {l : List UInt8} (ho : o.op = .convert s d x) (hs : (P.underlying s).isSome = true) (hd : P.underlying d = some .string) (hx : st.ev x = .val (.int k n)) (hl : Utf8.encode n = ⟨l.toArray⟩) (hdst : dstOK st.sz o.dst)
    (hK : K ⟨updO st.fr o.dst (.st l), st.hp, st.sz, st.top, st.nx, st.df⟩) : OpW P o st K := by
  refine pure_wp hdst (fun c η a w hsr => ?_) hK
  have hv := rep_ev hsr.slots x
  unfold AS.ev at hx
  rw [hx] at hv
  have hv : a.eval x = .int k n := hv
  refine ⟨.string ⟨l.toArray⟩, ?_, rfl⟩
  unfold execOp
  rw [ho]
  simp [hv, run_convert_int_string w s d k n hs hd, hl]
/-- A text that bytes at hand are. -/
theorem str_wp {s d e : TypeId} {x : Operand} {p v n : Nat} {cc : Nat → Nat → AV} {l : List UInt8} (ho : o.op = .convert s d x) (hs : P.underlying s = some (.slice e)) (he : P.underlying e = some (.int .u8)) (hd : P.underlying d = some .string) (hx : st.ev x = .ow p v n) (hrow : st.hp p = .sl v e 1 n cc)
    (hl : l.length = n) (hc : ∀ i, i < n → cc i 0 = .val (.int .u8 (l.getD i 0).toNat)) (hdst : dstOK st.sz o.dst)
    (hK : K ⟨updO st.fr o.dst (.st l), st.hp, st.sz, st.top, st.nx, st.df⟩) : OpW P o st K := by
  refine pure_wp hdst (fun c η a w hsr => ?_) hK
  have hv := rep_ev hsr.slots x
  unfold AS.ev at hx
  rw [hx] at hv
  obtain ⟨g, cap, hη, hv⟩ := hv
  refine ⟨.string ⟨l.toArray⟩, ?_, rfl⟩
  have key : (convert s d (a.eval x)).run P w = .ok (.string ⟨l.toArray⟩) w := by
    cases g with
    | none =>
      obtain ⟨rfl, av, hv⟩ := hv
      obtain rfl := List.length_eq_zero_iff.1 hl
      rw [hv]
      cases av with
      | none => exact run_convert_bytes_nil w s e hs he 0 0 d hd
      | some ad =>
        rw [run_convert_bytes_string w s d e _ 0 0 hs he hd, run_bytesToString w ad 0 0 [] (run_loadCells_list w ad [] fun j v h => by simp at h)]
        rfl
    | some g =>
      obtain ⟨hv, hcap⟩ := hv
      have hr := hsr.hs.rows p
      rw [hrow] at hr
      obtain ⟨cur, hh, hsz, hn, hm, hcell⟩ := hr (some g) cap hη
      rw [hv, run_convert_bytes_arg w s e hs he g 0 n cap (l.map fun x => (x.toNat : Int)) (by simpa using hl) (fun i hi => by
        obtain ⟨u, hu, _, hrep⟩ := hcell i hi 0 (by decide)
        rw [hc i hi] at hrep
        have hrep : u = .int .u8 (l.getD i 0).toNat := hrep
        rw [Nat.mul_one, Nat.add_zero] at hu
        rw [Nat.zero_add, cell_heap hh, hu, hrep]
        simp [List.getD, show i < l.length by omega]) d hd]
      congr 2
      simp [strOfNums, List.map_map]
      conv => rhs; rw [← List.map_id l]
      apply List.map_congr_left
      intro b _
      simp
  unfold execOp
  rw [ho]
  simp [key]
theorem str_wpS {s d e : TypeId} {x : Operand} {n : Nat} {cc : Nat → Nat → AV} {l : List UInt8} (ho : o.op = .convert s d x) (hs : P.underlying s = some (.slice e)) (he : P.underlying e = some (.int .u8)) (hd : P.underlying d = some .string) (hx : st.ev x = .sn n 1 cc)
    (hl : l.length = n) (h0 : l ≠ []) (hc : ∀ i, i < n → cc i 0 = .val (.int .u8 (l.getD i 0).toNat)) (hdst : dstOK st.sz o.dst)
    (hK : K ⟨updO st.fr o.dst (.st l), st.hp, st.sz, st.top, st.nx, st.df⟩) : OpW P o st K := by
  refine pure_wp hdst (fun c η a w hsr => ?_) hK
  have hv := rep_ev hsr.slots x
  unfold AS.ev at hx
  rw [hx] at hv
  obtain ⟨ad, cap, hv, hcap, hcell⟩ := hv
  have hpos : 0 < l.length := List.length_pos_iff.2 h0
  obtain ⟨b, off, rfl, _, hcell⟩ := hcell (by omega) (by decide)
  refine ⟨.string ⟨l.toArray⟩, ?_, rfl⟩
  have key : (convert s d (a.eval x)).run P w = .ok (.string ⟨l.toArray⟩) w := by
    rw [hv, run_convert_bytes_arg w s e hs he b off n cap (l.map fun x => (x.toNat : Int)) (by simpa using hl) (fun i hi => by
      obtain ⟨u, hu, _, hrep⟩ := hcell i hi 0 (by decide)
      rw [hc i hi] at hrep
      have hrep : u = .int .u8 (l.getD i 0).toNat := hrep
      rw [Nat.mul_one, Nat.add_zero] at hu
      rw [hu, hrep]
      simp [List.getD, show i < l.length by omega]) d hd]
    congr 2
    simp [strOfNums, List.map_map]
    conv => rhs; rw [← List.map_id l]
    apply List.map_congr_left
    intro b _
    simp
  unfold execOp
  rw [ho]
  simp [key]
end
end Go.Proofs.Ytnhfobhdbablaaa
set_option linter.unusedSimpArgs false
set_option linter.unusedVariables false
set_option maxRecDepth 100000
set_option maxHeartbeats 2000000
namespace Go.Proofs.Ytnhfobhdbablaaa
open Go
attribute [local irreducible] AW AVle ASle RowLe
/-- From the end: what is the same is matched, else that is left out by which none is lost. -/
def someG (a b : List Int) : Nat → Nat → List (Int × Int) → List (Int × Int)
  | 0, _, out => out
  | _ + 1, 0, out => out
  | n + 1, m + 1, out => if a.getD n 0 = b.getD m 0 then someG a b n m (((n : Int), (m : Int)) :: out) else if lcsN (a.take n) (b.take (m + 1)) = lcsN (a.take (n + 1)) (b.take (m + 1)) then someG a b n (m + 1) out else someG a b (n + 1) m out
  termination_by n m => n + m
def someL (a b : List Int) : List (Int × Int) := someG a b a.length b.length []
theorem some_0 (a b : List Int) (m : Nat) (out : List (Int × Int)) : someG a b 0 m out = out := by rw [someG]
theorem some_n0 (a b : List Int) (n : Nat) (out : List (Int × Int)) : someG a b n 0 out = out := by
  cases n with
  | zero => rw [someG]
  | succ n => rw [someG]
theorem some_right (a b : List Int) : ∀ (s n m : Nat) (out : List (Int × Int)), n + m ≤ s → n ≤ a.length → m ≤ b.length → rgt a b ((n : Int) - 1) ((m : Int) - 1) out = true → rgt a b (-1) (-1) (someG a b n m out) = true
  | s, 0, m, out, _, _, _, h => by
    rw [some_0]
    cases out with
    | nil => rfl
    | cons p out =>
      rw [rgt, Bool.and_eq_true, decide_eq_true_eq] at h ⊢
      exact ⟨⟨by omega, by omega, h.1.2.2⟩, h.2⟩
  | s, n + 1, 0, out, _, _, _, h => by
    rw [some_n0]
    cases out with
    | nil => rfl
    | cons p out =>
      rw [rgt, Bool.and_eq_true, decide_eq_true_eq] at h ⊢
      exact ⟨⟨by omega, by omega, h.1.2.2⟩, h.2⟩
  | 0, n + 1, m + 1, out, hs, _, _, _ => by omega
  | s + 1, n + 1, m + 1, out, hs, hn, hm, h => by
    have low : ∀ (u v u' v' : Int), u' ≤ u → v' ≤ v → rgt a b u v out = true → rgt a b u' v' out = true := fun u v u' v' h1 h2 g => by
      cases out with
      | nil => rfl
      | cons p out =>
        rw [rgt, Bool.and_eq_true, decide_eq_true_eq] at g ⊢
        exact ⟨⟨by omega, by omega, g.1.2.2⟩, g.2⟩
    rw [someG]
    split
    · rename_i he
      refine some_right a b s n m _ (by omega) (by omega) (by omega) ?_
      rw [rgt, Bool.and_eq_true, decide_eq_true_eq]
      refine ⟨⟨by simp only; omega, by simp only; omega, by simp only; omega, by simp only; omega, by simpa using he⟩, low _ _ _ _ (by omega) (by omega) h⟩
    · split
      · exact some_right a b s n (m + 1) _ (by omega) (by omega) hm (low _ _ _ _ (by omega) (Int.le_refl _) h)
      · exact some_right a b s (n + 1) m _ (by omega) hn (by omega) (low _ _ _ _ (Int.le_refl _) (by omega) h)
theorem someL_right (a b : List Int) : rgt a b (-1) (-1) (someL a b) = true := some_right a b _ _ _ [] (Nat.le_refl _) (Nat.le_refl _) (Nat.le_refl _) rfl
theorem some_len (a b : List Int) : ∀ (s n m : Nat) (out : List (Int × Int)), n + m ≤ s → (someG a b n m out).length ≤ out.length + n
  | s, 0, m, out, _ => by rw [some_0]; omega
  | s, n + 1, 0, out, _ => by rw [some_n0]; omega
  | 0, n + 1, m + 1, out, hs => by omega
  | s + 1, n + 1, m + 1, out, hs => by
    rw [someG]
    split
    · have := some_len a b s n m (((n : Int), (m : Int)) :: out) (by omega)
      rw [List.length_cons] at this
      omega
    · split
      · have := some_len a b s n (m + 1) out (by omega)
        omega
      · exact some_len a b s (n + 1) m out (by omega)
theorem someL_len (a b : List Int) : (someL a b).length ≤ a.length := by
  have := some_len a b _ a.length b.length [] (Nat.le_refl _)
  simpa [someL] using this
theorem sn_gen {α : Type} {E : El α} {l : List α} {n s : Nat} {f : Nat → Nat → AV} (hs : s = E.sz) (hn : n = l.length) (h : ∀ i, i < n → ∀ j, j < s → AVle (f i j) (E.enc (l.getD i E.dflt) j)) : AVle (.sn n s f) (sL E l) := by
  subst hs hn
  exact AVle.sn h
def sRefSome : Spec := Spec.f2 (kL eI) (kL eI) (fun a b => a.length < 1000000 ∧ b.length < 1000000) (fun a b => sL (eP eI eI) (someL a b))
theorem okRefSome : SpecOK Try.prog 38 sRefSome := by
  refine SpecOK.f2 Try.func38 rfl (by decide) Try.results38 Try.ntmps38 (by decide) fun a b ⟨ha, hb⟩ => ?_
  have hΓ : GOK Try.prog (gam [(71, sLcsLength)]) := (.cons okLcsLength .nil)
  refine AW.of hΓ mixed [] _ _ _ rfl ?_
  simp only [go_sem, sLcsLength]
  refine AW.round (α := { x : Nat × Nat × List (Int × Int) × Nat // x.1 ≤ a.length ∧ x.2.1 ≤ b.length ∧ someL a b = someG a b x.1 x.2.1 x.2.2.1 ∧ x.2.2.1.length + x.1 ≤ a.length })
    (fun x => ⟨[(0, sL eI (a.take x.1.1)), (1, sL eI (b.take x.1.2.1)), (5, sL (eP eI eI) x.1.2.2.1)], [], 59, 0, x.1.2.2.2, []⟩) (fun x => x.1.1 + x.1.2.1) ⟨(a.length, b.length, [], 0), Nat.le_refl _, Nat.le_refl _, rfl, by simp⟩ ?_ ?_
  · simp only [go_sem, sLcsLength]
    exact em_sL _
  · rintro ⟨⟨n, m, out, nx⟩, hn, hm, he, ho⟩
    simp only at hn hm he ho
    have ln : (a.take n).length = n := by simp; omega
    have lm : (b.take m).length = m := by simp; omega
    have eA : 0 < n → (a.take n).getD ((n : Int) - 1).toNat 0 = a.getD (n - 1) 0 := fun h => by
      rw [show ((n : Int) - 1).toNat = n - 1 by omega]
      simp [List.getD, List.getElem?_take, show n - 1 < n by omega]
    have eB : 0 < m → (b.take m).getD ((m : Int) - 1).toNat 0 = b.getD (m - 1) 0 := fun h => by
      rw [show ((m : Int) - 1).toNat = m - 1 by omega]
      simp [List.getD, List.getElem?_take, show m - 1 < m by omega]
    refine AW.of hΓ mixed [5, 99999] _ _ _ rfl ?_
    simp only [go_sem, sLcsLength, ln, lm]
    refine ⟨fun hp => ⟨⟨by omega, by omega⟩, ⟨by omega, by omega⟩, ⟨by omega, by omega⟩, ⟨by omega, by omega⟩, ?_⟩, fun h1 => ?_⟩
    · have p1 : 0 < n := by omega
      have p2 : 0 < m := by omega
      rw [eA p1, eB p2]
      obtain ⟨n, rfl⟩ : ∃ k, n = k + 1 := ⟨n - 1, by omega⟩
      obtain ⟨m, rfl⟩ : ∃ k, m = k + 1 := ⟨m - 1, by omega⟩
      have tA : (a.take (n + 1)).take n = a.take n := by rw [List.take_take]; congr 1; omega
      have tB : (b.take (m + 1)).take m = b.take m := by rw [List.take_take]; congr 1; omega
      rw [Nat.add_sub_cancel, Nat.add_sub_cancel]
      rw [someG] at he
      refine AW.cut ⟨[(0, sL eI (a.take (n + 1))), (1, sL eI (b.take (m + 1))), (5, sL (eP eI eI) out), (6, .val (.int .i64 n)), (7, .val (.int .i64 m)), (30, .val (.bool (decide (a.getD n 0 = b.getD m 0))))], [], 59, 0, nx, []⟩ ?_ ?_
      · simp only [go_sem, sLcsLength]
        exact ⟨by omega, by omega⟩
      have tkA : AVle (.sn (n - 0) 1 fun i => eI.enc ((a.take (n + 1)).getD i 0)) (sL eI (a.take n)) := by
        rw [← tA]
        exact take_le eI _ rfl rfl (by rw [ln]; omega)
      have tkB : AVle (.sn (m - 0) 1 fun i => eI.enc ((b.take (m + 1)).getD i 0)) (sL eI (b.take m)) := by
        rw [← tB]
        exact take_le eI _ rfl rfl (by rw [lm]; omega)
      refine AW.cond (b := decide (a.getD n 0 = b.getD m 0)) rfl (fun h => ?_) (fun h => ?_)
      · have h := of_decide_eq_true h
        rw [if_pos h] at he
        refine AW.seqTo (fun x : Nat => Sh.st ⟨[(0, sL eI (a.take (n + 1))), (1, sL eI (b.take (m + 1))), (5, sL (eP eI eI) (((n : Int), (m : Int)) :: out)), (6, .val (.int .i64 n)), (7, .val (.int .i64 m))], [], 59, 0, x, []⟩) ?_ fun nx' => ?_
        · refine AW.regionO hΓ [false, false, false, true] ?_
          simp only [go_sem, sLcsLength]
          refine build_wp rfl ?_
          simp only [go_sem, sLcsLength]
          refine ⟨by omega, nx + 2, ASle.trans (ASle.freeze 0 (nx + 1) 116 2 (1 + out.length) _ rfl (fun i hi j hj => ?_)) (toFits ?_)⟩
          · unfold apC
            split
            · obtain rfl : i = 0 := by omega
              match j, hj with
              | 0, _ => rfl
              | 1, _ => rfl
            · match j, hj with
              | 0, _ => rfl
              | 1, _ => rfl
          · simp only [go_sem, sLcsLength]
            refine sn_gen rfl (by rw [List.length_cons]; omega) fun i hi j hj => AVle.of_eq ?_
            unfold apC
            split
            · obtain rfl : i = 0 := by omega
              match j, hj with
              | 0, _ => rfl
              | 1, _ => rfl
            · obtain ⟨k, rfl⟩ : ∃ k, i = k + 1 := ⟨i - 1, by omega⟩
              rfl
        · refine AW.of hΓ mixed [] _ _ _ rfl ?_
          simp only [go_sem, sLcsLength, ln, lm]
          exact ⟨⟨by omega, by omega⟩, ⟨by omega, by omega⟩, ⟨(n, m, ((n : Int), (m : Int)) :: out, nx'), by dsimp only; omega, by dsimp only; omega, he, by dsimp only; rw [List.length_cons]; omega⟩, ⟨Nat.le_refl _, tkA, tkB, AVle.refl _⟩, by dsimp only; omega⟩
      · have h := of_decide_eq_false h
        rw [if_neg h] at he
        have eN : (List.range (n - 0)).map (fun i => (a.take (n + 1)).getD i 0) = a.take n := by
          refine list_ext_getD 0 (by simp; omega) fun k hk => ?_
          have hk : k < n := by simpa using hk
          simp [List.getD, List.getElem?_take, hk, show k < n + 1 by omega]
        refine AW.of hΓ mixed [99999] _ _ _ rfl ?_
        simp only [go_sem, sLcsLength, ln, lm, eN]
        refine ⟨⟨by omega, by omega⟩, ⟨by omega, by omega⟩, ⟨by omega, by omega⟩, fun h2 => ⟨⟨by omega, by omega⟩, ⟨(n, m + 1, out, nx), by dsimp only; omega, by dsimp only; omega, ?_, by dsimp only; omega⟩, ⟨Nat.le_refl _, tkA, AVle.refl _, AVle.refl _⟩, by dsimp only; omega⟩, fun h2 => ⟨⟨by omega, by omega⟩, ⟨(n + 1, m, out, nx), by dsimp only; omega, by dsimp only; omega, ?_, by dsimp only; omega⟩, ⟨Nat.le_refl _, AVle.refl _, tkB, AVle.refl _⟩, by dsimp only; omega⟩⟩
        · rw [if_pos (by omega)] at he
          exact he
        · rw [if_neg (by omega)] at he
          exact he
    · have e : someG a b n m out = out := by
        rcases Nat.eq_zero_or_pos n with rfl | h
        · exact some_0 a b m out
        · obtain rfl : m = 0 := by omega
          exact some_n0 a b n out
      rw [he, e]
      exact AVle.refl _
end Go.Proofs.Ytnhfobhdbablaaa
set_option linter.unusedSimpArgs false
set_option linter.unusedVariables false
set_option maxRecDepth 100000
set_option maxHeartbeats 2000000
namespace Go.Proofs.Ytnhfobhdbablaaa
open Go
attribute [local irreducible] AW AVle ASle RowLe
theorem ck_box {v e : Nat} {s : Bool} {b1 b2 l1 l2 r1 r2 : Int} {c : Nat → AV} (h0 : c 0 = .val (.bool s)) (h1 : c 1 = .val (.int .i64 b1)) (h2 : c 2 = .val (.int .i64 b2)) (h3 : c 3 = .val (.int .i64 l1)) (h4 : c 4 = .val (.int .i64 l2)) (h5 : c 5 = .val (.int .i64 r1)) (h6 : c 6 = .val (.int .i64 r2)) :
    RowLe (.box v e 7 c) (.box v e 7 (eCk.enc (s, (b1, b2), (l1, l2), r1, r2))) := RowLe.box fun j hj => AVle.of_eq (match j, hj with
  | 0, _ => h0
  | 1, _ => h1
  | 2, _ => h2
  | 3, _ => h3
  | 4, _ => h4
  | 5, _ => h5
  | 6, _ => h6)
theorem valI {a b : Int} (h : a = b) : AV.val (.int .i64 a) = AV.val (.int .i64 b) := by rw [h]
theorem fP_some {l r : List (Int × Int)} {t y w : Nat} (h1 : atL l t = y) (h2 : atL r t = w) : fP l r t = some ((t : Int), (y : Int), (w : Int)) := by
  unfold fP
  rw [h1, h2, if_neg (by omega)]
def sRefOfK : Spec := Spec.f5 kI kI kI (kL (eP eI eI)) (kL (eP eI eI)) (fun a b c l r => a < 100000000 ∧ b < 100000000 ∧ c < 100000000 ∧ l.length < 10000000 ∧ r.length < 10000000)
  (fun a b c l r => if fitK a b c l r then tu2 (sL eCk (ofK (a, b, c) (bothF l r) [] (0, 0, 0))) (kB.enc true) else tu2 .em (kB.enc false))
theorem okRefOfK : SpecOK Try.prog 37 sRefOfK := by
  refine SpecOK.f5 Try.func37 rfl (by decide) Try.results37 Try.ntmps37 (by decide) fun a b c l r ⟨ha, hb, hc, hl, hr⟩ => ?_
  have hΓ : GOK Try.prog (gam [(69, sRefRises), (70, sAtL)]) := (.cons okRefRises (.cons okAtL .nil))
  rcases hf : fitK a b c l r with _ | _
  · have hbad : (decide (a < 0) || decide (b < 0) || decide (c < 0) || !riseB a b (-1) (-1) l || !riseB a c (-1) (-1) r) = true := by
      cases h : (decide (a < 0) || decide (b < 0) || decide (c < 0) || !riseB a b (-1) (-1) l || !riseB a c (-1) (-1) r) with
      | true => rfl
      | false =>
        simp only [Bool.or_eq_false_iff, decide_eq_false_iff_not, Bool.not_eq_false'] at h
        obtain ⟨⟨⟨⟨h1, h2⟩, h3⟩, h4⟩, h5⟩ := h
        have : fitK a b c l r = true := by
          unfold fitK
          rw [h4, h5, decide_eq_true (by omega)]
          rfl
        rw [this] at hf
        cases hf
    refine AW.of hΓ mixed [3] _ _ _ rfl ?_
    simp only [go_sem, sRefRises, sAtL, hf]
    refine ⟨fun h => by simp [h], fun h => by rw [h]; rfl, fun _ => by omega, fun h => by rw [h]; rfl, fun _ => by omega, fun h => by rw [h]; rfl, fun h => by rw [hbad] at h; cases h⟩
  · have hf' := hf
    unfold fitK at hf'
    simp only [Bool.and_eq_true, decide_eq_true_eq] at hf'
    obtain ⟨⟨a0, b0, c0⟩, g1, g2⟩ := hf'
    have d1 : (a < 0) = False := eq_false (by omega)
    have d2 : (b < 0) = False := eq_false (by omega)
    have d3 : (c < 0) = False := eq_false (by omega)
    refine AW.of hΓ mixed [3] _ _ _ rfl ?_
    simp only [go_sem, sRefRises, sAtL, hf, d1, d2, d3, g1, g2]
    refine ⟨by omega, by omega, ?_⟩
    refine AW.adopt 12 59 7 (fun i => eCk.enc (([] : List Ck).getD i eCk.dflt)) rfl ?_
    refine AW.of hΓ mixed [4] _ _ _ rfl ?_
    simp only [go_sem, sRefRises, sAtL]
    obtain ⟨A, rfl⟩ : ∃ A : Nat, a = A := ⟨a.toNat, by omega⟩
    obtain ⟨B, rfl⟩ : ∃ B : Nat, b = B := ⟨b.toNat, by omega⟩
    obtain ⟨C, rfl⟩ : ∃ C : Nat, c = C := ⟨c.toNat, by omega⟩
    rw [both_all g1 g2]
    clear d1 d2 d3 hf a0 b0 c0
    refine AW.fork (AW.block (AW.round (α := { x : (Nat × Nat × Nat) × List Ck × Nat × Nat // (x.1.1 ≤ A ∧ x.1.2.1 ≤ B ∧ x.1.2.2 ≤ C) ∧ x.2.1.length ≤ x.1.1 + x.1.2.1 + x.1.2.2 ∧
        ofK ((A : Int), (B : Int), (C : Int)) (mF l r A 0) [] (0, 0, 0) = ofK ((A : Int), (B : Int), (C : Int)) (mF l r (A - x.1.1) x.1.1) x.2.1 ((x.1.1 : Int), (x.1.2.1 : Int), (x.1.2.2 : Int)) ∧
        (∀ z : Nat, x.1.1 ≤ z → atL l z = -1 ∨ (x.1.2.1 : Int) ≤ atL l z) ∧ (∀ z : Nat, x.1.1 ≤ z → atL r z = -1 ∨ (x.1.2.2 : Int) ≤ atL r z) ∧
        (lastSt x.2.1 = true → fP l r x.1.1 ≠ some ((x.1.1 : Int), (x.1.2.1 : Int), (x.1.2.2 : Int))) })
      (fun x => ⟨[(0, .val (.int .i64 A)), (1, .val (.int .i64 B)), (2, .val (.int .i64 C)), (3, sL (eP eI eI) l), (4, sL (eP eI eI) r), (12, .ow 0 x.1.2.2.1 x.1.2.1.length), (13, .val (.int .i64 x.1.1.1)), (14, .val (.int .i64 x.1.1.2.1)), (15, .val (.int .i64 x.1.1.2.2))],
        [(0, rowL x.1.2.2.1 59 eCk x.1.2.1)], 164, 1, x.1.2.2.2, []⟩) (fun x => A + B + C - x.1.1.1 - x.1.1.2.1 - x.1.1.2.2)
      ⟨((0, 0, 0), [], 0, 1), ⟨Nat.zero_le _, Nat.zero_le _, Nat.zero_le _⟩, Nat.zero_le _, rfl, fun z hz => ?_, fun z hz => ?_, fun h => by cases h⟩ ?_ ?_))
    · by_cases e : atL l z = -1
      · exact .inl e
      · have := at_in g1 z e
        exact .inr (by dsimp only; omega)
    · by_cases e : atL r z = -1
      · exact .inl e
      · have := at_in g2 z e
        exact .inr (by dsimp only; omega)
    · simp only [go_sem, sRefRises, sAtL]
      exact RowLe.refl _
    · rintro ⟨⟨⟨o, p, q⟩, s, v, nx⟩, ⟨ho, hp, hq⟩, hsl, hW, hL, hR, hlast⟩
      simp only at ho hp hq hsl hW hL hR hlast
      refine AW.of hΓ mixed [10, 99999] _ _ _ rfl ?_
      simp only [go_sem, sRefRises, sAtL]
      refine ⟨fun h => by rw [decide_eq_false h]; rfl, fun h => by rw [h]; rfl, fun hgo => ?_, fun hend => ?_⟩
      · simp only [Bool.or_eq_true, decide_eq_true_eq] at hgo
        refine AW.round (α := { x : Nat × Nat // o + x.1 ≤ A ∧ ∀ j, j < x.1 → fP l r (o + j) = some (((o + j : Nat) : Int), (p : Int) + j, (q : Int) + j) })
          (fun x => ⟨[(0, .val (.int .i64 A)), (1, .val (.int .i64 B)), (2, .val (.int .i64 C)), (3, sL (eP eI eI) l), (4, sL (eP eI eI) r), (12, .ow 0 v s.length), (13, .val (.int .i64 o)), (14, .val (.int .i64 p)), (15, .val (.int .i64 q)), (16, .val (.int .i64 x.1.1))],
            [(0, rowL v 59 eCk s)], 164, 1, x.1.2, []⟩) (fun x => A - o - x.1.1) ⟨(0, nx), by simpa using ho, fun j hj => absurd hj (Nat.not_lt_zero _)⟩ ?_ ?_
        · simp only [go_sem, sRefRises, sAtL]
          exact RowLe.refl _
        · rintro ⟨⟨k, n1⟩, hk, hfk⟩
          simp only at hk hfk
          have hpk : p + k ≤ B := by
            cases k with
            | zero => exact hp
            | succ k =>
              have h1 := hfk k (by omega)
              unfold fP at h1
              by_cases e : atL l ((o + k : Nat) : Int) = -1 ∨ atL r ((o + k : Nat) : Int) = -1
              · rw [if_pos e] at h1; cases h1
              · rw [if_neg e] at h1
                have h2 := Prod.mk.inj (Prod.mk.inj (Option.some.inj h1)).2
                have := at_in g1 _ (fun h => e (.inl h))
                omega
          have hqk : q + k ≤ C := by
            cases k with
            | zero => exact hq
            | succ k =>
              have h1 := hfk k (by omega)
              unfold fP at h1
              by_cases e : atL l ((o + k : Nat) : Int) = -1 ∨ atL r ((o + k : Nat) : Int) = -1
              · rw [if_pos e] at h1; cases h1
              · rw [if_neg e] at h1
                have h2 := Prod.mk.inj (Prod.mk.inj (Option.some.inj h1)).2
                have := at_in g2 _ (fun h => e (.inr h))
                omega
          have ec : ((o + k : Nat) : Int) = (o : Int) + k := by omega
          refine AW.of hΓ mixed [10, 99999] _ _ _ rfl ?_
          simp only [go_sem, sRefRises, sAtL]
          refine ⟨by omega, fun _ => by omega, fun _ => by omega, fun _ => by omega, fun _ => by omega, fun _ => by omega, fun _ => by omega, fun ⟨⟨h1, h2⟩, h3⟩ => ?_, fun hx => ?_⟩
          · refine ⟨by omega, ⟨(k + 1, n1), by dsimp only; omega, fun j hj => ?_⟩, ⟨Nat.le_refl _, by dsimp only; omega, RowLe.refl _⟩, by dsimp only; omega⟩
            dsimp only at hj
            rcases Nat.lt_or_ge j k with h' | h'
            · exact hfk j h'
            · obtain rfl : j = k := by omega
              unfold fP
              rw [ec, h2, h3, if_neg (by omega)]
          · refine ⟨by omega, by omega, by omega, ?_⟩
            have hstop : fP l r (o + k) ≠ some (((o + k : Nat) : Int), ((p + k : Nat) : Int), ((q + k : Nat) : Int)) := fun h => by
              unfold fP at h
              by_cases e : atL l ((o + k : Nat) : Int) = -1 ∨ atL r ((o + k : Nat) : Int) = -1
              · rw [if_pos e] at h; cases h
              · rw [if_neg e] at h
                have h2 := Prod.mk.inj (Prod.mk.inj (Option.some.inj h)).2
                have h3 := at_in g1 _ (fun h => e (.inl h))
                rw [ec] at h2 h3
                exact hx ⟨by omega, by omega⟩ (by omega)
            refine AW.to (fun x : { x : (Nat × Nat × Nat) × Bool × Nat // (x.1.1 ≤ A ∧ x.1.2.1 ≤ B ∧ x.1.2.2 ≤ C) ∧ o + p + q < x.1.1 + x.1.2.1 + x.1.2.2 ∧
                ofK ((A : Int), (B : Int), (C : Int)) (mF l r (A - o) o) s ((o : Int), (p : Int), (q : Int)) = ofK ((A : Int), (B : Int), (C : Int)) (mF l r (A - x.1.1) x.1.1) (s ++ [(x.2.1, ((o : Int), (x.1.1 : Int)), ((p : Int), (x.1.2.1 : Int)), ((q : Int), (x.1.2.2 : Int)))]) ((x.1.1 : Int), (x.1.2.1 : Int), (x.1.2.2 : Int)) ∧
                (∀ z : Nat, x.1.1 ≤ z → atL l z = -1 ∨ (x.1.2.1 : Int) ≤ atL l z) ∧ (∀ z : Nat, x.1.1 ≤ z → atL r z = -1 ∨ (x.1.2.2 : Int) ≤ atL r z) ∧
                (x.2.1 = true → fP l r x.1.1 ≠ some ((x.1.1 : Int), (x.1.2.1 : Int), (x.1.2.2 : Int))) } =>
              Sh.st ⟨[(0, .val (.int .i64 A)), (1, .val (.int .i64 B)), (2, .val (.int .i64 C)), (3, sL (eP eI eI) l), (4, sL (eP eI eI) r), (12, .ow 0 v s.length), (17, .pt 1 n1 0)],
                [(0, rowL v 59 eCk s), (1, .box n1 59 7 (eCk.enc (x.1.2.1, ((o : Int), (x.1.1.1 : Int)), ((p : Int), (x.1.1.2.1 : Int)), ((q : Int), (x.1.1.2.2 : Int)))))], 164, 2, x.1.2.2, []⟩) ?_ ?_
            · refine AW.of hΓ mixed [99999] _ _ _ rfl ?_
              simp only [go_sem, sRefRises, sAtL]
              refine ⟨fun hk0 => ?_, fun hk0 => ?_⟩
              · obtain rfl : k = 0 := by omega
                refine AW.round (α := { x : Nat × Nat // o ≤ x.1 ∧ x.1 ≤ A ∧ ∀ z, o ≤ z → z < x.1 → fP l r z = none })
                  (fun x => ⟨[(0, .val (.int .i64 A)), (1, .val (.int .i64 B)), (2, .val (.int .i64 C)), (3, sL (eP eI eI) l), (4, sL (eP eI eI) r), (12, .ow 0 v s.length), (13, .val (.int .i64 o)), (14, .val (.int .i64 p)), (15, .val (.int .i64 q)), (17, .pt 1 n1 0), (18, .val (.int .i64 x.1.1))],
                    [(0, rowL v 59 eCk s), (1, .box n1 59 7 (eCk.enc (false, ((o : Int), (o : Int)), ((p : Int), (p : Int)), ((q : Int), (q : Int)))))], 164, 2, x.1.2, []⟩) (fun x => A - x.1.1) ⟨(o, n1 + 1), Nat.le_refl _, ho, fun z h1 h2 => absurd h1 (by dsimp only at h2; omega)⟩ ?_ ?_
                · simp only [go_sem, sRefRises, sAtL]
                  exact ⟨RowLe.refl _, ck_box rfl rfl (valI (show (o : Int) + 0 = o by omega)) rfl (valI (show (p : Int) + 0 = p by omega)) rfl (valI (show (q : Int) + 0 = q by omega))⟩
                · rintro ⟨⟨t, n2⟩, hot, htA, hno⟩
                  simp only at hot htA hno
                  have hLt := hL t hot
                  have hRt := hR t hot
                  have hsk := mF_skip (l := l) (r := r) (A - o) o (t - o) (by omega) fun j hj => hno (o + j) (by omega) (by omega)
                  rw [show A - o - (t - o) = A - t by omega, show o + (t - o) = t by omega] at hsk
                  refine AW.of hΓ mixed [99999] _ _ _ rfl ?_
                  simp only [go_sem, sRefRises, sAtL]
                  refine ⟨fun _ => by omega, fun _ => by omega, fun h0 h1 => by rw [decide_eq_true h0, decide_eq_false h1]; rfl, fun ⟨h0, h1⟩ => ?_, fun hx => ⟨fun h0 => ?_, fun h0 => ?_⟩⟩
                  · simp only [Bool.or_eq_true, decide_eq_true_eq] at h1
                    refine ⟨by omega, ⟨(t + 1, n2), by dsimp only; omega, by dsimp only; omega, fun z hz1 hz2 => ?_⟩, ⟨Nat.le_refl _, by dsimp only; omega, RowLe.refl _, RowLe.refl _⟩, by dsimp only; omega⟩
                    dsimp only at hz2
                    rcases Nat.lt_or_ge z t with h' | h'
                    · exact hno z hz1 h'
                    · obtain rfl : z = t := by omega
                      unfold fP
                      rw [if_pos (by omega)]
                  · have hx := hx h0
                    simp only [Bool.or_eq_false_iff, decide_eq_false_iff_not] at hx
                    obtain ⟨y, hy⟩ : ∃ y : Nat, atL l t = y := ⟨(atL l t).toNat, by omega⟩
                    obtain ⟨w, hw⟩ : ∃ w : Nat, atL r t = w := ⟨(atL r t).toNat, by omega⟩
                    have hin1 := at_in g1 t (by omega)
                    have hin2 := at_in g2 t (by omega)
                    have hfs := fP_some hy hw
                    have hne : (((t : Int), (y : Int), (w : Int)) : Pl) ≠ ((o : Int), (p : Int), (q : Int)) := fun h => by
                      have h2 := Prod.mk.inj h
                      obtain rfl : t = o := by omega
                      exact hstop (by rw [Nat.add_zero, hfs, h]; simp)
                    obtain ⟨m, hm⟩ : ∃ m, A - t = m + 1 := ⟨A - t - 1, by omega⟩
                    refine ⟨by omega, by omega, ⟨((t, y, w), false, n2), ⟨by dsimp only; omega, by dsimp only; omega, by dsimp only; omega⟩, ?_, ?_, fun z hz => ?_, fun z hz => ?_, fun h => by cases h⟩, toFits ?_⟩
                    · dsimp only
                      rcases Nat.lt_or_ge (o + p + q) (t + y + w) with h' | h'
                      · exact h'
                      · exact absurd (by rw [show t = o by omega, show y = p by omega, show w = q by omega]) hne
                    · dsimp only
                      rw [hsk, hm, mF_some hfs, of_gap hne]
                      rfl
                    · dsimp only at hz ⊢
                      by_cases e : atL l z = -1
                      · exact .inl e
                      · rcases Nat.lt_or_ge t z with h' | h'
                        · have := at_mono g1 (t : Int) z (by omega) (by omega) e
                          exact .inr (by omega)
                        · obtain rfl : z = t := by omega
                          exact .inr (by omega)
                    · dsimp only at hz ⊢
                      by_cases e : atL r z = -1
                      · exact .inl e
                      · rcases Nat.lt_or_ge t z with h' | h'
                        · have := at_mono g2 (t : Int) z (by omega) (by omega) e
                          exact .inr (by omega)
                        · obtain rfl : z = t := by omega
                          exact .inr (by omega)
                    · simp only [go_sem, sRefRises, sAtL]
                      exact ⟨RowLe.refl _, ck_box rfl rfl rfl rfl (valI hy) rfl (valI hw)⟩
                  · obtain rfl : t = A := by omega
                    have hne : ¬ (((o : Int), (p : Int), (q : Int)) : Pl) = ((t : Int), (B : Int), (C : Int)) := fun h => by
                      have h2 := Prod.mk.inj h
                      have h3 := Prod.mk.inj h2.2
                      omega
                    refine ⟨⟨((t, B, C), false, n2), ⟨Nat.le_refl _, Nat.le_refl _, Nat.le_refl _⟩, by dsimp only; omega, ?_, fun z hz => ?_, fun z hz => ?_, fun h => by cases h⟩, toFits ?_⟩
                    · dsimp only
                      rw [hsk, Nat.sub_self, mF, ofK, ofK, if_neg hne, if_pos rfl]
                      rfl
                    · dsimp only at hz ⊢
                      by_cases e : atL l z = -1
                      · exact .inl e
                      · have := at_in g1 z e
                        omega
                    · dsimp only at hz ⊢
                      by_cases e : atL r z = -1
                      · exact .inl e
                      · have := at_in g2 z e
                        omega
                    · simp only [go_sem, sRefRises, sAtL]
                      exact ⟨RowLe.refl _, ck_box rfl rfl rfl rfl rfl rfl rfl⟩
              · obtain ⟨k, rfl⟩ : ∃ m, k = m + 1 := ⟨k - 1, by omega⟩
                have hs : lastSt s = false := by
                  cases h : lastSt s with
                  | false => rfl
                  | true =>
                    have h0 := hfk 0 (by omega)
                    exact absurd (by simpa using h0) (hlast h)
                have hrun := of_run (ends := ((A : Int), (B : Int), (C : Int))) hs (A - o) o (p : Int) (q : Int) (k + 1) (by omega) (by omega) hfk
                have hlk : atL l ((o + k : Nat) : Int) = (p : Int) + k ∧ atL r ((o + k : Nat) : Int) = (q : Int) + k := by
                  have h1 := hfk k (by omega)
                  unfold fP at h1
                  by_cases e : atL l ((o + k : Nat) : Int) = -1 ∨ atL r ((o + k : Nat) : Int) = -1
                  · rw [if_pos e] at h1; cases h1
                  · rw [if_neg e] at h1
                    have h2 := Prod.mk.inj (Prod.mk.inj (Option.some.inj h1)).2
                    exact h2
                refine ⟨⟨((o + (k + 1), p + (k + 1), q + (k + 1)), true, n1 + 1), ⟨by dsimp only; omega, by dsimp only; omega, by dsimp only; omega⟩, by dsimp only; omega, ?_, fun z hz => ?_, fun z hz => ?_, fun _ => hstop⟩, toFits ?_⟩
                · simp only [Int.natCast_add, Nat.sub_sub] at hrun ⊢
                  exact hrun
                · dsimp only at hz ⊢
                  by_cases e : atL l z = -1
                  · exact .inl e
                  · have := at_mono g1 ((o + k : Nat) : Int) z (by omega) (by omega) e
                    exact .inr (by omega)
                · dsimp only at hz ⊢
                  by_cases e : atL r z = -1
                  · exact .inl e
                  · have := at_mono g2 ((o + k : Nat) : Int) z (by omega) (by omega) e
                    exact .inr (by omega)
                · simp only [go_sem, sRefRises, sAtL]
                  exact ⟨RowLe.refl _, ck_box (by show AV.val (.bool (decide (0 < ((k + 1 : Nat) : Int)))) = _; rw [decide_eq_true (by omega)]) rfl (valI (show (o : Int) + ((k + 1 : Nat) : Int) = ((o + (k + 1) : Nat) : Int) by omega)) rfl (valI (show (p : Int) + ((k + 1 : Nat) : Int) = ((p + (k + 1) : Nat) : Int) by omega)) rfl (valI (show (q : Int) + ((k + 1 : Nat) : Int) = ((q + (k + 1) : Nat) : Int) by omega))⟩
            · rintro ⟨⟨⟨o', p', q'⟩, st, n2⟩, ⟨ho', hp', hq'⟩, hlt, hW', hL', hR', hlast'⟩
              simp only at ho' hp' hq' hlt hW' hL' hR' hlast'
              simp only [go_sem, sRefRises, sAtL]
              refine ⟨by omega, ⟨((o', p', q'), s ++ [(st, ((o : Int), (o' : Int)), ((p : Int), (p' : Int)), ((q : Int), (q' : Int)))], n2, n2 + 1), ⟨ho', hp', hq'⟩, by simp; omega, by dsimp only; rw [hW, hW'], hL', hR', fun h => hlast' (by rw [last_snoc] at h; exact h)⟩, ⟨Nat.le_refl _, ⟨⟨rfl, by simp⟩, rfl, rfl, rfl⟩, ?_⟩, by dsimp only; omega⟩
              exact row_app1 (E := eCk) rfl rfl rfl rfl (by simp) fun j hj => AVle.refl _
      · simp only [Bool.or_eq_false_iff, decide_eq_false_iff_not] at hend
        refine AW.of hΓ mixed [] _ _ _ rfl ?_
        simp only [go_sem, sRefRises, sAtL]
        obtain rfl : o = A := by omega
        obtain rfl : p = B := by omega
        obtain rfl : q = C := by omega
        rw [hW, Nat.sub_self, mF, ofK, if_pos rfl]
        exact vw_all (E := eCk) rfl rfl rfl
end Go.Proofs.Ytnhfobhdbablaaa
set_option linter.unusedSimpArgs false
set_option linter.unusedVariables false
set_option maxRecDepth 100000
set_option maxHeartbeats 2000000
namespace Go.Proofs.Ytnhfobhdbablaaa
open Go
attribute [local irreducible] AW AVle ASle RowLe
def sRefRunT : Spec := Spec.f1 kS (fun s => s.length ≤ 100000000) (fun s => kI.enc (longL (splitL s)))
def lenP (p : Pt) : Nat := p.2.2.2.2.1.length + p.2.2.2.2.2.1.length + p.2.2.2.2.2.2.1.length + p.2.2.2.2.2.2.2.1.length + p.1.length + p.2.1.length + p.2.2.1.length
def sumP (l : List Pt) : Nat := (l.map lenP).sum
def fewD (l : List Pt) : Bool := decide (l.length ≤ 60) && decide (sumP l ≤ 3000)
theorem sumP_snoc (l : List Pt) (p : Pt) : sumP (l ++ [p]) = sumP l + lenP p := by simp [sumP]
theorem sumP_mem {l : List Pt} {p : Pt} (h : p ∈ l) : lenP p ≤ sumP l := by
  induction l with
  | nil => cases h
  | cons t l ih =>
    have e : sumP (t :: l) = lenP t + sumP l := by simp [sumP]
    rcases List.mem_cons.1 h with rfl | h
    · omega
    · have := ih h
      omega
def rchP (m : Nat) (p : Pt) : Prop := (p.1.length ≤ m ∧ p.2.1.length ≤ m ∧ p.2.2.1.length ≤ m) ∧ p.2.2.2.2.1.length ≤ m ∧ p.2.2.2.2.2.1.length ≤ m ∧ p.2.2.2.2.2.2.1.length ≤ m ∧ p.2.2.2.2.2.2.2.1.length ≤ m
theorem sumP_bnd {m : Nat} : ∀ {l : List Pt}, (∀ p ∈ l, rchP m p) → sumP l ≤ l.length * (7 * m)
  | [], _ => by simp [sumP]
  | p :: l, h => by
    have h1 := h p (List.mem_cons_self ..)
    have h2 := sumP_bnd fun x hx => h x (List.mem_cons_of_mem p hx)
    have e : sumP (p :: l) = lenP p + sumP l := by simp [sumP]
    obtain ⟨⟨g1, g2, g3⟩, g4, g5, g6, g7⟩ := h1
    rw [e, List.length_cons, Nat.succ_mul]
    unfold lenP
    omega
def sFewD : Spec := Spec.f1 (kL ePt) (fun l => l.length ≤ 140737488351232 ∧ ∀ p ∈ l, rchP 140737488351232 p) (fun l => kB.enc (fewD l))
theorem okFewD : SpecOK Try.prog 8 sFewD := by
  refine SpecOK.f1 Try.func8 rfl (by decide) Try.results8 Try.ntmps8 (by decide) fun l ⟨hl, hs⟩ => ?_
  have hΓ : GOK Try.prog (gam []) := GOK.nil
  refine AW.of hΓ mixed [] _ _ _ rfl ?_
  simp only [go_sem]
  refine AW.round (α := { x : Nat × Int × Nat // x.1 ≤ l.length ∧ (x.1 ≤ 60 → x.2.1 = sumP (l.take x.1)) })
    (fun x => ⟨[(0, sL ePt l), (3, .val (.int .i64 x.1.2.1)), (4, .val (.int .i64 x.1.1))], [], 52, 0, x.1.2.2, []⟩) (fun x => l.length - x.1.1) ⟨(0, 0, 0), Nat.zero_le _, fun _ => by simp [sumP]⟩ ?_ ?_
  · simp only [go_sem]
  · rintro ⟨⟨i, u, nx⟩, hi, hu⟩
    simp only at hi hu
    refine AW.of hΓ mixed [5, 99999] _ _ _ rfl ?_
    simp only [go_sem]
    refine ⟨fun hlt => ⟨by omega, ?_⟩, fun hge => ?_⟩
    · refine AW.regionW hΓ [false, false, false, false, true, false, false, false, true, false, false, false, true, false, false, false, true, false, false, false, true, false, false, false, true, false, false, false, true] ?_
      simp only [go_sem]
      have hlt' : i < l.length := by omega
      have h1 : rchP 140737488351232 (l.getD i ePt.dflt) := by
        rw [gd_lt l _ hlt']
        exact hs _ (List.getElem_mem _)
      have h2 : sumP (l.take i) ≤ (l.take i).length * (7 * 140737488351232) := sumP_bnd fun s h => hs s (List.mem_of_mem_take h)
      rw [List.length_take] at h2
      have e : sumP (l.take (i + 1)) = sumP (l.take i) + lenP (l.getD i ePt.dflt) := by rw [take_snoc l ePt.dflt hlt', sumP_snoc]
      generalize l.getD i ePt.dflt = p at *
      obtain ⟨⟨g1, g2, g3⟩, g4, g5, g6, g7⟩ := h1
      refine ⟨by omega, ⟨(i + 1, IntKind.i64.wrap (IntKind.i64.wrap (IntKind.i64.wrap (IntKind.i64.wrap (IntKind.i64.wrap (IntKind.i64.wrap (IntKind.i64.wrap (u + (p.2.2.2.2.1.length : Int)) + (p.2.2.2.2.2.1.length : Int)) + (p.2.2.2.2.2.2.1.length : Int)) + (p.2.2.2.2.2.2.2.1.length : Int)) + (p.1.length : Int)) + (p.2.1.length : Int)) + (p.2.2.1.length : Int)), nx + 1), by dsimp only; omega, fun hh => ?_⟩, ⟨Nat.le_refl _, rfl, by dsimp only; omega⟩, by dsimp only; omega⟩
      dsimp only at hh ⊢
      have h3 := hu (by omega)
      have h4 : min i l.length * (7 * 140737488351232) ≤ 60 * (7 * 140737488351232) := Nat.mul_le_mul_right _ (by omega)
      rw [wrap_i64 (u + _) (by omega), wrap_i64 (u + _ + _) (by omega), wrap_i64 (u + _ + _ + _) (by omega), wrap_i64 (u + _ + _ + _ + _) (by omega), wrap_i64 (u + _ + _ + _ + _ + _) (by omega), wrap_i64 (u + _ + _ + _ + _ + _ + _) (by omega), wrap_i64 (u + _ + _ + _ + _ + _ + _ + _) (by omega), e, h3]
      unfold lenP
      omega
    · refine Bool.eq_iff_iff.2 ?_
      obtain rfl : i = l.length := by omega
      rw [List.take_length] at hu
      simp only [fewD, Bool.and_eq_true, decide_eq_true_eq]
      exact ⟨fun ⟨h1, h2⟩ => ⟨by omega, by have := hu (by omega); omega⟩, fun ⟨h1, h2⟩ => ⟨by omega, by have := hu (by omega); omega⟩⟩
def sToldD : Spec := Spec.f0 (kB.enc true)
theorem longT_two (a b : BS) : longT [a, b] = max (longL (splitL a)) (longL (splitL b)) := by
  unfold longT
  simp
theorem sumT_sumP (l : List Pt) : sumT l ≤ sumP l := by
  induction l with
  | nil => simp [sumT, sumP]
  | cons p l ih =>
    have e1 : sumT (p :: l) = (txP p).length + sumT l := by simp [sumT]
    have e2 : sumP (p :: l) = lenP p + sumP l := by simp [sumP]
    have : (txP p).length ≤ lenP p := by unfold lenP txP; omega
    omega
theorem few_le {l : List Pt} (h : fewD l = true) : l.length ≤ 60 ∧ sumP l ≤ 3000 ∧ sumT l ≤ 3000 := by
  have := sumT_sumP l
  simp only [fewD, Bool.and_eq_true, decide_eq_true_eq] at h
  omega
def sDocWidths : Spec := Spec.f3 kI kS kS (fun n _ _ => -9223372036854775808 ≤ n ∧ n ≤ 9223372036854775807) (fun _ _ _ => kB.enc true)
def sDocJoins : Spec := Spec.f2 (kL ePt) (kL ePt) (fun d e => (d.length ≤ 140737488351232 ∧ ∀ p ∈ d, rchP 140737488351232 p) ∧ e.length ≤ 140737488351232 ∧ ∀ p ∈ e, rchP 140737488351232 p) (fun _ _ => kB.enc true)
end Go.Proofs.Ytnhfobhdbablaaa
set_option linter.unusedSimpArgs false
set_option linter.unusedVariables false
namespace Go.Proofs.Ytnhfobhdbablaaa
open Go
theorem sumP_app (a b : List Pt) : sumP (a ++ b) = sumP a + sumP b := by simp [sumP]
theorem sumP_one (p : Pt) : sumP [p] = lenP p := by simp [sumP]
theorem len_textP (t : BS) : lenP (textP t) = t.length := by
  show t.length + 0 + 0 + 0 + 0 + 0 + 0 = _
  omega
theorem join_sumP (out : List Pt) (p : Pt) : sumP (joinR out p) ≤ sumP out + lenP p := by
  cases hp : isTextD p with
  | false => rw [join_no hp, sumP_app, sumP_one]; exact Nat.le_refl _
  | true =>
    rcases join_cases out p hp with ⟨_, e⟩ | ⟨_, ⟨m, q, rfl, hq, e⟩ | ⟨_, e⟩⟩
    · rw [e]; omega
    · rw [e, sumP_app, sumP_app, sumP_one, sumP_one, len_textP, List.length_append]
      have h1 : (txP q).length ≤ lenP q := by unfold lenP txP; omega
      have h2 : (txP p).length ≤ lenP p := by unfold lenP txP; omega
      omega
    · rw [e, sumP_app, sumP_one]; exact Nat.le_refl _
theorem fold_sumP : ∀ (l out : List Pt), sumP (l.foldl joinR out) ≤ sumP out + sumP l
  | [], _ => by simp [sumP]
  | p :: l, out => by
    have h1 := fold_sumP l (joinR out p)
    have h2 := join_sumP out p
    have h3 : sumP (p :: l) = lenP p + sumP l := by simp [sumP]
    rw [List.foldl_cons]
    omega
theorem of_sumP (l : List Pt) : sumP (ofD l) ≤ sumP l := by
  rw [ofD_eq]
  have := fold_sumP l []
  have e : sumP [] = 0 := rfl
  omega
theorem sum_okPt {d : List Pt} (h : sumP d ≤ 100000000) : ∀ p ∈ d, okPt p := fun p hp => by
  have := sumP_mem hp
  unfold lenP at this
  unfold okPt txP
  omega
end Go.Proofs.Ytnhfobhdbablaaa
set_option linter.unusedSimpArgs false
set_option linter.unusedVariables false
set_option maxRecDepth 100000
set_option maxHeartbeats 4000000
namespace Go.Proofs.Ytnhfobhdbablaaa
open Go
attribute [local irreducible] AW AVle ASle RowLe
theorem keeps_sL {α : Type} {E : El α} {l : List α} {j i : Nat} {row : Row} {r : List (Nat × AV × Row)} {st : AS} : keeps j ((i, sL E l, row) :: r) st = keeps j r st := rfl
theorem fl_le {c : Nat → AV} {x y z : List BS} (h0 : c 0 = sL eS x) (h1 : c 1 = sL eS y) (h2 : c 2 = sL eS z) : AVle (.ag 3 c) (.ag 3 (eFl.enc (x, y, z))) :=
  AVle.ag fun j hj => AVle.of_eq (match j, hj with | 0, _ => h0 | 1, _ => h1 | 2, _ => h2)
def sShort : Spec := Spec.f1 kS (fun _ => True) (fun s => kS.enc (s.take 200))
theorem okShort : SpecOK Try.prog 11 sShort := by
  refine SpecOK.f1 Try.func11 rfl (by decide) Try.results11 Try.ntmps11 (by decide) fun s _ => ?_
  have hΓ : GOK Try.prog (gam []) := GOK.nil
  refine AW.of hΓ mixed [] _ _ _ rfl ?_
  simp only [go_sem]
  have e : (min (s.length : Int) 200).toNat = min s.length 200 := by omega
  refine ⟨⟨by omega, by omega⟩, ?_⟩
  rw [e, List.take_eq_take_iff]
  omega
def sToB : Spec := Spec.f1 (kA eFl) (fun f => okFl f) (fun f => (kA eFl).enc f)
theorem okToB : SpecOK Try.prog 12 sToB := by
  refine SpecOK.f1 Try.func12 rfl (by decide) Try.results12 Try.ntmps12 (by decide) fun f hf => ?_
  have hΓ : GOK Try.prog (gam []) := GOK.nil
  obtain ⟨fb, fl, fr⟩ := f
  obtain ⟨hf1, hf2, hf3⟩ := hf
  dsimp only at hf1 hf2 hf3
  refine AW.of hΓ mixed [0, 200001] _ _ _ rfl ?_
  simp only [go_sem]
  refine AW.still 1 0 0 30 3 _ rfl rfl (fun j hj => match j, hj with | 0, _ => rfl | 1, _ => rfl | 2, _ => rfl) ?_
  refine AW.fork ?_
  refine AW.drawZ hΓ mixed 3 [4, 5, 6, 8, 9, 10] [4, 5, 6, 8, 9, 10] [3, 7, 11] (by kernel_rfl) ?_
  simp only [go_sem, keeps_sL]
  refine ⟨by omega, by omega, by omega, ?_⟩
  refine AW.of hΓ mixed [] _ _ _ rfl ?_
  simp only [go_sem]
  exact fl_le rfl rfl rfl
def sChunksB : Spec := Spec.f1 (kL eCk) (fun l => l.length ≤ 100000) (fun l => sL eCk l)
theorem okChunksB : SpecOK Try.prog 13 sChunksB := by
  refine SpecOK.f1 Try.func13 rfl (by decide) Try.results13 Try.ntmps13 (by decide) fun l hl => ?_
  have hΓ : GOK Try.prog (gam [(39, sToK)]) := (.cons okToK .nil)
  refine AW.of hΓ mixed [1] _ _ _ rfl ?_
  simp only [go_sem, sToK]
  refine AW.adopt 3 88 7 (fun i => eCk.enc (([] : List Ck).getD i eCk.dflt)) rfl ?_
  refine AW.of hΓ mixed [] _ _ _ rfl ?_
  simp only [go_sem, sToK]
  refine AW.round (α := { x : Nat × List Ck × Nat × Nat // x.1 ≤ l.length ∧ x.2.1 = l.take x.1 })
    (fun x => ⟨[(0, sL eCk l), (3, .ow 0 x.1.2.2.1 x.1.2.1.length), (4, .val (.int .i64 x.1.1))], [(0, rowL x.1.2.2.1 88 eCk x.1.2.1)], 20, 1, x.1.2.2.2, []⟩) (fun x => l.length - x.1.1) ⟨(0, [], 0, 1), Nat.zero_le _, rfl⟩ ?_ ?_
  · simp only [go_sem, sToK]
    exact RowLe.refl _
  · rintro ⟨⟨i, S, u, nx⟩, hi, hS⟩
    simp only at hi hS
    have hSl : S.length = i := by rw [hS, List.length_take]; omega
    rcases Nat.lt_or_ge i l.length with hlt' | hge
    · have hlI : ((i : Int) < (l.length : Nat)) = True := eq_true (by omega)
      have hsn := take_snoc l eCk.dflt hlt'
      rw [← hS] at hsn
      generalize hce : l.getD i eCk.dflt = c at *
      obtain ⟨cs, ⟨cb1, cb2⟩, ⟨cl1, cl2⟩, cr1, cr2⟩ := c
      refine AW.of hΓ mixed [99999] _ _ _ rfl ?_
      simp only [go_sem, sToK, hlI, hce]
      refine ⟨by omega, by omega, ⟨by omega, by omega⟩, ⟨(i + 1, S ++ [(cs, (cb1, cb2), (cl1, cl2), cr1, cr2)], nx, nx + 1), by dsimp only; omega, hsn.symm⟩, ⟨Nat.le_refl _, ⟨⟨rfl, by simp⟩, by dsimp only; omega⟩, ?_⟩, by dsimp only; omega⟩
      exact row_app1 (E := eCk) rfl rfl rfl rfl (by simp) fun j _ => AVle.refl _
    · obtain rfl : i = l.length := by omega
      rw [List.take_length] at hS
      subst hS
      refine AW.of hΓ mixed [99999] _ _ _ rfl ?_
      simp only [go_sem, sToK]
      exact vw_all (E := eCk) rfl rfl rfl
def filesF (a b c : BS) : Fl := (splitL a, splitL b, splitL c)
def numsF (f : Fl) : List (List Int) := numF [] [f.1, f.2.1, f.2.2]
def someC (f : Fl) : List Ck := cksF f (someL ((numsF f).getD 0 []) ((numsF f).getD 1 [])) (someL ((numsF f).getD 0 []) ((numsF f).getD 2 []))
theorem someC_mtch (f : Fl) : mtch f (someL ((numsF f).getD 0 []) ((numsF f).getD 1 [])) (someL ((numsF f).getD 0 []) ((numsF f).getD 2 [])) := ⟨someL_right _ _, someL_right _ _⟩
def sSomeB : Spec := Spec.f3 kS kS kS (fun a b c => a.length ≤ 1000 ∧ b.length ≤ 1000 ∧ c.length ≤ 1000) (fun a b c => tu2 ((kA eFl).enc (filesF a b c)) (sL eCk (someC (filesF a b c))))
theorem okSomeB : SpecOK Try.prog 10 sSomeB := by
  refine SpecOK.f3 Try.func10 rfl (by decide) Try.results10 Try.ntmps10 (by decide) fun a b c ⟨ha, hb, hc⟩ => ?_
  have hΓ : GOK Try.prog (gam [(35, sRefSplit), (36, sRefNumber), (38, sRefSome), (37, sRefOfK)]) := (.cons okRefSplit (.cons okRefNumber (.cons okRefSome (.cons okRefOfK .nil))))
  refine AW.of hΓ mixed [1] _ _ _ rfl ?_
  simp only [go_sem, sRefSplit, sRefNumber, sRefSome, sRefOfK]
  refine ⟨by omega, by omega, by omega, ?_⟩
  have la : (splitL a).length ≤ 1000 := Nat.le_trans (splitL_len a) ha
  have lb : (splitL b).length ≤ 1000 := Nat.le_trans (splitL_len b) hb
  have lc : (splitL c).length ≤ 1000 := Nat.le_trans (splitL_len c) hc
  unfold someC numsF filesF
  dsimp only
  generalize splitL a = x at *
  generalize splitL b = y at *
  generalize splitL c = z at *
  refine AW.cut ⟨[(6, .pt 0 0 0), (7, .em), (8, .pt 1 1 0)], [(0, .box 0 30 3 (eFl.enc ([], [], []))), (1, .box 1 30 3 (eFl.enc (x, y, z)))], 56, 2, 2, []⟩ ?_ ?_
  · simp only [go_sem, sRefSplit, sRefNumber, sRefSome, sRefOfK]
    exact ⟨RowLe.box fun j hj => match j, hj with | 0, _ => em_sL _ | 1, _ => em_sL _ | 2, _ => em_sL _, RowLe.box fun j hj => AVle.of_eq (match j, hj with | 0, _ => rfl | 1, _ => rfl | 2, _ => rfl)⟩
  refine AW.still 8 1 1 30 3 _ rfl rfl (fun j hj => match j, hj with | 0, _ => rfl | 1, _ => rfl | 2, _ => rfl) ?_
  have hfit : fitK x.length y.length z.length (someL ((numF [] [x, y, z]).getD 0 []) ((numF [] [x, y, z]).getD 1 [])) (someL ((numF [] [x, y, z]).getD 0 []) ((numF [] [x, y, z]).getD 2 [])) = true := mtch_fit (someC_mtch (x, y, z))
  have n0 : ((numF [] [x, y, z]).getD 0 []).length = x.length := by simp [numF, numL_len]
  have n1 : ((numF [] [x, y, z]).getD 1 []).length = y.length := by simp [numF, numL_len]
  have n2 : ((numF [] [x, y, z]).getD 2 []).length = z.length := by simp [numF, numL_len]
  have n3 : (numF [] [x, y, z]).length = 3 := by rw [numF_len]; rfl
  have s1 := someL_len ((numF [] [x, y, z]).getD 0 []) ((numF [] [x, y, z]).getD 1 [])
  have s2 := someL_len ((numF [] [x, y, z]).getD 0 []) ((numF [] [x, y, z]).getD 2 [])
  refine AW.of hΓ mixed [] _ _ _ rfl ?_
  simp only [go_sem, sRefSplit, sRefNumber, sRefSome, sRefOfK, hfit]
  exact ⟨⟨by omega, by omega, by omega⟩, by omega, by omega, ⟨by omega, by omega⟩, by omega, by omega, ⟨by omega, by omega⟩, ⟨by omega, by omega, by omega, by omega, by omega⟩, fl_le rfl rfl rfl, AVle.refl _⟩
end Go.Proofs.Ytnhfobhdbablaaa
set_option linter.unusedSimpArgs false
set_option linter.unusedVariables false
set_option maxRecDepth 100000
set_option maxHeartbeats 4000000
namespace Go.Proofs.Ytnhfobhdbablaaa
open Go
attribute [local irreducible] AW AVle ASle RowLe
theorem of_lenC (ends : Pl) : ∀ (M : List Pl) (s : List Ck) (t : Pl), (ofK ends M s t).length ≤ s.length + 2 * M.length + 1
  | [], s, t => by
    rw [ofK]
    split
    · omega
    · simp
  | p :: M, s, t => by
    rw [ofK]
    have h1 := stretch_len (if p = t then s else s ++ [btw t p]) p
    have h2 : (if p = t then s else s ++ [btw t p]).length ≤ s.length + 1 := by
      split
      · omega
      · simp
    have h3 := of_lenC ends M (stretchF (if p = t then s else s ++ [btw t p]) p) (nextP p)
    simp only [List.length_cons]
    omega
theorem someC_len (f : Fl) : (someC f).length ≤ 2 * f.1.length + 1 := by
  have h1 := of_lenC (f.1.length, f.2.1.length, f.2.2.length) (bothF (someL ((numsF f).getD 0 []) ((numsF f).getD 1 [])) (someL ((numsF f).getD 0 []) ((numsF f).getD 2 []))) [] (0, 0, 0)
  have h2 := both_len _ (someL ((numsF f).getD 0 []) ((numsF f).getD 1 [])) (someL ((numsF f).getD 0 []) ((numsF f).getD 2 [])) (Nat.le_refl _)
  have h3 := someL_len ((numsF f).getD 0 []) ((numsF f).getD 1 [])
  have h4 : ((numsF f).getD 0 []).length = f.1.length := by simp [numsF, numF, numL_len]
  unfold someC cksF
  simp only [List.length_nil] at h1
  omega
theorem files_whole (a b c : BS) : wholeF (filesF a b c) := ⟨wholeL_splitL _ a (Nat.le_refl _), wholeL_splitL _ b (Nat.le_refl _), wholeL_splitL _ c (Nat.le_refl _)⟩
theorem files_ok {a b c : BS} (ha : a.length ≤ 1000) (hb : b.length ≤ 1000) (hc : c.length ≤ 1000) : okFl (filesF a b c) := by
  have l1 := splitL_len a
  have l2 := splitL_len b
  have l3 := splitL_len c
  refine ⟨⟨?_, ?_⟩, ⟨?_, ?_⟩, ?_, ?_⟩
  · show (splitL a).length ≤ 10000; omega
  · show (splitL a).flatten.length ≤ 10000; rw [splitL_flat]; omega
  · show (splitL b).length ≤ 10000; omega
  · show (splitL b).flatten.length ≤ 10000; rw [splitL_flat]; omega
  · show (splitL c).length ≤ 10000; omega
  · show (splitL c).flatten.length ≤ 10000; rw [splitL_flat]; omega
theorem some_told : someC (filesF [97, 10] [120, 10, 121, 10] [120, 10, 122, 10]) = [(false, (0, 1), (0, 2), (0, 2))] := by
  have e1 : filesF [97, 10] [120, 10, 121, 10] [120, 10, 122, 10] = ([[97, 10]], [[120, 10], [121, 10]], [[120, 10], [122, 10]]) := by decide
  have e2 : numsF ([[97, 10]], [[120, 10], [121, 10]], [[120, 10], [122, 10]]) = [[0], [1, 2], [1, 3]] := by decide
  have e3 : someL [0] [1, 2] = [] := by
    unfold someL
    rw [show [(0 : Int)].length = 0 + 1 from rfl, show [(1 : Int), 2].length = 1 + 1 from rfl, someG, if_neg (by decide), if_pos (by decide), some_0]
  have e4 : someL [0] [1, 3] = [] := by
    unfold someL
    rw [show [(0 : Int)].length = 0 + 1 from rfl, show [(1 : Int), 3].length = 1 + 1 from rfl, someG, if_neg (by decide), if_pos (by decide), some_0]
  unfold someC
  rw [e1, e2]
  simp only [List.getD_cons_zero, List.getD_cons_succ]
  rw [e3, e4]
  unfold cksF
  rw [both_nil]
  decide
theorem doc_told : docF (filesF [97, 10] [120, 10, 121, 10] [120, 10, 122, 10]) [(false, (0, 1), (0, 2), (0, 2))] 2 ([111], [], []) 0 = ([([], [], [], false, [120, 10], [], [], [], false), ([111], [], [], true, [], [121, 10], [97, 10], [122, 10], true)], 0) := by decide +kernel
theorem cnt_told : cntF (filesF [97, 10] [120, 10, 121, 10] [120, 10, 122, 10]) [(false, (0, 1), (0, 2), (0, 2))] = 1 := by decide +kernel
def sToldB : Spec := Spec.f0 (kB.enc true)
theorem okToldB : SpecOK Try.prog 9 sToldB := by
  refine SpecOK.f0 Try.func9 rfl (by decide) Try.results9 Try.ntmps9 ?_
  have hΓ : GOK Try.prog (gam [(10, sSomeB), (12, sToB), (13, sChunksB), (14, sDocB), (18, sCountB)]) := (.cons okSomeB (.cons okToB (.cons okChunksB (.cons okDocB (.cons okCountB .nil)))))
  have hf : okFl (filesF [97, 10] [120, 10, 121, 10] [120, 10, 122, 10]) := files_ok (by decide) (by decide) (by decide)
  have st := some_told
  have dt := doc_told
  have ct := cnt_told
  generalize hF : filesF [97, 10] [120, 10, 121, 10] [120, 10, 122, 10] = F at *
  refine AW.of hΓ mixed [1] _ _ _ rfl ?_
  simp only [go_sem, sSomeB, sToB, sChunksB, sDocB, sCountB, hF, st]
  obtain ⟨fb, fl, fr⟩ := F
  have hK : [((false, (0, 1), (0, 2), 0, 2) : Ck)].length ≤ 10000 := by decide
  generalize [((false, (0, 1), (0, 2), 0, 2) : Ck)] = K at *
  refine AW.cut ⟨[(1, .pt 0 0 0), (2, sL eCk K)], [(0, .box 0 30 3 (eFl.enc (fb, fl, fr)))], 75, 1, 1, []⟩ ?_ ?_
  · simp only [go_sem, sSomeB, sToB, sChunksB, sDocB, sCountB]
    exact box_st
  refine AW.still 1 0 0 30 3 _ rfl rfl (fun j hj => match j, hj with | 0, _ => rfl | 1, _ => rfl | 2, _ => rfl) ?_
  refine AW.of hΓ mixed [] _ _ _ rfl ?_
  simp only [go_sem, sSomeB, sToB, sChunksB, sDocB, sCountB, dt, ct]
  exact ⟨hf, by omega, ⟨⟨hf, hK⟩, by unfold okLb; decide⟩, hf, by omega, hf, hK⟩
def sBuildHoists : Spec := Spec.f2 (kL eS) (kL eS) (fun _ _ => True) (fun _ _ => kB.enc true)
theorem okBuildHoists : SpecOK Try.prog 5 sBuildHoists := by
  refine SpecOK.f2 Try.func5 rfl (by decide) Try.results5 Try.ntmps5 (by decide) fun a b _ => ?_
  have hΓ : GOK Try.prog (gam [(9, sToldB), (25, sHoistB), (26, sRefEndsS)]) := (.cons okToldB (.cons okHoistB (.cons okRefEndsS .nil)))
  refine AW.of hΓ mixed [1] _ _ _ rfl ?_
  simp only [go_sem, sToldB, sHoistB, sRefEndsS]
  refine ⟨⟨by omega, by omega⟩, ⟨by omega, by omega⟩, ?_⟩
  refine AW.cut ⟨[(0, sL eS (a.take 100)), (1, sL eS (b.take 100))], [], 42, 0, 0, []⟩ ?_ ?_
  · simp only [go_sem, sToldB, sHoistB, sRefEndsS]
    exact ⟨take_le eS a rfl rfl (by omega), take_le eS b rfl rfl (by omega)⟩
  have la : (a.take 100).length ≤ 100 := by simp; omega
  have lb : (b.take 100).length ≤ 100 := by simp; omega
  generalize a.take 100 = x at *
  generalize b.take 100 = y at *
  refine AW.of hΓ mixed [] _ _ _ rfl ?_
  simp only [go_sem, sToldB, sHoistB, sRefEndsS]
  exact ⟨by omega, by omega⟩
/-- What is known of three texts' lines, and their chunks. -/
structure Chunked (f : Fl) (K : List Ck) : Prop where
  ok : okFl f
  whole : wholeF f
  ch : chF (0, 0, 0) none K (endP f)
  good : ∀ c ∈ K, goodC f c
  len : K.length ≤ 2001
  small : f.1.flatten.length ≤ 1000 ∧ f.2.1.flatten.length ≤ 1000 ∧ f.2.2.flatten.length ≤ 1000
theorem some_chunked {a b c : BS} (ha : a.length ≤ 1000) (hb : b.length ≤ 1000) (hc : c.length ≤ 1000) : Chunked (filesF a b c) (someC (filesF a b c)) where
  ok := files_ok ha hb hc
  whole := files_whole a b c
  ch := cks_ch (someC_mtch _)
  good := cks_good (someC_mtch _)
  len := by
    have h1 := someC_len (filesF a b c)
    have h2 := splitL_len a
    have h3 : (filesF a b c).1.length = (splitL a).length := rfl
    omega
  small := by
    refine ⟨?_, ?_, ?_⟩
    · show (splitL a).flatten.length ≤ 1000; rw [splitL_flat]; exact ha
    · show (splitL b).flatten.length ≤ 1000; rw [splitL_flat]; exact hb
    · show (splitL c).flatten.length ≤ 1000; rw [splitL_flat]; exact hc
theorem ckPs_sumP {f : Fl} {m : Nat} (h : f.1.flatten.length ≤ m ∧ f.2.1.flatten.length ≤ m ∧ f.2.2.flatten.length ≤ m) (st : Int) (lb : BS × BS × BS) (v : Int) (c : Ck) : sumP (ckPs f st lb v c) ≤ 5 * m + (lb.1.length + lb.2.1.length + lb.2.2.length) := by
  have c1 : (cutB f c).flatten.length ≤ m := Nat.le_trans (sub_flat (cutS_sub _ _)) h.1
  have c2 : (cutO f c).flatten.length ≤ m := Nat.le_trans (sub_flat (cutS_sub _ _)) h.2.1
  have c3 : (cutT f c).flatten.length ≤ m := Nat.le_trans (sub_flat (cutS_sub _ _)) h.2.2
  unfold ckPs
  split
  · unfold confL
    have e1 : ∀ a b d : Pt, sumP [a, b, d] = lenP a + lenP b + lenP d := fun a b d => by
      rw [show [a, b, d] = [a] ++ ([b] ++ [d]) from rfl, sumP_app, sumP_app, sumP_one, sumP_one, sumP_one]
      omega
    rw [e1, len_textP, len_textP]
    have s1 := sub_flat (List.take_sublist (hoistF st (cutO f c) (cutT f c)).1 (cutO f c))
    have s2 := sub_flat (List.drop_sublist ((cutO f c).length - (hoistF st (cutO f c) (cutT f c)).2) (cutO f c))
    have s3 : (cutL (cutO f c) (hoistF st (cutO f c) (cutT f c)).1 ((cutO f c).length - (hoistF st (cutO f c) (cutT f c)).2)).flatten.length ≤ (cutO f c).flatten.length := sub_flat ((List.drop_sublist _ _).trans (List.take_sublist _ _))
    have s4 : (cutL (cutT f c) (hoistF st (cutO f c) (cutT f c)).1 ((cutT f c).length - (hoistF st (cutO f c) (cutT f c)).2)).flatten.length ≤ (cutT f c).flatten.length := sub_flat ((List.drop_sublist _ _).trans (List.take_sublist _ _))
    have s5 : (if st = 0 then [] else (cutB f c).flatten).length ≤ m := by
      split
      · exact Nat.zero_le _
      · exact c1
    have s6 : (if st = 0 then [] else lb.2.1).length ≤ lb.2.1.length := by
      split
      · exact Nat.zero_le _
      · exact Nat.le_refl _
    unfold lenP confP
    dsimp only
    simp only [List.length_nil]
    omega
  · rw [sumP_one, len_textP]
    unfold sideF
    split
    · omega
    · split
      · omega
      · split <;> omega
theorem flat_sumP {f : Fl} {m : Nat} (h : f.1.flatten.length ≤ m ∧ f.2.1.flatten.length ≤ m ∧ f.2.2.flatten.length ≤ m) (st : Int) (lb : BS × BS × BS) (v : Int) {k : Nat} (hk : 5 * m + (lb.1.length + lb.2.1.length + lb.2.2.length) ≤ k) : ∀ L : List Ck, sumP (L.flatMap (ckPs f st lb v)) ≤ k * L.length
  | [] => by simp [sumP]
  | c :: L => by
    have h1 := flat_sumP h st lb v hk L
    have h2 := ckPs_sumP h st lb v c
    rw [List.flatMap_cons, sumP_app, List.length_cons, Nat.mul_add]
    omega
/-- The Doc of such chunks is small enough, it may be, and has their conflicts. -/
theorem doc_small {f : Fl} {K : List Ck} (h : Chunked f K) {st v : Int} {lb : BS × BS × BS} (hl : lb.1.length + lb.2.1.length + lb.2.2.length ≤ 4000) : (docF f K st lb v).1.length ≤ 30000 ∧ (∀ p ∈ (docF f K st lb v).1, okPt p) ∧ sumP (docF f K st lb v).1 ≤ 20000000 ∧ ((docF f K st lb v).2 = 0 → rightD (docF f K st lb v).1 = true ∧ (v = 0 → conflD (docF f K st lb v).1 = cntF f K)) := by
  have no : ([] : List Pt).length ≤ 30000 ∧ (∀ p ∈ ([] : List Pt), okPt p) ∧ sumP [] ≤ 20000000 := ⟨by simp, fun p hp => by simp at hp, by simp [sumP]⟩
  unfold docF
  split
  · exact ⟨no.1, no.2.1, no.2.2, fun h => by simp at h⟩
  · split
    · exact ⟨no.1, no.2.1, no.2.2, fun h => by simp at h⟩
    · rename_i hp
      have h1 := flat_sumP h.small st lb v (k := 9000) (by omega) K
      have h2 := (flat_sum h.ok st lb v K).2
      have h3 := of_sumP (K.flatMap (ckPs f st lb v))
      have h4 := (ofD_sum (K.flatMap (ckPs f st lb v))).2
      have h5 := h.len
      have h6 : 9000 * K.length ≤ 9000 * 2001 := Nat.mul_le_mul_left _ h5
      refine ⟨by dsimp only; omega, sum_okPt (by dsimp only; omega), by dsimp only; omega, fun _ => ⟨doc_right h.whole h.ch h.good (by simpa using hp), fun hv => ?_⟩⟩
      subst hv
      rw [of_confl, doc_confl]
/-- With one side favoured. -/
def favD (f : Fl) (K : List Ck) (v : Int) : List Pt := if favT f K v = [] then [] else [textP (favT f K v)]
theorem favD_doc (f : Fl) (K : List Ck) {v : Int} (hv : v = 1 ∨ v = 3) : docF f K 0 ([], [], []) v = (favD f K v, 0) := by
  unfold docF
  rw [if_neg (by rcases hv with rfl | rfl <;> decide), if_neg (by decide), doc_fav f 0 ([], [], []) (by omega) K]
  rfl
theorem favD_confl (f : Fl) (K : List Ck) (v : Int) : conflD (favD f K v) = 0 := by
  unfold favD
  split <;> rfl
theorem favD_len (f : Fl) (K : List Ck) (v : Int) : (favD f K v).length ≤ 1 := by
  unfold favD
  split
  · exact Nat.zero_le _
  · exact Nat.le_refl _
def sBuildFavours : Spec := Spec.f2 (kA eLb) kB (fun _ _ => True) (fun _ _ => kB.enc true)
theorem okBuildFavours : SpecOK Try.prog 4 sBuildFavours := by
  refine SpecOK.f2 Try.func4 rfl (by decide) Try.results4 Try.ntmps4 (by decide) fun t l _ => ?_
  have hΓ : GOK Try.prog (gam [(11, sShort), (10, sSomeB), (12, sToB), (13, sChunksB), (14, sDocB), (9, sToldB), (22, sConflD), (23, sRefClassK), (24, sRefJoin)]) := (.cons okShort (.cons okSomeB (.cons okToB (.cons okChunksB (.cons okDocB (.cons okToldB (.cons okConflD (.cons okRefClassK (.cons okRefJoin .nil)))))))))
  obtain ⟨ta, tb, tc⟩ := t
  have la : (ta.take 200).length ≤ 200 := by simp; omega
  have lb : (tb.take 200).length ≤ 200 := by simp; omega
  have lc : (tc.take 200).length ≤ 200 := by simp; omega
  have hch := some_chunked (a := ta.take 200) (b := tb.take 200) (c := tc.take 200) (by omega) (by omega) (by omega)
  refine AW.of hΓ mixed [0, 200001] _ _ _ rfl ?_
  simp only [go_sem, sShort, sSomeB, sToB, sChunksB, sDocB, sToldB, sConflD, sRefClassK, sRefJoin]
  refine AW.still 2 0 0 22 3 _ rfl rfl (fun j hj => match j, hj with | 0, _ => rfl | 1, _ => rfl | 2, _ => rfl) ?_
  refine AW.fork ?_
  refine AW.drawZ hΓ mixed 14 [15] [12, 15] [] (by kernel_rfl) ?_
  simp only [go_sem, sShort, sSomeB, sToB, sChunksB, sDocB, sToldB, sConflD, sRefClassK, sRefJoin, keeps_sL]
  refine ⟨⟨by omega, by omega, by omega⟩, ?_⟩
  generalize filesF (ta.take 200) (tb.take 200) (tc.take 200) = F at *
  generalize someC F = K at *
  obtain ⟨fb, fl, fr⟩ := F
  refine AW.cut ⟨[(1, .val (.bool l)), (5, .pt 1 1 0), (6, sL eCk K)], [(1, .box 1 30 3 (eFl.enc (fb, fl, fr)))], 103, 2, 2, []⟩ ?_ ?_
  · simp only [go_sem, sShort, sSomeB, sToB, sChunksB, sDocB, sToldB, sConflD, sRefClassK, sRefJoin]
    exact box_st
  refine AW.still 5 1 1 30 3 _ rfl rfl (fun j hj => match j, hj with | 0, _ => rfl | 1, _ => rfl | 2, _ => rfl) ?_
  refine AW.of hΓ mixed [2] _ _ _ rfl ?_
  simp only [go_sem, sShort, sSomeB, sToB, sChunksB, sDocB, sToldB, sConflD, sRefClassK, sRefJoin]
  refine AW.seqTo (fun _ : Unit => Sh.st ⟨[(5, .ps 3 (eFl.enc (fb, fl, fr))), (6, sL eCk K), (7, .val (.int .i64 (if l = true then 1 else 3))), (8, sL eS (if l = true then fl else fr))], [], 103, 2, 2, []⟩) ?_ fun _ => ?_
  · cases l with
    | true =>
      refine AW.of hΓ mixed [99999] _ _ _ rfl ?_
      simp only [go_sem, sShort, sSomeB, sToB, sChunksB, sDocB, sToldB, sConflD, sRefClassK, sRefJoin]
      exact ⟨(), toFits (by
        simp only [go_sem])⟩
    | false =>
      refine AW.of hΓ mixed [99999] _ _ _ rfl ?_
      simp only [go_sem, sShort, sSomeB, sToB, sChunksB, sDocB, sToldB, sConflD, sRefClassK, sRefJoin]
      exact ⟨(), toFits (by
        simp only [go_sem])⟩
  obtain ⟨v, own, hv, hv1, hown⟩ : ∃ (v : Int) (own : List BS), (v = 1 ∨ v = 3) ∧ v = (if l = true then 1 else 3) ∧ own = (if v = 1 then fl else fr) ∧ own = (if l = true then fl else fr) := by
    cases l with
    | true => exact ⟨1, fl, .inl rfl, rfl, rfl, rfl⟩
    | false => exact ⟨3, fr, .inr rfl, rfl, rfl, rfl⟩
  rw [← hv1, ← hown.2]
  have hd := favD_doc (fb, fl, fr) K hv
  have hc0 := favD_confl (fb, fl, fr) K v
  have hl1 := favD_len (fb, fl, fr) K v
  have hfd : favD (fb, fl, fr) K v = if favT (fb, fl, fr) K v = [] then [] else [textP (favT (fb, fl, fr) K v)] := rfl
  have hfo : (∀ c ∈ K, clsF (fb, fl, fr) c = 0 ∨ clsF (fb, fl, fr) c = 4) → favT (fb, fl, fr) K v = own.flatten := fun h => by
    rw [fav_own hch.ch hch.good h hv, hown.1]
  have hok := hch.ok
  have hKl := hch.len
  have hown2 : okLs own := by
    obtain ⟨h1, h2, h3⟩ := hok
    rw [hown.1]
    split
    · exact okLs_sub (List.Sublist.refl _) h2.1 h2.2
    · exact okLs_sub (List.Sublist.refl _) h3.1 h3.2
  have hfl : fb.length ≤ 10000 ∧ fl.length ≤ 10000 ∧ fr.length ≤ 10000 := ⟨hok.1.1, hok.2.1.1, hok.2.2.1⟩
  generalize favD (fb, fl, fr) K v = D at *
  generalize favT (fb, fl, fr) K v = T at *
  refine AW.of hΓ mixed [5] _ _ _ rfl ?_
  simp only [go_sem, sShort, sSomeB, sToB, sChunksB, sDocB, sToldB, sConflD, sRefClassK, sRefJoin, hd]
  refine ⟨hok, by omega, ⟨⟨hok, by omega⟩, by unfold okLb; decide⟩, ?_⟩
  refine AW.cut ⟨[(5, .ps 3 (eFl.enc (fb, fl, fr))), (6, sL eCk K), (8, sL eS own), (9, sL ePt D), (10, .val (.int .i64 0))], [], 103, 2, 2, []⟩ ?_ ?_
  · simp only [go_sem, sShort, sSomeB, sToB, sChunksB, sDocB, sToldB, sConflD, sRefClassK, sRefJoin]
  have hl2 : (1 < (D.length : Int)) = False := eq_false (by omega)
  refine AW.of hΓ mixed [] _ _ _ rfl ?_
  simp only [go_sem, sShort, sSomeB, sToB, sChunksB, sDocB, sToldB, sConflD, sRefClassK, sRefJoin, hc0, hl2]
  refine ⟨by omega, ?_⟩
  refine AW.round (α := { x : Nat × Nat // x.1 ≤ K.length ∧ ∀ j, j < x.1 → clsF (fb, fl, fr) (K.getD j eCk.dflt) = 0 ∨ clsF (fb, fl, fr) (K.getD j eCk.dflt) = 4 })
    (fun x => ⟨[(5, .ps 3 (eFl.enc (fb, fl, fr))), (6, sL eCk K), (8, sL eS own), (9, sL ePt D), (11, .val (.int .i64 x.1.1))], [], 103, 2, x.1.2, []⟩) (fun x => K.length - x.1.1) ⟨(0, 2), Nat.zero_le _, fun j hj => absurd hj (Nat.not_lt_zero _)⟩ ?_ ?_
  · simp only [go_sem, sShort, sSomeB, sToB, sChunksB, sDocB, sToldB, sConflD, sRefClassK, sRefJoin]
  · rintro ⟨⟨i, nx⟩, hi, hcl⟩
    simp only at hi hcl
    rcases Nat.lt_or_ge i K.length with hlt' | hge
    · have hlI : ((i : Int) < (K.length : Nat)) = True := eq_true (by omega)
      have hcl2 : (clsF (fb, fl, fr) (K.getD i eCk.dflt) = 0 ∨ clsF (fb, fl, fr) (K.getD i eCk.dflt) = 4) → ∀ j, j < i + 1 → clsF (fb, fl, fr) (K.getD j eCk.dflt) = 0 ∨ clsF (fb, fl, fr) (K.getD j eCk.dflt) = 4 := fun h j hj => by
        rcases Nat.lt_or_ge j i with g | g
        · exact hcl j g
        · obtain rfl : j = i := by omega
          exact h
      generalize hce : K.getD i eCk.dflt = c at *
      obtain ⟨cs, ⟨cb1, cb2⟩, ⟨cl1, cl2⟩, cr1, cr2⟩ := c
      have hcc : classK (cs, (cb1, cb2), (cl1, cl2), cr1, cr2) fb fl fr = clsF (fb, fl, fr) (cs, (cb1, cb2), (cl1, cl2), cr1, cr2) := rfl
      generalize clsF (fb, fl, fr) (cs, (cb1, cb2), (cl1, cl2), cr1, cr2) = k at *
      refine AW.of hΓ mixed [99999] _ _ _ rfl ?_
      simp only [go_sem, sShort, sSomeB, sToB, sChunksB, sDocB, sToldB, sConflD, sRefClassK, sRefJoin, hlI, hce, hcc]
      exact ⟨by omega, ⟨by omega, by omega, by omega⟩, fun hk => ⟨⟨by omega, by omega⟩, ⟨(i + 1, nx), by dsimp only; omega, hcl2 (by omega)⟩, ⟨Nat.le_refl _, by dsimp only; omega⟩, by dsimp only; omega⟩⟩
    · obtain rfl : i = K.length := by omega
      have hT := hfo fun c hc => by
        obtain ⟨j, hj, rfl⟩ := List.getElem_of_mem hc
        rw [← gd_lt K eCk.dflt hj]
        exact hcl j hj
      by_cases h0 : T = []
      · rw [if_pos h0] at hfd
        subst hfd
        have h0' : own.flatten = [] := by rw [← hT, h0]
        refine AW.of hΓ mixed [99999] _ _ _ rfl ?_
        simp only [go_sem, sShort, sSomeB, sToB, sChunksB, sDocB, sToldB, sConflD, sRefClassK, sRefJoin, h0']
        exact hown2
      · rw [if_neg h0] at hfd
        subst hfd
        have h0' : ¬ own.flatten = [] := by rw [← hT]; exact h0
        refine AW.of hΓ mixed [99999] _ _ _ rfl ?_
        simp only [go_sem, sShort, sSomeB, sToB, sChunksB, sDocB, sToldB, sConflD, sRefClassK, sRefJoin, h0']
        exact ⟨hown2, hT⟩
def sBuildDocs : Spec := Spec.f3 (kA eLb) kI (kA ePt) (fun _ _ p => rchP 140737488351232 p) (fun _ _ _ => kB.enc true)
theorem okBuildDocs : SpecOK Try.prog 3 sBuildDocs := by
  refine SpecOK.f3 Try.func3 rfl (by decide) Try.results3 Try.ntmps3 (by decide) fun t st p hp => ?_
  have hΓ : GOK Try.prog (gam [(8, sFewD), (9, sToldB), (11, sShort), (10, sSomeB), (12, sToB), (13, sChunksB), (14, sDocB), (15, sRefDocB), (17, sFromD), (16, sSameD), (18, sCountB), (19, sRefCountB), (20, sSameS), (21, sRightD), (22, sConflD)]) := (.cons okFewD (.cons okToldB (.cons okShort (.cons okSomeB (.cons okToB (.cons okChunksB (.cons okDocB (.cons okRefDocB (.cons okFromD (.cons okSameD (.cons okCountB (.cons okRefCountB (.cons okSameS (.cons okRightD (.cons okConflD .nil)))))))))))))))
  obtain ⟨ta, tb, tc⟩ := t
  obtain ⟨lb1, lb2, lb3, ph, pt, pl, pb, pr, phb⟩ := p
  have la : (ta.take 200).length ≤ 200 := by simp; omega
  have lb : (tb.take 200).length ≤ 200 := by simp; omega
  have lc : (tc.take 200).length ≤ 200 := by simp; omega
  have hch := some_chunked (a := ta.take 200) (b := tb.take 200) (c := tc.take 200) (by omega) (by omega) (by omega)
  refine AW.of hΓ mixed [0, 200003] _ _ _ rfl ?_
  simp only [go_sem, sFewD, sToldB, sShort, sSomeB, sToB, sChunksB, sDocB, sRefDocB, sFromD, sSameD, sCountB, sRefCountB, sSameS, sRightD, sConflD]
  refine AW.still 3 0 0 22 3 _ rfl rfl (fun j hj => match j, hj with | 0, _ => rfl | 1, _ => rfl | 2, _ => rfl) ?_
  refine AW.still 5 1 1 24 9 _ rfl rfl (fun j hj => match j, hj with | 0, _ => rfl | 1, _ => rfl | 2, _ => rfl | 3, _ => rfl | 4, _ => rfl | 5, _ => rfl | 6, _ => rfl | 7, _ => rfl | 8, _ => rfl) ?_
  refine AW.of hΓ mixed [200003] _ _ _ rfl ?_
  simp only [go_sem, sFewD, sToldB, sShort, sSomeB, sToB, sChunksB, sDocB, sRefDocB, sFromD, sSameD, sCountB, sRefCountB, sSameS, sRightD, sConflD]
  refine ⟨hp, fun hfew => ?_⟩
  have hfew : fewD [(lb1, lb2, lb3, ph, pt, pl, pb, pr, phb)] = true := by simpa using hfew
  refine AW.drawZ hΓ mixed 14 [15] [12, 15] [] (by kernel_rfl) ?_
  simp only [go_sem, sFewD, sToldB, sShort, sSomeB, sToB, sChunksB, sDocB, sRefDocB, sFromD, sSameD, sCountB, sRefCountB, sSameS, sRightD, sConflD, keeps_sL]
  refine ⟨⟨by omega, by omega, by omega⟩, ?_⟩
  generalize filesF (ta.take 200) (tb.take 200) (tc.take 200) = F at *
  generalize someC F = K at *
  obtain ⟨fb, fl, fr⟩ := F
  refine AW.cut ⟨[(1, .val (.int .i64 st)), (5, .ps 9 (ePt.enc (lb1, lb2, lb3, ph, pt, pl, pb, pr, phb))), (7, .pt 2 2 0), (8, sL eCk K), (9, .val (.int .i64 0))], [(2, .box 2 30 3 (eFl.enc (fb, fl, fr)))], 125, 3, 3, []⟩ ?_ ?_
  · simp only [go_sem, sFewD, sToldB, sShort, sSomeB, sToB, sChunksB, sDocB, sRefDocB, sFromD, sSameD, sCountB, sRefCountB, sSameS, sRightD, sConflD]
    exact box_st
  refine AW.still 7 2 2 30 3 _ rfl rfl (fun j hj => match j, hj with | 0, _ => rfl | 1, _ => rfl | 2, _ => rfl) ?_
  refine AW.seqTo (fun _ : Unit => Sh.st ⟨[(1, .val (.int .i64 st)), (5, .ps 9 (ePt.enc (lb1, lb2, lb3, ph, pt, pl, pb, pr, phb))), (7, .ps 3 (eFl.enc (fb, fl, fr))), (8, sL eCk K), (9, .val (.int .i64 (if phb = true then 1 else 0)))], [], 125, 3, 3, []⟩) ?_ fun _ => ?_
  · cases phb with
    | true =>
      refine AW.of hΓ mixed [99999] _ _ _ rfl ?_
      simp only [go_sem, sFewD, sToldB, sShort, sSomeB, sToB, sChunksB, sDocB, sRefDocB, sFromD, sSameD, sCountB, sRefCountB, sSameS, sRightD, sConflD]
      exact ⟨(), toFits (by
        simp only [go_sem])⟩
    | false =>
      refine AW.of hΓ mixed [99999] _ _ _ rfl ?_
      simp only [go_sem, sFewD, sToldB, sShort, sSomeB, sToB, sChunksB, sDocB, sRefDocB, sFromD, sSameD, sCountB, sRefCountB, sSameS, sRightD, sConflD]
      exact ⟨(), toFits (by
        simp only [go_sem])⟩
  refine AW.seqTo (fun _ : Unit => Sh.st ⟨[(1, .val (.int .i64 st)), (5, .ps 9 (ePt.enc (lb1, lb2, lb3, ph, pt, pl, pb, pr, phb))), (7, .ps 3 (eFl.enc (fb, fl, fr))), (8, sL eCk K), (9, .val (.int .i64 ((if phb = true then 1 else 0) + (if ph = true then 2 else 0))))], [], 125, 3, 3, []⟩) ?_ fun _ => ?_
  · have hb2 : (if phb = true then (1 : Int) else 0) ≤ 1 ∧ 0 ≤ (if phb = true then (1 : Int) else 0) := by cases phb <;> decide
    cases ph with
    | true =>
      refine AW.of hΓ mixed [99999] _ _ _ rfl ?_
      simp only [go_sem, sFewD, sToldB, sShort, sSomeB, sToB, sChunksB, sDocB, sRefDocB, sFromD, sSameD, sCountB, sRefCountB, sSameS, sRightD, sConflD]
      exact ⟨⟨by omega, by omega⟩, (), toFits (by
        simp only [go_sem])⟩
    | false =>
      refine AW.of hΓ mixed [99999] _ _ _ rfl ?_
      simp only [go_sem, sFewD, sToldB, sShort, sSomeB, sToB, sChunksB, sDocB, sRefDocB, sFromD, sSameD, sCountB, sRefCountB, sSameS, sRightD, sConflD]
      exact ⟨(), toFits (by
        simp only [go_sem]
        omega)⟩
  have hv : (if phb = true then (1 : Int) else 0) + (if ph = true then 2 else 0) ≤ 3 := by cases phb <;> cases ph <;> decide
  generalize (if phb = true then (1 : Int) else 0) + (if ph = true then 2 else 0) = v at *
  have hok := hch.ok
  have hKl := hch.len
  refine AW.of hΓ mixed [9] _ _ _ rfl ?_
  simp only [go_sem, sFewD, sToldB, sShort, sSomeB, sToB, sChunksB, sDocB, sRefDocB, sFromD, sSameD, sCountB, sRefCountB, sSameS, sRightD, sConflD]
  refine ⟨hok, by omega, ?_⟩
  refine AW.cut ⟨[(1, .val (.int .i64 st)), (5, .ps 9 (ePt.enc (lb1, lb2, lb3, ph, pt, pl, pb, pr, phb))), (7, .ps 3 (eFl.enc (fb, fl, fr))), (8, sL eCk K), (9, .val (.int .i64 v)), (10, .pt 3 3 0), (11, sL eCk K)], [(3, .box 3 35 3 (eFl.enc (fb, fl, fr)))], 125, 4, 4, []⟩ ?_ ?_
  · simp only [go_sem, sFewD, sToldB, sShort, sSomeB, sToB, sChunksB, sDocB, sRefDocB, sFromD, sSameD, sCountB, sRefCountB, sSameS, sRightD, sConflD]
    exact box_st
  refine AW.still 10 3 3 35 3 _ rfl rfl (fun j hj => match j, hj with | 0, _ => rfl | 1, _ => rfl | 2, _ => rfl) ?_
  obtain ⟨D, e, hd⟩ : ∃ D e, docF (fb, fl, fr) K st (lb1, lb2, lb3) v = (D, e) := ⟨_, _, rfl⟩
  have hlb : okLb (lb1, lb2, lb3) ∧ List.length lb1 + List.length lb2 + List.length lb3 ≤ 4000 := by
    have := (few_le hfew).2.1
    rw [sumP_one] at this
    unfold lenP at this
    dsimp only at this
    unfold okLb
    dsimp only
    omega
  have hdl := doc_small hch (st := st) (v := v) (lb := (lb1, lb2, lb3)) hlb.2
  rw [hd] at hdl
  obtain ⟨hd1, hd2, _, hdr⟩ := hdl
  dsimp only at hd1 hd2 hdr
  have hcn := cnt_le (fb, fl, fr) K
  generalize hcnt : cntF (fb, fl, fr) K = n at *
  refine AW.of hΓ mixed [11] _ _ _ rfl ?_
  simp only [go_sem, sFewD, sToldB, sShort, sSomeB, sToB, sChunksB, sDocB, sRefDocB, sFromD, sSameD, sCountB, sRefCountB, sSameS, sRightD, sConflD, hd, lbP]
  refine ⟨⟨⟨hok, by omega⟩, hlb.1⟩, ⟨⟨hok, by omega⟩, hlb.1⟩, ?_⟩
  have hfl : fb.length ≤ 10000 ∧ fl.length ≤ 10000 ∧ fr.length ≤ 10000 := ⟨hok.1.1, hok.2.1.1, hok.2.2.1⟩
  refine AW.cut ⟨[(7, .ps 3 (eFl.enc (fb, fl, fr))), (8, sL eCk K), (9, .val (.int .i64 v)), (10, .ps 3 (eFl.enc (fb, fl, fr))), (11, sL eCk K), (12, sL ePt D), (13, .val (.int .i64 e)), (14, sL ePt D), (15, .val (.int .i64 e))], [], 125, 4, 4, []⟩ ?_ ?_
  · simp only [go_sem, sFewD, sToldB, sShort, sSomeB, sToB, sChunksB, sDocB, sRefDocB, sFromD, sSameD, sCountB, sRefCountB, sSameS, sRightD, sConflD]
  refine AW.of hΓ mixed [99999] _ _ _ rfl ?_
  simp only [go_sem, sFewD, sToldB, sShort, sSomeB, sToB, sChunksB, sDocB, sRefDocB, sFromD, sSameD, sCountB, sRefCountB, sSameS, sRightD, sConflD, hcnt]
  refine ⟨by omega, by omega, ⟨hok, by omega⟩, ⟨hok, by omega⟩, by omega, by omega, fun _ => ⟨by omega, hd2⟩, fun _ => by omega, fun _ => ⟨hok, by omega⟩, fun h1 h2 => ?_, fun h1 h2 => ?_, fun h => ?_, ?_⟩
  · rw [h1.1, h1.2, decide_eq_false h2]
    rfl
  · rw [h1, h2]
    rfl
  · rw [decide_eq_false h]
    rfl
  · by_cases he : e = 0
    · obtain ⟨r1, r2⟩ := hdr he
      rw [r1]
      by_cases hv0 : v = 0
      · rw [r2 hv0, decide_eq_true (rfl : (n : Int) = (n : Int)), Bool.or_true, Bool.true_and, Bool.or_true]
      · rw [decide_eq_true hv0, Bool.true_or, Bool.true_and, Bool.or_true]
    · rw [decide_eq_true he, Bool.true_or]
end Go.Proofs.Ytnhfobhdbablaaa
