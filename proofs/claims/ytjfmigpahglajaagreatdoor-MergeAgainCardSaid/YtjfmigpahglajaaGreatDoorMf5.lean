/-
  Part 5 of what the proof rests on: values that are told, code that is walked, what comes out.
-/
import Derived.Test.YtjfmigpahglajaaGreatDoorMf4
set_option linter.unusedSimpArgs false
set_option linter.unusedVariables false
set_option maxRecDepth 100000
set_option maxHeartbeats 2000000
namespace Go.Proofs.YtjfmigpahglajaaGreatDoor
open Go
attribute [local irreducible] AW AVle ASle RowLe
theorem textP_sum (t : BS) : sumT [textP t] = t.length := by rw [sumT_one]; rfl
theorem cut_len (s : Sp) {l : List BS} (h : l.flatten.length ≤ 10000000) : (cutS s l).flatten.length ≤ 10000000 := Nat.le_trans (sub_flat (cutS_sub s l)) h
theorem ckPs_len (f : Fl) (st : Int) (lb : BS × BS × BS) (v : Int) (c : Ck) : (ckPs f st lb v c).length ≤ 3 := by
  unfold ckPs
  split
  · exact Nat.le_refl 3
  · exact Nat.le_of_ble_eq_true rfl
theorem ckPs_sum {f : Fl} (hf : okFl f) (st : Int) (lb : BS × BS × BS) (v : Int) (c : Ck) : sumT (ckPs f st lb v c) ≤ 20000000 := by
  obtain ⟨h1, h2, h3⟩ := hf
  have c1 : (cutB f c).flatten.length ≤ 10000000 := cut_len _ h1.2
  have c2 : (cutO f c).flatten.length ≤ 10000000 := cut_len _ h2.2
  have c3 : (cutT f c).flatten.length ≤ 10000000 := cut_len _ h3.2
  unfold ckPs
  split
  · unfold confL
    have e1 : ∀ a b d : Pt, sumT [a, b, d] = (txP a).length + (txP b).length + (txP d).length := fun a b d => by
      rw [show [a, b, d] = [a] ++ ([b] ++ [d]) from rfl, sumT_app, sumT_app, sumT_one, sumT_one, sumT_one]
      omega
    rw [e1]
    have s1 := sub_flat (List.take_sublist (hoistF st (cutO f c) (cutT f c)).1 (cutO f c))
    have s2 := sub_flat (List.drop_sublist ((cutO f c).length - (hoistF st (cutO f c) (cutT f c)).2) (cutO f c))
    have z : (txP (confP f c st lb)).length = 0 := rfl
    have z1 : ∀ t : BS, (txP (textP t)).length = t.length := fun _ => rfl
    rw [z, z1, z1]
    omega
  · rw [textP_sum]
    unfold sideF
    split
    · omega
    · split
      · omega
      · split <;> omega
theorem flat_sum {f : Fl} (hf : okFl f) (st : Int) (lb : BS × BS × BS) (v : Int) : ∀ L : List Ck, sumT (L.flatMap (ckPs f st lb v)) ≤ 20000000 * L.length ∧ (L.flatMap (ckPs f st lb v)).length ≤ 3 * L.length
  | [] => by simp [sumT]
  | c :: L => by
    obtain ⟨h1, h2⟩ := flat_sum hf st lb v L
    have h3 := ckPs_sum hf st lb v c
    have h4 := ckPs_len f st lb v c
    rw [List.flatMap_cons, sumT_app, List.length_append, List.length_cons]
    omega
def okLb (lb : BS × BS × BS) : Prop := lb.1.length ≤ 100000000 ∧ lb.2.1.length ≤ 100000000 ∧ lb.2.2.length ≤ 100000000
def sDocB : Spec := Spec.f5 (kA eFl) (kL eCk) kI (kA eLb) kI (fun f L st lb v => (okFl f ∧ L.length ≤ 10000 ∧ sumT (L.flatMap (ckPs f st lb v)) ≤ 1000000000) ∧ okLb lb) (fun f L st lb v => tu2 (sL ePt (docF f L st lb v).1) (kI.enc (docF f L st lb v).2))
theorem okDocB : SpecOK Tryz.prog 54 sDocB := by
  refine SpecOK.f5 Tryz.func54 rfl (by decide) Tryz.results54 Tryz.ntmps54 (by decide) fun f L st lb v ⟨⟨hf, hL, hsum⟩, hlb1, hlb2, hlb3⟩ => ?_
  have hΓ : GOK Tryz.prog (gam [(104, sIsSty), (105, sIsFav), (95, sPlainL), (44, sClassK), (106, sConflB), (108, sSideB), (107, sTextB), (67, sOfD)]) := (.cons okIsSty (.cons okIsFav (.cons okPlainL (.cons okClassK (.cons okConflB (.cons okSideB (.cons okTextB (.cons okOfD .nil))))))))
  have hff := hf
  obtain ⟨fb, fl, fr⟩ := f
  obtain ⟨lb1, lb2, lb3⟩ := lb
  obtain ⟨hf1, hf2, hf3⟩ := hff
  dsimp only at hf1 hf2 hf3 hlb1 hlb2 hlb3
  have fs := fun j => flat_sum hf st (lb1, lb2, lb3) v (L.take j)
  have d5 : (styOK st && favOK v) = false → docF (fb, fl, fr) L st (lb1, lb2, lb3) v = ([], 5) := fun h => by unfold docF; rw [if_pos h]
  have d3 : (styOK st && favOK v) = true → plainLb (lb1, lb2, lb3) = false → docF (fb, fl, fr) L st (lb1, lb2, lb3) v = ([], 3) := fun h h2 => by unfold docF; rw [if_neg (by rw [h]; simp), if_pos h2]
  have d0 : (styOK st && favOK v) = true → plainLb (lb1, lb2, lb3) = true → docF (fb, fl, fr) L st (lb1, lb2, lb3) v = (ofD (L.flatMap (ckPs (fb, fl, fr) st (lb1, lb2, lb3) v)), 0) := fun h h2 => by unfold docF; rw [if_neg (by rw [h]; simp), if_neg (by rw [h2]; simp)]
  refine AW.of hΓ mixed [0] _ _ _ rfl ?_
  simp only [go_sem]
  refine AW.still 5 0 0 95 3 _ rfl rfl (fun j hj => match j, hj with | 0, _ => rfl | 1, _ => rfl | 2, _ => rfl) ?_
  refine AW.still 8 1 1 38 3 _ rfl rfl (fun j hj => match j, hj with | 0, _ => rfl | 1, _ => rfl | 2, _ => rfl) ?_
  cases h1 : styOK st with
  | false =>
    rw [d5 (by rw [h1]; rfl)]
    refine AW.of hΓ mixed [] _ _ _ rfl ?_
    simp only [go_sem, sIsSty, sIsFav, sPlainL, sClassK, sConflB, sSideB, sTextB, sOfD, h1]
    exact em_sL _
  | true =>
    cases h2 : favOK v with
    | false =>
      rw [d5 (by rw [h1, h2]; rfl)]
      refine AW.of hΓ mixed [] _ _ _ rfl ?_
      simp only [go_sem, sIsSty, sIsFav, sPlainL, sClassK, sConflB, sSideB, sTextB, sOfD, h1, h2]
      exact em_sL _
    | true =>
      cases hp : plainLb (lb1, lb2, lb3) with
      | false =>
        rw [d3 (by rw [h1, h2]; rfl) hp]
        unfold plainLb at hp
        dsimp only at hp
        refine AW.of hΓ mixed [] _ _ _ rfl ?_
        simp only [go_sem, sIsSty, sIsFav, sPlainL, sClassK, sConflB, sSideB, sTextB, sOfD, h1, h2, hp]
        exact ⟨⟨by omega, by omega, by omega⟩, em_sL _⟩
      | true =>
        rw [d0 (by rw [h1, h2]; rfl) hp]
        unfold plainLb at hp
        dsimp only at hp
        refine AW.of hΓ mixed [5] _ _ _ rfl ?_
        simp only [go_sem, sIsSty, sIsFav, sPlainL, sClassK, sConflB, sSideB, sTextB, sOfD, h1, h2, hp]
        refine ⟨⟨by omega, by omega, by omega⟩, ?_⟩
        refine AW.adopt 12 112 9 (fun i => ePt.enc (([] : List Pt).getD i ePt.dflt)) rfl ?_
        refine AW.seqTo (fun x : Nat × Nat => Sh.st ⟨[(12, .ow 2 x.1 (L.flatMap (ckPs (fb, fl, fr) st (lb1, lb2, lb3) v)).length)], [(2, rowL x.1 112 ePt (L.flatMap (ckPs (fb, fl, fr) st (lb1, lb2, lb3) v)))], 66, 3, x.2, []⟩) ?_ fun ⟨u, nx⟩ => ?_
        rotate_left
        · have fL := flat_sum hf st (lb1, lb2, lb3) v L
          generalize L.flatMap (ckPs (fb, fl, fr) st (lb1, lb2, lb3) v) = S at *
          refine AW.freeze 2 u 112 9 S.length (fun i => ePt.enc (S.getD i ePt.dflt)) rfl (fun _ _ j hj => match j, hj with | 0, _ => rfl | 1, _ => rfl | 2, _ => rfl | 3, _ => rfl | 4, _ => rfl | 5, _ => rfl | 6, _ => rfl | 7, _ => rfl | 8, _ => rfl) ?_
          refine AW.cut ⟨[(12, sL ePt S)], [], 66, 3, nx, []⟩ ?_ ?_
          · simp only [go_sem, sIsSty, sIsFav, sPlainL, sClassK, sConflB, sSideB, sTextB, sOfD]
            exact vw_all (E := ePt) rfl rfl rfl
          refine AW.of hΓ mixed [] _ _ _ rfl ?_
          simp only [go_sem, sIsSty, sIsFav, sPlainL, sClassK, sConflB, sSideB, sTextB, sOfD]
          exact ⟨by omega, by omega⟩
        refine AW.of hΓ mixed [] _ _ _ rfl ?_
        simp only [go_sem, sIsSty, sIsFav, sPlainL, sClassK, sConflB, sSideB, sTextB, sOfD]
        refine AW.round (α := { x : Nat × List Pt × Nat × Nat // x.1 ≤ L.length ∧ x.2.1 = (L.take x.1).flatMap (ckPs (fb, fl, fr) st (lb1, lb2, lb3) v) })
          (fun x => ⟨[(2, .val (.int .i64 st)), (4, .val (.int .i64 v)), (5, .ps 3 (eFl.enc (fb, fl, fr))), (8, .ps 3 (eLb.enc (lb1, lb2, lb3))), (12, .ow 2 x.1.2.2.1 x.1.2.1.length), (27, sL eCk L), (28, .val (.int .i64 L.length)), (29, .val (.int .i64 x.1.1))],
            [(2, rowL x.1.2.2.1 112 ePt x.1.2.1)], 66, 3, x.1.2.2.2, []⟩) (fun x => L.length - x.1.1) ⟨(0, [], 2, 3), Nat.zero_le _, rfl⟩ ?_ ?_
        · simp only [go_sem, sIsSty, sIsFav, sPlainL, sClassK, sConflB, sSideB, sTextB, sOfD]
          exact RowLe.refl _
        · rintro ⟨⟨i, S, u, nx⟩, hi, hS⟩
          simp only at hi hS
          have fi := fs i
          rw [← hS, List.length_take] at fi
          refine AW.of hΓ mixed [8, 99999] _ _ _ rfl ?_
          simp only [go_sem, sIsSty, sIsFav, sPlainL, sClassK, sConflB, sSideB, sTextB, sOfD]
          refine ⟨fun hlt => ⟨by omega, ?_⟩, fun hge => ?_⟩
          · have hlt' : i < L.length := by omega
            have hsn : (L.take (i + 1)).flatMap (ckPs (fb, fl, fr) st (lb1, lb2, lb3) v) = S ++ ckPs (fb, fl, fr) st (lb1, lb2, lb3) v (L.getD i eCk.dflt) := by
              rw [take_snoc L eCk.dflt hlt', List.flatMap_append, ← hS]
              simp
            generalize L.getD i eCk.dflt = c at *
            obtain ⟨cs, ⟨cb1, cb2⟩, ⟨cl1, cl2⟩, cr1, cr2⟩ := c
            have hcl := ckPs_len (fb, fl, fr) st (lb1, lb2, lb3) v (cs, (cb1, cb2), (cl1, cl2), cr1, cr2)
            have hcs : ckPs (fb, fl, fr) st (lb1, lb2, lb3) v (cs, (cb1, cb2), (cl1, cl2), cr1, cr2) = if clsF (fb, fl, fr) (cs, (cb1, cb2), (cl1, cl2), cr1, cr2) = 4 ∧ v = 0 then confL (fb, fl, fr) (cs, (cb1, cb2), (cl1, cl2), cr1, cr2) st (lb1, lb2, lb3) else [textP (sideF (fb, fl, fr) (cs, (cb1, cb2), (cl1, cl2), cr1, cr2) (clsF (fb, fl, fr) (cs, (cb1, cb2), (cl1, cl2), cr1, cr2)) v).flatten] := rfl
            have hsd : okLs (sideF (fb, fl, fr) (cs, (cb1, cb2), (cl1, cl2), cr1, cr2) (clsF (fb, fl, fr) (cs, (cb1, cb2), (cl1, cl2), cr1, cr2)) v) := by
              unfold sideF
              split
              · exact okLs_sub (cutS_sub _ _) hf1.1 hf1.2
              · split
                · exact okLs_sub (cutS_sub _ _) hf3.1 hf3.2
                · split
                  · exact okLs_sub (cutS_sub _ _) hf3.1 hf3.2
                  · exact okLs_sub (cutS_sub _ _) hf2.1 hf2.2
            have hcc : classK (cs, (cb1, cb2), (cl1, cl2), cr1, cr2) fb fl fr = clsF (fb, fl, fr) (cs, (cb1, cb2), (cl1, cl2), cr1, cr2) := rfl
            generalize clsF (fb, fl, fr) (cs, (cb1, cb2), (cl1, cl2), cr1, cr2) = k at *
            refine AW.cut ⟨[(2, .val (.int .i64 st)), (4, .val (.int .i64 v)), (5, .ps 3 (eFl.enc (fb, fl, fr))), (8, .ps 3 (eLb.enc (lb1, lb2, lb3))), (12, .ow 2 u S.length), (14, .pt 3 nx 0), (27, sL eCk L), (28, .val (.int .i64 L.length)), (29, .val (.int .i64 i))],
              [(2, rowL u 112 ePt S), (3, .box nx 63 7 (eCk.enc (cs, (cb1, cb2), (cl1, cl2), cr1, cr2)))], 66, 4, nx + 1, []⟩ ?_ ?_
            · simp only [go_sem, sIsSty, sIsFav, sPlainL, sClassK, sConflB, sSideB, sTextB, sOfD]
              exact ⟨RowLe.refl _, box_st⟩
            refine AW.still 14 3 nx 63 7 _ rfl rfl (fun j hj => match j, hj with | 0, _ => rfl | 1, _ => rfl | 2, _ => rfl | 3, _ => rfl | 4, _ => rfl | 5, _ => rfl | 6, _ => rfl) ?_
            refine AW.of hΓ mixed [99999] _ _ _ rfl ?_
            simp only [go_sem, sIsSty, sIsFav, sPlainL, sClassK, sConflB, sSideB, sTextB, sOfD, hcc]
            refine ⟨⟨by omega, by omega, by omega⟩, fun hk => ?_, fun hk => ?_⟩
            · rw [if_pos hk] at hcs
              rw [hcs] at hsn hcl
              refine ⟨hf, by omega, ⟨by omega, by omega⟩, ⟨(i + 1, S ++ confL (fb, fl, fr) (cs, (cb1, cb2), (cl1, cl2), cr1, cr2) st (lb1, lb2, lb3), nx + 1, nx + 2), by dsimp only; omega, hsn.symm⟩, ⟨Nat.le_refl _, ⟨⟨rfl, by dsimp only; rw [List.length_append]⟩, by dsimp only; omega⟩, ?_⟩, by dsimp only; omega⟩
              exact row_app (E := ePt) rfl rfl rfl rfl (by simp) fun i _ j _ => AVle.refl _
            · rw [if_neg (fun e => hk e.1 e.2)] at hcs
              rw [hcs] at hsn hcl
              refine ⟨hf, hsd, by omega, ⟨by omega, by omega⟩, ⟨(i + 1, S ++ [textP (sideF (fb, fl, fr) (cs, (cb1, cb2), (cl1, cl2), cr1, cr2) k v).flatten], nx + 1, nx + 2), by dsimp only; omega, hsn.symm⟩, ⟨Nat.le_refl _, ⟨⟨rfl, by simp⟩, by dsimp only; omega⟩, ?_⟩, by dsimp only; omega⟩
              exact row_app1 (E := ePt) rfl rfl rfl rfl (by simp) fun j _ => AVle.refl _
          · obtain rfl : i = L.length := by omega
            rw [List.take_length] at hS
            refine ⟨(u, nx), toFits ?_⟩
            rw [← hS]
            simp only [go_sem, sIsSty, sIsFav, sPlainL, sClassK, sConflB, sSideB, sTextB, sOfD]
            exact RowLe.refl _
theorem cnt_le (f : Fl) (L : List Ck) : cntF f L ≤ L.length := List.length_filter_le _ _
def sCountB : Spec := Spec.f2 (kA eFl) (kL eCk) (fun f L => okFl f ∧ L.length ≤ 10000) (fun f L => kI.enc (cntF f L))
theorem okCountB : SpecOK Tryz.prog 55 sCountB := by
  refine SpecOK.f2 Tryz.func55 rfl (by decide) Tryz.results55 Tryz.ntmps55 (by decide) fun f L ⟨hf, hL⟩ => ?_
  have hΓ : GOK Tryz.prog (gam [(44, sClassK)]) := (.cons okClassK .nil)
  have hff := hf
  obtain ⟨fb, fl, fr⟩ := f
  obtain ⟨hf1, hf2, hf3⟩ := hff
  dsimp only at hf1 hf2 hf3
  refine AW.of hΓ mixed [0] _ _ _ rfl ?_
  simp only [go_sem, sClassK]
  refine AW.still 2 0 0 95 3 _ rfl rfl (fun j hj => match j, hj with | 0, _ => rfl | 1, _ => rfl | 2, _ => rfl) ?_
  refine AW.of hΓ mixed [] _ _ _ rfl ?_
  simp only [go_sem, sClassK]
  refine AW.round (α := { x : Nat × Nat // x.1 ≤ L.length })
    (fun x => ⟨[(2, .ps 3 (eFl.enc (fb, fl, fr))), (5, .val (.int .i64 (cntF (fb, fl, fr) (L.take x.1.1)))), (8, sL eCk L), (9, .val (.int .i64 L.length)), (10, .val (.int .i64 x.1.1))], [], 27, 1, x.1.2, []⟩) (fun x => L.length - x.1.1) ⟨(0, 1), Nat.zero_le _⟩ ?_ ?_
  · simp only [go_sem, sClassK]
    rfl
  · rintro ⟨⟨i, nx⟩, hi⟩
    simp only at hi
    have hcn := cnt_le (fb, fl, fr) (L.take i)
    rw [List.length_take] at hcn
    refine AW.of hΓ mixed [4, 99999] _ _ _ rfl ?_
    simp only [go_sem, sClassK]
    refine ⟨fun hlt => ⟨by omega, ?_⟩, fun hge => ?_⟩
    · have hlt' : i < L.length := by omega
      have hsn := cnt_snoc (fb, fl, fr) (L.getD i eCk.dflt) (L.take i)
      rw [← take_snoc L eCk.dflt hlt'] at hsn
      generalize L.getD i eCk.dflt = c at *
      obtain ⟨cs, ⟨cb1, cb2⟩, ⟨cl1, cl2⟩, cr1, cr2⟩ := c
      have hcc : classK (cs, (cb1, cb2), (cl1, cl2), cr1, cr2) fb fl fr = clsF (fb, fl, fr) (cs, (cb1, cb2), (cl1, cl2), cr1, cr2) := rfl
      generalize clsF (fb, fl, fr) (cs, (cb1, cb2), (cl1, cl2), cr1, cr2) = k at *
      refine AW.cut ⟨[(2, .ps 3 (eFl.enc (fb, fl, fr))), (5, .val (.int .i64 (cntF (fb, fl, fr) (L.take i)))), (7, .pt 1 nx 0), (8, sL eCk L), (9, .val (.int .i64 L.length)), (10, .val (.int .i64 i))],
        [(1, .box nx 63 7 (eCk.enc (cs, (cb1, cb2), (cl1, cl2), cr1, cr2)))], 27, 2, nx + 1, []⟩ ?_ ?_
      · simp only [go_sem, sClassK]
        exact box_st
      refine AW.still 7 1 nx 63 7 _ rfl rfl (fun j hj => match j, hj with | 0, _ => rfl | 1, _ => rfl | 2, _ => rfl | 3, _ => rfl | 4, _ => rfl | 5, _ => rfl | 6, _ => rfl) ?_
      refine AW.of hΓ mixed [99999] _ _ _ rfl ?_
      simp only [go_sem, sClassK, hcc]
      refine ⟨⟨by omega, by omega, by omega⟩, fun hk => ⟨⟨by omega, by omega⟩, ⟨by omega, by omega⟩, ⟨(i + 1, nx + 1), by dsimp only; omega⟩, ⟨Nat.le_refl _, ?_, by dsimp only; omega⟩, by dsimp only; omega⟩, fun hk => ⟨⟨by omega, by omega⟩, ⟨(i + 1, nx + 1), by dsimp only; omega⟩, ⟨Nat.le_refl _, ?_, by dsimp only; omega⟩, by dsimp only; omega⟩⟩
      · dsimp only
        rw [hsn, if_pos hk]
        omega
      · dsimp only
        rw [hsn, if_neg hk]
        omega
    · obtain rfl : i = L.length := by omega
      rw [List.take_length]
end Go.Proofs.YtjfmigpahglajaaGreatDoor
set_option linter.unusedSimpArgs false
set_option linter.unusedVariables false
set_option maxRecDepth 100000
set_option maxHeartbeats 4000000
namespace Go.Proofs.YtjfmigpahglajaaGreatDoor
open Go
attribute [local irreducible] AW AVle ASle RowLe
def sRefTextB : Spec := Spec.f1 (kL eS) okLs (fun l => (kA ePt).enc (textP l.flatten))
theorem okRefTextB : SpecOK Tryz.prog 76 sRefTextB := by
  refine SpecOK.f1 Tryz.func76 rfl (by decide) Tryz.results76 Tryz.ntmps76 (by decide) fun l hl => ?_
  have hΓ : GOK Tryz.prog (gam [(78, sRefJoin)]) := (.cons okRefJoin .nil)
  refine AW.of hΓ mixed [] _ _ _ rfl ?_
  simp only [go_sem, sRefJoin]
  exact ⟨hl, pt_le rfl rfl rfl rfl rfl rfl rfl rfl rfl⟩
def sRefCountB : Spec := Spec.f2 (kA eFl) (kL eCk) (fun f L => okFl f ∧ L.length ≤ 10000) (fun f L => kI.enc (cntF f L))
theorem okRefCountB : SpecOK Tryz.prog 39 sRefCountB := by
  refine SpecOK.f2 Tryz.func39 rfl (by decide) Tryz.results39 Tryz.ntmps39 (by decide) fun f L ⟨hf, hL⟩ => ?_
  have hΓ : GOK Tryz.prog (gam [(75, sRefClassK)]) := (.cons okRefClassK .nil)
  have hff := hf
  obtain ⟨fb, fl, fr⟩ := f
  obtain ⟨hf1, hf2, hf3⟩ := hff
  dsimp only at hf1 hf2 hf3
  refine AW.of hΓ mixed [0] _ _ _ rfl ?_
  simp only [go_sem, sRefClassK]
  refine AW.still 2 0 0 79 3 _ rfl rfl (fun j hj => match j, hj with | 0, _ => rfl | 1, _ => rfl | 2, _ => rfl) ?_
  refine AW.of hΓ mixed [] _ _ _ rfl ?_
  simp only [go_sem, sRefClassK]
  refine AW.round (α := { x : Nat × Nat // x.1 ≤ L.length })
    (fun x => ⟨[(1, sL eCk L), (2, .ps 3 (eFl.enc (fb, fl, fr))), (5, .val (.int .i64 (cntF (fb, fl, fr) (L.take x.1.1)))), (6, .val (.int .i64 x.1.1))], [], 28, 1, x.1.2, []⟩) (fun x => L.length - x.1.1) ⟨(0, 1), Nat.zero_le _⟩ ?_ ?_
  · simp only [go_sem, sRefClassK]
    rfl
  · rintro ⟨⟨i, nx⟩, hi⟩
    simp only at hi
    have hcn := cnt_le (fb, fl, fr) (L.take i)
    rw [List.length_take] at hcn
    rcases Nat.lt_or_ge i L.length with hlt' | hge
    · have hlI : ((i : Int) < (L.length : Nat)) = True := eq_true (by omega)
      have hsn := cnt_snoc (fb, fl, fr) (L.getD i eCk.dflt) (L.take i)
      rw [← take_snoc L eCk.dflt hlt'] at hsn
      generalize hce : L.getD i eCk.dflt = c at *
      obtain ⟨cs, ⟨cb1, cb2⟩, ⟨cl1, cl2⟩, cr1, cr2⟩ := c
      have hcc : classK (cs, (cb1, cb2), (cl1, cl2), cr1, cr2) fb fl fr = clsF (fb, fl, fr) (cs, (cb1, cb2), (cl1, cl2), cr1, cr2) := rfl
      generalize clsF (fb, fl, fr) (cs, (cb1, cb2), (cl1, cl2), cr1, cr2) = k at *
      refine AW.of hΓ mixed [99999] _ _ _ rfl ?_
      simp only [go_sem, sRefClassK, hce, hcc, hlI]
      refine ⟨by omega, ⟨by omega, by omega, by omega⟩, fun hk => ⟨⟨by omega, by omega⟩, ⟨by omega, by omega⟩, ⟨(i + 1, nx), by dsimp only; omega⟩, ⟨Nat.le_refl _, ?_, by dsimp only; omega⟩, by dsimp only; omega⟩, fun hk => ⟨⟨by omega, by omega⟩, ⟨(i + 1, nx), by dsimp only; omega⟩, ⟨Nat.le_refl _, ?_, by dsimp only; omega⟩, by dsimp only; omega⟩⟩
      · dsimp only
        rw [hsn, if_pos hk]
        omega
      · dsimp only
        rw [hsn, if_neg hk]
        rfl
    · obtain rfl : i = L.length := by omega
      refine AW.of hΓ mixed [99999] _ _ _ rfl ?_
      simp only [go_sem, sRefClassK]
def lbP (p : Pt) : BS × BS × BS := (p.1, p.2.1, p.2.2.1)
def sRefDocB : Spec := Spec.f5 (kA eFl) (kL eCk) kI (kA ePt) kI (fun f L st p v => (okFl f ∧ L.length ≤ 10000 ∧ sumT (L.flatMap (ckPs f st (lbP p) v)) ≤ 1000000000) ∧ okLb (lbP p)) (fun f L st p v => tu2 (sL ePt (docF f L st (lbP p) v).1) (kI.enc (docF f L st (lbP p) v).2))
theorem okRefDocB : SpecOK Tryz.prog 37 sRefDocB := by
  refine SpecOK.f5 Tryz.func37 rfl (by decide) Tryz.results37 Tryz.ntmps37 (by decide) fun f L st p v ⟨⟨hf, hL, hsum⟩, hlb1, hlb2, hlb3⟩ => ?_
  have hΓ : GOK Tryz.prog (gam [(56, sRefPlain), (74, sRefCutK), (75, sRefClassK), (77, sRefEndsS), (78, sRefJoin), (76, sRefTextB), (79, sRefOf)]) := (.cons okRefPlain (.cons okRefCutK (.cons okRefClassK (.cons okRefEndsS (.cons okRefJoin (.cons okRefTextB (.cons okRefOf .nil)))))))
  have hff := hf
  obtain ⟨fb, fl, fr⟩ := f
  obtain ⟨lb1, lb2, lb3, ph, pt, pl, pb, pr, phb⟩ := p
  obtain ⟨hf1, hf2, hf3⟩ := hff
  dsimp only [lbP] at hf1 hf2 hf3 hsum hlb1 hlb2 hlb3 ⊢
  have fs := fun j => flat_sum hf st (lb1, lb2, lb3) v (L.take j)
  have d5 : (styOK st && favOK v) = false → docF (fb, fl, fr) L st (lb1, lb2, lb3) v = ([], 5) := fun h => by unfold docF; rw [if_pos h]
  have d3 : (styOK st && favOK v) = true → plainLb (lb1, lb2, lb3) = false → docF (fb, fl, fr) L st (lb1, lb2, lb3) v = ([], 3) := fun h h2 => by unfold docF; rw [if_neg (by rw [h]; simp), if_pos h2]
  have d0 : (styOK st && favOK v) = true → plainLb (lb1, lb2, lb3) = true → docF (fb, fl, fr) L st (lb1, lb2, lb3) v = (ofD (L.flatMap (ckPs (fb, fl, fr) st (lb1, lb2, lb3) v)), 0) := fun h h2 => by unfold docF; rw [if_neg (by rw [h]; simp), if_neg (by rw [h2]; simp)]
  refine AW.of hΓ mixed [0, 200022] _ _ _ rfl ?_
  simp only [go_sem, sRefPlain, sRefCutK, sRefClassK, sRefEndsS, sRefJoin, sRefTextB, sRefOf]
  refine AW.still 5 0 0 79 3 _ rfl rfl (fun j hj => match j, hj with | 0, _ => rfl | 1, _ => rfl | 2, _ => rfl) ?_
  refine AW.still 8 1 1 44 9 _ rfl rfl (fun j hj => match j, hj with | 0, _ => rfl | 1, _ => rfl | 2, _ => rfl | 3, _ => rfl | 4, _ => rfl | 5, _ => rfl | 6, _ => rfl | 7, _ => rfl | 8, _ => rfl) ?_
  cases hs : styOK st && favOK v with
  | false =>
    rw [d5 hs]
    have h3 : st < 0 ∨ 2 < st ∨ (v ≠ 0 ∧ v ≠ 1 ∧ v ≠ 3) := by
      unfold styOK favOK at hs
      simp only [Bool.and_eq_false_iff, Bool.or_eq_false_iff, decide_eq_false_iff_not] at hs
      omega
    by_cases e1 : st < 0
    · have g1 : (st < 0) = True := eq_true e1
      refine AW.of hΓ mixed [200022] _ _ _ rfl ?_
      simp only [go_sem, sRefPlain, sRefCutK, sRefClassK, sRefEndsS, sRefJoin, sRefTextB, sRefOf, g1]
      exact em_sL _
    · have g1 : (st < 0) = False := eq_false e1
      by_cases e2 : 2 < st
      · have g2 : (2 < st) = True := eq_true e2
        refine AW.of hΓ mixed [200022] _ _ _ rfl ?_
        simp only [go_sem, sRefPlain, sRefCutK, sRefClassK, sRefEndsS, sRefJoin, sRefTextB, sRefOf, g1, g2]
        exact em_sL _
      · have g2 : (2 < st) = False := eq_false e2
        obtain ⟨e3, e4, e5⟩ : v ≠ 0 ∧ v ≠ 1 ∧ v ≠ 3 := by omega
        refine AW.of hΓ mixed [200022] _ _ _ rfl ?_
        simp only [go_sem, sRefPlain, sRefCutK, sRefClassK, sRefEndsS, sRefJoin, sRefTextB, sRefOf, g1, g2, e3, e4, e5]
        exact em_sL _
  | true =>
    have hst : st = 0 ∨ st = 1 ∨ st = 2 := by
      unfold styOK at hs
      simp only [Bool.and_eq_true, Bool.or_eq_true, decide_eq_true_eq] at hs
      exact hs.1
    have hv : v = 0 ∨ v = 1 ∨ v = 3 := by
      unfold favOK at hs
      simp only [Bool.and_eq_true, Bool.or_eq_true, decide_eq_true_eq] at hs
      exact hs.2
    have g1 : (st < 0) = False := eq_false (by omega)
    have g2 : (2 < st) = False := eq_false (by omega)
    refine AW.seqTo (fun _ : Unit => Sh.st ⟨[(1, sL eCk L), (2, .val (.int .i64 st)), (4, .val (.int .i64 v)), (5, .ps 3 (eFl.enc (fb, fl, fr))), (8, .ps 9 (ePt.enc (lb1, lb2, lb3, ph, pt, pl, pb, pr, phb)))], [], 175, 2, 2, []⟩) ?_ fun _ => ?_
    · rcases hv with rfl | rfl | rfl
      · refine AW.of hΓ mixed [99999] _ _ _ rfl ?_
        simp only [go_sem, sRefPlain, sRefCutK, sRefClassK, sRefEndsS, sRefJoin, sRefTextB, sRefOf, g1, g2]
        exact ⟨(), toFits (by
          simp only [go_sem])⟩
      · refine AW.of hΓ mixed [99999] _ _ _ rfl ?_
        simp only [go_sem, sRefPlain, sRefCutK, sRefClassK, sRefEndsS, sRefJoin, sRefTextB, sRefOf, g1, g2]
        exact ⟨(), toFits (by
          simp only [go_sem])⟩
      · refine AW.of hΓ mixed [99999] _ _ _ rfl ?_
        simp only [go_sem, sRefPlain, sRefCutK, sRefClassK, sRefEndsS, sRefJoin, sRefTextB, sRefOf, g1, g2]
        exact ⟨(), toFits (by
          simp only [go_sem])⟩
    cases hp : plainLb (lb1, lb2, lb3) with
    | false =>
      rw [d3 hs hp]
      unfold plainLb at hp
      dsimp only at hp
      refine AW.of hΓ mixed [200022] _ _ _ rfl ?_
      simp only [go_sem, sRefPlain, sRefCutK, sRefClassK, sRefEndsS, sRefJoin, sRefTextB, sRefOf, hp, plainD]
      exact ⟨⟨by omega, by omega, by omega⟩, em_sL _⟩
    | true =>
      rw [d0 hs hp]
      unfold plainLb at hp
      dsimp only at hp
      refine AW.of hΓ mixed [5, 200022] _ _ _ rfl ?_
      simp only [go_sem, sRefPlain, sRefCutK, sRefClassK, sRefEndsS, sRefJoin, sRefTextB, sRefOf, hp, plainD]
      refine ⟨⟨by omega, by omega, by omega⟩, ?_⟩
      refine AW.adopt 12 44 9 (fun i => ePt.enc (([] : List Pt).getD i ePt.dflt)) rfl ?_
      refine AW.seqTo (fun x : Nat × Nat => Sh.st ⟨[(12, .ow 2 x.1 (L.flatMap (ckPs (fb, fl, fr) st (lb1, lb2, lb3) v)).length)], [(2, rowL x.1 44 ePt (L.flatMap (ckPs (fb, fl, fr) st (lb1, lb2, lb3) v)))], 175, 3, x.2, []⟩) ?_ fun ⟨u, nx⟩ => ?_
      rotate_left
      · have fL := flat_sum hf st (lb1, lb2, lb3) v L
        generalize L.flatMap (ckPs (fb, fl, fr) st (lb1, lb2, lb3) v) = S at *
        refine AW.freeze 2 u 44 9 S.length (fun i => ePt.enc (S.getD i ePt.dflt)) rfl (fun _ _ j hj => match j, hj with | 0, _ => rfl | 1, _ => rfl | 2, _ => rfl | 3, _ => rfl | 4, _ => rfl | 5, _ => rfl | 6, _ => rfl | 7, _ => rfl | 8, _ => rfl) ?_
        refine AW.cut ⟨[(12, sL ePt S)], [], 175, 3, nx, []⟩ ?_ ?_
        · simp only [go_sem, sRefPlain, sRefCutK, sRefClassK, sRefEndsS, sRefJoin, sRefTextB, sRefOf]
          exact vw_all (E := ePt) rfl rfl rfl
        refine AW.of hΓ mixed [] _ _ _ rfl ?_
        simp only [go_sem, sRefPlain, sRefCutK, sRefClassK, sRefEndsS, sRefJoin, sRefTextB, sRefOf]
        exact ⟨by omega, by omega⟩
      refine AW.of hΓ mixed [200022] _ _ _ rfl ?_
      simp only [go_sem, sRefPlain, sRefCutK, sRefClassK, sRefEndsS, sRefJoin, sRefTextB, sRefOf]
      refine AW.round (α := { x : Nat × List Pt × Nat × Nat // x.1 ≤ L.length ∧ x.2.1 = (L.take x.1).flatMap (ckPs (fb, fl, fr) st (lb1, lb2, lb3) v) })
        (fun x => ⟨[(1, sL eCk L), (2, .val (.int .i64 st)), (4, .val (.int .i64 v)), (5, .ps 3 (eFl.enc (fb, fl, fr))), (8, .ps 9 (ePt.enc (lb1, lb2, lb3, ph, pt, pl, pb, pr, phb))), (12, .ow 2 x.1.2.2.1 x.1.2.1.length), (13, .val (.int .i64 x.1.1))],
          [(2, rowL x.1.2.2.1 44 ePt x.1.2.1)], 175, 3, x.1.2.2.2, []⟩) (fun x => L.length - x.1.1) ⟨(0, [], 2, 3), Nat.zero_le _, rfl⟩ ?_ ?_
      · simp only [go_sem, sRefPlain, sRefCutK, sRefClassK, sRefEndsS, sRefJoin, sRefTextB, sRefOf]
        exact RowLe.refl _
      · rintro ⟨⟨i, S, u, nx⟩, hi, hS⟩
        simp only at hi hS
        have fi := fs i
        rw [← hS, List.length_take] at fi
        rcases Nat.lt_or_ge i L.length with hlt' | hge
        · have hlI : ((i : Int) < (L.length : Nat)) = True := eq_true (by omega)
          have hsn : (L.take (i + 1)).flatMap (ckPs (fb, fl, fr) st (lb1, lb2, lb3) v) = S ++ ckPs (fb, fl, fr) st (lb1, lb2, lb3) v (L.getD i eCk.dflt) := by
            rw [take_snoc L eCk.dflt hlt', List.flatMap_append, ← hS]
            simp
          generalize hce : L.getD i eCk.dflt = c at *
          obtain ⟨cs, ⟨cb1, cb2⟩, ⟨cl1, cl2⟩, cr1, cr2⟩ := c
          have hcc : classK (cs, (cb1, cb2), (cl1, cl2), cr1, cr2) fb fl fr = clsF (fb, fl, fr) (cs, (cb1, cb2), (cl1, cl2), cr1, cr2) := rfl
          have hkk : clsF (fb, fl, fr) (cs, (cb1, cb2), (cl1, cl2), cr1, cr2) = 0 ∨ clsF (fb, fl, fr) (cs, (cb1, cb2), (cl1, cl2), cr1, cr2) = 1 ∨ clsF (fb, fl, fr) (cs, (cb1, cb2), (cl1, cl2), cr1, cr2) = 2 ∨ clsF (fb, fl, fr) (cs, (cb1, cb2), (cl1, cl2), cr1, cr2) = 3 ∨ clsF (fb, fl, fr) (cs, (cb1, cb2), (cl1, cl2), cr1, cr2) = 4 := by
            rcases cls_cases (fb, fl, fr) (cs, (cb1, cb2), (cl1, cl2), cr1, cr2) with ⟨h, _⟩ | ⟨_, ⟨h, _⟩ | ⟨h, _⟩ | ⟨h, _⟩ | ⟨h, _⟩⟩
            · exact .inl h
            · exact .inr (.inr (.inl h))
            · exact .inr (.inl h)
            · exact .inr (.inr (.inr (.inl h)))
            · exact .inr (.inr (.inr (.inr h)))
          generalize hke : clsF (fb, fl, fr) (cs, (cb1, cb2), (cl1, cl2), cr1, cr2) = k at *
          have sB := cutS_sub (cb1, cb2) fb
          have sO := cutS_sub (cl1, cl2) fl
          have sT := cutS_sub (cr1, cr2) fr
          refine AW.of hΓ mixed [10, 99999, 200022] _ _ _ rfl ?_
          simp only [go_sem, sRefPlain, sRefCutK, sRefClassK, sRefEndsS, sRefJoin, sRefTextB, sRefOf, hce, hcc, hlI]
          refine ⟨by omega, by omega, by omega, by omega, by omega, by omega, by omega, ⟨by omega, by omega, by omega⟩, ?_⟩
          have kB := okLs_sub sB hf1.1 hf1.2
          have kO := okLs_sub sO hf2.1 hf2.2
          have kT := okLs_sub sT hf3.1 hf3.2
          refine AW.cut ⟨[(1, sL eCk L), (2, .val (.int .i64 st)), (4, .val (.int .i64 v)), (5, .ps 3 (eFl.enc (fb, fl, fr))), (8, .ps 9 (ePt.enc (lb1, lb2, lb3, ph, pt, pl, pb, pr, phb))), (12, .ow 2 u S.length), (13, .val (.int .i64 i)), (14, sL eS (cutS (cb1, cb2) fb)), (15, sL eS (cutS (cl1, cl2) fl)), (16, sL eS (cutS (cr1, cr2) fr)), (17, .val (.int .i64 k))],
            [(2, rowL u 44 ePt S)], 175, 3, nx, []⟩ ?_ ?_
          · simp only [go_sem, sRefPlain, sRefCutK, sRefClassK, sRefEndsS, sRefJoin, sRefTextB, sRefOf]
            exact RowLe.refl _
          rcases hkk with hk | hk | hk | hk | hk
          · subst hk
            have hcs : ckPs (fb, fl, fr) st (lb1, lb2, lb3) v (cs, (cb1, cb2), (cl1, cl2), cr1, cr2) = [textP (cutS (cb1, cb2) fb).flatten] := by
              unfold ckPs
              rw [hke, if_neg (by omega)]
              rfl
            rw [hcs] at hsn
            refine AW.of hΓ mixed [99999, 200022] _ _ _ rfl ?_
            simp only [go_sem, sRefPlain, sRefCutK, sRefClassK, sRefEndsS, sRefJoin, sRefTextB, sRefOf]
            refine ⟨kB, by omega, ⟨by omega, by omega⟩, ⟨(i + 1, S ++ [textP (cutS (cb1, cb2) fb).flatten], nx, nx + 1), by dsimp only; omega, hsn.symm⟩, ⟨Nat.le_refl _, ⟨⟨rfl, by simp⟩, by dsimp only; omega⟩, ?_⟩, by dsimp only; omega⟩
            exact row_app1 (E := ePt) rfl rfl rfl rfl (by simp) fun j _ => AVle.refl _
          · subst hk
            have hcs : ckPs (fb, fl, fr) st (lb1, lb2, lb3) v (cs, (cb1, cb2), (cl1, cl2), cr1, cr2) = [textP (cutS (cl1, cl2) fl).flatten] := by
              unfold ckPs
              rw [hke, if_neg (by omega)]
              rfl
            rw [hcs] at hsn
            refine AW.of hΓ mixed [99999, 200022] _ _ _ rfl ?_
            simp only [go_sem, sRefPlain, sRefCutK, sRefClassK, sRefEndsS, sRefJoin, sRefTextB, sRefOf]
            refine ⟨kO, by omega, ⟨by omega, by omega⟩, ⟨(i + 1, S ++ [textP (cutS (cl1, cl2) fl).flatten], nx, nx + 1), by dsimp only; omega, hsn.symm⟩, ⟨Nat.le_refl _, ⟨⟨rfl, by simp⟩, by dsimp only; omega⟩, ?_⟩, by dsimp only; omega⟩
            exact row_app1 (E := ePt) rfl rfl rfl rfl (by simp) fun j _ => AVle.refl _
          · subst hk
            have hcs : ckPs (fb, fl, fr) st (lb1, lb2, lb3) v (cs, (cb1, cb2), (cl1, cl2), cr1, cr2) = [textP (cutS (cr1, cr2) fr).flatten] := by
              unfold ckPs
              rw [hke, if_neg (by omega)]
              rfl
            rw [hcs] at hsn
            refine AW.of hΓ mixed [99999, 200022] _ _ _ rfl ?_
            simp only [go_sem, sRefPlain, sRefCutK, sRefClassK, sRefEndsS, sRefJoin, sRefTextB, sRefOf]
            refine ⟨kT, by omega, ⟨by omega, by omega⟩, ⟨(i + 1, S ++ [textP (cutS (cr1, cr2) fr).flatten], nx, nx + 1), by dsimp only; omega, hsn.symm⟩, ⟨Nat.le_refl _, ⟨⟨rfl, by simp⟩, by dsimp only; omega⟩, ?_⟩, by dsimp only; omega⟩
            exact row_app1 (E := ePt) rfl rfl rfl rfl (by simp) fun j _ => AVle.refl _
          · subst hk
            have hcs : ckPs (fb, fl, fr) st (lb1, lb2, lb3) v (cs, (cb1, cb2), (cl1, cl2), cr1, cr2) = [textP (cutS (cl1, cl2) fl).flatten] := by
              unfold ckPs
              rw [hke, if_neg (by omega)]
              rfl
            rw [hcs] at hsn
            refine AW.of hΓ mixed [99999, 200022] _ _ _ rfl ?_
            simp only [go_sem, sRefPlain, sRefCutK, sRefClassK, sRefEndsS, sRefJoin, sRefTextB, sRefOf]
            refine ⟨kO, by omega, ⟨by omega, by omega⟩, ⟨(i + 1, S ++ [textP (cutS (cl1, cl2) fl).flatten], nx, nx + 1), by dsimp only; omega, hsn.symm⟩, ⟨Nat.le_refl _, ⟨⟨rfl, by simp⟩, by dsimp only; omega⟩, ?_⟩, by dsimp only; omega⟩
            exact row_app1 (E := ePt) rfl rfl rfl rfl (by simp) fun j _ => AVle.refl _
          · subst hk
            have hcs : ckPs (fb, fl, fr) st (lb1, lb2, lb3) v (cs, (cb1, cb2), (cl1, cl2), cr1, cr2) = if v = 0 then confL (fb, fl, fr) (cs, (cb1, cb2), (cl1, cl2), cr1, cr2) st (lb1, lb2, lb3) else if v = 3 then [textP (cutS (cr1, cr2) fr).flatten] else [textP (cutS (cl1, cl2) fl).flatten] := by
              unfold ckPs sideF
              rw [hke]
              by_cases h0 : v = 0
              · rw [if_pos ⟨rfl, h0⟩, if_pos h0]
              · rw [if_neg (fun e => h0 e.2), if_neg h0, if_neg (by decide), if_neg (by decide)]
                by_cases h3 : v = 3
                · rw [if_pos ⟨rfl, h3⟩, if_pos h3]
                  rfl
                · rw [if_neg (fun e => h3 e.2), if_neg h3]
                  rfl
            rw [hcs] at hsn
            rcases hv with hv | hv | hv
            · subst hv
              rw [if_pos rfl] at hsn
              refine AW.of hΓ mixed [17, 99999, 200022] _ _ _ rfl ?_
              simp only [go_sem, sRefPlain, sRefCutK, sRefClassK, sRefEndsS, sRefJoin, sRefTextB, sRefOf]
              have hh := hoist_le st (cutS (cl1, cl2) fl) (cutS (cr1, cr2) fr)
              have i1 := sO.length_le
              have i2 := sT.length_le
              have hcf : confL (fb, fl, fr) (cs, (cb1, cb2), (cl1, cl2), cr1, cr2) st (lb1, lb2, lb3) = [textP ((cutS (cl1, cl2) fl).take (hoistF st (cutS (cl1, cl2) fl) (cutS (cr1, cr2) fr)).1).flatten,
                (lb1, (if st = 0 then [] else lb2), lb3, true, [], (cutL (cutS (cl1, cl2) fl) (hoistF st (cutS (cl1, cl2) fl) (cutS (cr1, cr2) fr)).1 ((cutS (cl1, cl2) fl).length - (hoistF st (cutS (cl1, cl2) fl) (cutS (cr1, cr2) fr)).2)).flatten, (if st = 0 then [] else (cutS (cb1, cb2) fb).flatten), (cutL (cutS (cr1, cr2) fr) (hoistF st (cutS (cl1, cl2) fl) (cutS (cr1, cr2) fr)).1 ((cutS (cr1, cr2) fr).length - (hoistF st (cutS (cl1, cl2) fl) (cutS (cr1, cr2) fr)).2)).flatten, decide (st ≠ 0)),
                textP ((cutS (cl1, cl2) fl).drop ((cutS (cl1, cl2) fl).length - (hoistF st (cutS (cl1, cl2) fl) (cutS (cr1, cr2) fr)).2)).flatten] := rfl
              rw [hcf] at hsn
              clear hcf hcs hke hcc hce d5 d3 d0
              generalize cutS (cb1, cb2) fb = B at *
              generalize cutS (cl1, cl2) fl = O at *
              generalize cutS (cr1, cr2) fr = T at *
              refine AW.cut ⟨[(2, .val (.int .i64 st)), (8, .ps 9 (ePt.enc (lb1, lb2, lb3, ph, pt, pl, pb, pr, phb))), (1, sL eCk L), (4, .val (.int .i64 0)), (5, .ps 3 (eFl.enc (fb, fl, fr))), (12, .ow 2 u S.length), (13, .val (.int .i64 i)), (14, sL eS B), (15, sL eS O), (16, sL eS T), (18, .val (.int .i64 0)), (19, .val (.int .i64 0))],
                [(2, rowL u 44 ePt S)], 175, 3, nx, []⟩ ?_ ?_
              · simp only [go_sem, sRefPlain, sRefCutK, sRefClassK, sRefEndsS, sRefJoin, sRefTextB, sRefOf]
                exact RowLe.refl _
              refine AW.seqTo (fun _ : Unit => Sh.st ⟨[(2, .val (.int .i64 st)), (8, .ps 9 (ePt.enc (lb1, lb2, lb3, ph, pt, pl, pb, pr, phb))), (1, sL eCk L), (4, .val (.int .i64 0)), (5, .ps 3 (eFl.enc (fb, fl, fr))), (12, .ow 2 u S.length), (13, .val (.int .i64 i)), (14, sL eS B), (15, sL eS O), (16, sL eS T), (18, .val (.int .i64 (hoistF st O T).1)), (19, .val (.int .i64 (hoistF st O T).2))],
                [(2, rowL u 44 ePt S)], 175, 3, nx, []⟩) ?_ fun _ => ?_
              · refine AW.of hΓ mixed [99999] _ _ _ rfl ?_
                simp only [go_sem, sRefPlain, sRefCutK, sRefClassK, sRefEndsS, sRefJoin, sRefTextB, sRefOf]
                refine ⟨fun h2 => ⟨⟨by omega, by omega⟩, (), toFits ?_⟩, fun h2 => ⟨(), toFits ?_⟩⟩
                · unfold hoistF
                  rw [if_pos h2]
                  simp only [go_sem, sRefPlain, sRefCutK, sRefClassK, sRefEndsS, sRefJoin, sRefTextB, sRefOf]
                  exact RowLe.refl _
                · unfold hoistF
                  rw [if_neg h2]
                  simp only [go_sem, sRefPlain, sRefCutK, sRefClassK, sRefEndsS, sRefJoin, sRefTextB, sRefOf]
                  exact RowLe.refl _
              generalize hoistF st O T = h at *
              obtain ⟨h1, h2⟩ := h
              dsimp only at hh hsn ⊢
              have eO : (List.range (((O.length : Int) - (h2 : Int)).toNat - h1)).map (fun i => O.getD (h1 + i) []) = cutL O h1 (O.length - h2) := by
                rw [cut_map (by omega), show ((O.length : Int) - (h2 : Int)).toNat - h1 = O.length - h2 - h1 by omega]
              have eT : (List.range (((T.length : Int) - (h2 : Int)).toNat - h1)).map (fun i => T.getD (h1 + i) []) = cutL T h1 (T.length - h2) := by
                rw [cut_map (by omega), show ((T.length : Int) - (h2 : Int)).toNat - h1 = T.length - h2 - h1 by omega]
              have jO : okLs (cutL O h1 (O.length - h2)) := okLs_sub (((List.drop_sublist _ _).trans (List.take_sublist _ _)).trans sO) hf2.1 hf2.2
              have jT : okLs (cutL T h1 (T.length - h2)) := okLs_sub (((List.drop_sublist _ _).trans (List.take_sublist _ _)).trans sT) hf3.1 hf3.2
              have jA : okLs (O.take h1) := okLs_sub ((List.take_sublist _ _).trans sO) hf2.1 hf2.2
              have jD : okLs (O.drop (O.length - h2)) := okLs_sub ((List.drop_sublist _ _).trans sO) hf2.1 hf2.2
              refine AW.of hΓ mixed [20, 99999, 200022] _ _ _ rfl ?_
              simp only [go_sem, sRefPlain, sRefCutK, sRefClassK, sRefEndsS, sRefJoin, sRefTextB, sRefOf, eO, eT]
              refine ⟨⟨by omega, by omega⟩, ⟨by omega, by omega, by omega⟩, jO, ⟨by omega, by omega⟩, ⟨by omega, by omega, by omega⟩, jT, ?_⟩
              generalize (cutL O h1 (O.length - h2)).flatten = X at *
              generalize (cutL T h1 (T.length - h2)).flatten = Y at *
              refine AW.cut ⟨[(2, .val (.int .i64 st)), (8, .ps 9 (ePt.enc (lb1, lb2, lb3, ph, pt, pl, pb, pr, phb))), (1, sL eCk L), (4, .val (.int .i64 0)), (5, .ps 3 (eFl.enc (fb, fl, fr))), (12, .ow 2 u S.length), (13, .val (.int .i64 i)), (14, sL eS B), (15, sL eS O), (18, .val (.int .i64 h1)), (19, .val (.int .i64 h2)), (20, .pt 3 nx 0)],
                [(2, rowL u 44 ePt S), (3, .box nx 44 9 (ePt.enc (lb1, [], lb3, true, [], X, [], Y, false)))], 175, 4, nx + 1, []⟩ ?_ ?_
              · simp only [go_sem, sRefPlain, sRefCutK, sRefClassK, sRefEndsS, sRefJoin, sRefTextB, sRefOf]
                exact ⟨RowLe.refl _, pt_box rfl rfl rfl rfl rfl rfl rfl rfl rfl⟩
              refine AW.seqTo (fun _ : Unit => Sh.st ⟨[(2, .val (.int .i64 st)), (8, .ps 9 (ePt.enc (lb1, lb2, lb3, ph, pt, pl, pb, pr, phb))), (1, sL eCk L), (4, .val (.int .i64 0)), (5, .ps 3 (eFl.enc (fb, fl, fr))), (12, .ow 2 u S.length), (13, .val (.int .i64 i)), (15, sL eS O), (18, .val (.int .i64 h1)), (19, .val (.int .i64 h2)), (20, .pt 3 nx 0)],
                [(2, rowL u 44 ePt S), (3, .box nx 44 9 (ePt.enc (lb1, (if st = 0 then [] else lb2), lb3, true, [], X, (if st = 0 then [] else B.flatten), Y, decide (st ≠ 0))))], 175, 4, nx + 1, []⟩) ?_ fun _ => ?_
              · refine AW.of hΓ mixed [99999, 200022] _ _ _ rfl ?_
                simp only [go_sem, sRefPlain, sRefCutK, sRefClassK, sRefEndsS, sRefJoin, sRefTextB, sRefOf]
                refine ⟨fun h0 => ?_, fun h0 => ⟨(), toFits ?_⟩⟩
                · rw [if_neg (by omega), if_neg (by omega), decide_eq_true (by omega)]
                  refine AW.drawZ hΓ mixed 5 [6, 8] [1, 2, 3, 4, 6, 8] [] (by kernel_rfl) ?_
                  simp only [go_sem, sRefPlain, sRefCutK, sRefClassK, sRefEndsS, sRefJoin, sRefTextB, sRefOf]
                  refine ⟨kB, (), toFits ?_⟩
                  simp only [go_sem, sRefPlain, sRefCutK, sRefClassK, sRefEndsS, sRefJoin, sRefTextB, sRefOf]
                  exact ⟨RowLe.refl _, pt_box rfl rfl rfl rfl rfl rfl rfl rfl rfl⟩
                · obtain rfl : st = 0 := by omega
                  simp only [go_sem, sRefPlain, sRefCutK, sRefClassK, sRefEndsS, sRefJoin, sRefTextB, sRefOf]
                  exact ⟨RowLe.refl _, pt_box rfl rfl rfl rfl rfl rfl rfl rfl rfl⟩
              have eA1 : (List.range (h1 - 0)).map (fun i => O.getD i []) = O.take h1 := by
                refine list_ext_getD [] (by simp; omega) fun k hk => ?_
                have hk : k < h1 := by simpa using hk
                simp [List.getD, List.getElem?_take, hk]
              have eA2 : (List.range (O.length - ((O.length : Int) - (h2 : Int)).toNat)).map (fun i => O.getD (((O.length : Int) - (h2 : Int)).toNat + i) []) = O.drop (O.length - h2) := by
                have e : ((O.length : Int) - (h2 : Int)).toNat = O.length - h2 := by omega
                rw [e]
                refine list_ext_getD [] (by simp) fun k hk => ?_
                have hk : k < O.length - (O.length - h2) := by simpa using hk
                simp [List.getD, hk]
                rw [List.getElem?_eq_getElem (by omega)]
                rfl
              refine AW.of hΓ mixed [99999, 200022] _ _ _ rfl ?_
              simp only [go_sem, sRefPlain, sRefCutK, sRefClassK, sRefEndsS, sRefJoin, sRefTextB, sRefOf, eA1, eA2]
              refine ⟨⟨by omega, by omega⟩, jA, ⟨by omega, by omega⟩, ⟨by omega, by omega, by omega⟩, jD, by omega, ⟨by omega, by omega⟩, ⟨(i + 1, S ++ [textP (O.take h1).flatten, (lb1, (if st = 0 then [] else lb2), lb3, true, [], X, (if st = 0 then [] else B.flatten), Y, decide (st ≠ 0)), textP (O.drop (O.length - h2)).flatten], nx + 1, nx + 2), by dsimp only; omega, hsn.symm⟩, ⟨Nat.le_refl _, ⟨⟨rfl, by simp⟩, by dsimp only; omega⟩, ?_⟩, by dsimp only; omega⟩
              exact row_app (E := ePt) rfl rfl rfl rfl (by simp) fun i hi j _ => match i, hi with
                | 0, _ => AVle.refl _
                | 1, _ => AVle.refl _
                | 2, _ => AVle.refl _
            · subst hv
              rw [if_neg (by decide), if_neg (by decide)] at hsn
              refine AW.of hΓ mixed [99999, 200022] _ _ _ rfl ?_
              simp only [go_sem, sRefPlain, sRefCutK, sRefClassK, sRefEndsS, sRefJoin, sRefTextB, sRefOf]
              refine ⟨kO, by omega, ⟨by omega, by omega⟩, ⟨(i + 1, S ++ [textP (cutS (cl1, cl2) fl).flatten], nx, nx + 1), by dsimp only; omega, hsn.symm⟩, ⟨Nat.le_refl _, ⟨⟨rfl, by simp⟩, by dsimp only; omega⟩, ?_⟩, by dsimp only; omega⟩
              exact row_app1 (E := ePt) rfl rfl rfl rfl (by simp) fun j _ => AVle.refl _
            · subst hv
              rw [if_neg (by decide), if_pos rfl] at hsn
              refine AW.of hΓ mixed [99999, 200022] _ _ _ rfl ?_
              simp only [go_sem, sRefPlain, sRefCutK, sRefClassK, sRefEndsS, sRefJoin, sRefTextB, sRefOf]
              refine ⟨kT, by omega, ⟨by omega, by omega⟩, ⟨(i + 1, S ++ [textP (cutS (cr1, cr2) fr).flatten], nx, nx + 1), by dsimp only; omega, hsn.symm⟩, ⟨Nat.le_refl _, ⟨⟨rfl, by simp⟩, by dsimp only; omega⟩, ?_⟩, by dsimp only; omega⟩
              exact row_app1 (E := ePt) rfl rfl rfl rfl (by simp) fun j _ => AVle.refl _
        · obtain rfl : i = L.length := by omega
          rw [List.take_length] at hS
          refine AW.of hΓ mixed [99999, 200022] _ _ _ rfl ?_
          simp only [go_sem, sRefPlain, sRefCutK, sRefClassK, sRefEndsS, sRefJoin, sRefTextB, sRefOf]
          refine ⟨(u, nx), toFits ?_⟩
          rw [← hS]
          simp only [go_sem, sRefPlain, sRefCutK, sRefClassK, sRefEndsS, sRefJoin, sRefTextB, sRefOf]
          exact RowLe.refl _
end Go.Proofs.YtjfmigpahglajaaGreatDoor
set_option linter.unusedSimpArgs false
set_option linter.unusedVariables false
set_option maxRecDepth 100000
set_option maxHeartbeats 2000000
namespace Go.Proofs.YtjfmigpahglajaaGreatDoor
open Go
attribute [local irreducible] AW AVle ASle RowLe
def sLcsLength : Spec := Spec.f2 (kL eI) (kL eI) (fun a b => a.length < 100000000 ∧ b.length < 100000000) (fun a b => kI.enc (lcsN a b))
def rowN (n : Nat) (f : Nat → Nat) : List Int := (List.range n).map fun k => (f k : Int)
theorem rowN_len (n : Nat) (f : Nat → Nat) : (rowN n f).length = n := by simp [rowN]
theorem rowN_at {n : Nat} (f : Nat → Nat) {k : Nat} (h : k < n) : (rowN n f).getD k 0 = f k := by simp [rowN, List.getD, h]
theorem rowN_set {n k : Nat} {f g : Nat → Nat} {w : Int} (hw : w = g k) (h : ∀ t, t < n → t ≠ k → f t = g t) : (rowN n f).set k w = rowN n g := by
  refine list_ext_getD 0 (by simp [rowN]) fun t ht => ?_
  simp only [List.length_set, rowN_len] at ht
  rw [rowN_at _ ht]
  by_cases e : t = k
  · subst e
    simp [List.getD, rowN_len, ht, hw]
  · have e2 : ((rowN n f).set k w).getD t 0 = (rowN n f).getD t 0 := by simp only [List.getD]; rw [List.getElem?_set_ne (by omega)]
    rw [e2, rowN_at _ ht, h t ht e]
theorem okLcsLength : SpecOK Tryz.prog 59 sLcsLength := by
  refine SpecOK.f2 Tryz.func59 rfl (by decide) Tryz.results59 Tryz.ntmps59 (by decide) fun a b ⟨ha, hb⟩ => ?_
  have hΓ : GOK Tryz.prog (gam []) := GOK.nil
  refine AW.of hΓ mixed [] _ _ _ rfl ?_
  simp only [go_sem]
  refine ⟨by omega, by omega, ?_⟩
  refine AW.round (α := { x : Nat × Nat × Nat // x.1 ≤ a.length })
    (fun x => ⟨[(0, sL eI a), (1, sL eI b), (5, .ow 0 x.1.2.1 (b.length + 1)), (6, .val (.int .i64 x.1.1))], [(0, rowL x.1.2.1 3 eI (rowN (b.length + 1) (tabL a b x.1.1)))], 67, 1, x.1.2.2, []⟩) (fun x => a.length - x.1.1) ⟨(0, 0, 1), Nat.zero_le _⟩ ?_ ?_
  · simp only [go_sem]
    refine RowLe.sl (rowN_len _ _) fun k hk j hj => AVle.of_eq ?_
    match j, hj with
    | 0, _ =>
      rw [rowN_at _ hk]
      rfl
  · rintro ⟨⟨i, v, nx⟩, hi⟩
    simp only at hi
    refine AW.of hΓ mixed [5, 99999] _ _ _ rfl ?_
    simp only [go_sem]
    refine ⟨fun hlt => ?_, fun hge => ?_⟩
    · refine ⟨by omega, by omega, ?_⟩
      refine AW.seqTo (fun n3 : Nat => Sh.st ⟨[(0, sL eI a), (1, sL eI b), (6, .val (.int .i64 i)), (7, .ow 0 nx (b.length + 1))], [(0, rowL nx 3 eI (rowN (b.length + 1) (tabL a b (i + 1))))], 67, 1, n3, []⟩) ?_ ?_
      · refine AW.of hΓ mixed [] _ _ _ rfl ?_
        simp only [go_sem]
        refine AW.round (α := { x : Nat × Nat // x.1 ≤ b.length })
          (fun x => ⟨[(0, sL eI a), (1, sL eI b), (5, .ow 0 v (b.length + 1)), (6, .val (.int .i64 i)), (7, .ow 1 nx (b.length + 1)), (8, .val (.int .i64 x.1.1))],
            [(0, rowL v 3 eI (rowN (b.length + 1) (tabL a b i))), (1, rowL nx 3 eI (rowN (b.length + 1) fun t => if t ≤ x.1.1 then tabL a b (i + 1) t else 0))], 67, 2, x.1.2, []⟩) (fun x => b.length - x.1.1) ⟨(0, nx + 1), Nat.zero_le _⟩ ?_ ?_
        · simp only [go_sem]
          refine ⟨RowLe.refl _, RowLe.sl (rowN_len _ _) fun k hk j hj => AVle.of_eq ?_⟩
          match j, hj with
          | 0, _ =>
            rw [rowN_at _ hk]
            by_cases h0 : k ≤ 0
            · obtain rfl : k = 0 := by omega
              rw [if_pos (Nat.le_refl _), tabL_i0]
              rfl
            · rw [if_neg h0]
              rfl
        · rintro ⟨⟨k, n2⟩, hk⟩
          simp only at hk
          refine AW.of hΓ mixed [9, 99999] _ _ _ rfl ?_
          simp only [go_sem]
          refine ⟨fun hlt2 => ?_, fun hge2 => ?_⟩
          · have k1 : k < b.length := by omega
            have g1 := rowN_at (n := b.length + 1) (tabL a b i) (k := k + 1) (by omega)
            have g2 := rowN_at (n := b.length + 1) (fun t => if t ≤ k then tabL a b (i + 1) t else 0) (k := k) (by omega)
            rw [if_pos (Nat.le_refl _)] at g2
            have g3 := rowN_at (n := b.length + 1) (tabL a b i) (k := k) (by omega)
            have g4 := (tabL_le (a := a) (b := b) i k)
            refine ⟨by omega, by omega, by omega, by rw [rowN_len]; omega, by omega, by rw [rowN_len]; omega, by omega, by rw [rowN_len]; omega, ?_⟩
            refine AW.cut ⟨[(0, sL eI a), (1, sL eI b), (5, .ow 0 v (b.length + 1)), (6, .val (.int .i64 i)), (7, .ow 1 nx (b.length + 1)), (8, .val (.int .i64 k))],
              [(0, rowL v 3 eI (rowN (b.length + 1) (tabL a b i))), (1, rowL nx 3 eI ((rowN (b.length + 1) fun t => if t ≤ k then tabL a b (i + 1) t else 0).set (k + 1) (max (tabL a b i (k + 1) : Int) (tabL a b (i + 1) k))))], 67, 2, n2, []⟩ ?_ ?_
            · simp only [go_sem]
              refine ⟨RowLe.refl _, row_set (E := eI) rfl rfl rfl (by simp) fun j hj => AVle.of_eq ?_⟩
              rw [g1, g2]
              rfl
            · by_cases he : a.getD i 0 = b.getD k 0
              · refine AW.of hΓ mixed [99999] _ _ _ rfl ?_
                simp only [go_sem, he, g3]
                have hset : rowN (b.length + 1) (fun t => if t ≤ k + 1 then tabL a b (i + 1) t else 0) = (((rowN (b.length + 1) fun t => if t ≤ k then tabL a b (i + 1) t else 0).set (k + 1) (max (tabL a b i (k + 1) : Int) (tabL a b (i + 1) k))).set (k + 1) ((tabL a b i k : Int) + 1)) := by
                  rw [List.set_set]
                  refine (rowN_set ?_ fun t ht hne => ?_).symm
                  · rw [if_pos (Nat.le_refl _), tabL_eq he]
                    omega
                  · by_cases h1 : t ≤ k
                    · rw [if_pos h1, if_pos (by omega)]
                    · rw [if_neg h1, if_neg (by omega)]
                refine ⟨by omega, by omega, by omega, by omega, by rw [rowN_len]; omega, by omega, by omega, by rw [rowN_len]; omega, by omega, ⟨(k + 1, n2), by dsimp only; omega⟩, ⟨Nat.le_refl _, rfl, RowLe.refl _, ?_⟩, by dsimp only; omega⟩
                exact row_set (E := eI) rfl hset (by simp) (by simp) (fun j hj => AVle.refl _)
              · refine AW.of hΓ mixed [99999] _ _ _ rfl ?_
                simp only [go_sem, he]
                have hset : (rowN (b.length + 1) fun t => if t ≤ k then tabL a b (i + 1) t else 0).set (k + 1) (max (tabL a b i (k + 1) : Int) (tabL a b (i + 1) k)) = rowN (b.length + 1) fun t => if t ≤ k + 1 then tabL a b (i + 1) t else 0 := by
                  refine rowN_set ?_ fun t ht hne => ?_
                  · rw [if_pos (Nat.le_refl _), tabL_ne he]
                    omega
                  · by_cases h1 : t ≤ k
                    · rw [if_pos h1, if_pos (by omega)]
                    · rw [if_neg h1, if_neg (by omega)]
                refine ⟨by omega, by omega, by omega, ⟨(k + 1, n2), by dsimp only; omega⟩, ⟨Nat.le_refl _, rfl, RowLe.refl _, ?_⟩, by dsimp only; omega⟩
                rw [hset, rowN_len, rowN_len]
                exact RowLe.refl _
          · obtain rfl : k = b.length := by omega
            refine ⟨n2, toFitsV (fun _ => 1) ?_⟩
            simp only [go_sem]
            have hall : (rowN (b.length + 1) fun t => if t ≤ b.length then tabL a b (i + 1) t else 0) = rowN (b.length + 1) (tabL a b (i + 1)) := by
              unfold rowN
              refine List.map_congr_left fun t ht => ?_
              dsimp only
              rw [if_pos (by have := List.mem_range.1 ht; omega)]
            rw [hall]
            exact RowLe.refl _
      · intro n3
        refine AW.of hΓ mixed [] _ _ _ rfl ?_
        simp only [go_sem]
        exact ⟨by omega, ⟨(i + 1, nx, n3), by dsimp only; omega⟩, ⟨Nat.le_refl _, ⟨rfl, rfl⟩, RowLe.refl _⟩, by dsimp only; omega⟩
    · obtain rfl : i = a.length := by omega
      have e := rowN_at (n := b.length + 1) (tabL a b a.length) (k := b.length) (by omega)
      exact ⟨by omega, by rw [rowN_len]; omega, e⟩
end Go.Proofs.YtjfmigpahglajaaGreatDoor
set_option linter.unusedSimpArgs false
set_option linter.unusedVariables false
set_option maxRecDepth 100000
set_option maxHeartbeats 2000000
namespace Go.Proofs.YtjfmigpahglajaaGreatDoor
open Go
attribute [local irreducible] AW AVle ASle RowLe
theorem ck_box {v e : Nat} {s : Bool} {b1 b2 l1 l2 r1 r2 : Int} {c : Nat → AV} (h0 : c 0 = .val (.bool s)) (h1 : c 1 = .val (.int .i64 b1)) (h2 : c 2 = .val (.int .i64 b2)) (h3 : c 3 = .val (.int .i64 l1)) (h4 : c 4 = .val (.int .i64 l2)) (h5 : c 5 = .val (.int .i64 r1)) (h6 : c 6 = .val (.int .i64 r2)) :
    RowLe (.box v e 7 c) (.box v e 7 (eCk.enc (s, (b1, b2), (l1, l2), r1, r2))) := RowLe.box fun j hj => AVle.of_eq (match j, hj with
  | 0, _ => h0
  | 1, _ => h1
  | 2, _ => h2
  | 3, _ => h3
  | 4, _ => h4
  | 5, _ => h5
  | 6, _ => h6)
theorem valI {a b : Int} (h : a = b) : AV.val (.int .i64 a) = AV.val (.int .i64 b) := by rw [h]
theorem fP_some {l r : List (Int × Int)} {t y w : Nat} (h1 : atL l t = y) (h2 : atL r t = w) : fP l r t = some ((t : Int), (y : Int), (w : Int)) := by
  unfold fP
  rw [h1, h2, if_neg (by omega)]
def sRefOfK : Spec := Spec.f5 kI kI kI (kL (eP eI eI)) (kL (eP eI eI)) (fun a b c l r => a < 100000000 ∧ b < 100000000 ∧ c < 100000000 ∧ l.length < 10000000 ∧ r.length < 10000000)
  (fun a b c l r => if fitK a b c l r then tu2 (sL eCk (ofK (a, b, c) (bothF l r) [] (0, 0, 0))) (kB.enc true) else tu2 .em (kB.enc false))
theorem okRefOfK : SpecOK Tryz.prog 36 sRefOfK := by
  refine SpecOK.f5 Tryz.func36 rfl (by decide) Tryz.results36 Tryz.ntmps36 (by decide) fun a b c l r ⟨ha, hb, hc, hl, hr⟩ => ?_
  have hΓ : GOK Tryz.prog (gam [(72, sRefRises), (73, sAtL)]) := (.cons okRefRises (.cons okAtL .nil))
  rcases hf : fitK a b c l r with _ | _
  · have hbad : (decide (a < 0) || decide (b < 0) || decide (c < 0) || !riseB a b (-1) (-1) l || !riseB a c (-1) (-1) r) = true := by
      cases h : (decide (a < 0) || decide (b < 0) || decide (c < 0) || !riseB a b (-1) (-1) l || !riseB a c (-1) (-1) r) with
      | true => rfl
      | false =>
        simp only [Bool.or_eq_false_iff, decide_eq_false_iff_not, Bool.not_eq_false'] at h
        obtain ⟨⟨⟨⟨h1, h2⟩, h3⟩, h4⟩, h5⟩ := h
        have : fitK a b c l r = true := by
          unfold fitK
          rw [h4, h5, decide_eq_true (by omega)]
          rfl
        rw [this] at hf
        cases hf
    refine AW.of hΓ mixed [3] _ _ _ rfl ?_
    simp only [go_sem, sRefRises, sAtL, hf]
    refine ⟨fun h => by simp [h], fun h => by rw [h]; rfl, fun _ => by omega, fun h => by rw [h]; rfl, fun _ => by omega, fun h => by rw [h]; rfl, fun h => by rw [hbad] at h; cases h⟩
  · have hf' := hf
    unfold fitK at hf'
    simp only [Bool.and_eq_true, decide_eq_true_eq] at hf'
    obtain ⟨⟨a0, b0, c0⟩, g1, g2⟩ := hf'
    have d1 : (a < 0) = False := eq_false (by omega)
    have d2 : (b < 0) = False := eq_false (by omega)
    have d3 : (c < 0) = False := eq_false (by omega)
    refine AW.of hΓ mixed [3] _ _ _ rfl ?_
    simp only [go_sem, sRefRises, sAtL, hf, d1, d2, d3, g1, g2]
    refine ⟨by omega, by omega, ?_⟩
    refine AW.adopt 12 115 7 (fun i => eCk.enc (([] : List Ck).getD i eCk.dflt)) rfl ?_
    refine AW.of hΓ mixed [4] _ _ _ rfl ?_
    simp only [go_sem, sRefRises, sAtL]
    obtain ⟨A, rfl⟩ : ∃ A : Nat, a = A := ⟨a.toNat, by omega⟩
    obtain ⟨B, rfl⟩ : ∃ B : Nat, b = B := ⟨b.toNat, by omega⟩
    obtain ⟨C, rfl⟩ : ∃ C : Nat, c = C := ⟨c.toNat, by omega⟩
    rw [both_all g1 g2]
    clear d1 d2 d3 hf a0 b0 c0
    refine AW.fork (AW.block (AW.round (α := { x : (Nat × Nat × Nat) × List Ck × Nat × Nat // (x.1.1 ≤ A ∧ x.1.2.1 ≤ B ∧ x.1.2.2 ≤ C) ∧ x.2.1.length ≤ x.1.1 + x.1.2.1 + x.1.2.2 ∧
        ofK ((A : Int), (B : Int), (C : Int)) (mF l r A 0) [] (0, 0, 0) = ofK ((A : Int), (B : Int), (C : Int)) (mF l r (A - x.1.1) x.1.1) x.2.1 ((x.1.1 : Int), (x.1.2.1 : Int), (x.1.2.2 : Int)) ∧
        (∀ z : Nat, x.1.1 ≤ z → atL l z = -1 ∨ (x.1.2.1 : Int) ≤ atL l z) ∧ (∀ z : Nat, x.1.1 ≤ z → atL r z = -1 ∨ (x.1.2.2 : Int) ≤ atL r z) ∧
        (lastSt x.2.1 = true → fP l r x.1.1 ≠ some ((x.1.1 : Int), (x.1.2.1 : Int), (x.1.2.2 : Int))) })
      (fun x => ⟨[(0, .val (.int .i64 A)), (1, .val (.int .i64 B)), (2, .val (.int .i64 C)), (3, sL (eP eI eI) l), (4, sL (eP eI eI) r), (12, .ow 0 x.1.2.2.1 x.1.2.1.length), (13, .val (.int .i64 x.1.1.1)), (14, .val (.int .i64 x.1.1.2.1)), (15, .val (.int .i64 x.1.1.2.2))],
        [(0, rowL x.1.2.2.1 115 eCk x.1.2.1)], 164, 1, x.1.2.2.2, []⟩) (fun x => A + B + C - x.1.1.1 - x.1.1.2.1 - x.1.1.2.2)
      ⟨((0, 0, 0), [], 0, 1), ⟨Nat.zero_le _, Nat.zero_le _, Nat.zero_le _⟩, Nat.zero_le _, rfl, fun z hz => ?_, fun z hz => ?_, fun h => by cases h⟩ ?_ ?_))
    · by_cases e : atL l z = -1
      · exact .inl e
      · have := at_in g1 z e
        exact .inr (by dsimp only; omega)
    · by_cases e : atL r z = -1
      · exact .inl e
      · have := at_in g2 z e
        exact .inr (by dsimp only; omega)
    · simp only [go_sem, sRefRises, sAtL]
      exact RowLe.refl _
    · rintro ⟨⟨⟨o, p, q⟩, s, v, nx⟩, ⟨ho, hp, hq⟩, hsl, hW, hL, hR, hlast⟩
      simp only at ho hp hq hsl hW hL hR hlast
      refine AW.of hΓ mixed [10, 99999] _ _ _ rfl ?_
      simp only [go_sem, sRefRises, sAtL]
      refine ⟨fun h => by rw [decide_eq_false h]; rfl, fun h => by rw [h]; rfl, fun hgo => ?_, fun hend => ?_⟩
      · simp only [Bool.or_eq_true, decide_eq_true_eq] at hgo
        refine AW.round (α := { x : Nat × Nat // o + x.1 ≤ A ∧ ∀ j, j < x.1 → fP l r (o + j) = some (((o + j : Nat) : Int), (p : Int) + j, (q : Int) + j) })
          (fun x => ⟨[(0, .val (.int .i64 A)), (1, .val (.int .i64 B)), (2, .val (.int .i64 C)), (3, sL (eP eI eI) l), (4, sL (eP eI eI) r), (12, .ow 0 v s.length), (13, .val (.int .i64 o)), (14, .val (.int .i64 p)), (15, .val (.int .i64 q)), (16, .val (.int .i64 x.1.1))],
            [(0, rowL v 115 eCk s)], 164, 1, x.1.2, []⟩) (fun x => A - o - x.1.1) ⟨(0, nx), by simpa using ho, fun j hj => absurd hj (Nat.not_lt_zero _)⟩ ?_ ?_
        · simp only [go_sem, sRefRises, sAtL]
          exact RowLe.refl _
        · rintro ⟨⟨k, n1⟩, hk, hfk⟩
          simp only at hk hfk
          have hpk : p + k ≤ B := by
            cases k with
            | zero => exact hp
            | succ k =>
              have h1 := hfk k (by omega)
              unfold fP at h1
              by_cases e : atL l ((o + k : Nat) : Int) = -1 ∨ atL r ((o + k : Nat) : Int) = -1
              · rw [if_pos e] at h1; cases h1
              · rw [if_neg e] at h1
                have h2 := Prod.mk.inj (Prod.mk.inj (Option.some.inj h1)).2
                have := at_in g1 _ (fun h => e (.inl h))
                omega
          have hqk : q + k ≤ C := by
            cases k with
            | zero => exact hq
            | succ k =>
              have h1 := hfk k (by omega)
              unfold fP at h1
              by_cases e : atL l ((o + k : Nat) : Int) = -1 ∨ atL r ((o + k : Nat) : Int) = -1
              · rw [if_pos e] at h1; cases h1
              · rw [if_neg e] at h1
                have h2 := Prod.mk.inj (Prod.mk.inj (Option.some.inj h1)).2
                have := at_in g2 _ (fun h => e (.inr h))
                omega
          have ec : ((o + k : Nat) : Int) = (o : Int) + k := by omega
          refine AW.of hΓ mixed [10, 99999] _ _ _ rfl ?_
          simp only [go_sem, sRefRises, sAtL]
          refine ⟨by omega, fun _ => by omega, fun _ => by omega, fun _ => by omega, fun _ => by omega, fun _ => by omega, fun _ => by omega, fun ⟨⟨h1, h2⟩, h3⟩ => ?_, fun hx => ?_⟩
          · refine ⟨by omega, ⟨(k + 1, n1), by dsimp only; omega, fun j hj => ?_⟩, ⟨Nat.le_refl _, by dsimp only; omega, RowLe.refl _⟩, by dsimp only; omega⟩
            dsimp only at hj
            rcases Nat.lt_or_ge j k with h' | h'
            · exact hfk j h'
            · obtain rfl : j = k := by omega
              unfold fP
              rw [ec, h2, h3, if_neg (by omega)]
          · refine ⟨by omega, by omega, by omega, ?_⟩
            have hstop : fP l r (o + k) ≠ some (((o + k : Nat) : Int), ((p + k : Nat) : Int), ((q + k : Nat) : Int)) := fun h => by
              unfold fP at h
              by_cases e : atL l ((o + k : Nat) : Int) = -1 ∨ atL r ((o + k : Nat) : Int) = -1
              · rw [if_pos e] at h; cases h
              · rw [if_neg e] at h
                have h2 := Prod.mk.inj (Prod.mk.inj (Option.some.inj h)).2
                have h3 := at_in g1 _ (fun h => e (.inl h))
                rw [ec] at h2 h3
                exact hx ⟨by omega, by omega⟩ (by omega)
            refine AW.to (fun x : { x : (Nat × Nat × Nat) × Bool × Nat // (x.1.1 ≤ A ∧ x.1.2.1 ≤ B ∧ x.1.2.2 ≤ C) ∧ o + p + q < x.1.1 + x.1.2.1 + x.1.2.2 ∧
                ofK ((A : Int), (B : Int), (C : Int)) (mF l r (A - o) o) s ((o : Int), (p : Int), (q : Int)) = ofK ((A : Int), (B : Int), (C : Int)) (mF l r (A - x.1.1) x.1.1) (s ++ [(x.2.1, ((o : Int), (x.1.1 : Int)), ((p : Int), (x.1.2.1 : Int)), ((q : Int), (x.1.2.2 : Int)))]) ((x.1.1 : Int), (x.1.2.1 : Int), (x.1.2.2 : Int)) ∧
                (∀ z : Nat, x.1.1 ≤ z → atL l z = -1 ∨ (x.1.2.1 : Int) ≤ atL l z) ∧ (∀ z : Nat, x.1.1 ≤ z → atL r z = -1 ∨ (x.1.2.2 : Int) ≤ atL r z) ∧
                (x.2.1 = true → fP l r x.1.1 ≠ some ((x.1.1 : Int), (x.1.2.1 : Int), (x.1.2.2 : Int))) } =>
              Sh.st ⟨[(0, .val (.int .i64 A)), (1, .val (.int .i64 B)), (2, .val (.int .i64 C)), (3, sL (eP eI eI) l), (4, sL (eP eI eI) r), (12, .ow 0 v s.length), (17, .pt 1 n1 0)],
                [(0, rowL v 115 eCk s), (1, .box n1 115 7 (eCk.enc (x.1.2.1, ((o : Int), (x.1.1.1 : Int)), ((p : Int), (x.1.1.2.1 : Int)), ((q : Int), (x.1.1.2.2 : Int)))))], 164, 2, x.1.2.2, []⟩) ?_ ?_
            · refine AW.of hΓ mixed [99999] _ _ _ rfl ?_
              simp only [go_sem, sRefRises, sAtL]
              refine ⟨fun hk0 => ?_, fun hk0 => ?_⟩
              · obtain rfl : k = 0 := by omega
                refine AW.round (α := { x : Nat × Nat // o ≤ x.1 ∧ x.1 ≤ A ∧ ∀ z, o ≤ z → z < x.1 → fP l r z = none })
                  (fun x => ⟨[(0, .val (.int .i64 A)), (1, .val (.int .i64 B)), (2, .val (.int .i64 C)), (3, sL (eP eI eI) l), (4, sL (eP eI eI) r), (12, .ow 0 v s.length), (13, .val (.int .i64 o)), (14, .val (.int .i64 p)), (15, .val (.int .i64 q)), (17, .pt 1 n1 0), (18, .val (.int .i64 x.1.1))],
                    [(0, rowL v 115 eCk s), (1, .box n1 115 7 (eCk.enc (false, ((o : Int), (o : Int)), ((p : Int), (p : Int)), ((q : Int), (q : Int)))))], 164, 2, x.1.2, []⟩) (fun x => A - x.1.1) ⟨(o, n1 + 1), Nat.le_refl _, ho, fun z h1 h2 => absurd h1 (by dsimp only at h2; omega)⟩ ?_ ?_
                · simp only [go_sem, sRefRises, sAtL]
                  exact ⟨RowLe.refl _, ck_box rfl rfl (valI (show (o : Int) + 0 = o by omega)) rfl (valI (show (p : Int) + 0 = p by omega)) rfl (valI (show (q : Int) + 0 = q by omega))⟩
                · rintro ⟨⟨t, n2⟩, hot, htA, hno⟩
                  simp only at hot htA hno
                  have hLt := hL t hot
                  have hRt := hR t hot
                  have hsk := mF_skip (l := l) (r := r) (A - o) o (t - o) (by omega) fun j hj => hno (o + j) (by omega) (by omega)
                  rw [show A - o - (t - o) = A - t by omega, show o + (t - o) = t by omega] at hsk
                  refine AW.of hΓ mixed [99999] _ _ _ rfl ?_
                  simp only [go_sem, sRefRises, sAtL]
                  refine ⟨fun _ => by omega, fun _ => by omega, fun h0 h1 => by rw [decide_eq_true h0, decide_eq_false h1]; rfl, fun ⟨h0, h1⟩ => ?_, fun hx => ⟨fun h0 => ?_, fun h0 => ?_⟩⟩
                  · simp only [Bool.or_eq_true, decide_eq_true_eq] at h1
                    refine ⟨by omega, ⟨(t + 1, n2), by dsimp only; omega, by dsimp only; omega, fun z hz1 hz2 => ?_⟩, ⟨Nat.le_refl _, by dsimp only; omega, RowLe.refl _, RowLe.refl _⟩, by dsimp only; omega⟩
                    dsimp only at hz2
                    rcases Nat.lt_or_ge z t with h' | h'
                    · exact hno z hz1 h'
                    · obtain rfl : z = t := by omega
                      unfold fP
                      rw [if_pos (by omega)]
                  · have hx := hx h0
                    simp only [Bool.or_eq_false_iff, decide_eq_false_iff_not] at hx
                    obtain ⟨y, hy⟩ : ∃ y : Nat, atL l t = y := ⟨(atL l t).toNat, by omega⟩
                    obtain ⟨w, hw⟩ : ∃ w : Nat, atL r t = w := ⟨(atL r t).toNat, by omega⟩
                    have hin1 := at_in g1 t (by omega)
                    have hin2 := at_in g2 t (by omega)
                    have hfs := fP_some hy hw
                    have hne : (((t : Int), (y : Int), (w : Int)) : Pl) ≠ ((o : Int), (p : Int), (q : Int)) := fun h => by
                      have h2 := Prod.mk.inj h
                      obtain rfl : t = o := by omega
                      exact hstop (by rw [Nat.add_zero, hfs, h]; simp)
                    obtain ⟨m, hm⟩ : ∃ m, A - t = m + 1 := ⟨A - t - 1, by omega⟩
                    refine ⟨by omega, by omega, ⟨((t, y, w), false, n2), ⟨by dsimp only; omega, by dsimp only; omega, by dsimp only; omega⟩, ?_, ?_, fun z hz => ?_, fun z hz => ?_, fun h => by cases h⟩, toFits ?_⟩
                    · dsimp only
                      rcases Nat.lt_or_ge (o + p + q) (t + y + w) with h' | h'
                      · exact h'
                      · exact absurd (by rw [show t = o by omega, show y = p by omega, show w = q by omega]) hne
                    · dsimp only
                      rw [hsk, hm, mF_some hfs, of_gap hne]
                      rfl
                    · dsimp only at hz ⊢
                      by_cases e : atL l z = -1
                      · exact .inl e
                      · rcases Nat.lt_or_ge t z with h' | h'
                        · have := at_mono g1 (t : Int) z (by omega) (by omega) e
                          exact .inr (by omega)
                        · obtain rfl : z = t := by omega
                          exact .inr (by omega)
                    · dsimp only at hz ⊢
                      by_cases e : atL r z = -1
                      · exact .inl e
                      · rcases Nat.lt_or_ge t z with h' | h'
                        · have := at_mono g2 (t : Int) z (by omega) (by omega) e
                          exact .inr (by omega)
                        · obtain rfl : z = t := by omega
                          exact .inr (by omega)
                    · simp only [go_sem, sRefRises, sAtL]
                      exact ⟨RowLe.refl _, ck_box rfl rfl rfl rfl (valI hy) rfl (valI hw)⟩
                  · obtain rfl : t = A := by omega
                    have hne : ¬ (((o : Int), (p : Int), (q : Int)) : Pl) = ((t : Int), (B : Int), (C : Int)) := fun h => by
                      have h2 := Prod.mk.inj h
                      have h3 := Prod.mk.inj h2.2
                      omega
                    refine ⟨⟨((t, B, C), false, n2), ⟨Nat.le_refl _, Nat.le_refl _, Nat.le_refl _⟩, by dsimp only; omega, ?_, fun z hz => ?_, fun z hz => ?_, fun h => by cases h⟩, toFits ?_⟩
                    · dsimp only
                      rw [hsk, Nat.sub_self, mF, ofK, ofK, if_neg hne, if_pos rfl]
                      rfl
                    · dsimp only at hz ⊢
                      by_cases e : atL l z = -1
                      · exact .inl e
                      · have := at_in g1 z e
                        omega
                    · dsimp only at hz ⊢
                      by_cases e : atL r z = -1
                      · exact .inl e
                      · have := at_in g2 z e
                        omega
                    · simp only [go_sem, sRefRises, sAtL]
                      exact ⟨RowLe.refl _, ck_box rfl rfl rfl rfl rfl rfl rfl⟩
              · obtain ⟨k, rfl⟩ : ∃ m, k = m + 1 := ⟨k - 1, by omega⟩
                have hs : lastSt s = false := by
                  cases h : lastSt s with
                  | false => rfl
                  | true =>
                    have h0 := hfk 0 (by omega)
                    exact absurd (by simpa using h0) (hlast h)
                have hrun := of_run (ends := ((A : Int), (B : Int), (C : Int))) hs (A - o) o (p : Int) (q : Int) (k + 1) (by omega) (by omega) hfk
                have hlk : atL l ((o + k : Nat) : Int) = (p : Int) + k ∧ atL r ((o + k : Nat) : Int) = (q : Int) + k := by
                  have h1 := hfk k (by omega)
                  unfold fP at h1
                  by_cases e : atL l ((o + k : Nat) : Int) = -1 ∨ atL r ((o + k : Nat) : Int) = -1
                  · rw [if_pos e] at h1; cases h1
                  · rw [if_neg e] at h1
                    have h2 := Prod.mk.inj (Prod.mk.inj (Option.some.inj h1)).2
                    exact h2
                refine ⟨⟨((o + (k + 1), p + (k + 1), q + (k + 1)), true, n1 + 1), ⟨by dsimp only; omega, by dsimp only; omega, by dsimp only; omega⟩, by dsimp only; omega, ?_, fun z hz => ?_, fun z hz => ?_, fun _ => hstop⟩, toFits ?_⟩
                · simp only [Int.natCast_add, Nat.sub_sub] at hrun ⊢
                  exact hrun
                · dsimp only at hz ⊢
                  by_cases e : atL l z = -1
                  · exact .inl e
                  · have := at_mono g1 ((o + k : Nat) : Int) z (by omega) (by omega) e
                    exact .inr (by omega)
                · dsimp only at hz ⊢
                  by_cases e : atL r z = -1
                  · exact .inl e
                  · have := at_mono g2 ((o + k : Nat) : Int) z (by omega) (by omega) e
                    exact .inr (by omega)
                · simp only [go_sem, sRefRises, sAtL]
                  exact ⟨RowLe.refl _, ck_box (by show AV.val (.bool (decide (0 < ((k + 1 : Nat) : Int)))) = _; rw [decide_eq_true (by omega)]) rfl (valI (show (o : Int) + ((k + 1 : Nat) : Int) = ((o + (k + 1) : Nat) : Int) by omega)) rfl (valI (show (p : Int) + ((k + 1 : Nat) : Int) = ((p + (k + 1) : Nat) : Int) by omega)) rfl (valI (show (q : Int) + ((k + 1 : Nat) : Int) = ((q + (k + 1) : Nat) : Int) by omega))⟩
            · rintro ⟨⟨⟨o', p', q'⟩, st, n2⟩, ⟨ho', hp', hq'⟩, hlt, hW', hL', hR', hlast'⟩
              simp only at ho' hp' hq' hlt hW' hL' hR' hlast'
              simp only [go_sem, sRefRises, sAtL]
              refine ⟨by omega, ⟨((o', p', q'), s ++ [(st, ((o : Int), (o' : Int)), ((p : Int), (p' : Int)), ((q : Int), (q' : Int)))], n2, n2 + 1), ⟨ho', hp', hq'⟩, by simp; omega, by dsimp only; rw [hW, hW'], hL', hR', fun h => hlast' (by rw [last_snoc] at h; exact h)⟩, ⟨Nat.le_refl _, ⟨⟨rfl, by simp⟩, rfl, rfl, rfl⟩, ?_⟩, by dsimp only; omega⟩
              exact row_app1 (E := eCk) rfl rfl rfl rfl (by simp) fun j hj => AVle.refl _
      · simp only [Bool.or_eq_false_iff, decide_eq_false_iff_not] at hend
        refine AW.of hΓ mixed [] _ _ _ rfl ?_
        simp only [go_sem, sRefRises, sAtL]
        obtain rfl : o = A := by omega
        obtain rfl : p = B := by omega
        obtain rfl : q = C := by omega
        rw [hW, Nat.sub_self, mF, ofK, if_pos rfl]
        exact vw_all (E := eCk) rfl rfl rfl
end Go.Proofs.YtjfmigpahglajaaGreatDoor
set_option linter.unusedSimpArgs false
set_option linter.unusedVariables false
namespace Go.Proofs.YtjfmigpahglajaaGreatDoor
open Go
theorem sumP_app (a b : List Pt) : sumP (a ++ b) = sumP a + sumP b := by simp [sumP]
theorem sumP_one (p : Pt) : sumP [p] = lenP p := by simp [sumP]
theorem len_textP (t : BS) : lenP (textP t) = t.length := by
  show t.length + 0 + 0 + 0 + 0 + 0 + 0 = _
  omega
theorem join_sumP (out : List Pt) (p : Pt) : sumP (joinR out p) ≤ sumP out + lenP p := by
  cases hp : isTextD p with
  | false => rw [join_no hp, sumP_app, sumP_one]; exact Nat.le_refl _
  | true =>
    rcases join_cases out p hp with ⟨_, e⟩ | ⟨_, ⟨m, q, rfl, hq, e⟩ | ⟨_, e⟩⟩
    · rw [e]; omega
    · rw [e, sumP_app, sumP_app, sumP_one, sumP_one, len_textP, List.length_append]
      have h1 : (txP q).length ≤ lenP q := by unfold lenP txP; omega
      have h2 : (txP p).length ≤ lenP p := by unfold lenP txP; omega
      omega
    · rw [e, sumP_app, sumP_one]; exact Nat.le_refl _
theorem fold_sumP : ∀ (l out : List Pt), sumP (l.foldl joinR out) ≤ sumP out + sumP l
  | [], _ => by simp [sumP]
  | p :: l, out => by
    have h1 := fold_sumP l (joinR out p)
    have h2 := join_sumP out p
    have h3 : sumP (p :: l) = lenP p + sumP l := by simp [sumP]
    rw [List.foldl_cons]
    omega
theorem of_sumP (l : List Pt) : sumP (ofD l) ≤ sumP l := by
  rw [ofD_eq]
  have := fold_sumP l []
  have e : sumP [] = 0 := rfl
  omega
theorem sum_okPt {d : List Pt} (h : sumP d ≤ 100000000) : ∀ p ∈ d, okPt p := fun p hp => by
  have := sumP_mem hp
  unfold lenP at this
  unfold okPt txP
  omega
end Go.Proofs.YtjfmigpahglajaaGreatDoor
set_option linter.unusedSimpArgs false
set_option linter.unusedVariables false
set_option maxRecDepth 100000
set_option maxHeartbeats 4000000
namespace Go.Proofs.YtjfmigpahglajaaGreatDoor
open Go
attribute [local irreducible] AW AVle ASle RowLe
theorem keeps_sL {α : Type} {E : El α} {l : List α} {j i : Nat} {row : Row} {r : List (Nat × AV × Row)} {st : AS} : keeps j ((i, sL E l, row) :: r) st = keeps j r st := rfl
def filesF (a b c : BS) : Fl := (splitL a, splitL b, splitL c)
end Go.Proofs.YtjfmigpahglajaaGreatDoor
set_option linter.unusedSimpArgs false
set_option linter.unusedVariables false
set_option maxRecDepth 100000
namespace Go.Proofs.YtjfmigpahglajaaGreatDoor
open Go
theorem of_lenM (ends : Pl) : ∀ (M : List Pl) (s : List Ck) (t : Pl), (ofK ends M s t).length ≤ s.length + 2 * M.length + 1
  | [], s, t => by
    rw [ofK]
    split
    · omega
    · simp
  | p :: M, s, t => by
    rw [ofK]
    have h1 := stretch_len (if p = t then s else s ++ [btw t p]) p
    have h2 : (if p = t then s else s ++ [btw t p]).length ≤ s.length + 1 := by
      split
      · omega
      · simp
    have h3 := of_lenM ends M (stretchF (if p = t then s else s ++ [btw t p]) p) (nextP p)
    simp only [List.length_cons]
    omega
theorem mrgK_len (f : Fl) : (mrgK f).length ≤ 2 * f.1.length + 1 ∧ (mrgK f).length ≤ 2 * f.2.1.length + 1 := by
  have h1 := of_lenM (f.1.length, f.2.1.length, f.2.2.length) (bothF (prsF f.1 f.2.1) (prsF f.1 f.2.2)) [] (0, 0, 0)
  have h2 := both_len _ (prsF f.1 f.2.1) (prsF f.1 f.2.2) (Nat.le_refl _)
  have h3 := prsF_len f.1 f.2.1
  unfold mrgK cksF
  simp only [List.length_nil] at h1
  omega
def lbN (lb : BS × BS × BS) : Nat := lb.1.length + lb.2.1.length + lb.2.2.length
theorem sumP_ck {f : Fl} (st : Int) (lb : BS × BS × BS) (v : Int) (c : Ck) : sumP (ckPs f st lb v c) ≤ (cutB f c).flatten.length + (cutO f c).flatten.length + (cutT f c).flatten.length + lbN lb := by
  unfold ckPs
  split
  · have hh := hoist_le st (cutO f c) (cutT f c)
    have e1 : ∀ a b d : Pt, sumP [a, b, d] = lenP a + lenP b + lenP d := fun a b d => by
      rw [show [a, b, d] = [a] ++ ([b] ++ [d]) from rfl, sumP_app, sumP_app, sumP_one, sumP_one, sumP_one]
      omega
    have e2 := cut3 (O := cutO f c) (u := (hoistF st (cutO f c) (cutT f c)).1) (j := (cutO f c).length - (hoistF st (cutO f c) (cutT f c)).2) (by omega)
    have e3 := cut3 (O := cutT f c) (u := (hoistF st (cutO f c) (cutT f c)).1) (j := (cutT f c).length - (hoistF st (cutO f c) (cutT f c)).2) (by omega)
    have s5 : (if st = 0 then [] else (cutB f c).flatten).length ≤ (cutB f c).flatten.length := by
      split
      · exact Nat.zero_le _
      · exact Nat.le_refl _
    have s6 : (if st = 0 then [] else lb.2.1).length ≤ lb.2.1.length := by
      split
      · exact Nat.zero_le _
      · exact Nat.le_refl _
    unfold confL
    rw [e1, len_textP, len_textP]
    unfold lenP confP lbN
    dsimp only
    simp only [List.length_nil]
    omega
  · rw [sumP_one, len_textP]
    unfold sideF
    split
    · omega
    · split
      · omega
      · split <;> omega
theorem sumP_mrg (f : Fl) (st : Int) (lb : BS × BS × BS) (v : Int) : sumP ((mrgK f).flatMap (ckPs f st lb v)) ≤ f.1.flatten.length + f.2.1.flatten.length + f.2.2.flatten.length + (mrgK f).length * lbN lb := by
  have key : ∀ L : List Ck, sumP (L.flatMap (ckPs f st lb v)) ≤ (L.map (cutB f)).flatten.flatten.length + (L.map (cutO f)).flatten.flatten.length + (L.map (cutT f)).flatten.flatten.length + L.length * lbN lb := by
    intro L
    induction L with
    | nil => simp [sumP]
    | cons c L ih =>
      have := sumP_ck (f := f) st lb v c
      simp only [List.flatMap_cons, sumP_app, List.map_cons, List.flatten_cons, List.flatten_append, List.length_append, List.length_cons, Nat.succ_mul]
      omega
  have := key (mrgK f)
  rw [spanB, spanO, spanT] at this
  exact this
theorem flat_three (f : Fl) (st : Int) (lb : BS × BS × BS) (v : Int) : ∀ L : List Ck, (L.flatMap (ckPs f st lb v)).length ≤ 3 * L.length
  | [] => by simp
  | c :: L => by
    have h1 := flat_three f st lb v L
    have h4 := ckPs_len f st lb v c
    rw [List.flatMap_cons, List.length_append, List.length_cons]
    omega
def mrgW (w : Int) (a b c : BS) : Int := max w ((longT [a, b, c] : Nat) + 1)
def mrgD (a b c : BS) (st : Int) (lb : BS × BS × BS) (v : Int) : List Pt := ofD ((mrgK (filesF a b c)).flatMap (ckPs (filesF a b c) st lb v))
def okM (a b c : BS) : Prop := a.length ≤ 3000000 ∧ b.length ≤ 3000000 ∧ c.length ≤ 3000000 ∧ ((splitL a).length ≤ 300 ∨ (splitL b).length ≤ 300)
theorem fits_mono {d : List Pt} {m w : Int} (h : fitsD d m = true) (hw : m ≤ w) : fitsD d w = true := by
  unfold fitsD at h ⊢
  rw [Bool.and_eq_true, decide_eq_true_eq, decide_eq_true_eq] at h ⊢
  exact ⟨by omega, fun p hp => by have := h.2 p hp; omega⟩
theorem files_w (a b c : BS) : wholeF (filesF a b c) := ⟨wholeL_splitL _ a (Nat.le_refl _), wholeL_splitL _ b (Nat.le_refl _), wholeL_splitL _ c (Nat.le_refl _)⟩
theorem files_sh (a b c : BS) : shF (longT [a, b, c] + 1) (filesF a b c) := by
  have key : ∀ s ∈ [a, b, c], ∀ x ∈ splitL s, runL x < longT [a, b, c] + 1 := fun s hs x hx => by
    have h1 := longL_mem hx
    have h2 := longT_mem hs
    omega
  exact ⟨key a (by simp), key b (by simp), key c (by simp)⟩
theorem files_flat (a b c : BS) : (filesF a b c).1.flatten = a ∧ (filesF a b c).2.1.flatten = b ∧ (filesF a b c).2.2.flatten = c := ⟨splitL_flat a, splitL_flat b, splitL_flat c⟩
theorem longT_bnd {a b c : BS} {n : Nat} (ha : a.length ≤ n) (hb : b.length ≤ n) (hc : c.length ≤ n) : longT [a, b, c] ≤ n := by
  refine longT_leM fun s hs => longL_leM fun x hx => ?_
  have h1 := runL_le x
  have h2 : x.length ≤ s.length := by
    have h3 : x.length ≤ (splitL s).flatten.length := by
      have := List.sublist_flatten_of_mem hx
      exact this.length_le
    rw [splitL_flat] at h3
    exact h3
  simp only [List.mem_cons, List.not_mem_nil, or_false] at hs
  rcases hs with rfl | rfl | rfl <;> omega
structure MrgF (a b c : BS) (w st : Int) (lb : BS × BS × BS) (v : Int) : Prop where
  ok : okFl (filesF a b c)
  len : (mrgK (filesF a b c)).length ≤ 601
  sum : sumT ((mrgK (filesF a b c)).flatMap (ckPs (filesF a b c) st lb v)) ≤ 1000000000
  right : rightD (mrgD a b c st lb v) = true
  fits : fitsD (mrgD a b c st lb v) (mrgW w a b c) = true
  wide : wideM (mrgW w a b c) = true
  wle : mrgW w a b c ≤ 3000001
  dlen : (mrgD a b c st lb v).length ≤ 1803
  sump : sumP (mrgD a b c st lb v) ≤ 20000000
  pr : (printL (mrgW w a b c) (mrgD a b c st lb v)).length ≤ 90000000000
  confl : v = 0 → conflD (mrgD a b c st lb v) = cntF (filesF a b c) (mrgK (filesF a b c))
theorem mrg_facts {a b c : BS} (h : okM a b c) {w : Int} (hw : 7 ≤ w ∧ w ≤ 64) (st : Int) {lb : BS × BS × BS} (hl : lbN lb ≤ 3000) (hp : plainLb lb = true) (v : Int) : MrgF a b c w st lb v := by
  obtain ⟨h1, h2, h3, h4⟩ := h
  have l1 := splitL_len a
  have l2 := splitL_len b
  have l3 := splitL_len c
  have e1 := mrgK_len (filesF a b c)
  have e2 : (filesF a b c).1.length = (splitL a).length := rfl
  have e3 : (filesF a b c).2.1.length = (splitL b).length := rfl
  obtain ⟨f1, f2, f3⟩ := files_flat a b c
  have hk : (mrgK (filesF a b c)).length ≤ 601 := by omega
  have hT := sumT_mrg (filesF a b c) st lb v
  have hS := sumP_mrg (filesF a b c) st lb v
  have h3' := flat_three (filesF a b c) st lb v (mrgK (filesF a b c))
  have hD := (ofD_sum ((mrgK (filesF a b c)).flatMap (ckPs (filesF a b c) st lb v))).2
  have hE := of_sumP ((mrgK (filesF a b c)).flatMap (ckPs (filesF a b c) st lb v))
  have hm : (mrgK (filesF a b c)).length * lbN lb ≤ 601 * 3000 := Nat.mul_le_mul hk hl
  rw [f1, f2, f3] at hT hS
  have hlT := longT_bnd h1 h2 h3
  have hW : 1 ≤ mrgW w a b c ∧ mrgW w a b c ≤ 3000001 := by unfold mrgW; omega
  have hdl : (mrgD a b c st lb v).length ≤ 1803 := by unfold mrgD; omega
  have hsp : sumP (mrgD a b c st lb v) ≤ 20000000 := by unfold mrgD; omega
  have hfit := doc_fits (m := longT [a, b, c] + 1) (Nat.succ_pos _) (files_w a b c) (files_sh a b c) (mrg_ch _) (mrg_good _) (st := st) (v := v) hp
  refine ⟨⟨⟨by omega, ?_⟩, ⟨by omega, ?_⟩, ?_, ?_⟩, hk, by omega, doc_right (files_w a b c) (mrg_ch _) (mrg_good _) hp, fits_mono hfit (by unfold mrgW; omega), ?_, hW.2, hdl, hsp, ?_, fun hv => ?_⟩
  · rw [f1]; omega
  · rw [f2]; omega
  · show (splitL c).length ≤ _; omega
  · rw [f3]; omega
  · rw [wide_iff]; omega
  · have q1 := printL_len (mrgW w a b c) (mrgD a b c st lb v)
    have q2 : (mrgD a b c st lb v).length * (4 * (mrgW w a b c).toNat + 15) ≤ 1803 * (4 * 3000001 + 15) := Nat.mul_le_mul hdl (by omega)
    omega
  · subst hv
    unfold mrgD
    rw [of_confl, doc_confl]
theorem mrg_text {a b c : BS} {w st : Int} {lb : BS × BS × BS} {v : Int} (h : MrgF a b c w st lb v) : printR (mrgD a b c st lb v) (mrgW w a b c) = (printL (mrgW w a b c) (mrgD a b c st lb v), 0) := by
  unfold printR
  rw [if_neg (by rw [h.wide]; simp), if_neg (by rw [h.right]; simp), if_neg (by rw [h.fits]; simp)]
theorem mrg_back {a b c : BS} {w st : Int} {lb : BS × BS × BS} {v : Int} (h : MrgF a b c w st lb v) : textR (printL (mrgW w a b c) (mrgD a b c st lb v)) (mrgW w a b c) = (mrgD a b c st lb v, 0, 0) := text_back h.wide h.right h.fits
theorem sum_okPs {d : List Pt} (h : sumP d ≤ 100000000) : ∀ p ∈ d, okPs p := fun p hp => by
  have := sumP_mem hp
  unfold lenP at this
  unfold okPs txP
  omega
theorem doc_mrg {a b c : BS} {st : Int} {lb : BS × BS × BS} {v : Int} (h1 : (styOK st && favOK v) = true) (h2 : plainLb lb = true) : docF (filesF a b c) (mrgK (filesF a b c)) st lb v = (mrgD a b c st lb v, 0) := by
  unfold docF
  rw [if_neg (by rw [h1]; simp), if_neg (by rw [h2]; simp)]
  rfl
theorem mrg_clean {a b c : BS} (h : ∀ k ∈ mrgK (filesF a b c), clsF (filesF a b c) k ≠ 4) (st : Int) (lb : BS × BS × BS) (v w : Int) : printL w (mrgD a b c st lb v) = favT (filesF a b c) (mrgK (filesF a b c)) 1 := clean_print h st lb v w
theorem mrg_short {a b c : BS} (ha : a.length ≤ 250) (hb : b.length ≤ 250) (hc : c.length ≤ 250) {w : Int} (hw : 7 ≤ w ∧ w ≤ 64) (st : Int) {lb : BS × BS × BS} (hl : lbN lb ≤ 500) (v : Int) : (printL (mrgW w a b c) (mrgD a b c st lb v)).length ≤ 3000000 := by
  have l1 := splitL_len a
  have e1 := mrgK_len (filesF a b c)
  have e2 : (filesF a b c).1.length = (splitL a).length := rfl
  obtain ⟨f1, f2, f3⟩ := files_flat a b c
  have hk : (mrgK (filesF a b c)).length ≤ 501 := by omega
  have hS := sumP_mrg (filesF a b c) st lb v
  have h3' := flat_three (filesF a b c) st lb v (mrgK (filesF a b c))
  have hD := (ofD_sum ((mrgK (filesF a b c)).flatMap (ckPs (filesF a b c) st lb v))).2
  have hE := of_sumP ((mrgK (filesF a b c)).flatMap (ckPs (filesF a b c) st lb v))
  have hm : (mrgK (filesF a b c)).length * lbN lb ≤ 501 * 500 := Nat.mul_le_mul hk hl
  rw [f1, f2, f3] at hS
  have hlT := longT_bnd ha hb hc
  have hW : 1 ≤ mrgW w a b c ∧ mrgW w a b c ≤ 251 := by unfold mrgW; omega
  have hdl : (mrgD a b c st lb v).length ≤ 1503 := by unfold mrgD; omega
  have hsp : sumP (mrgD a b c st lb v) ≤ 260000 := by unfold mrgD; omega
  have q1 := printL_len (mrgW w a b c) (mrgD a b c st lb v)
  have q2 : (mrgD a b c st lb v).length * (4 * (mrgW w a b c).toNat + 15) ≤ 1503 * (4 * 251 + 15) := Nat.mul_le_mul hdl (by omega)
  omega
end Go.Proofs.YtjfmigpahglajaaGreatDoor
set_option linter.unusedSimpArgs false
set_option linter.unusedVariables false
set_option maxRecDepth 100000
set_option maxHeartbeats 2000000
namespace Go.Proofs.YtjfmigpahglajaaGreatDoor
open Go
attribute [local irreducible] AW AVle ASle RowLe
def wAV (x y z : AV) : AV := .ag 3 fun j => if j = 0 then x else if j = 1 then y else z
def kW : Kd (List Int × List Int × List Int) where
  enc w := wAV (sL eI w.1) (sL eI w.2.1) (sL eI w.2.2)
  dec | .ag _ c => (gL eI (c 0), gL eI (c 1), gL eI (c 2))
      | _ => ([], [], [])
  law w := by simp only [wAV, Nat.one_ne_zero, if_true, if_false, (by decide : (2 : Nat) ≠ 0), (by decide : (2 : Nat) ≠ 1), gL_sL]
theorem kW_ok {a b f : List Int} {c : Nat → AV} (h0 : AVle (c 0) (sL eI a)) (h1 : AVle (c 1) (sL eI b)) (h2 : AVle (c 2) (sL eI f)) (e0 : gL eI (c 0) = a) (e1 : gL eI (c 1) = b) (e2 : gL eI (c 2) = f) : kW.ok (.ag 3 c) := by
  subst e0 e1 e2
  refine AVle.ag fun j hj => ?_
  match j, hj with
  | 0, _ => exact h0
  | 1, _ => exact h1
  | 2, _ => exact h2
theorem kW_dec (c : Nat → AV) : kW.dec (.ag 3 c) = (gL eI (c 0), gL eI (c 1), gL eI (c 2)) := rfl

def big (n : Int) : Prop := 0 ≤ n ∧ n < 1000000000
def sDiagonals : Spec := Spec.f3 kI kI kI (fun d n m => big d ∧ big n ∧ big m) (fun d n m => tu2 (kI.enc (lowD d.toNat m.toNat)) (kI.enc (highD d.toNat n.toNat)))
theorem okDiagonals : SpecOK Tryz.prog 185 sDiagonals := by
  refine SpecOK.f3 Tryz.func185 rfl (by decide) Tryz.results185 Tryz.ntmps185 (by decide) fun d n m hd => ?_
  have hΓ : GOK Tryz.prog (gam []) := GOK.nil
  obtain ⟨⟨h1, h2⟩, ⟨h3, h4⟩, h5, h6⟩ := hd
  have hl : lowD d.toNat m.toNat = if m < d then -m + (d - m).tmod 2 else -d := by
    unfold lowD
    rw [Int.toNat_of_nonneg h1, Int.toNat_of_nonneg h5]
  have hh : highD d.toNat n.toNat = if n < d then n - (d - n).tmod 2 else d := by
    unfold highD
    rw [Int.toNat_of_nonneg h1, Int.toNat_of_nonneg h3]
  have t1 : m < d → (d - m).tmod 2 = (d - m) % 2 := fun h => tmod2 _ (by omega)
  have t2 : n < d → (d - n).tmod 2 = (d - n) % 2 := fun h => tmod2 _ (by omega)
  have b1 : m < d → 0 ≤ (d - m).tmod 2 ∧ (d - m).tmod 2 ≤ 1 := fun h => by rw [t1 h]; omega
  have b2 : n < d → 0 ≤ (d - n).tmod 2 ∧ (d - n).tmod 2 ≤ 1 := fun h => by rw [t2 h]; omega
  rw [hl, hh]
  refine AW.of hΓ mixed [99999] _ _ _ rfl ?_
  simp only [go_sem]
  clear hl hh t1 t2
  generalize (d - m).tmod 2 = r1 at *
  generalize (d - n).tmod 2 = r2 at *
  refine ⟨by omega, fun g1 => ?_, fun g1 => ?_⟩
  · have := b1 g1
    simp only [if_pos g1]
    refine ⟨by omega, by omega, by omega, fun g2 => ?_, fun g2 => ?_⟩
    · have := b2 g2
      simp only [if_pos g2]
      exact ⟨by omega, by omega, by trivial, by trivial⟩
    · simp only [if_neg g2]
      exact ⟨by trivial, by trivial⟩
  · simp only [if_neg g1]
    refine ⟨fun g2 => ?_, fun g2 => ?_⟩
    · have := b2 g2
      simp only [if_pos g2]
      exact ⟨by omega, by omega, by trivial, by trivial⟩
    · simp only [if_neg g2]
      exact ⟨by trivial, by trivial⟩
def sReached : Spec := Spec.f2 kW kI (fun w k => -(w.2.1.length : Int) - 1 ≤ k ∧ k ≤ w.1.length + 1 ∧ w.2.2.length = w.1.length + w.2.1.length + 3 ∧ w.2.2.length < 1000000000) (fun w k => kI.enc (rch w.2.1.length w.2.2 k))
theorem okReached : SpecOK Tryz.prog 187 sReached := by
  refine SpecOK.f2 Tryz.func187 rfl (by decide) Tryz.results187 Tryz.ntmps187 (by decide) fun w k hd => ?_
  have hΓ : GOK Tryz.prog (gam []) := GOK.nil
  obtain ⟨a, b, far⟩ := w
  simp only at hd
  refine AW.of hΓ mixed [99999] _ _ _ rfl ?_
  simp only [go_sem, kW, wAV]
  exact ⟨by omega, by omega, by omega, rfl⟩
def okFar (far : List Int) : Prop := ∀ y ∈ far, -1 ≤ y ∧ y < 1000000000
theorem gL_part (l r : List Int) : gL eI (.sn l.length 1 fun i => eI.enc ((l ++ r).getD i 0)) = l := by
  unfold gL
  simp only [eI.law]
  apply List.ext_getElem
  · simp
  · intro i h1 h2
    simp [List.getD, List.getElem?_append_left h2, List.getElem?_eq_getElem h2]
theorem part_le (l r : List Int) : AVle (.sn l.length 1 fun i => eI.enc ((l ++ r).getD i 0)) (sL eI l) :=
  vw_row (E := eI) rfl rfl (by simp) (by simp)
def sAdvance0 : MSpec := fun args hp top nx K => ∃ a b far rest k ver x far', args = [wAV (sL eI a) (sL eI b) (.ow 0 ver far.length), kI.enc k] ∧ hp = rws [(0, rowL ver 3 eI (far ++ rest))] ∧ top = 1 ∧
  okFar far ∧ a.length < 100000000 ∧ b.length < 100000000 ∧ advF a b far k = some (x, far') ∧ ∀ hp' top' nx', RowLe (hp' 0) (rowL ver 3 eI (far' ++ rest)) → nx ≤ nx' → K (kI.enc x) hp' top' nx'
theorem okAdvance0 : MethOK Tryz.prog 186 sAdvance0 := by
  refine MethOK.mk Tryz.func186 rfl (by decide) Tryz.results186 Tryz.ntmps186 ?_
  rintro args hp top nx K ⟨a, b, far, rest, k, ver, x, far', rfl, rfl, rfl, hfar, ha, hb, hadv, hK⟩
  have hΓ : GOK Tryz.prog (gam [(187, sReached)]) := (.cons okReached .nil)
  refine ⟨Nat.le_of_ble_eq_true rfl, ?_⟩
  unfold advF at hadv
  split at hadv
  · rename_i hc
    obtain ⟨c1, c2, c3, c4, c5⟩ := hc
    have hr : ∀ j : Int, -(b.length : Int) - 1 ≤ j → j ≤ a.length + 1 → -1 ≤ rch b.length far j ∧ rch b.length far j < 1000000000 := fun j h1 h2 => by
      unfold rch
      rw [gd_lt _ _ (by omega)]
      exact hfar _ (List.getElem_mem _)
    have hu := hr (k - 1) (by omega) (by omega)
    have hv := hr (k + 1) (by omega) (by omega)
    have hs : startD a b (rch b.length far (k - 1)) (rch b.length far (k + 1)) k = min (min (max (rch b.length far (k - 1) + 1) (rch b.length far (k + 1))) ↑a.length) (↑b.length + k) := rfl
    simp only [Option.some.injEq, Prod.mk.injEq] at hadv
    obtain ⟨hx, hfar'⟩ := hadv
    generalize hsg : startD a b (rch b.length far (k - 1)) (rch b.length far (k + 1)) k = s at *
    have s1 : s ≤ a.length := by omega
    have s2 : s ≤ b.length + k := by omega
    have hal := ahd_le (a.drop s.toNat) (b.drop (s - k).toNat)
    have has := ahd_spec 0 (a.drop s.toNat) (b.drop (s - k).toNat)
    simp only [List.length_drop, getD_drop'] at hal has
    refine AW.of hΓ mixed [] _ _ _ rfl ?_
    simp only [go_sem, sReached, kW_dec, wAV, gL_sL, gL_part]
    refine ⟨by omega, ⟨by omega, kW_ok (a := a) (b := b) (f := far) (AVle.refl _) (AVle.refl _) (part_le far rest) (gL_sL _ _) (gL_sL _ _) (gL_part far rest), by omega, by omega, by omega, by omega⟩, by omega, by omega, ⟨by omega, kW_ok (a := a) (b := b) (f := far) (AVle.refl _) (AVle.refl _) (part_le far rest) (gL_sL _ _) (gL_sL _ _) (gL_part far rest), by omega, by omega, by omega, by omega⟩, by omega, ?_⟩
    rw [← hs]
    refine AW.round (α := { i : Nat // i ≤ ahd (a.drop s.toNat) (b.drop (s - k).toNat) })
      (fun i => ⟨[(1, .val (.int .i64 k)), (2, .pt 1 nx 0), (5, .val (.int .i64 (s + i.1)))], [(0, rowL ver 3 eI (far ++ rest)), (1, .box nx 225 3 fun j => if j = 0 then sL eI a else if j = 1 then sL eI b else .ow 0 ver far.length)], 68, 2, nx + 1, []⟩) (fun i => a.length - i.1) ⟨0, Nat.zero_le _⟩ ?_ ?_
    · simp only [go_sem, sReached]
      exact ⟨by omega, RowLe.refl _, RowLe.refl _⟩
    · rintro ⟨i, hi⟩
      refine AW.of hΓ mixed [99999] _ _ _ rfl ?_
      simp only [go_sem, sReached]
      have t1 : (s + i).toNat = s.toNat + i := by omega
      have t2 : (s + i - k).toNat = (s - k).toNat + i := by omega
      refine ⟨fun _ => by omega, fun h => by omega, fun _ => by omega, fun h => by omega, fun ⟨⟨h1, h2⟩, h3⟩ => ⟨by omega, ⟨i + 1, ?_⟩, ⟨by dsimp only; omega, RowLe.refl _, RowLe.refl _⟩, by dsimp only; omega⟩, fun hno => ⟨by omega, by omega, by omega, by omega, ?_⟩⟩
      · rcases Nat.lt_or_ge i (ahd (a.drop s.toNat) (b.drop (s - k).toNat)) with g | g
        · exact g
        · have e : ahd (a.drop s.toNat) (b.drop (s - k).toNat) = i := by omega
          rw [e] at has
          rw [t1, t2] at h3
          exact absurd h3 (has.2 (by omega) (by omega))
      · have e : s + (i : Int) = x := by
          rcases Nat.lt_or_ge i (ahd (a.drop s.toNat) (b.drop (s - k).toNat)) with g | g
          · refine absurd ?_ (hno ⟨by omega, by omega⟩)
            rw [t1, t2]
            exact has.1 i g
          · omega
        rw [e]
        refine hK _ _ _ ?_ (by omega)
        exact row_set (E := eI) rfl (by rw [← hfar', hx, List.set_append_left _ _ (by omega)]) (by simp) (by simp) (fun _ _ => AVle.refl _)
  · cases hadv
theorem startR_set (far : List Int) {i : Nat} (h : i < far.length) : startR (i + 1) ++ far.drop (i + 1) = (startR i ++ far.drop i).set i (-1) := by
  rw [List.set_append_right _ _ (by simp [startR]), List.drop_eq_getElem_cons h, show i - (startR i).length = 0 by simp [startR]]
  simp only [startR, List.replicate_succ', List.append_assoc, List.set_cons_zero, List.cons_append, List.nil_append]
def sNewWalk0 : MSpec := fun args hp top nx K => ∃ a b far ver, args = [sL eI a, sL eI b, .ow 0 ver far.length] ∧ hp = rws [(0, rowL ver 3 eI far)] ∧ top = 1 ∧
  a.length < 100000000 ∧ b.length < 100000000 ∧ a.length + b.length + 3 ≤ far.length ∧ far.length < 1000000000 ∧
  ∀ r hp' top' nx', AVle r (wAV (sL eI a) (sL eI b) (.ow 0 ver (a.length + b.length + 3))) → RowLe (hp' 0) (rowL ver 3 eI (startR (a.length + b.length + 3) ++ far.drop (a.length + b.length + 3))) → nx ≤ nx' → K r hp' top' nx'
theorem okNewWalk0 : MethOK Tryz.prog 184 sNewWalk0 := by
  refine MethOK.mk Tryz.func184 rfl (by decide) Tryz.results184 Tryz.ntmps184 ?_
  rintro args hp top nx K ⟨a, b, far, ver, rfl, rfl, rfl, ha, hb, hf, hl, hK⟩
  have hΓ : GOK Tryz.prog (gam []) := GOK.nil
  refine ⟨Nat.le_of_ble_eq_true rfl, ?_⟩
  refine AW.of hΓ mixed [] _ _ _ rfl ?_
  simp only [go_sem]
  have en : ((a.length : Int) + b.length + 3).toNat = a.length + b.length + 3 := by omega
  have ez : ∀ i, i ≤ a.length + b.length + 3 → (startR i ++ far.drop i).length = far.length := fun i hi => by simp [startR]; omega
  rw [en]
  refine ⟨by omega, by omega, by omega, ?_⟩
  refine AW.round (α := { i : Nat // i ≤ a.length + b.length + 3 })
    (fun i => ⟨[(0, sL eI a), (1, sL eI b), (6, .pt 1 nx 0), (7, .ow 0 ver (a.length + b.length + 3)), (18, .val (.int .i64 (a.length + b.length + 3 : Nat))), (19, .val (.int .i64 i.1))], [(0, rowL ver 3 eI (startR i.1 ++ far.drop i.1)), (1, .box nx 225 3 (zC [Value.slice none 0 0, Value.slice none 0 0, Value.slice none 0 0]))], 30, 2, nx + 1, []⟩) (fun i => a.length + b.length + 3 - i.1) ⟨0, Nat.zero_le _⟩ ?_ ?_
  · simp only [go_sem]
    exact ⟨RowLe.sl (by simp [startR]) fun i hi j hj => AVle.of_eq (by simp [startR]), RowLe.refl _⟩
  · rintro ⟨i, hi⟩
    refine AW.of hΓ mixed [99999] _ _ _ rfl ?_
    simp only [go_sem]
    refine ⟨fun hlt => ⟨by omega, by simp [startR]; omega, by omega, ⟨i + 1, by omega⟩, ⟨by dsimp only; omega, ?_, RowLe.refl _⟩, by dsimp only; omega⟩, fun hge => ?_⟩
    · exact row_set (E := eI) (l := startR i ++ far.drop i) rfl (startR_set far (by omega)) (by simp) (by simp) (fun _ _ => AVle.refl _)
    · have hn : i = a.length + b.length + 3 := by omega
      subst hn
      refine hK _ _ _ _ ?_ ?_ (by omega)
      · refine AVle.ag fun j hj => ?_
        match j, hj with
        | 0, _ => exact AVle.refl _
        | 1, _ => exact AVle.refl _
        | 2, _ => exact AVle.refl _
      · show RowLe (Row.sl ver 3 1 ((startR (a.length + b.length + 3)).length + (far.length - (a.length + b.length + 3))) fun i => eI.enc ((startR (a.length + b.length + 3) ++ far.drop (a.length + b.length + 3)).getD i 0)) _
        exact RowLe.sl (by simp) fun _ _ _ _ => AVle.refl _
end Go.Proofs.YtjfmigpahglajaaGreatDoor
set_option linter.unusedSimpArgs false
set_option linter.unusedVariables false
set_option maxRecDepth 100000
set_option maxHeartbeats 2000000
namespace Go.Proofs.YtjfmigpahglajaaGreatDoor
open Go
attribute [local irreducible] AW AVle ASle RowLe
def sNewWalk : MSpec := framed sNewWalk0
theorem okNewWalk : MethOK Tryz.prog 184 sNewWalk := okNewWalk0.frame
theorem newWalk_go {a b far : List Int} {ver p n : Nat} {x y : AV} {hp : Nat → Row} {top nx : Nat} {K : AV → (Nat → Row) → Nat → Nat → Prop} (hx : AVle x (sL eI a)) (hy : AVle y (sL eI b)) (hn : n = far.length) (hr : RowLe (hp p) (rowL ver 3 eI far)) (hp0 : p < top)
    (ha : a.length < 100000000) (hb : b.length < 100000000) (hf : a.length + b.length + 3 ≤ far.length) (hl : far.length < 1000000000)
    (hK : ∀ nx', nx ≤ nx' → K (wAV (sL eI a) (sL eI b) (.ow p ver (a.length + b.length + 3))) (updR hp p (rowL ver 3 eI (startR (a.length + b.length + 3) ++ far.drop (a.length + b.length + 3)))) top nx') :
    sNewWalk [x, y, .ow p ver n] hp top nx K := by
  subst hn
  have hver : (hp p).ver = some ver := hr.vers.symm
  refine ⟨[p], [sL eI a, sL eI b, .ow 0 ver far.length], rws [(0, rowL ver 3 eI far)], by simp, by simpa using hp0, .cons hx (.cons hy (.cons AVle.ow .nil)), one_row hr, fun i hi => rws_top (top := 1) (by simp) i (by simpa using hi), a, b, far, ver, rfl, rfl, rfl, ha, hb, hf, hl, fun r hp' top' nx' h1 h2 h3 => ?_⟩
  refine ⟨wAV (sL eI a) (sL eI b) (.ow p ver (a.length + b.length + 3)), updR hp p (rowL ver 3 eI (startR (a.length + b.length + 3) ++ far.drop (a.length + b.length + 3))), h1.trans ?_, fun i q hq => ?_, fun q hq => ?_, fun q hq v hv => ?_, hK nx' h3⟩
  · refine AVle.ag fun j hj => ?_
    match j, hj with
    | 0, _ => exact AVle.refl _
    | 1, _ => exact AVle.refl _
    | 2, _ => exact AVle.ow
  · cases i with
    | zero =>
      simp only [List.getElem?_cons_zero, Option.some.injEq] at hq
      subst hq
      rw [updR_at]
      exact h2
    | succ i => simp at hq
  · rw [updR_ne _ _ (by simpa using hq)]
  · simp only [List.mem_singleton] at hq
    subst hq
    rw [updR_at] at hv
    exact .inl (hver.trans hv)
def sAdvance : MSpec := framed sAdvance0
theorem okAdvance : MethOK Tryz.prog 186 sAdvance := okAdvance0.frame
theorem advance_go {a b far far' rest : List Int} {k x : Int} {ver p : Nat} {w : AV} {hp : Nat → Row} {top nx : Nat} {K : AV → (Nat → Row) → Nat → Nat → Prop} (hw : AVle w (wAV (sL eI a) (sL eI b) (.ow p ver far.length))) (hr : RowLe (hp p) (rowL ver 3 eI (far ++ rest))) (hp0 : p < top)
    (hfar : okFar far) (ha : a.length < 100000000) (hb : b.length < 100000000) (hadv : advF a b far k = some (x, far'))
    (hK : ∀ nx', nx ≤ nx' → K (kI.enc x) (updR hp p (rowL ver 3 eI (far' ++ rest))) top nx') : sAdvance [w, kI.enc k] hp top nx K := by
  have hver : (hp p).ver = some ver := hr.vers.symm
  refine ⟨[p], [wAV (sL eI a) (sL eI b) (.ow 0 ver far.length), kI.enc k], rws [(0, rowL ver 3 eI (far ++ rest))], by simp, by simpa using hp0, .cons (hw.trans ?_) (.cons (AVle.refl _) .nil), one_row hr, fun i hi => rws_top (top := 1) (by simp) i (by simpa using hi), a, b, far, rest, k, ver, x, far', rfl, rfl, rfl, hfar, ha, hb, hadv, fun hp' top' nx' h2 h3 => ?_⟩
  · refine AVle.ag fun j hj => ?_
    match j, hj with
    | 0, _ => exact AVle.refl _
    | 1, _ => exact AVle.refl _
    | 2, _ => exact AVle.ow
  refine ⟨kI.enc x, updR hp p (rowL ver 3 eI (far' ++ rest)), AVle.refl _, fun i q hq => ?_, fun q hq => ?_, fun q hq v hv => ?_, hK nx' h3⟩
  · cases i with
    | zero =>
      simp only [List.getElem?_cons_zero, Option.some.injEq] at hq
      subst hq
      rw [updR_at]
      exact h2
    | succ i => simp at hq
  · rw [updR_ne _ _ (by simpa using hq)]
  · simp only [List.mem_singleton] at hq
    subst hq
    rw [updR_at] at hv
    exact .inl (hver.trans hv)
end Go.Proofs.YtjfmigpahglajaaGreatDoor
set_option linter.unusedVariables false
namespace Go.Proofs.YtjfmigpahglajaaGreatDoor
def partL (l : List Int) (i j : Nat) : List Int := (l.drop i).take (j - i)
theorem partL_len {l : List Int} {i j : Nat} (h : j ≤ l.length) : (partL l i j).length = j - i := by
  simp only [partL, List.length_take, List.length_drop]; omega
theorem partL_rev {l : List Int} {i j : Nat} (h1 : i ≤ j) (h : j ≤ l.length) : partL l.reverse (l.length - j) (l.length - i) = (partL l i j).reverse := by
  refine list_ext_getD 0 (by rw [partL_len (by simp), List.length_reverse, partL_len h]; omega) fun k hk => ?_
  rw [partL_len (by simp)] at hk
  have h1 : k < (l.drop i).length := by simp; omega
  unfold partL
  simp only [List.getD]
  rw [List.getElem?_take, if_pos (by omega), List.getElem?_drop, List.getElem?_reverse (by omega), List.getElem?_reverse (by simp; omega), List.getElem?_take, if_pos (by simp; omega), List.getElem?_drop]
  congr 2
  have h2 : (List.take (j - i) (List.drop i l)).length = j - i := by simp; omega
  omega
theorem partL_drop {l : List Int} {i j k : Nat} : (partL l i j).drop k = partL l (i + k) j := by
  unfold partL
  rw [List.drop_take, List.drop_drop, Nat.sub_sub]
theorem partL_take {l : List Int} {i j k : Nat} (h : i + k ≤ j) : (partL l i j).take k = partL l i (i + k) := by
  unfold partL
  rw [List.take_take]
  congr 1
  omega
theorem partL_all (l : List Int) : partL l 0 l.length = l := by
  unfold partL
  simp
def findG (a b : List Int) : List (Int × Int) := findF (a.length + b.length + 1) a b
theorem findF_G {a b : List Int} {f : Nat} (h : a.length + b.length < f) : findF f a b = findG a b := (find_spec (a.length + b.length + 1) a b (by omega)).2.2 f h
theorem findG_len (a b : List Int) : (findG a b).length = lcsN a b := (find_spec (a.length + b.length + 1) a b (by omega)).2.1
theorem findG_none {a b : List Int} (h : ¬ ((core a b).length ≠ 0 ∧ (coreR a b).length ≠ 0)) : findG a b = prs 0 0 (ahd a b) ++ prs ((a.length : Int) - bh a b) ((b.length : Int) - bh a b) (bh a b) := by
  unfold findG
  rw [findF_succ, stepP, if_neg h]
  rfl
theorem findG_some {a b : List Int} (h1 : (core a b).length ≠ 0) (h2 : (coreR a b).length ≠ 0) : ∃ p q : Nat, cutF (core a b) (coreR a b) = some ((p : Int), (q : Int)) ∧ p ≤ (core a b).length ∧ q ≤ (coreR a b).length ∧ 0 < p + q ∧ p + q < (core a b).length + (coreR a b).length ∧
    findG a b = prs 0 0 (ahd a b) ++ ((shP (ahd a b) (ahd a b) (findG ((core a b).take p) ((coreR a b).take q)) ++ shP (ahd a b + p) (ahd a b + q) (findG ((core a b).drop p) ((coreR a b).drop q))) ++ prs ((a.length : Int) - bh a b) ((b.length : Int) - bh a b) (bh a b)) := by
  have hb := bh_le (a := a) (b := b)
  have hl := core_len (a := a) (b := b)
  obtain ⟨p, q, e, p1, q1, g1, g2, g3⟩ := cut_spec h1 h2 (core_ends h1 h2).1 (core_ends h1 h2).2
  refine ⟨p, q, e, p1, q1, g1, g2, ?_⟩
  rw [findG, findF_succ, stepP, if_pos ⟨h1, h2⟩, e]
  simp only [Int.toNat_natCast]
  rw [findF_G (by simp only [List.length_take]; omega), findF_G (by simp only [List.length_drop]; omega)]
end Go.Proofs.YtjfmigpahglajaaGreatDoor
set_option linter.unusedSimpArgs false
set_option linter.unusedVariables false
set_option maxRecDepth 100000
set_option maxHeartbeats 2000000
namespace Go.Proofs.YtjfmigpahglajaaGreatDoor
open Go
attribute [local irreducible] AW AVle ASle RowLe
def fAV (a b : List Int) (u v z : AV) : Nat → AV
  | 0 => sL eI a
  | 1 => sL eI b
  | 2 => sL eI a.reverse
  | 3 => sL eI b.reverse
  | 4 => u
  | 5 => v
  | _ => z
section
variable (a b : List Int) (u v z : AV)
theorem fAV_0 : fAV a b u v z 0 = sL eI a := rfl
theorem fAV_1 : fAV a b u v z 1 = sL eI b := rfl
theorem fAV_2 : fAV a b u v z 2 = sL eI a.reverse := rfl
theorem fAV_3 : fAV a b u v z 3 = sL eI b.reverse := rfl
theorem fAV_4 : fAV a b u v z 4 = u := rfl
theorem fAV_5 : fAV a b u v z 5 = v := rfl
theorem fAV_6 : fAV a b u v z 6 = z := rfl
end
theorem adv_facts {a b far far' : List Int} {k x : Int} (h : advF a b far k = some (x, far')) (hf : okFar far) : far'.length = far.length ∧ (a.length < 1000000000 → okFar far') ∧ 0 ≤ x ∧ x ≤ a.length ∧ k ≤ x ∧ x - k ≤ b.length ∧ -(b.length : Int) ≤ k ∧ k ≤ a.length := by
  unfold advF at h
  split at h
  · rename_i hc
    obtain ⟨c1, c2, c3, c4, c5⟩ := hc
    have hs : startD a b (rch b.length far (k - 1)) (rch b.length far (k + 1)) k = min (min (max (rch b.length far (k - 1) + 1) (rch b.length far (k + 1))) ↑a.length) (↑b.length + k) := rfl
    simp only [Option.some.injEq, Prod.mk.injEq] at h
    obtain ⟨hx, hfar'⟩ := h
    generalize startD a b (rch b.length far (k - 1)) (rch b.length far (k + 1)) k = s at *
    have hal := ahd_le (a.drop s.toNat) (b.drop (s - k).toNat)
    simp only [List.length_drop] at hal
    rw [hx] at hfar'
    subst hfar'
    refine ⟨by simp, fun hl y hy => ?_, by omega, by omega, by omega, by omega, c3, c4⟩
    rcases List.mem_or_eq_of_mem_set hy with hy | rfl
    · exact hf y hy
    · omega
  · cases h
theorem rch_ok {far : List Int} {n m : Nat} {j : Int} (h : okFar far) (hl : far.length = n + m + 3) (h1 : -(m : Int) - 1 ≤ j) (h2 : j ≤ n + 1) : -1 ≤ rch m far j ∧ rch m far j < 1000000000 := by
  unfold rch
  rw [gd_lt _ _ (by omega)]
  exact h _ (List.getElem_mem _)
theorem row_len {v t n : Nat} {l : List Int} (h : n = l.length) : RowLe (.sl v t 1 n fun i => eI.enc (l.getD i 0)) (rowL v t eI l) := by
  subst h
  exact RowLe.refl _
theorem okFar_start (n : Nat) : okFar (startR n) := fun y hy => by
  have := (List.mem_replicate.1 hy).2
  omega
def sMiddle0 : MSpec := fun args hp top nx K => ∃ a b f1 f2 z fv v1 v2 fa ta fb tb p q, args = [.pt 0 fv 0, kI.enc (fa : Nat), kI.enc (ta : Nat), kI.enc (fb : Nat), kI.enc (tb : Nat)] ∧
  hp = rws [(0, .box fv 214 7 (fAV a b (.ow 1 v1 f1.length) (.ow 2 v2 f2.length) z)), (1, rowL v1 3 eI f1), (2, rowL v2 3 eI f2)] ∧ top = 3 ∧
  fa ≤ ta ∧ ta ≤ a.length ∧ fb ≤ tb ∧ tb ≤ b.length ∧ a.length < 100000000 ∧ b.length < 100000000 ∧ a.length + b.length + 3 ≤ f1.length ∧ a.length + b.length + 3 ≤ f2.length ∧ f1.length < 1000000000 ∧ f2.length < 1000000000 ∧
  cutF (partL a fa ta) (partL b fb tb) = some (p, q) ∧
  ∀ g1 g2 hp' top' nx', g1.length = f1.length → g2.length = f2.length → RowLe (hp' 0) (.box fv 214 7 (fAV a b (.ow 1 v1 f1.length) (.ow 2 v2 f2.length) z)) → RowLe (hp' 1) (rowL v1 3 eI g1) → RowLe (hp' 2) (rowL v2 3 eI g2) → nx ≤ nx' →
    K (tu2 (kI.enc p) (kI.enc q)) hp' top' nx'
theorem okMiddle0 : MethOK Tryz.prog 174 sMiddle0 := by
  refine MethOK.mk Tryz.func174 rfl (by decide) Tryz.results174 Tryz.ntmps174 ?_
  rintro args hp top nx K ⟨a, b, f1, f2, z, fv, v1, v2, fa, ta, fb, tb, p, q, rfl, rfl, rfl, hfa, hta, hfb, htb, ha, hb, hr1, hr2, hl1, hl2, hcut, hK⟩
  have hΓ : GOK Tryz.prog (gam [(184, sNewWalk), (186, sAdvance), (187, sReached), (185, sDiagonals)]) := (.cons okNewWalk (.cons okAdvance (.cons okReached (.cons okDiagonals .nil))))
  refine ⟨Nat.le_of_ble_eq_true rfl, ?_⟩
  refine AW.of hΓ mixed [200002, 200003] _ _ _ rfl ?_
  simp only [go_sem, sNewWalk, sAdvance, sReached, sDiagonals, fAV_0, fAV_1, fAV_2, fAV_3, fAV_4, fAV_5, fAV_6]
  refine ⟨by omega, by omega, ?_⟩
  refine AW.drawT hΓ mixed 18 [19] (by decide +kernel) ?_
  simp only [go_sem, sNewWalk, sAdvance, sReached, sDiagonals, fAV_0, fAV_1, fAV_2, fAV_3, fAV_4, fAV_5, fAV_6]
  have lA : (partL a fa ta).length = ta - fa := partL_len hta
  have lB : (partL b fb tb).length = tb - fb := partL_len htb
  refine ⟨by omega, by omega, newWalk_go (a := partL a fa ta) (b := partL b fb tb) (far := f1) (sLd_le eI a (by omega)) (sLd_le eI b (by omega)) rfl ?_ (by decide) (by omega) (by omega) (by omega) (by omega) fun n1 hn1 => ?_⟩
  · exact RowLe.refl _
  simp only [go_sem, sNewWalk, sAdvance, sReached, sDiagonals, cellsAV, wAV]
  refine AW.drawT hΓ mixed 42 [43] (by decide +kernel) ?_
  simp only [go_sem, sNewWalk, sAdvance, sReached, sDiagonals, fAV_0, fAV_1, fAV_2, fAV_3, fAV_4, fAV_5, fAV_6]
  have hAe : (ta : Int) - fa = ((partL a fa ta).length : Int) := by omega
  have hBe : (tb : Int) - fb = ((partL b fb tb).length : Int) := by omega
  have hAr := partL_rev hfa hta
  have hBr := partL_rev hfb htb
  have t1 : ((a.length : Int) - ta).toNat = a.length - ta := by omega
  have t2 : ((a.length : Int) - fa).toNat = a.length - fa := by omega
  have t3 : ((b.length : Int) - tb).toNat = b.length - tb := by omega
  have t4 : ((b.length : Int) - fb).toNat = b.length - fb := by omega
  have l1 : a.reverse.length = a.length := List.length_reverse
  have l2 : b.reverse.length = b.length := List.length_reverse
  rw [t1, t2, t3, t4]
  refine ⟨by omega, by omega, by omega, by omega, by omega, by omega, newWalk_go (a := (partL a fa ta).reverse) (b := (partL b fb tb).reverse) (far := f2) ?_ ?_ rfl ?_ (by decide) (by simp; omega) (by simp; omega) (by simp; omega) (by omega) fun n2 hn2 => ?_⟩
  · rw [← hAr]; exact sLd_le eI a.reverse (by omega)
  · rw [← hBr]; exact sLd_le eI b.reverse (by omega)
  · exact RowLe.refl _
  generalize partL a fa ta = A at *
  generalize partL b fb tb = B at *
  simp only [go_sem, sNewWalk, sAdvance, sReached, sDiagonals, cellsAV, wAV, hAe, hBe, len_rev]
  have hod : decide (¬((A.length : Int) - B.length).tmod 2 = 0) = oddD A.length B.length := rfl
  rw [hod]
  refine ⟨by omega, ?_⟩
  obtain ⟨N, hN⟩ : ∃ N, A.length + B.length + 3 = N := ⟨_, rfl⟩
  unfold cutF at hcut
  rw [hN] at hcut ⊢
  refine AW.round (α := { x : Nat × List Int × List Int × Nat // midF A B (A.length + B.length + 1 - x.1) x.1 x.2.1 x.2.2.1 = some (p, q) ∧ x.2.1.length = N ∧ x.2.2.1.length = N ∧ okFar x.2.1 ∧ okFar x.2.2.1 ∧ n2 ≤ x.2.2.2 })
    (fun x => ⟨[(12, .val (.int .i64 A.length)), (13, .val (.int .i64 B.length)), (14, .pt 3 nx 0), (15, .pt 4 n1 0), (16, .val (.bool (oddD A.length B.length))), (17, .val (.int .i64 x.1.1))],
      [(0, .box fv 214 7 (fAV a b (.ow 1 v1 f1.length) (.ow 2 v2 f2.length) z)), (1, rowL v1 3 eI (x.1.2.1 ++ f1.drop N)), (2, rowL v2 3 eI (x.1.2.2.1 ++ f2.drop N)),
        (3, .box nx 225 3 fun j => if j = 0 then sL eI A else if j = 1 then sL eI B else .ow 1 v1 N), (4, .box n1 225 3 fun j => if j = 0 then sL eI A.reverse else if j = 1 then sL eI B.reverse else .ow 2 v2 N)], 165, 5, x.1.2.2.2, []⟩)
    (fun x => A.length + B.length + 1 - x.1.1) ⟨(0, startR N, startR N, n2), hcut, by simp [startR], by simp [startR], okFar_start N, okFar_start N, Nat.le_refl _⟩ ?_ ?_
  · simp only [go_sem, sNewWalk, sAdvance, sReached, sDiagonals]
    exact ⟨RowLe.refl _, RowLe.refl _, RowLe.refl _, box_st, box_st⟩
  · rintro ⟨⟨d, F1, F2, n3⟩, hmid, hF1, hF2, ho1, ho2, hn3⟩
    simp only at hmid hF1 hF2 ho1 ho2 hn3
    refine AW.of hΓ mixed [] _ _ _ rfl ?_
    simp only [go_sem, sNewWalk, sAdvance, sReached, sDiagonals, Int.toNat_natCast]
    have hl := low_facts d B.length
    have hh := high_facts d A.length
    have hf : ∃ f, A.length + B.length + 1 - d = f + 1 := by
      cases h0 : A.length + B.length + 1 - d with
      | zero => rw [h0] at hmid; cases hmid
      | succ f => exact ⟨f, rfl⟩
    obtain ⟨f, hf⟩ := hf
    rw [hf, midF, hN] at hmid
    generalize hR : stepF A B (oddD A.length B.length) F2 (highD d A.length) N (lowD d B.length) F1 = R at hmid
    have hRn : R ≠ none := by rintro rfl; cases hmid
    refine ⟨⟨⟨by omega, by omega⟩, ⟨by omega, by omega⟩, by omega, by omega⟩, ?_⟩
    have gF2 := gL_part F2 (f2.drop N)
    have pF2 := part_le F2 (f2.drop N)
    rw [hF2] at gF2 pF2
    refine AW.round (α := { x : Nat × Int × List Int × Nat // stepF A B (oddD A.length B.length) F2 (highD d A.length) x.1 x.2.1 x.2.2.1 = R ∧ -(B.length : Int) ≤ x.2.1 ∧ x.2.2.1.length = N ∧ okFar x.2.2.1 ∧ n2 ≤ x.2.2.2 })
      (fun x => ⟨[(12, .val (.int .i64 A.length)), (13, .val (.int .i64 B.length)), (14, .pt 3 nx 0), (15, .pt 4 n1 0), (16, .val (.bool (oddD A.length B.length))), (17, .val (.int .i64 d)), (18, .val (.int .i64 (lowD d B.length))), (19, .val (.int .i64 (highD d A.length))), (20, .val (.int .i64 x.1.2.1))],
        [(0, .box fv 214 7 (fAV a b (.ow 1 v1 f1.length) (.ow 2 v2 f2.length) z)), (1, rowL v1 3 eI (x.1.2.2.1 ++ f1.drop N)), (2, rowL v2 3 eI (F2 ++ f2.drop N)),
          (3, .box nx 225 3 fun j => if j = 0 then sL eI A else if j = 1 then sL eI B else .ow 1 v1 N), (4, .box n1 225 3 fun j => if j = 0 then sL eI A.reverse else if j = 1 then sL eI B.reverse else .ow 2 v2 N)], 165, 5, x.1.2.2.2, []⟩)
      (fun x => x.1.1) ⟨(N, lowD d B.length, F1, n3), hR, hl.2.1, hF1, ho1, hn3⟩ ?_ ?_
    · simp only [go_sem, sNewWalk, sAdvance, sReached, sDiagonals]
      exact ⟨RowLe.refl _, RowLe.refl _, RowLe.refl _, RowLe.refl _, RowLe.refl _⟩
    · rintro ⟨⟨g, k, F, n4⟩, hs, hk0, hF, hoF, hn4⟩
      simp only at hs hk0 hF hoF hn4
      by_cases hkh : k ≤ highD d A.length
      · cases g with
        | zero => exact absurd hs.symm hRn
        | succ g =>
          rw [stepF, if_pos hkh] at hs
          cases hadv : advF A B F k with
          | none => rw [hadv] at hs; exact absurd hs.symm hRn
          | some xf =>
            obtain ⟨x, F'⟩ := xf
            rw [hadv] at hs
            simp only at hs
            have af := adv_facts hadv hoF
            have hrc := rch_ok (far := F2) (n := A.length) (m := B.length) (j := A.length - B.length - k) ho2 (by omega) (by omega) (by omega)
            refine AW.of hΓ mixed [11] _ _ _ rfl ?_
            simp only [go_sem, sNewWalk, sAdvance, sReached, sDiagonals, hkh]
            refine advance_go (far := F) (far' := F') (x := x) (rest := f1.drop N) (p := 1) (by rw [hF]; exact AVle.refl _) (row_len (by simp)) (by decide) hoF (by omega) (by omega) hadv fun n5 hn5 => ?_
            simp only [go_sem, sNewWalk, sAdvance, sReached, sDiagonals]
            refine AW.of hΓ mixed [99999] _ _ _ rfl ?_
            simp only [go_sem, sNewWalk, sAdvance, sReached, sDiagonals, kW_dec, gL_sL, gF2, len_rev, hF2]
            have hmeet : oddD A.length B.length = true ∧ (A.length : Int) ≤ x + rch B.length F2 (A.length - B.length - k) ∨ ¬ (oddD A.length B.length = true ∧ (A.length : Int) ≤ x + rch B.length F2 (A.length - B.length - k)) := Classical.em _
            refine ⟨fun _ => by omega, fun _ => by omega, fun _ => ⟨by omega, kW_ok (a := A.reverse) (b := B.reverse) (f := F2) (AVle.refl _) (AVle.refl _) pF2 (gL_sL _ _) (gL_sL _ _) gF2, by omega, by omega, by omega, by omega⟩, fun _ => by omega, fun hm => ⟨by omega, ?_⟩, fun hm => ⟨by omega, ⟨(g, k + 2, F', n5), ?_, by dsimp only; omega, by dsimp only; omega, af.2.1 (by omega), by dsimp only; omega⟩, ⟨Nat.le_refl _, rfl, RowLe.refl _, RowLe.refl _, RowLe.refl _, RowLe.refl _, RowLe.refl _⟩, Nat.lt_succ_self _⟩⟩
            · rw [if_pos hm] at hs
              subst hs
              simp only [Option.some.injEq, Prod.mk.injEq] at hmid
              obtain ⟨e1, e2⟩ := hmid
              rw [e2, e1]
              exact hK (F' ++ f1.drop N) (F2 ++ f2.drop N) _ _ _ (by simp; omega) (by simp; omega) (RowLe.refl _) (row_len (by simp)) (row_len (by simp; omega)) (by omega)
            · rw [if_neg (fun h => hm h.1 h.2)] at hs
              exact hs
      · cases g with
        | zero => exact absurd hs.symm hRn
        | succ g =>
          rw [stepF, if_neg hkh] at hs
          subst hs
          simp only at hmid
          refine AW.of hΓ mixed [] _ _ _ rfl ?_
          simp only [go_sem, sNewWalk, sAdvance, sReached, sDiagonals, hkh]
          generalize hR2 : stepF A.reverse B.reverse (!oddD A.length B.length) F (highD d A.length) N (lowD d B.length) F2 = R2 at hmid
          have hRn2 : R2 ≠ none := by rintro rfl; cases hmid
          have gF := gL_part F (f1.drop N)
          have pF := part_le F (f1.drop N)
          rw [hF] at gF pF
          refine AW.round (α := { x : Nat × Int × List Int × Nat // stepF A.reverse B.reverse (!oddD A.length B.length) F (highD d A.length) x.1 x.2.1 x.2.2.1 = R2 ∧ -(B.length : Int) ≤ x.2.1 ∧ x.2.2.1.length = N ∧ okFar x.2.2.1 ∧ n2 ≤ x.2.2.2 })
            (fun x => ⟨[(12, .val (.int .i64 A.length)), (13, .val (.int .i64 B.length)), (14, .pt 3 nx 0), (15, .pt 4 n1 0), (16, .val (.bool (oddD A.length B.length))), (17, .val (.int .i64 d)), (19, .val (.int .i64 (highD d A.length))), (22, .val (.int .i64 x.1.2.1))],
              [(0, .box fv 214 7 (fAV a b (.ow 1 v1 f1.length) (.ow 2 v2 f2.length) z)), (1, rowL v1 3 eI (F ++ f1.drop N)), (2, rowL v2 3 eI (x.1.2.2.1 ++ f2.drop N)),
                (3, .box nx 225 3 fun j => if j = 0 then sL eI A else if j = 1 then sL eI B else .ow 1 v1 N), (4, .box n1 225 3 fun j => if j = 0 then sL eI A.reverse else if j = 1 then sL eI B.reverse else .ow 2 v2 N)], 165, 5, x.1.2.2.2, []⟩)
            (fun x => x.1.1) ⟨(N, lowD d B.length, F2, n4), hR2, hl.2.1, hF2, ho2, hn4⟩ ?_ ?_
          · simp only [go_sem, sNewWalk, sAdvance, sReached, sDiagonals]
            exact ⟨RowLe.refl _, RowLe.refl _, RowLe.refl _, RowLe.refl _, RowLe.refl _⟩
          · rintro ⟨⟨h, k2, G, n5⟩, hs, hk0, hG, hoG, hn5⟩
            simp only at hs hk0 hG hoG hn5
            by_cases hkh : k2 ≤ highD d A.length
            · cases h with
              | zero => exact absurd hs.symm hRn2
              | succ h =>
                rw [stepF, if_pos hkh] at hs
                cases hadv : advF A.reverse B.reverse G k2 with
                | none => rw [hadv] at hs; exact absurd hs.symm hRn2
                | some xf =>
                  obtain ⟨x, G'⟩ := xf
                  rw [hadv] at hs
                  simp only [len_rev] at hs
                  have af := adv_facts hadv hoG
                  simp only [len_rev] at af
                  have hrc := rch_ok (far := F) (n := A.length) (m := B.length) (j := A.length - B.length - k2) hoF (by omega) (by omega) (by omega)
                  refine AW.of hΓ mixed [17] _ _ _ rfl ?_
                  simp only [go_sem, sNewWalk, sAdvance, sReached, sDiagonals, hkh]
                  refine advance_go (far := G) (far' := G') (x := x) (rest := f2.drop N) (p := 2) (by rw [hG]; exact AVle.refl _) (row_len (by simp)) (by decide) hoG (by simp; omega) (by simp; omega) hadv fun n6 hn6 => ?_
                  simp only [go_sem, sNewWalk, sAdvance, sReached, sDiagonals]
                  refine AW.of hΓ mixed [99999] _ _ _ rfl ?_
                  simp only [go_sem, sNewWalk, sAdvance, sReached, sDiagonals, kW_dec, gL_sL, gF, len_rev, hF]
                  refine ⟨fun _ => by omega, fun _ => by omega, fun _ => ⟨by omega, kW_ok (a := A) (b := B) (f := F) (AVle.refl _) (AVle.refl _) pF (gL_sL _ _) (gL_sL _ _) gF, by omega, by omega, by omega, by omega⟩, fun _ => by omega, fun hm => ?_, fun hm => ⟨by omega, ⟨(h, k2 + 2, G', n6), ?_, by dsimp only; omega, by dsimp only; omega, af.2.1 (by omega), by dsimp only; omega⟩, ⟨Nat.le_refl _, rfl, RowLe.refl _, RowLe.refl _, RowLe.refl _, RowLe.refl _, RowLe.refl _⟩, Nat.lt_succ_self _⟩⟩
                  · rw [if_pos ⟨by simp [hm.1], hm.2⟩] at hs
                    subst hs
                    simp only [Option.some.injEq, Prod.mk.injEq] at hmid
                    obtain ⟨e1, e2⟩ := hmid
                    refine ⟨by omega, by omega, by omega, ?_⟩
                    rw [e2, e1]
                    exact hK (F ++ f1.drop N) (G' ++ f2.drop N) _ _ _ (by simp; omega) (by simp; omega) (RowLe.refl _) (row_len (by simp; omega)) (row_len (by simp)) (by omega)
                  · rw [if_neg (fun hh => hm (by simpa using hh.1) hh.2)] at hs
                    exact hs
            · cases h with
              | zero => exact absurd hs.symm hRn2
              | succ h =>
                rw [stepF, if_neg hkh] at hs
                subst hs
                simp only at hmid
                refine AW.of hΓ mixed [] _ _ _ rfl ?_
                simp (maxSteps := 2000000) only [go_sem, sNewWalk, sAdvance, sReached, sDiagonals, hkh]
                refine ⟨by omega, ⟨(d + 1, F, G, n5), ?_, hF, hG, hoF, hoG, hn5⟩, ⟨Nat.le_refl _, rfl, RowLe.refl _, RowLe.refl _, RowLe.refl _, RowLe.refl _, RowLe.refl _⟩, by dsimp only; omega⟩
                dsimp only
                rw [show A.length + B.length + 1 - (d + 1) = f by omega]
                exact hmid
end Go.Proofs.YtjfmigpahglajaaGreatDoor
set_option linter.unusedSimpArgs false
set_option linter.unusedVariables false
set_option maxRecDepth 100000
set_option maxHeartbeats 2000000
namespace Go.Proofs.YtjfmigpahglajaaGreatDoor
open Go
attribute [local irreducible] AW AVle ASle RowLe
def sMiddle : MSpec := framed sMiddle0
theorem okMiddle : MethOK Tryz.prog 174 sMiddle := okMiddle0.frame
theorem fAV_le {a b : List Int} {u v z u' v' z' : AV} (h1 : AVle u u') (h2 : AVle v v') (h3 : AVle z z') : ∀ j, AVle (fAV a b u v z j) (fAV a b u' v' z' j)
  | 0 => AVle.refl _
  | 1 => AVle.refl _
  | 2 => AVle.refl _
  | 3 => AVle.refl _
  | 4 => h1
  | 5 => h2
  | _ + 6 => h3
def sAdd0 : MSpec := fun args hp top nx K => ∃ a b u v l fv pv i j n, args = [.pt 0 fv 0, kI.enc (i : Nat), kI.enc (j : Nat), kI.enc (n : Nat)] ∧
  hp = rws [(0, .box fv 214 7 (fAV a b u v (.ow 1 pv l.length))), (1, rowL pv 108 (eP eI eI) l)] ∧ top = 2 ∧ pv < nx ∧
  i < 1000000000 ∧ j < 1000000000 ∧ n < 1000000000 ∧ l.length + n < 1000000000 ∧
  ∀ pv' hp' top' nx', (pv' = pv ∨ nx ≤ pv') → pv' < nx' → RowLe (hp' 0) (.box fv 214 7 (fAV a b u v (.ow 1 pv' (l ++ prs i j n).length))) → RowLe (hp' 1) (rowL pv' 108 (eP eI eI) (l ++ prs i j n)) → nx ≤ nx' →
    K (.val (.tuple #[])) hp' top' nx'
theorem okAdd0 : MethOK Tryz.prog 173 sAdd0 := by
  refine MethOK.mk Tryz.func173 rfl (by decide) Tryz.results173 Tryz.ntmps173 ?_
  rintro args hp top nx K ⟨a, b, u, v, l, fv, pv, i, j, n, rfl, rfl, rfl, hpv, hi, hj, hn, hl, hK⟩
  have hΓ : GOK Tryz.prog (gam []) := GOK.nil
  refine ⟨Nat.le_of_ble_eq_true rfl, ?_⟩
  refine AW.of hΓ mixed [] _ _ _ rfl ?_
  simp only [go_sem, fAV_6]
  refine AW.round (α := { x : Nat × Nat × Nat // x.1 ≤ n ∧ (x.2.1 = pv ∨ nx ≤ x.2.1) ∧ nx ≤ x.2.2 ∧ x.2.1 < x.2.2 })
    (fun x => ⟨[(0, .pt 0 fv 0), (1, .val (.int .i64 i)), (2, .val (.int .i64 j)), (9, .val (.int .i64 n)), (10, .val (.int .i64 x.1.1))],
      [(0, .box fv 214 7 (fAV a b u v (.ow 1 x.1.2.1 (l ++ prs i j x.1.1).length))), (1, rowL x.1.2.1 108 (eP eI eI) (l ++ prs i j x.1.1))], 30, 2, x.1.2.2, []⟩) (fun x => n - x.1.1) ⟨(0, pv, nx), by simp, .inl rfl, Nat.le_refl _, hpv⟩ ?_ ?_
  · simp only [go_sem]
    exact ⟨RowLe.of_eq (by simp [prs]), RowLe.of_eq (by simp [prs])⟩
  · rintro ⟨⟨k, w, m⟩, hk, hw, hm, hwm⟩
    simp only at hk hw hm hwm
    refine AW.of hΓ mixed [99999] _ _ _ rfl ?_
    simp only [go_sem, fAV_6, pp_sz]
    have hps : prs i j (k + 1) = prs i j k ++ [((i : Int) + (k : Int), (j : Int) + (k : Int))] := by
      unfold prs
      rw [List.range_succ, List.map_append]
      rfl
    have hpl : (prs i j k).length = k := prs_len _ _ _
    refine ⟨fun hlt => ⟨by omega, by omega, by omega, by omega, ⟨(k + 1, m, m + 1), by dsimp only; omega, .inr hm, by dsimp only; omega, Nat.lt_succ_self _⟩, ⟨Nat.le_refl _, rfl, ?_, ?_⟩, by dsimp only; omega⟩, fun hge => ?_⟩
    · refine RowLe.box fun j' hj' => ?_
      match j', hj' with
      | 0, _ => exact AVle.refl _
      | 1, _ => exact AVle.refl _
      | 2, _ => exact AVle.refl _
      | 3, _ => exact AVle.refl _
      | 4, _ => exact AVle.refl _
      | 5, _ => exact AVle.refl _
      | 6, _ => exact AVle.of_eq (by dsimp only; rw [hps]; simp [stC, fAV, Nat.add_assoc])
    · refine row_app1 (E := eP eI eI) (l := l ++ prs i j k) (x := ((i : Int) + (k : Int), (j : Int) + (k : Int))) rfl (by dsimp only; rw [hps, List.append_assoc]) (by simp) (by simp) (by dsimp only; rw [hps]; simp) fun j' hj' => ?_
      match j', hj' with
      | 0, _ => exact AVle.refl _
      | 1, _ => exact AVle.refl _
    · obtain rfl : k = n := by omega
      exact hK w _ _ _ hw hwm (RowLe.of_eq (by rw [List.length_append]; rfl)) (rowE rfl rfl (by simp)) hm
def sAdd : MSpec := framed sAdd0
theorem okAdd : MethOK Tryz.prog 173 sAdd := okAdd0.frame
theorem add_go {a b : List Int} {u v : AV} {l : List (Int × Int)} {fv pv i j n : Nat} {x y z : Int} {hp : Nat → Row} {top nx : Nat} {K : AV → (Nat → Row) → Nat → Nat → Prop} (hx : x = (i : Nat)) (hy : y = (j : Nat)) (hz : z = (n : Nat))
    (h0 : RowLe (hp 0) (.box fv 214 7 (fAV a b u v (.ow 3 pv l.length)))) (h3 : RowLe (hp 3) (rowL pv 108 (eP eI eI) l)) (ht : 3 < top) (hpv : pv < nx)
    (hi : i < 1000000000) (hj : j < 1000000000) (hn : n < 1000000000) (hl : l.length + n < 1000000000)
    (hK : ∀ pv' nx', (pv' = pv ∨ nx ≤ pv') → pv' < nx' → nx ≤ nx' → K (.val (.tuple #[])) (updR (updR hp 0 (.box fv 214 7 (fAV a b u v (.ow 3 pv' (l ++ prs i j n).length)))) 3 (rowL pv' 108 (eP eI eI) (l ++ prs i j n))) top nx') :
    sAdd [.pt 0 fv 0, .val (.int .i64 x), .val (.int .i64 y), .val (.int .i64 z)] hp top nx K := by
  subst hx hy hz
  have v0 := h0.vers
  have v3 := h3.vers
  refine ⟨[0, 3], [.pt 0 fv 0, kI.enc (i : Nat), kI.enc (j : Nat), kI.enc (n : Nat)], rws [(0, .box fv 214 7 (fAV a b u v (.ow 1 pv l.length))), (1, rowL pv 108 (eP eI eI) l)],
    by decide, fun p hp => ?_, .cons (AVle.refl _) (.cons (AVle.refl _) (.cons (AVle.refl _) (.cons (AVle.refl _) .nil))), fun k q hk => ?_, fun k hk => rws_top (top := 2) (by simp) k (by simpa using hk), a, b, u, v, l, fv, pv, i, j, n, rfl, rfl, rfl, hpv, hi, hj, hn, hl, fun pv' hp' top' nx' e1 e2 e3 e4 e5 => ?_⟩
  · rcases List.mem_cons.1 hp with rfl | hp
    · omega
    · rw [List.mem_singleton.1 hp]; exact ht
  · match k, hk with
    | 0, hk =>
      obtain rfl : 0 = q := Option.some.inj hk
      exact h0.trans (RowLe.box fun j' hj' => fAV_le (AVle.refl _) (AVle.refl _) AVle.ow j')
    | 1, hk =>
      obtain rfl : 3 = q := Option.some.inj hk
      exact h3
  · refine ⟨_, _, AVle.refl _, fun k q hk => ?_, fun q hq => ?_, fun q hq w hw => ?_, hK pv' nx' e1 e2 e5⟩
    · match k, hk with
      | 0, hk =>
        obtain rfl : 0 = q := Option.some.inj hk
        exact e3.trans (RowLe.box fun j' hj' => fAV_le (AVle.refl _) (AVle.refl _) AVle.ow j')
      | 1, hk =>
        obtain rfl : 3 = q := Option.some.inj hk
        exact e4
    · simp only [List.mem_cons, List.mem_nil_iff, or_false, not_or] at hq
      rw [updR_ne _ _ hq.2, updR_ne _ _ hq.1]
    · rcases List.mem_cons.1 hq with rfl | hq
      · exact .inl (v0.symm.trans hw)
      · obtain rfl := List.mem_singleton.1 hq
        obtain rfl : pv' = w := Option.some.inj hw
        rcases e1 with rfl | e1
        · exact .inl v3.symm
        · exact .inr e1
theorem middle_go {a b f1 f2 : List Int} {z : AV} {fv v1 v2 fa ta fb tb : Nat} {p q x y r s : Int} {hp : Nat → Row} {top nx : Nat} {K : AV → (Nat → Row) → Nat → Nat → Prop} (hx : x = (fa : Nat)) (hy : y = (ta : Nat)) (hr : r = (fb : Nat)) (hs : s = (tb : Nat))
    (h0 : RowLe (hp 0) (.box fv 214 7 (fAV a b (.ow 1 v1 f1.length) (.ow 2 v2 f2.length) z))) (h1 : RowLe (hp 1) (rowL v1 3 eI f1)) (h2 : RowLe (hp 2) (rowL v2 3 eI f2)) (ht : 2 < top)
    (hfa : fa ≤ ta) (hta : ta ≤ a.length) (hfb : fb ≤ tb) (htb : tb ≤ b.length) (ha : a.length < 100000000) (hb : b.length < 100000000) (hr1 : a.length + b.length + 3 ≤ f1.length) (hr2 : a.length + b.length + 3 ≤ f2.length) (hl1 : f1.length < 1000000000) (hl2 : f2.length < 1000000000)
    (hcut : cutF (partL a fa ta) (partL b fb tb) = some (p, q))
    (hK : ∀ g1 g2 nx', g1.length = f1.length → g2.length = f2.length → nx ≤ nx' →
      K (tu2 (kI.enc p) (kI.enc q)) (updR (updR (updR hp 0 (.box fv 214 7 (fAV a b (.ow 1 v1 f1.length) (.ow 2 v2 f2.length) z))) 1 (rowL v1 3 eI g1)) 2 (rowL v2 3 eI g2)) top nx') :
    sMiddle [.pt 0 fv 0, .val (.int .i64 x), .val (.int .i64 y), .val (.int .i64 r), .val (.int .i64 s)] hp top nx K := by
  subst hx hy hr hs
  have w0 := h0.vers
  have w1 := h1.vers
  have w2 := h2.vers
  refine ⟨[0, 1, 2], [.pt 0 fv 0, kI.enc (fa : Nat), kI.enc (ta : Nat), kI.enc (fb : Nat), kI.enc (tb : Nat)], rws [(0, .box fv 214 7 (fAV a b (.ow 1 v1 f1.length) (.ow 2 v2 f2.length) z)), (1, rowL v1 3 eI f1), (2, rowL v2 3 eI f2)],
    by decide, fun p hp => ?_, .cons (AVle.refl _) (.cons (AVle.refl _) (.cons (AVle.refl _) (.cons (AVle.refl _) (.cons (AVle.refl _) .nil)))), fun k q hk => ?_, fun k hk => rws_top (top := 3) (by simp) k (by simpa using hk), a, b, f1, f2, z, fv, v1, v2, fa, ta, fb, tb, p, q, rfl, rfl, rfl, hfa, hta, hfb, htb, ha, hb, hr1, hr2, hl1, hl2, hcut, fun g1 g2 hp' top' nx' e1 e2 e3 e4 e5 e6 => ?_⟩
  · simp only [List.mem_cons, List.mem_nil_iff, or_false] at hp
    omega
  · match k, hk with
    | 0, hk => obtain rfl : 0 = q := Option.some.inj hk; exact h0
    | 1, hk => obtain rfl : 1 = q := Option.some.inj hk; exact h1
    | 2, hk => obtain rfl : 2 = q := Option.some.inj hk; exact h2
  · refine ⟨_, _, AVle.refl _, fun k q hk => ?_, fun q hq => ?_, fun q hq w hw => ?_, hK g1 g2 nx' e1 e2 e6⟩
    · match k, hk with
      | 0, hk => obtain rfl : 0 = q := Option.some.inj hk; exact e3
      | 1, hk => obtain rfl : 1 = q := Option.some.inj hk; exact e4
      | 2, hk => obtain rfl : 2 = q := Option.some.inj hk; exact e5
    · simp only [List.mem_cons, List.mem_nil_iff, or_false, not_or] at hq
      rw [updR_ne _ _ hq.2.2, updR_ne _ _ hq.2.1, updR_ne _ _ hq.1]
    · simp only [List.mem_cons, List.mem_nil_iff, or_false] at hq
      rcases hq with rfl | rfl | rfl
      · exact .inl (w0.symm.trans hw)
      · exact .inl (w1.symm.trans hw)
      · exact .inl (w2.symm.trans hw)
end Go.Proofs.YtjfmigpahglajaaGreatDoor
set_option linter.unusedSimpArgs false
set_option linter.unusedVariables false
set_option maxRecDepth 100000
set_option maxHeartbeats 2000000
namespace Go.Proofs.YtjfmigpahglajaaGreatDoor
open Go
attribute [local irreducible] AW AVle ASle RowLe
def fRows (a b : List Int) (fv v1 v2 pv : Nat) (g1 g2 : List Int) (l : List (Int × Int)) : List (Nat × Row) :=
  [(0, .box fv 214 7 (fAV a b (.ow 1 v1 g1.length) (.ow 2 v2 g2.length) (.ow 3 pv l.length))), (1, rowL v1 3 eI g1), (2, rowL v2 3 eI g2), (3, rowL pv 108 (eP eI eI) l)]
def sFind0 (N : Nat) : MSpec := fun args hp top nx K => ∃ a b f1 f2 l fv v1 v2 pv fa ta fb tb, args = [.pt 0 fv 0, kI.enc (fa : Nat), kI.enc (ta : Nat), kI.enc (fb : Nat), kI.enc (tb : Nat)] ∧
  hp = rws (fRows a b fv v1 v2 pv f1 f2 l) ∧ top = 4 ∧ pv < nx ∧
  fa ≤ ta ∧ ta ≤ a.length ∧ fb ≤ tb ∧ tb ≤ b.length ∧ a.length < 100000000 ∧ b.length < 100000000 ∧ a.length + b.length + 3 ≤ f1.length ∧ a.length + b.length + 3 ≤ f2.length ∧ f1.length < 1000000000 ∧ f2.length < 1000000000 ∧
  l.length + (ta - fa) < 500000000 ∧ (ta - fa) + (tb - fb) < N ∧
  ∀ g1 g2 pv' hp' top' nx', g1.length = f1.length → g2.length = f2.length → (pv' = pv ∨ nx ≤ pv') → pv' < nx' → (∀ i, i < 4 → RowLe (hp' i) (rws (fRows a b fv v1 v2 pv' g1 g2 (l ++ shP fa fb (findG (partL a fa ta) (partL b fb tb)))) i)) → nx ≤ nx' →
    K (.val (.tuple #[])) hp' top' nx'
def sFind (N : Nat) : MSpec := framed (sFind0 N)
theorem find_go {N : Nat} {a b f1 f2 : List Int} {l : List (Int × Int)} {fv v1 v2 pv fa ta fb tb : Nat} {x y r s : Int} {hp : Nat → Row} {top nx : Nat} {K : AV → (Nat → Row) → Nat → Nat → Prop} (hx : x = (fa : Nat)) (hy : y = (ta : Nat)) (hr : r = (fb : Nat)) (hs : s = (tb : Nat))
    (h0 : ∀ i, i < 4 → RowLe (hp i) (rws (fRows a b fv v1 v2 pv f1 f2 l) i)) (ht : 3 < top) (hpv : pv < nx)
    (hfa : fa ≤ ta) (hta : ta ≤ a.length) (hfb : fb ≤ tb) (htb : tb ≤ b.length) (ha : a.length < 100000000) (hb : b.length < 100000000) (hr1 : a.length + b.length + 3 ≤ f1.length) (hr2 : a.length + b.length + 3 ≤ f2.length) (hl1 : f1.length < 1000000000) (hl2 : f2.length < 1000000000)
    (hl : l.length + (ta - fa) < 500000000) (hN : (ta - fa) + (tb - fb) < N)
    (hK : ∀ g1 g2 pv' hp' nx', g1.length = f1.length → g2.length = f2.length → (pv' = pv ∨ nx ≤ pv') → pv' < nx' → nx ≤ nx' → (∀ i, i < 4 → hp' i = rws (fRows a b fv v1 v2 pv' g1 g2 (l ++ shP fa fb (findG (partL a fa ta) (partL b fb tb)))) i) → (∀ i, 4 ≤ i → hp' i = hp i) → K (.val (.tuple #[])) hp' top nx') :
    sFind N [.pt 0 fv 0, .val (.int .i64 x), .val (.int .i64 y), .val (.int .i64 r), .val (.int .i64 s)] hp top nx K := by
  subst hx hy hr hs
  have w := fun i hi => (h0 i hi).vers
  have lt4 : ∀ (k q : Nat), [0, 1, 2, 3][k]? = some q → k = q ∧ k < 4 := fun k q hk => by
    match k, hk with
    | 0, hk => exact ⟨Option.some.inj hk, by decide⟩
    | 1, hk => exact ⟨Option.some.inj hk, by decide⟩
    | 2, hk => exact ⟨Option.some.inj hk, by decide⟩
    | 3, hk => exact ⟨Option.some.inj hk, by decide⟩
  have mem4 : ∀ q, q ∈ [0, 1, 2, 3] ↔ q < 4 := fun q => by simp; omega
  refine ⟨[0, 1, 2, 3], [.pt 0 fv 0, kI.enc (fa : Nat), kI.enc (ta : Nat), kI.enc (fb : Nat), kI.enc (tb : Nat)], rws (fRows a b fv v1 v2 pv f1 f2 l),
    by decide, fun p hp => ?_, .cons (AVle.refl _) (.cons (AVle.refl _) (.cons (AVle.refl _) (.cons (AVle.refl _) (.cons (AVle.refl _) .nil)))), fun k q hk => ?_, fun k hk => rws_top (top := 4) (by simp [fRows]) k (by simpa using hk), a, b, f1, f2, l, fv, v1, v2, pv, fa, ta, fb, tb, rfl, rfl, rfl, hpv, hfa, hta, hfb, htb, ha, hb, hr1, hr2, hl1, hl2, hl, hN, fun g1 g2 pv' hp' top' nx' e1 e2 e3 e4 e5 e6 => ?_⟩
  · have := (mem4 p).1 hp; omega
  · obtain ⟨rfl, h⟩ := lt4 k q hk
    exact h0 k h
  · refine ⟨_, fun i => if i < 4 then rws (fRows a b fv v1 v2 pv' g1 g2 (l ++ shP fa fb (findG (partL a fa ta) (partL b fb tb)))) i else hp i, AVle.refl _, fun k q hk => ?_, fun q hq => ?_, fun q hq u hu => ?_, hK g1 g2 pv' _ nx' e1 e2 e3 e4 e6 (fun i hi => if_pos hi) (fun i hi => if_neg (by omega))⟩
    · obtain ⟨rfl, h⟩ := lt4 k q hk
      simp only [if_pos h]
      exact e5 k h
    · rw [mem4] at hq
      exact if_neg hq
    · rw [mem4] at hq
      simp only [if_pos hq] at hu
      have := w q hq
      match q, hq with
      | 0, _ => exact .inl (this.symm.trans hu)
      | 1, _ => exact .inl (this.symm.trans hu)
      | 2, _ => exact .inl (this.symm.trans hu)
      | 3, _ =>
        obtain rfl : pv' = u := Option.some.inj hu
        rcases e3 with rfl | e3
        · exact .inl this.symm
        · exact .inr e3
theorem AW.cutF {P : Program} {x : Code} {Q : Exit → AS → Prop} {st : AS} (fr : List (Nat × AV)) (a b : List Int) (fv v1 v2 pv : Nat) (g1 g2 : List Int) (l : List (Int × Int)) (hr : ∀ i, i < 4 → RowLe (st.hp i) (rws (fRows a b fv v1 v2 pv g1 g2 l) i)) (nx : Nat) (hz : st.sz = 91) (hd : st.df = []) (hnx : st.nx = nx)
    (hfr : ∀ p ∈ fr, AVle (st.fr p.1) p.2) (k : AW P x Q (Sh.st ⟨fr, fRows a b fv v1 v2 pv g1 g2 l, 91, 4, nx, []⟩)) : AW P x Q st := by
  refine AW.cut ⟨fr, fRows a b fv v1 v2 pv g1 g2 l, 91, 4, nx, []⟩ ⟨⟨⟨hz.symm, hd.symm⟩, Nat.le_of_eq hnx⟩, hfr, ?_, ?_⟩ k
  · rintro p hp
    simp only [fRows, List.mem_cons, List.mem_nil_iff, or_false] at hp
    rcases hp with rfl | rfl | rfl | rfl
    · exact hr 0 (by decide)
    · exact hr 1 (by decide)
    · exact hr 2 (by decide)
    · exact hr 3 (by decide)
  · rintro p hp
    simp only [fRows, List.mem_cons, List.mem_nil_iff, or_false] at hp
    rcases hp with rfl | rfl | rfl | rfl <;> simp
theorem all4 {p : Nat → Prop} (h0 : p 0) (h1 : p 1) (h2 : p 2) (h3 : p 3) : ∀ i, i < 4 → p i
  | 0, _ => h0
  | 1, _ => h1
  | 2, _ => h2
  | 3, _ => h3
  | i + 4, h => by omega
theorem okFindB : MethOK Tryz.prog 158 (sFind 0) := by
  refine MethOK.frame ?_
  refine MethOK.mk Tryz.func158 rfl (by decide) Tryz.results158 Tryz.ntmps158 ?_
  rintro args hp top nx K ⟨_, _, _, _, _, _, _, _, _, _, _, _, _, _, _, _, _, _, _, _, _, _, _, _, _, _, _, _, h, _⟩
  omega
theorem okFindS (N : Nat) (ih : MethOK Tryz.prog 158 (sFind N)) : MethOK Tryz.prog 158 (sFind (N + 1)) := by
  refine MethOK.frame ?_
  refine MethOK.mk Tryz.func158 rfl (by decide) Tryz.results158 Tryz.ntmps158 ?_
  rintro args hp top nx K ⟨a, b, f1, f2, l, fv, v1, v2, pv, fa, ta, fb, tb, rfl, rfl, rfl, hpv, hfa, hta, hfb, htb, ha, hb, hr1, hr2, hl1, hl2, hl, hN, hK⟩
  have hΓ : GOK Tryz.prog (gam [(172, sEndsI), (173, sAdd), (174, sMiddle), (158, (Con.meth (sFind N)))]) := .cons okEndsI (.cons okAdd (.cons okMiddle (.cons ih .nil)))
  refine ⟨Nat.le_of_ble_eq_true rfl, ?_⟩
  have pA : (List.range (ta - fa)).map (fun i => a.getD (fa + i) 0) = partL a fa ta := by rw [part_eq a 0 (by omega)]; rfl
  have pB : (List.range (tb - fb)).map (fun i => b.getD (fb + i) 0) = partL b fb tb := by rw [part_eq b 0 (by omega)]; rfl
  have lA : (partL a fa ta).length = ta - fa := partL_len hta
  have lB : (partL b fb tb).length = tb - fb := partL_len htb
  obtain ⟨A, hA⟩ : ∃ A, partL a fa ta = A := ⟨_, rfl⟩
  obtain ⟨B, hB⟩ : ∃ B, partL b fb tb = B := ⟨_, rfl⟩
  have hbh : bhd (A.drop (ahd A B)) (B.drop (ahd A B)) = bh A B := rfl
  rw [hA] at pA lA
  rw [hB] at pB lB
  refine AW.of hΓ mixed [1, 99999] _ _ _ rfl ?_
  simp only [go_sem, fRows, fAV_0, fAV_1, sEndsI, pA, pB, hbh]
  have hbl := bh_le (a := A) (b := B)
  have hcl := core_len (a := A) (b := B)
  obtain ⟨h, hh⟩ : ∃ h, ahd A B = h := ⟨_, rfl⟩
  obtain ⟨e, he⟩ : ∃ e, bh A B = e := ⟨_, rfl⟩
  rw [hh, he] at hbl hcl ⊢
  refine ⟨by omega, by omega, by omega, add_go (l := l) (pv := pv) (i := fa) (j := fb) (n := h) rfl rfl rfl (RowLe.refl _) (RowLe.refl _) (by decide) hpv (by omega) (by omega) (by omega) (by omega) fun p1 n1 hp1 hpn1 hn1 => ?_⟩
  simp only [methK_app, contX_app, xOps_nil, rest_normal]
  refine AW.cutF [(0, .pt 0 fv 0), (1, .val (.int .i64 fa)), (2, .val (.int .i64 ta)), (3, .val (.int .i64 fb)), (4, .val (.int .i64 tb)), (10, .val (.int .i64 h)), (11, .val (.int .i64 e))] a b fv v1 v2 p1 f1 f2 (l ++ prs fa fb h)
    (all4 (RowLe.refl _) (RowLe.refl _) (RowLe.refl _) (RowLe.refl _)) n1 rfl rfl rfl ?_ ?_
  · simp only [go_sem]
  have eG : ∀ m, A.length = m → True := fun _ _ => trivial
  by_cases hc : (core A B).length ≠ 0 ∧ (coreR A B).length ≠ 0
  · obtain ⟨p, q, hcut, hpl, hql, hpq, hpq2, hG⟩ := findG_some hc.1 hc.2
    have c1 : (fa : Int) + h < ta - e := by omega
    have c2 : (fb : Int) + h < tb - e := by omega
    refine AW.of hΓ mixed [5, 99999] _ _ _ rfl ?_
    simp only [go_sem, c1, c2]
    have eC : core A B = partL a (fa + h) (ta - e) := by
      rw [core, hh, he, lA, ← hA, partL_drop, partL_take (by omega)]
      congr 1
      omega
    have eD : coreR A B = partL b (fb + h) (tb - e) := by
      rw [coreR, hh, he, lB, ← hB, partL_drop, partL_take (by omega)]
      congr 1
      omega
    refine ⟨by omega, by omega, by omega, by omega, middle_go (a := a) (b := b) (f1 := f1) (f2 := f2) (fv := fv) (v1 := v1) (v2 := v2) (fa := fa + h) (ta := ta - e) (fb := fb + h) (tb := tb - e) (p := p) (q := q) (by omega) (by omega) (by omega) (by omega) (RowLe.refl _) (RowLe.refl _) (RowLe.refl _) (by decide)
      (by omega) (by omega) (by omega) (by omega) ha hb hr1 hr2 hl1 hl2 (by rw [← eC, ← eD]; exact hcut) fun g1 g2 n2 hg1 hg2 hn2 => ?_⟩
    simp only [go_sem, tu2]
    refine AW.cutF [(0, .pt 0 fv 0), (1, .val (.int .i64 ((fa + h : Nat) : Int))), (2, .val (.int .i64 ((ta - e : Nat) : Int))), (3, .val (.int .i64 ((fb + h : Nat) : Int))), (4, .val (.int .i64 ((tb - e : Nat) : Int))), (10, .val (.int .i64 h)), (11, .val (.int .i64 e)), (12, .val (.int .i64 p)), (13, .val (.int .i64 q))] a b fv v1 v2 p1 g1 g2 (l ++ prs fa fb h)
      (all4 (RowLe.of_eq (by show Row.box fv 214 7 (fAV a b (.ow 1 v1 f1.length) (.ow 2 v2 f2.length) (.ow 3 p1 (l.length + (prs fa fb h).length))) = _; rw [← hg1, ← hg2, ← List.length_append]; rfl)) (RowLe.refl _) (RowLe.refl _) (RowLe.refl _)) n2 rfl rfl rfl ?_ ?_
    · simp only [go_sem]
      exact ⟨by omega, by omega, by omega, by omega⟩
    have eP1 : (core A B).take p = partL a (fa + h) (fa + h + p) := by rw [eC]; exact partL_take (by omega)
    have eP2 : (coreR A B).take q = partL b (fb + h) (fb + h + q) := by rw [eD]; exact partL_take (by omega)
    have eP3 : (core A B).drop p = partL a (fa + h + p) (ta - e) := by rw [eC]; exact partL_drop
    have eP4 : (coreR A B).drop q = partL b (fb + h + q) (tb - e) := by rw [eD]; exact partL_drop
    rw [eP1, eP2, eP3, eP4] at hG
    have hG1 : (findG (partL a (fa + h) (fa + h + p)) (partL b (fb + h) (fb + h + q))).length ≤ p := by
      have := lcsN_le (partL a (fa + h) (fa + h + p)) (partL b (fb + h) (fb + h + q))
      rw [findG_len]
      rw [partL_len (by omega), partL_len (by omega)] at this
      omega
    have hG2 : (findG (partL a (fa + h + p) (ta - e)) (partL b (fb + h + q) (tb - e))).length ≤ ta - e - (fa + h + p) := by
      have := lcsN_le (partL a (fa + h + p) (ta - e)) (partL b (fb + h + q) (tb - e))
      rw [findG_len]
      rw [partL_len (by omega), partL_len (by omega)] at this
      omega
    refine AW.of hΓ mixed [6, 99999] _ _ _ rfl ?_
    simp only [go_sem]
    refine ⟨by omega, by omega, find_go (a := a) (b := b) (f1 := g1) (f2 := g2) (fv := fv) (v1 := v1) (v2 := v2) (pv := p1) (l := l ++ prs fa fb h) (fa := fa + h) (ta := fa + h + p) (fb := fb + h) (tb := fb + h + q) (by omega) (by omega) (by omega) (by omega) (fun i _ => RowLe.refl _) (by decide) (by omega)
      (by omega) (by omega) (by omega) (by omega) ha hb (by omega) (by omega) (by omega) (by omega) (by rw [List.length_append, prs_len]; omega) (by omega) fun g3 g4 p2 hp2 n3 hg3 hg4 hpp2 hpn2 hn3 hE _ => ?_⟩
    simp only [methK_app, contX_app, xOps_nil, rest_normal]
    refine AW.cutF [(0, .pt 0 fv 0), (1, .val (.int .i64 ((fa + h : Nat) : Int))), (2, .val (.int .i64 ((ta - e : Nat) : Int))), (3, .val (.int .i64 ((fb + h : Nat) : Int))), (4, .val (.int .i64 ((tb - e : Nat) : Int))), (11, .val (.int .i64 e)), (12, .val (.int .i64 p)), (13, .val (.int .i64 q))] a b fv v1 v2 p2 g3 g4 _
      (fun i hi => RowLe.of_eq (hE i hi)) n3 rfl rfl rfl ?_ ?_
    · simp only [go_sem]
    refine AW.of hΓ mixed [7, 99999] _ _ _ rfl ?_
    simp only [go_sem]
    refine ⟨by omega, by omega, find_go (a := a) (b := b) (f1 := g3) (f2 := g4) (fv := fv) (v1 := v1) (v2 := v2) (pv := p2) (fa := fa + h + p) (ta := ta - e) (fb := fb + h + q) (tb := tb - e) (by omega) (by omega) (by omega) (by omega) (fun i _ => RowLe.refl _) (by decide) (by omega)
      (by omega) (by omega) (by omega) (by omega) ha hb (by omega) (by omega) (by omega) (by omega) (by simp only [List.length_append, prs_len, shP_len]; omega) (by omega) fun g5 g6 p3 hp3 n4 hg5 hg6 hpp3 hpn3 hn4 hE2 _ => ?_⟩
    simp only [go_sem]
    refine add_go (i := ta - e) (j := tb - e) (n := e) rfl rfl rfl (RowLe.of_eq (hE2 0 (by decide))) (RowLe.of_eq (hE2 3 (by decide))) (by decide) (by omega) (by omega) (by omega) (by omega) (by simp only [List.length_append, prs_len, shP_len]; omega) fun p4 n5 hp4 hpn4 hn5 => ?_
    have hfin : l ++ shP fa fb (findG A B) = l ++ prs fa fb h ++ shP ((fa + h : Nat) : Int) ((fb + h : Nat) : Int) (findG (partL a (fa + h) (fa + h + p)) (partL b (fb + h) (fb + h + q))) ++ shP ((fa + h + p : Nat) : Int) ((fb + h + q : Nat) : Int) (findG (partL a (fa + h + p) (ta - e)) (partL b (fb + h + q) (tb - e))) ++ prs ((ta - e : Nat) : Int) ((tb - e : Nat) : Int) e := by
      rw [hG, hh, he]
      simp only [shP_app, shP_prs, shP_shP, List.append_assoc, Int.add_zero]
      rw [show (fa : Int) + ((A.length : Int) - e) = ((ta - e : Nat) : Int) by omega, show (fb : Int) + ((B.length : Int) - e) = ((tb - e : Nat) : Int) by omega, show (fa : Int) + h = ((fa + h : Nat) : Int) by omega, show (fb : Int) + h = ((fb + h : Nat) : Int) by omega,
        show (fa : Int) + ((h : Int) + p) = ((fa + h + p : Nat) : Int) by omega, show (fb : Int) + ((h : Int) + q) = ((fb + h + q : Nat) : Int) by omega]
    simp only [methK_app, contX_app, xOps_nil, retM_normal, endM, true_and]
    refine hK g5 g6 p4 _ _ _ (by omega) (by omega) (by omega) hpn4 ?_ (by omega)
    rw [hA, hB, hfin]
    refine all4 (RowLe.refl _) (RowLe.of_eq (hE2 1 (by decide))) (RowLe.of_eq (hE2 2 (by decide))) (RowLe.refl _)
  · have c12 : ¬ ((fa : Int) + h < ta - e ∧ (fb : Int) + h < tb - e) := by omega
    refine AW.of hΓ mixed [8, 99999] _ _ _ rfl ?_
    simp only [go_sem, c12, false_implies, not_false_eq_true, true_implies]
    refine ⟨by omega, by omega, by omega, by omega, fun _ => ?_⟩
    refine add_go (i := ta - e) (j := tb - e) (n := e) (by omega) (by omega) rfl (RowLe.refl _) (RowLe.refl _) (by decide) (by omega) (by omega) (by omega) (by omega) (by simp only [List.length_append, prs_len]; omega) fun p4 n5 hp4 hpn4 hn5 => ?_
    have hfin : l ++ shP fa fb (findG A B) = l ++ prs fa fb h ++ prs ((ta - e : Nat) : Int) ((tb - e : Nat) : Int) e := by
      rw [findG_none hc, hh, he]
      simp only [shP_app, shP_prs, List.append_assoc, Int.add_zero]
      rw [show (fa : Int) + ((A.length : Int) - e) = ((ta - e : Nat) : Int) by omega, show (fb : Int) + ((B.length : Int) - e) = ((tb - e : Nat) : Int) by omega]
    simp only [methK_app, contX_app, xOps_nil, retM_normal, endM, true_and]
    refine hK f1 f2 p4 _ _ _ rfl rfl (by omega) hpn4 ?_ (by omega)
    rw [hA, hB, hfin]
    refine all4 (RowLe.refl _) (RowLe.refl _) (RowLe.refl _) (RowLe.refl _)
theorem okFind (N : Nat) : MethOK Tryz.prog 158 (sFind N) := by
  induction N with
  | zero => exact okFindB
  | succ N ih => exact okFindS N ih
end Go.Proofs.YtjfmigpahglajaaGreatDoor
set_option linter.unusedSimpArgs false
set_option linter.unusedVariables false
set_option maxRecDepth 100000
set_option maxHeartbeats 2000000
namespace Go.Proofs.YtjfmigpahglajaaGreatDoor
open Go
attribute [local irreducible] AW AVle ASle RowLe
def mapB (ks : List Int) : Key → Option Value
  | .i n => if n ∈ ks then some (.bool true) else none
  | .s _ => none
theorem mapB_i (ks : List Int) (n : Int) : mapB ks (.i n) = if n ∈ ks then some (.bool true) else none := rfl
theorem mapB_push (ks : List Int) (n : Int) : setKey (mapB ks) (.i n) (.bool true) = mapB (ks ++ [n]) := by
  funext k
  cases k with
  | i m =>
    simp only [setKey, mapB]
    by_cases h : m = n
    · subst h; simp
    · rw [if_neg (fun e => h (by injection e))]; simp [h]
  | s x => simp [setKey, mapB]
theorem mapB_nil : mapB [] = fun _ => none := by
  funext k
  cases k <;> simp [mapB]
def sShared : Spec := Spec.f2 (kL eI) (kL eI) (fun a b => a.length < 100000000 ∧ b.length < 100000000) (fun a b => tu2 (sL eI (shI a b)) (sL eI (shQ a b)))
theorem okShared : SpecOK Tryz.prog 137 sShared := by
  refine SpecOK.f2 Tryz.func137 rfl (by decide) Tryz.results137 Tryz.ntmps137 (by decide) fun a b ⟨ha, hb⟩ => ?_
  have hΓ : GOK Tryz.prog (gam []) := GOK.nil
  refine AW.of hΓ mixed [] _ _ _ rfl ?_
  simp only [go_sem]
  refine AW.round (α := { x : Nat × Nat // x.1 ≤ b.length })
    (fun x => ⟨[(0, sL eI a), (6, .mp 0 0), (16, sL eI b), (17, .val (.int .i64 b.length)), (18, .val (.int .i64 x.1.1))], [(0, .mp 0 false x.1.2 (mapB (b.take x.1.1)))], 46, 1, 1, []⟩) (fun x => b.length - x.1.1) ⟨(0, 0), Nat.zero_le _⟩ ?_ ?_
  · simp only [go_sem]
    exact RowLe.of_eq (by rw [List.take_zero, mapB_nil])
  · rintro ⟨⟨i, n⟩, hi⟩
    simp only at hi
    refine AW.of hΓ mixed [99999] _ _ _ rfl ?_
    simp only [go_sem]
    refine ⟨fun hlt => ⟨by omega, by omega, ⟨(i + 1, if (mapB (b.take i) (Key.i (b.getD i 0))).isSome = true then n else n + 1), by dsimp only; omega⟩, ⟨by dsimp only; omega, RowLe.of_eq (by rw [mapB_push, ← take_snoc' (by omega)])⟩, by dsimp only; omega⟩, fun hge => ?_⟩
    obtain rfl : i = b.length := by omega
    rw [List.take_length]
    refine AW.adopt 9 3 1 (fun _ _ => .any) rfl ?_
    refine AW.adopt 10 3 1 (fun _ _ => .any) rfl ?_
    refine AW.round (α := { x : Nat × Nat × Nat × Nat // x.1 ≤ a.length })
      (fun x => ⟨[(6, .mp 0 0), (9, .ow 1 x.1.2.1 ((a.take x.1.1).filter fun y => b.contains y).length), (10, .ow 2 x.1.2.2.1 (plc (fun y => b.contains y) 0 (a.take x.1.1)).length), (25, sL eI a), (26, .val (.int .i64 a.length)), (27, .val (.int .i64 x.1.1))],
        [(0, .mp 0 false n (mapB b)), (1, rowL x.1.2.1 3 eI ((a.take x.1.1).filter fun y => b.contains y)), (2, rowL x.1.2.2.1 3 eI (plc (fun y => b.contains y) 0 (a.take x.1.1)))], 46, 3, x.1.2.2.2, []⟩) (fun x => a.length - x.1.1) ⟨(0, 1, 2, 3), Nat.zero_le _⟩ ?_ ?_
    · simp only [go_sem]
      exact ⟨⟨rfl, rfl⟩, RowLe.refl _, row_nil (E := eI) rfl, row_nil (E := eI) rfl⟩
    · rintro ⟨⟨j, v1, v2, nx⟩, hj⟩
      simp only at hj
      refine AW.of hΓ mixed [99999] _ _ _ rfl ?_
      simp only [go_sem, mapB_i]
      have l1 : ((a.take j).filter fun y => b.contains y).length ≤ j := Nat.le_trans (List.length_filter_le _ _) (by simp; omega)
      have l2 := plc_len (fun y => b.contains y) 0 (a.take j)
      refine ⟨fun hlt => ⟨by omega, ?_⟩, fun hge => ?_⟩
      · have ht : a.take (j + 1) = a.take j ++ [a.getD j 0] := take_snoc' (by omega)
        have hp := plc_snoc (fun y => b.contains y) (a.getD j 0) 0 (a.take j)
        have hk : (0 : Int) + ((a.take j).length : Int) = j := by simp; omega
        by_cases hm : a.getD j 0 ∈ b
        · have hc : b.contains (a.getD j 0) = true := by simpa using hm
          have e1 : ((a.take (j + 1)).filter fun y => b.contains y) = ((a.take j).filter fun y => b.contains y) ++ [a.getD j 0] := by
            rw [ht, List.filter_append, List.filter_cons_of_pos hc]; rfl
          have e2 : plc (fun y => b.contains y) 0 (a.take (j + 1)) = plc (fun y => b.contains y) 0 (a.take j) ++ [(j : Int)] := by
            rw [ht, hp, if_pos hc, hk]
          rw [if_pos hm]
          simp only [go_sem, Option.getD_some]
          refine ⟨by omega, by omega, by omega, ⟨(j + 1, nx, nx + 1, nx + 2), by dsimp only; omega⟩, ⟨by dsimp only; omega, ⟨⟨rfl, by dsimp only; rw [e1]; simp⟩, ⟨rfl, by dsimp only; rw [e2]; simp⟩, by dsimp only; omega⟩, RowLe.refl _, ?_, ?_⟩, by dsimp only; omega⟩
          · exact row_app1 (E := eI) rfl e1 rfl rfl rfl (fun _ _ => AVle.refl _)
          · exact row_app1 (E := eI) rfl e2 rfl rfl rfl (fun _ _ => AVle.refl _)
        · have hc : ¬ b.contains (a.getD j 0) = true := by simpa using hm
          have e1 : ((a.take (j + 1)).filter fun y => b.contains y) = ((a.take j).filter fun y => b.contains y) := by
            rw [ht, List.filter_append, List.filter_cons_of_neg hc]; simp
          have e2 : plc (fun y => b.contains y) 0 (a.take (j + 1)) = plc (fun y => b.contains y) 0 (a.take j) := by
            rw [ht, hp, if_neg hc]; simp
          rw [if_neg hm]
          simp only [go_sem, Option.getD_none]
          refine ⟨by omega, ⟨(j + 1, v1, v2, nx), by dsimp only; omega⟩, ⟨Nat.le_refl _, ⟨⟨rfl, by dsimp only; rw [e1]⟩, ⟨rfl, by dsimp only; rw [e2]⟩, by dsimp only; omega⟩, RowLe.refl _, by dsimp only; rw [e1]; exact RowLe.refl _, by dsimp only; rw [e2]; exact RowLe.refl _⟩, by dsimp only; omega⟩
      · obtain rfl : j = a.length := by omega
        rw [List.take_length]
        exact ⟨vw_all (E := eI) (l := shI a b) rfl rfl rfl, vw_all (E := eI) (l := shQ a b) rfl rfl rfl⟩
end Go.Proofs.YtjfmigpahglajaaGreatDoor
set_option linter.unusedSimpArgs false
set_option linter.unusedVariables false
set_option maxRecDepth 100000
set_option maxHeartbeats 2000000
namespace Go.Proofs.YtjfmigpahglajaaGreatDoor
open Go
attribute [local irreducible] AW AVle ASle RowLe
def sCloneI : MSpec := fun args hp top nx K => ∃ x l, args = [x] ∧ AVle x (sL eI l) ∧ l.length < 1000000000 ∧ ∀ ver nx', nx ≤ ver → ver < nx' → K (.ow top ver l.length) (updR hp top (rowL ver 3 eI l)) (top + 1) nx'
theorem okCloneI : MethOK Tryz.prog 170 sCloneI := by
  refine MethOK.mk Tryz.func170 rfl (by decide) Tryz.results170 Tryz.ntmps170 ?_
  rintro args hp top nx K ⟨x, l, rfl, hx, hl, hK⟩
  have hΓ : GOK Tryz.prog (gam []) := GOK.nil
  refine ⟨Nat.le_of_ble_eq_true rfl, ?_⟩
  refine AW.le (stM_le (.cons hx .nil)) ?_
  refine AW.of hΓ mixed [2, 99999] _ _ _ rfl ?_
  simp only [go_sem]
  refine ⟨fun h0 => ?_, ?_⟩
  · refine AW.adopt 2 3 1 (fun i => eI.enc (l.getD i 0)) rfl ?_
    refine AW.of hΓ mixed [] _ _ _ rfl ?_
    simp only [go_sem]
    obtain rfl := List.length_eq_zero_iff.1 h0
    exact hK nx (nx + 1) (Nat.le_refl _) (Nat.lt_succ_self _)
  · exact ⟨by omega, hK nx (nx + 1) (Nat.le_refl _) (Nat.lt_succ_self _)⟩
def sReverseI0 : MSpec := fun args hp top nx K => ∃ l ver, args = [.ow 0 ver l.length] ∧ hp = rws [(0, rowL ver 3 eI l)] ∧ top = 1 ∧ l.length < 1000000000 ∧
  ∀ hp' top' nx', RowLe (hp' 0) (rowL ver 3 eI l.reverse) → nx ≤ nx' → K (.val (.tuple #[])) hp' top' nx'
theorem okReverseI0 : MethOK Tryz.prog 171 sReverseI0 := by
  refine MethOK.mk Tryz.func171 rfl (by decide) Tryz.results171 Tryz.ntmps171 ?_
  rintro args hp top nx K ⟨l, ver, rfl, rfl, rfl, hl, hK⟩
  have hΓ : GOK Tryz.prog (gam []) := GOK.nil
  refine ⟨Nat.le_of_ble_eq_true rfl, ?_⟩
  refine AW.of hΓ mixed [200003] _ _ _ rfl ?_
  simp only [go_sem]
  refine ⟨by omega, ?_⟩
  refine AW.round (α := { x : Nat × List Int // 2 * x.1 ≤ l.length + 1 ∧ x.2.length = l.length ∧ ∀ k, k < l.length → x.2.getD k 0 = if k < x.1 ∨ l.length - 1 - x.1 < k then l.getD (l.length - 1 - k) 0 else l.getD k 0 })
    (fun x => ⟨[(0, .ow 0 ver l.length), (2, .val (.int .i64 x.1.1)), (3, .val (.int .i64 ((l.length : Int) - 1 - x.1.1)))], [(0, rowL ver 3 eI x.1.2)], 28, 1, nx, []⟩) (fun x => l.length - x.1.1) ⟨(0, l), by simp, rfl, fun k hk => by simp; omega⟩ ?_ ?_
  · simp only [go_sem]
    exact ⟨by omega, RowLe.refl _⟩
  · rintro ⟨⟨i, m⟩, hi, hm, hk⟩
    simp only at hi hm hk
    refine AW.of hΓ mixed [200003, 99999] _ _ _ rfl ?_
    simp only [go_sem]
    refine ⟨fun hlt => ?_, fun hge => ?_⟩
    · refine AW.drawT hΓ mixed 13 [] (by decide +kernel) ?_
      simp only [go_sem]
      have e1 : ((l.length : Int) - 1 - i).toNat = l.length - 1 - i := by omega
      rw [e1]
      refine ⟨by omega, by omega, by omega, by omega, by omega, by omega, by omega, by omega, by omega, by omega, ⟨(i + 1, (m.set i (m.getD (l.length - 1 - i) 0)).set (l.length - 1 - i) (m.getD i 0)), by dsimp only; omega, by simp [hm], fun k hk' => ?_⟩, ⟨⟨by dsimp only; omega, by dsimp only; omega⟩, RowLe.sl (by simp) fun k hk' j hj => ?_⟩, by dsimp only; omega⟩
      · have h1 := hk i (by omega)
        have h2 := hk (l.length - 1 - i) (by omega)
        rw [if_neg (by omega)] at h1 h2
        dsimp only
        rw [h1, h2]
        by_cases c2 : k = l.length - 1 - i
        · subst c2
          rw [if_pos (by omega)]
          simp only [List.getD]
          rw [List.getElem?_set_self (by simp; omega), show l.length - 1 - (l.length - 1 - i) = i by omega]
          rfl
        · by_cases c1 : k = i
          · subst c1
            rw [if_pos (by omega)]
            simp only [List.getD]
            rw [List.getElem?_set_ne (by omega), List.getElem?_set_self (by omega)]
            rfl
          · have e2 : ((m.set i (l.getD (l.length - 1 - i) 0)).set (l.length - 1 - i) (l.getD i 0)).getD k 0 = m.getD k 0 := by
              simp only [List.getD]
              rw [List.getElem?_set_ne (by omega), List.getElem?_set_ne (by omega)]
            rw [e2, hk k hk']
            by_cases c : k < i ∨ l.length - 1 - i < k
            · rw [if_pos c, if_pos (by omega)]
            · rw [if_neg c, if_neg (by omega)]
      · exact stE_le (E := eI) (n := m.length) (by simp; omega) (stE_le (E := eI) (n := m.length) (by omega) (fun _ _ _ _ => AVle.refl _) (fun _ _ => AVle.refl _)) (fun _ _ => AVle.refl _) k hk' j hj
    · have e : m = l.reverse := by
        refine list_ext_getD 0 (by simp [hm]) fun k hk' => ?_
        rw [hk k (by omega)]
        simp only [List.getD]
        rw [List.getElem?_reverse (by omega)]
        by_cases c : k < i ∨ l.length - 1 - i < k
        · rw [if_pos c]
        · rw [if_neg c, show l.length - 1 - k = k by omega]
      exact hK _ _ _ (by rw [← e]; exact RowLe.refl _) (Nat.le_refl _)
def sReverseI : MSpec := framed sReverseI0
theorem okReverseI : MethOK Tryz.prog 171 sReverseI := okReverseI0.frame
theorem reverseI_go {l : List Int} {ver p n : Nat} {hp : Nat → Row} {top nx : Nat} {K : AV → (Nat → Row) → Nat → Nat → Prop} (hn : n = l.length) (h0 : RowLe (hp p) (rowL ver 3 eI l)) (ht : p < top) (hl : l.length < 1000000000)
    (hK : ∀ nx', nx ≤ nx' → K (.val (.tuple #[])) (updR hp p (rowL ver 3 eI l.reverse)) top nx') : sReverseI [.ow p ver n] hp top nx K := by
  subst hn
  have hv := h0.vers
  refine ⟨[p], [.ow 0 ver l.length], rws [(0, rowL ver 3 eI l)], by simp, by simpa using ht, .cons AVle.ow .nil, one_row h0, fun i hi => rws_top (top := 1) (by simp) i (by simpa using hi), l, ver, rfl, rfl, rfl, hl, fun hp' top' nx' e1 e2 => ?_⟩
  refine ⟨_, _, AVle.refl _, fun k q hk => ?_, fun q hq => ?_, fun q hq u hu => ?_, hK nx' e2⟩
  · cases k with
    | zero =>
      simp only [List.getElem?_cons_zero, Option.some.injEq] at hk
      subst hk
      rw [updR_at]
      exact e1
    | succ k => simp at hk
  · rw [updR_ne _ _ (by simpa using hq)]
  · simp only [List.mem_singleton] at hq
    subst hq
    rw [updR_at] at hu
    exact .inl (hv.symm.trans hu)
def sTurned : Spec := Spec.f1 (kL eI) (fun l => l.length < 100000000) (fun l => sL eI l.reverse)
theorem okTurned : SpecOK Tryz.prog 157 sTurned := by
  refine SpecOK.f1 Tryz.func157 rfl (by decide) Tryz.results157 Tryz.ntmps157 (by decide) fun l hl => ?_
  have hΓ : GOK Tryz.prog (gam [(170, sCloneI), (171, sReverseI)]) := (.cons okCloneI (.cons okReverseI .nil))
  refine AW.of hΓ mixed [1, 99999] _ _ _ rfl ?_
  simp only [go_sem, sCloneI, sReverseI]
  refine ⟨_, l, rfl, AVle.refl _, by omega, fun ver nx' hv hv' => ?_⟩
  refine AW.of hΓ mixed [2, 99999] _ _ _ rfl ?_
  simp only [go_sem, sCloneI, sReverseI]
  refine reverseI_go (l := l) (p := 0) rfl (RowLe.refl _) (by decide) (by omega) fun n2 hn2 => ?_
  simp only [go_sem, sCloneI, sReverseI]
  refine AW.of hΓ mixed [] _ _ _ rfl ?_
  simp only [go_sem, sCloneI, sReverseI, List.length_reverse]
  exact vw_all (E := eI) rfl rfl (by simp)
theorem find_call {N : Nat} {a b f1 f2 : List Int} {l : List (Int × Int)} {fv v1 v2 pv : Nat} {x y r s : Int} {hp : Nat → Row} {top nx : Nat} {K : AV → (Nat → Row) → Nat → Nat → Prop} {π : List Nat} {p0 p1 p2 p3 : Nat} (hπ : π = [p0, p1, p2, p3]) (hnd : π.Nodup) (ht : ∀ p ∈ π, p < top) (hx : x = 0) (hy : y = a.length) (hr : r = 0) (hs : s = b.length)
    (h0 : RowLe (hp p0) (rws (fRows a b fv v1 v2 pv f1 f2 l) 0)) (h1 : RowLe (hp p1) (rws (fRows a b fv v1 v2 pv f1 f2 l) 1)) (h2 : RowLe (hp p2) (rws (fRows a b fv v1 v2 pv f1 f2 l) 2)) (h3 : RowLe (hp p3) (rws (fRows a b fv v1 v2 pv f1 f2 l) 3)) (hpv : pv < nx)
    (ha : a.length < 100000000) (hb : b.length < 100000000) (hr1 : a.length + b.length + 3 ≤ f1.length) (hr2 : a.length + b.length + 3 ≤ f2.length) (hl1 : f1.length < 1000000000) (hl2 : f2.length < 1000000000)
    (hl : l.length + a.length < 500000000) (hN : a.length + b.length < N)
    (hK : ∀ g1 g2 pv' hp' nx', g1.length = f1.length → g2.length = f2.length → (pv' = pv ∨ nx ≤ pv') → pv' < nx' → nx ≤ nx' → hp' p0 = rws (fRows a b fv v1 v2 pv' g1 g2 (l ++ findG a b)) 0 → hp' p3 = rws (fRows a b fv v1 v2 pv' g1 g2 (l ++ findG a b)) 3 → (∀ i, ¬ i ∈ π → hp' i = hp i) → K (.val (.tuple #[])) hp' top nx') :
    sFind N [.pt p0 fv 0, .val (.int .i64 x), .val (.int .i64 y), .val (.int .i64 r), .val (.int .i64 s)] hp top nx K := by
  subst hx hy hr hs hπ
  have w0 := h0.vers
  have w1 := h1.vers
  have w2 := h2.vers
  have w3 := h3.vers
  have hfin : shP ((0 : Nat) : Int) ((0 : Nat) : Int) (findG (partL a 0 a.length) (partL b 0 b.length)) = findG a b := by rw [partL_all, partL_all]; exact shP_0 _
  have hmem : ∀ q, q ∈ [p0, p1, p2, p3] ↔ q = p0 ∨ q = p1 ∨ q = p2 ∨ q = p3 := fun q => by simp
  have n01 : p1 ≠ p0 := fun e => by simp [e] at hnd
  have n02 : p2 ≠ p0 := fun e => by simp [e] at hnd
  have n03 : p3 ≠ p0 := fun e => by simp [e] at hnd
  have n12 : p2 ≠ p1 := fun e => by simp [e] at hnd
  have n13 : p3 ≠ p1 := fun e => by simp [e] at hnd
  have n23 : p3 ≠ p2 := fun e => by simp [e] at hnd
  refine ⟨[p0, p1, p2, p3], [.pt 0 fv 0, kI.enc ((0 : Nat) : Int), kI.enc (a.length : Nat), kI.enc ((0 : Nat) : Int), kI.enc (b.length : Nat)], rws (fRows a b fv v1 v2 pv f1 f2 l),
    hnd, ht, .cons AVle.pt (.cons (AVle.refl _) (.cons (AVle.refl _) (.cons (AVle.refl _) (.cons (AVle.refl _) .nil)))), fun k q hk => ?_, fun k hk => rws_top (top := 4) (by simp [fRows]) k (by simpa using hk), a, b, f1, f2, l, fv, v1, v2, pv, 0, a.length, 0, b.length, rfl, rfl, rfl, hpv, Nat.zero_le _, Nat.le_refl _, Nat.zero_le _, Nat.le_refl _, ha, hb, hr1, hr2, hl1, hl2, by omega, by omega, fun g1 g2 pv' hp' top' nx' e1 e2 e3 e4 e5 e6 => ?_⟩
  · match k, hk with
    | 0, hk => obtain rfl := Option.some.inj hk; exact h0
    | 1, hk => obtain rfl := Option.some.inj hk; exact h1
    | 2, hk => obtain rfl := Option.some.inj hk; exact h2
    | 3, hk => obtain rfl := Option.some.inj hk; exact h3
  rw [hfin] at e5
  refine ⟨_, updR (updR (updR (updR hp p0 (rws (fRows a b fv v1 v2 pv' g1 g2 (l ++ findG a b)) 0)) p1 (rws (fRows a b fv v1 v2 pv' g1 g2 (l ++ findG a b)) 1)) p2 (rws (fRows a b fv v1 v2 pv' g1 g2 (l ++ findG a b)) 2)) p3 (rws (fRows a b fv v1 v2 pv' g1 g2 (l ++ findG a b)) 3), AVle.refl _, fun k q hk => ?_, fun q hq => ?_, fun q hq u hu => ?_, hK g1 g2 pv' _ nx' e1 e2 e3 e4 e6 ?_ ?_ fun q hq => ?_⟩
  · match k, hk with
    | 0, hk => obtain rfl := Option.some.inj hk; rw [updR_ne _ _ n03.symm, updR_ne _ _ n02.symm, updR_ne _ _ n01.symm, updR_at]; exact e5 0 (by decide)
    | 1, hk => obtain rfl := Option.some.inj hk; rw [updR_ne _ _ n13.symm, updR_ne _ _ n12.symm, updR_at]; exact e5 1 (by decide)
    | 2, hk => obtain rfl := Option.some.inj hk; rw [updR_ne _ _ n23.symm, updR_at]; exact e5 2 (by decide)
    | 3, hk => obtain rfl := Option.some.inj hk; rw [updR_at]; exact e5 3 (by decide)
  · rw [hmem] at hq
    simp only [not_or] at hq
    rw [updR_ne _ _ hq.2.2.2, updR_ne _ _ hq.2.2.1, updR_ne _ _ hq.2.1, updR_ne _ _ hq.1]
  · rw [hmem] at hq
    rcases hq with rfl | rfl | rfl | rfl
    · rw [updR_ne _ _ n03.symm, updR_ne _ _ n02.symm, updR_ne _ _ n01.symm, updR_at] at hu; exact .inl (w0.symm.trans hu)
    · rw [updR_ne _ _ n13.symm, updR_ne _ _ n12.symm, updR_at] at hu; exact .inl (w1.symm.trans hu)
    · rw [updR_ne _ _ n23.symm, updR_at] at hu; exact .inl (w2.symm.trans hu)
    · rw [updR_at] at hu
      obtain rfl : pv' = u := Option.some.inj hu
      rcases e3 with rfl | e3
      · exact .inl w3.symm
      · exact .inr e3
  · rw [updR_ne _ _ n03.symm, updR_ne _ _ n02.symm, updR_ne _ _ n01.symm, updR_at]
  · rw [updR_at]
  · rw [hmem] at hq
    simp only [not_or] at hq
    rw [updR_ne _ _ hq.2.2.2, updR_ne _ _ hq.2.2.1, updR_ne _ _ hq.2.1, updR_ne _ _ hq.1]
def sSearch : MSpec := fun args hp top nx K => ∃ x y a b, args = [x, y] ∧ AVle x (sL eI a) ∧ AVle y (sL eI b) ∧ hp = rws [] ∧ top = 0 ∧ a.length < 100000000 ∧ b.length < 100000000 ∧
  ∀ ver hp' nx', hp' 3 = rowL ver 108 (eP eI eI) (findG a b) → ver < nx' → nx ≤ nx' → (∀ i, 4 ≤ i → hp' i = .dead) → K (.ow 3 ver (findG a b).length) hp' 4 nx'
theorem okSearch : MethOK Tryz.prog 138 sSearch := by
  refine MethOK.mk Tryz.func138 rfl (by decide) Tryz.results138 Tryz.ntmps138 ?_
  rintro args hp top nx K ⟨x, y, a, b, rfl, hx, hy, rfl, rfl, ha, hb, hK⟩
  have hΓ : GOK Tryz.prog (gam [(157, sTurned), (158, (Con.meth (sFind (a.length + b.length + 1))))]) := .cons okTurned (.cons (okFind _) .nil)
  refine ⟨Nat.le_of_ble_eq_true rfl, ?_⟩
  refine AW.le (stM_le (.cons hx (.cons hy .nil))) ?_
  refine AW.of hΓ mixed [2, 99999] _ _ _ rfl ?_
  simp only [go_sem, sTurned]
  have eN : ((a.length : Int) + b.length + 3).toNat = a.length + b.length + 3 := by omega
  rw [eN]
  refine ⟨by omega, by omega, ha, hb, by omega, by omega, ?_⟩
  refine AW.adoptB (q := 2) 6 108 2 (fun i => (eP eI eI).enc (([] : List (Int × Int)).getD i (0, 0))) rfl rfl ?_
  refine AW.of hΓ mixed [3, 99999] _ _ _ rfl ?_
  simp only [go_sem]
  refine find_call (a := a) (b := b) (f1 := List.replicate (a.length + b.length + 3) 0) (f2 := List.replicate (a.length + b.length + 3) 0) (l := []) (fv := nx + 1 + 1) (v1 := nx) (v2 := nx + 1) (pv := nx + 1 + 1 + 1) (π := [2, 0, 1, 3]) rfl (by decide) (by decide) rfl rfl rfl rfl ?_ ?_ ?_ ?_ (by omega) ha hb (by simp) (by simp) (by simp; omega) (by simp; omega) (by simp; omega) (by omega) ?_
  · refine RowLe.box fun j hj => ?_
    match j, hj with
    | 0, _ => exact AVle.refl _
    | 1, _ => exact AVle.refl _
    | 2, _ => exact AVle.refl _
    | 3, _ => exact AVle.refl _
    | 4, _ => show AVle (.ow 0 nx (a.length + b.length + 3)) (.ow 1 nx (List.replicate (a.length + b.length + 3) (0 : Int)).length); rw [List.length_replicate]; exact AVle.ow
    | 5, _ => show AVle (.ow 1 (nx + 1) (a.length + b.length + 3)) (.ow 2 (nx + 1) (List.replicate (a.length + b.length + 3) (0 : Int)).length); rw [List.length_replicate]; exact AVle.ow
    | 6, _ => exact AVle.refl _
  · refine RowLe.sl (by simp) fun i hi j hj => AVle.of_eq ?_
    match j, hj with
    | 0, _ => simp [List.getD, List.getElem?_replicate, hi, zC]; rfl
  · refine RowLe.sl (by simp) fun i hi j hj => AVle.of_eq ?_
    match j, hj with
    | 0, _ => simp [List.getD, List.getElem?_replicate, hi, zC]; rfl
  · exact RowLe.refl _
  intro g1 g2 pv' hp' nx' e1 e2 e3 e4 e5 e6 e7 e8
  have e6' : hp' 2 = .box (nx + 1 + 1) 214 7 (fAV a b (.ow 1 nx g1.length) (.ow 2 (nx + 1) g2.length) (.ow 3 pv' (findG a b).length)) := e6
  simp only [go_sem]
  refine AW.of hΓ mixed [] _ _ _ rfl ?_
  simp only [go_sem, e6', fAV_6]
  exact hK pv' hp' nx' e7 e4 (by omega) fun i hi => (e8 i (by simp; omega)).trans (by
    rw [updR_ne _ _ (by omega), updR_ne _ _ (by omega), updR_ne _ _ (by omega), updR_ne _ _ (by omega), updR_ne _ _ (by omega)]
    rfl)
end Go.Proofs.YtjfmigpahglajaaGreatDoor
set_option linter.unusedSimpArgs false
set_option linter.unusedVariables false
set_option maxRecDepth 100000
set_option maxHeartbeats 2000000
namespace Go.Proofs.YtjfmigpahglajaaGreatDoor
open Go
attribute [local irreducible] AW AVle ASle RowLe
def sMatch : Spec := Spec.f2 (kL eI) (kL eI) (fun a b => a.length < 100000000 ∧ b.length < 100000000) (fun a b => sL (eP eI eI) (matchF a b))
theorem okMatch : SpecOK Tryz.prog 97 sMatch := by
  refine SpecOK.f2 Tryz.func97 rfl (by decide) Tryz.results97 Tryz.ntmps97 (by decide) fun a b ⟨ha, hb⟩ => ?_
  have hΓ : GOK Tryz.prog (gam [(137, sShared), (138, sSearch)]) := (.cons okShared (.cons okSearch .nil))
  have hA := plc_len (fun y => b.contains y) 0 a
  have hB := plc_len (fun y => a.contains y) 0 b
  have hsp := (find_spec ((shI a b).length + (shI b a).length + 1) (shI a b) (shI b a) (by omega)).1
  have hm : matchF a b = mapM (shQ a b) (shQ b a) (findG (shI a b) (shI b a)) := rfl
  have lA : (shI a b).length ≤ a.length := List.length_filter_le _ _
  have lB : (shI b a).length ≤ b.length := List.length_filter_le _ _
  have lG := findG_len (shI a b) (shI b a)
  have lG2 := lcsN_le (shI a b) (shI b a)
  refine AW.of hΓ mixed [3, 99999] _ _ _ rfl ?_
  simp only [go_sem, sShared, sSearch]
  refine ⟨⟨ha, hb⟩, ⟨hb, ha⟩, _, _, shI a b, shI b a, rfl, AVle.refl _, AVle.refl _, rfl, by omega, by omega, fun ver hp' nx' h1 h2 h3 h4 => ?_⟩
  have eA : (shQ a b).length = (shI a b).length := hA
  have eB : (shQ b a).length = (shI b a).length := hB
  change isM (shI a b) (shI b a) (findG (shI a b) (shI b a)) at hsp
  generalize hG : findG (shI a b) (shI b a) = G at *
  refine AW.cut ⟨[(6, sL eI (shQ a b)), (8, sL eI (shQ b a)), (9, .ow 3 ver G.length)], [(3, rowL ver 108 (eP eI eI) G)], 50, 4, nx', []⟩ ?_ ?_
  · simp only [go_sem, h1]
    exact RowLe.refl _
  generalize hqa : shQ a b = qa at *
  generalize hqb : shQ b a = qb at *
  refine AW.of hΓ mixed [] _ _ _ rfl ?_
  simp only [go_sem, sShared, sSearch]
  refine AW.round (α := { x : Nat × Nat // x.1 ≤ G.length })
    (fun x => ⟨[(6, sL eI qa), (8, sL eI qb), (9, .ow 3 ver G.length), (27, .ow 3 ver G.length), (28, .val (.int .i64 G.length)), (29, .val (.int .i64 x.1.1))], [(3, rowL ver 108 (eP eI eI) (mapM qa qb (G.take x.1.1) ++ G.drop x.1.1))], 50, 4, x.1.2, []⟩) (fun x => G.length - x.1.1) ⟨(0, nx'), Nat.zero_le _⟩ ?_ ?_
  · simp only [go_sem, sShared, sSearch]
    exact RowLe.of_eq (by simp [mapM])
  · rintro ⟨⟨i, nx⟩, hi⟩
    simp only at hi
    have hmap : (mapM qa qb (G.take i)).length = i := by simp only [mapM, List.length_map, List.length_take]; omega
    refine AW.of hΓ mixed [6, 99999] _ _ _ rfl ?_
    simp only [go_sem, sShared, sSearch, pp_sz]
    refine ⟨fun hlt => ?_, fun hge => ?_⟩
    · have hel : (mapM qa qb (G.take i) ++ G.drop i).getD i (0, 0) = G.getD i (0, 0) := by
        simp only [List.getD]
        rw [List.getElem?_append_right (by omega), List.getElem?_drop, hmap]
        congr 2
        omega
      obtain ⟨u, v, huv⟩ : ∃ u v, G.getD i (0, 0) = (u, v) := ⟨_, _, rfl⟩
      have hin := hsp.2 (G.getD i (0, 0)) (by rw [gd_lt _ _ (by omega)]; exact List.getElem_mem _)
      rw [huv] at hin
      unfold inM at hin
      simp only at hin
      refine ⟨by omega, by omega, ?_⟩
      refine AW.cut ⟨[(6, sL eI qa), (8, sL eI qb), (9, .ow 3 ver G.length), (10, .val (.int .i64 i)), (11, .pt 4 nx 0), (27, .ow 3 ver G.length), (28, .val (.int .i64 G.length)), (29, .val (.int .i64 i))],
        [(3, rowL ver 108 (eP eI eI) (mapM qa qb (G.take i) ++ G.drop i)), (4, .box nx 108 2 fun j => if j = 0 then .val (.int .i64 u) else .val (.int .i64 v))], 50, 5, nx + 1, []⟩ ?_ ?_
      · simp only [go_sem]
        refine ⟨RowLe.refl _, RowLe.box fun j hj => AVle.of_eq ?_⟩
        match j, hj with
        | 0, _ => show (eP eI eI).enc ((mapM qa qb (G.take i) ++ G.drop i).getD i (0, 0)) 0 = _; rw [hel, huv]; rfl
        | 1, _ => show (eP eI eI).enc ((mapM qa qb (G.take i) ++ G.drop i).getD i (0, 0)) 1 = _; rw [hel, huv]; rfl
      · refine AW.of hΓ mixed [] _ _ _ rfl ?_
        simp only [go_sem, sShared, sSearch, pp_sz]
        have hset : mapM qa qb (G.take (i + 1)) ++ G.drop (i + 1) = (mapM qa qb (G.take i) ++ G.drop i).set i (qa.getD u.toNat 0, qb.getD v.toNat 0) := by
          have hi' : i < G.length := by omega
          have hgi : G[i] = (u, v) := by rw [← huv, gd_lt _ _ hi']
          rw [List.set_append_right _ _ (by omega), hmap, Nat.sub_self, List.drop_eq_getElem_cons hi', List.set_cons_zero, List.take_succ_eq_append_getElem hi', hgi]
          simp only [mapM, List.map_append, List.map_cons, List.map_nil, List.append_assoc, List.singleton_append]
        refine ⟨by omega, by omega, by omega, by omega, by omega, ⟨(i + 1, nx + 1), by dsimp only; omega⟩, ⟨Nat.le_refl _, rfl, ?_⟩, by dsimp only; omega⟩
        refine row_set (E := eP eI eI) rfl hset (by simp) (by simp) fun j hj => ?_
        match j, hj with
        | 0, _ => exact AVle.refl _
        | 1, _ => exact AVle.refl _
    · obtain rfl : i = G.length := by omega
      rw [List.take_length, List.drop_length, List.append_nil, hm]
      first
        | exact ⟨⟨by simp [mapM], fun i hi => ⟨rfl, rfl⟩⟩, vw_all (E := eP eI eI) rfl rfl (by simp [mapM])⟩
        | exact ⟨by simp [mapM], vw_all (E := eP eI eI) rfl rfl (by simp [mapM])⟩
end Go.Proofs.YtjfmigpahglajaaGreatDoor
set_option linter.unusedSimpArgs false
set_option linter.unusedVariables false
namespace Go.Proofs.YtjfmigpahglajaaGreatDoor
open Go
theorem AVle.ps {m : Nat} {c d : Nat → AV} (h : ∀ j, j < m → AVle (c j) (d j)) : AVle (.ps m c) (.ps m d) := by
  rintro w η L v ⟨g, o, hv, hl, hc⟩
  refine ⟨g, o, hv, hl, fun j hj => ?_⟩
  obtain ⟨u, hu, h1, hr⟩ := hc j hj
  exact ⟨u, hu, h1, h j hj _ _ _ _ hr⟩
section
variable {α β γ δ ε ζ θ κ μ : Type}
def Spec.f9 (A : Kd α) (B : Kd β) (C : Kd γ) (D : Kd δ) (E : Kd ε) (F : Kd ζ) (G : Kd θ) (H : Kd κ) (I : Kd μ) (dom : α → β → γ → δ → ε → ζ → θ → κ → μ → Prop) (out : α → β → γ → δ → ε → ζ → θ → κ → μ → AV) : Spec where
  pre | [x, y, z, u, v, w, r, s, t] => A.ok x ∧ B.ok y ∧ C.ok z ∧ D.ok u ∧ E.ok v ∧ F.ok w ∧ G.ok r ∧ H.ok s ∧ I.ok t ∧ dom (A.dec x) (B.dec y) (C.dec z) (D.dec u) (E.dec v) (F.dec w) (G.dec r) (H.dec s) (I.dec t)
      | _ => False
  res | [x, y, z, u, v, w, r, s, t] => out (A.dec x) (B.dec y) (C.dec z) (D.dec u) (E.dec v) (F.dec w) (G.dec r) (H.dec s) (I.dec t)
      | _ => .any
variable {P : Program} {f : FuncId} {fn : Func} {code : Code} {l : List ResultVar}
theorem SpecOK.f9 {A : Kd α} {B : Kd β} {C : Kd γ} {D : Kd δ} {E : Kd ε} {F : Kd ζ} {G : Kd θ} {H : Kd κ} {I : Kd μ} {dom : α → β → γ → δ → ε → ζ → θ → κ → μ → Prop} {out : α → β → γ → δ → ε → ζ → θ → κ → μ → AV} (hf : P.funcs[f]? = some fn) (hb : fn.body = some code) (hn : (fn.name == "runtime.NumGoroutine") = false) (hl : fn.results = l.toArray) {n : Nat} (ht : fn.ntmps = n) (hm : 9 ≤ n)
    (h : ∀ a b c d e g r s t, dom a b c d e g r s t → AW P code (retQ P l (out a b c d e g r s t)) (st0 n [A.enc a, B.enc b, C.enc c, D.enc d, E.enc e, F.enc g, G.enc r, H.enc s, I.enc t])) : SpecOK P f (Spec.f9 A B C D E F G H I dom out) := by
  subst ht
  refine SpecOK.mk hf hb hn hl fun args hp => ?_
  match args, hp with
  | [x, y, z, u, v, w, r, s, t], hp => exact ⟨hm, AW.le (st0_le (.cons hp.1 (.cons hp.2.1 (.cons hp.2.2.1 (.cons hp.2.2.2.1 (.cons hp.2.2.2.2.1 (.cons hp.2.2.2.2.2.1 (.cons hp.2.2.2.2.2.2.1 (.cons hp.2.2.2.2.2.2.2.1 (.cons hp.2.2.2.2.2.2.2.2.1 .nil)))))))))) (h _ _ _ _ _ _ _ _ _ hp.2.2.2.2.2.2.2.2.2)⟩
end
attribute [go_sem] Spec.f9
section
variable {P : Program} {st : AS} {K : AS → Prop} {o : Oper}
theorem max4_wp {ts : Array TypeId} {x1 x2 x3 x4 : Operand} {p q r s : Int} (ho : o.op = .call ⟨.builtin .max, #[x1, x2, x3, x4], ts⟩) (h1 : st.ev x1 = .val (.int .i64 p)) (h2 : st.ev x2 = .val (.int .i64 q)) (h3 : st.ev x3 = .val (.int .i64 r)) (h4 : st.ev x4 = .val (.int .i64 s)) (hd : dstOK st.sz o.dst)
    (hK : K ⟨updO st.fr o.dst (.val (.int .i64 (max (max (max p q) r) s))), st.hp, st.sz, st.top, st.nx, st.df⟩) : OpW P o st K := by
  refine pure_wp hd (fun c η a w hsr => ?_) hK
  have hev : ∀ x, Rep w η (Lset c η st.hp) (st.ev x) (a.eval x) := rep_ev hsr.slots
  have e1 : a.eval x1 = .int .i64 p := by have h := hev x1; rw [h1] at h; exact h
  have e2 : a.eval x2 = .int .i64 q := by have h := hev x2; rw [h2] at h; exact h
  have e3 : a.eval x3 = .int .i64 r := by have h := hev x3; rw [h3] at h; exact h
  have e4 : a.eval x4 = .int .i64 s := by have h := hev x4; rw [h4] at h; exact h
  have hr : (Builtin.max_ ts o.type #[.int .i64 p, .int .i64 q, .int .i64 r, .int .i64 s]).run P w = .ok (.int .i64 (max (max (max p q) r) s)) w := by simp [Builtin.max_, Builtin.max2, max_if]
  exact ⟨.int .i64 (max (max (max p q) r) s), by simp [execOp, ho, e1, e2, e3, e4, resolve, invoke, builtin, hr], rfl⟩
end
end Go.Proofs.YtjfmigpahglajaaGreatDoor
set_option linter.unusedSimpArgs false
set_option linter.unusedVariables false
set_option maxRecDepth 100000
set_option maxHeartbeats 4000000
namespace Go.Proofs.YtjfmigpahglajaaGreatDoor
open Go
attribute [local irreducible] AW AVle ASle RowLe
@[go_sem] theorem kCell_nil : kCell (.slice none 0 0) = .em := rfl
def sMatchM : Spec := Spec.f2 (kL eS) (kL eS) (fun a b => a.length ≤ 10000000 ∧ b.length ≤ 10000000) (fun a b => sL (eP eI eI) (prsF a b))
theorem okMatchM : SpecOK Tryz.prog 51 sMatchM := by
  refine SpecOK.f2 Tryz.func51 rfl (by decide) Tryz.results51 Tryz.ntmps51 (by decide) fun a b ⟨ha, hb⟩ => ?_
  have hΓ : GOK Tryz.prog (gam [(96, sNumber), (97, sMatch)]) := (.cons okNumber (.cons okMatch .nil))
  have n0 := numA_len a b
  have n1 := numB_len a b
  have n2 : (numF [] [a, b]).length = 2 := rfl
  unfold prsF
  unfold numA numB at *
  refine AW.of hΓ mixed [] _ _ _ rfl ?_
  simp only [go_sem, sNumber, sMatch]
  exact ⟨⟨by omega, by omega⟩, by omega, by omega, by omega, by omega⟩
abbrev Op := (BS × BS × BS) × Int × Int × Int
abbrev eOp : El Op := eP eLb (eP eI (eP eI eI))
def wrgM (o : Op) : Int := if plainLb o.1 = false then 3 else if o.2.2.1 < 7 ∨ 64 < o.2.2.1 then 4 else if (styOK o.2.1 && favOK o.2.2.2) = false then 5 else 0
def sCheckM : Spec := Spec.f1 (kA eOp) (fun o => lbN o.1 ≤ 3000) (fun o => kI.enc (wrgM o))
theorem okCheckM : SpecOK Tryz.prog 50 sCheckM := by
  refine SpecOK.f1 Tryz.func50 rfl (by decide) Tryz.results50 Tryz.ntmps50 (by decide) fun o ho => ?_
  have hΓ : GOK Tryz.prog (gam [(95, sPlainL), (54, sDocB)]) := (.cons okPlainL (.cons okDocB .nil))
  obtain ⟨⟨l1, l2, l3⟩, st, w, v⟩ := o
  unfold lbN at ho
  dsimp only at ho
  refine AW.of hΓ mixed [0] _ _ _ rfl ?_
  simp only [go_sem, sPlainL, sDocB]
  refine AW.still 1 0 0 40 6 _ rfl rfl (fun j hj => match j, hj with | 0, _ => rfl | 1, _ => rfl | 2, _ => rfl | 3, _ => rfl | 4, _ => rfl | 5, _ => rfl) ?_
  cases hp : plainLb (l1, l2, l3) with
  | false =>
    have e : wrgM ((l1, l2, l3), st, w, v) = 3 := by unfold wrgM; rw [if_pos hp]
    unfold plainLb at hp
    dsimp only at hp
    rw [e]
    refine AW.of hΓ mixed [99999] _ _ _ rfl ?_
    simp only [go_sem, sPlainL, sDocB, hp]
    exact ⟨by omega, by omega, by omega⟩
  | true =>
    have hd : docF ([], [], []) [] st (l1, l2, l3) v = ([], if (styOK st && favOK v) = false then 5 else 0) := by
      unfold docF
      by_cases h : (styOK st && favOK v) = false
      · rw [if_pos h, if_pos h]
      · rw [if_neg h, if_neg h, if_neg (by rw [hp]; simp)]
        rfl
    have e : wrgM ((l1, l2, l3), st, w, v) = if w < 7 ∨ 64 < w then 4 else if (styOK st && favOK v) = false then 5 else 0 := by unfold wrgM; rw [if_neg (by rw [hp]; simp)]
    rw [e]
    unfold plainLb at hp
    dsimp only at hp
    refine AW.of hΓ mixed [99999] _ _ _ rfl ?_
    simp only [go_sem, sPlainL, sDocB, hp, hd]
    refine ⟨⟨by omega, by omega, by omega⟩, fun h => by simp [h], fun h => ?_, fun h => ⟨⟨⟨by unfold okFl; simp, by simp [sumT]⟩, by unfold okLb; dsimp only; omega⟩, ?_⟩⟩
    · simp only [Bool.or_eq_true, decide_eq_true_eq] at h
      rw [if_pos h]
    · simp only [Bool.or_eq_false_iff, decide_eq_false_iff_not] at h
      rw [if_neg (show ¬ (w < 7 ∨ 64 < w) by omega)]
def lb3 (o : Op) : BS × BS × BS := o.1
abbrev Rt := List Pt × List (Int × Int) × List (Int × Int) × List Ck × BS × Int × Int
abbrev eRt : El Rt := eP (eL ePt) (eP (eL (eP eI eI)) (eP (eL (eP eI eI)) (eP (eL eCk) (eP eS (eP eI eI)))))
def rt0 : Rt := ([], [], [], [], [], 0, 0)
def mrgT (a b c : BS) (w st : Int) (lb : BS × BS × BS) (v : Int) : Rt :=
  (mrgD a b c st lb v, prsF (splitL a) (splitL b), prsF (splitL a) (splitL c), mrgK (filesF a b c), printL (mrgW w a b c) (mrgD a b c st lb v), mrgW w a b c, (cntF (filesF a b c) (mrgK (filesF a b c)) : Int))
def mrgO (a b c : BS) (o : Op) : Rt := if wrgM o = 0 then mrgT a b c o.2.2.1 o.2.1 o.1 o.2.2.2 else rt0
def sTexts : Spec := Spec.f4 kS kS kS (kA eOp) (fun a b c o => okM a b c ∧ lbN o.1 ≤ 3000) (fun a b c o => tu2 ((kA eRt).enc (mrgO a b c o)) (kI.enc (wrgM o)))
theorem wrg_0 {o : Op} (h : wrgM o = 0) : plainLb o.1 = true ∧ (7 ≤ o.2.2.1 ∧ o.2.2.1 ≤ 64) ∧ (styOK o.2.1 && favOK o.2.2.2) = true := by
  unfold wrgM at h
  split at h
  · omega
  · rename_i h1
    split at h
    · omega
    · rename_i h2
      split at h
      · omega
      · rename_i h3
        exact ⟨by simpa using h1, by omega, by simpa using h3⟩
theorem rt_le {c : Nat → AV} {d : List Pt} {l r : List (Int × Int)} {k : List Ck} {t : BS} {w n : Int} (h0 : AVle (c 0) (sL ePt d)) (h1 : AVle (c 1) (sL (eP eI eI) l)) (h2 : AVle (c 2) (sL (eP eI eI) r)) (h3 : AVle (c 3) (sL eCk k)) (h4 : c 4 = .st t) (h5 : c 5 = .val (.int .i64 w)) (h6 : c 6 = .val (.int .i64 n)) : AVle (.ag 7 c) (.ag 7 (eRt.enc (d, l, r, k, t, w, n))) :=
  AVle.ag fun j hj => match j, hj with
    | 0, _ => h0
    | 1, _ => h1
    | 2, _ => h2
    | 3, _ => h3
    | 4, _ => AVle.of_eq h4
    | 5, _ => AVle.of_eq h5
    | 6, _ => AVle.of_eq h6
theorem rt_box {ver ety : Nat} {c : Nat → AV} {d : List Pt} {l r : List (Int × Int)} {k : List Ck} {t : BS} {w n : Int} (h0 : AVle (c 0) (sL ePt d)) (h1 : AVle (c 1) (sL (eP eI eI) l)) (h2 : AVle (c 2) (sL (eP eI eI) r)) (h3 : AVle (c 3) (sL eCk k)) (h4 : c 4 = .st t) (h5 : c 5 = .val (.int .i64 w)) (h6 : c 6 = .val (.int .i64 n)) : RowLe (.box ver ety 7 c) (.box ver ety 7 (eRt.enc (d, l, r, k, t, w, n))) :=
  RowLe.box fun j hj => match j, hj with
    | 0, _ => h0
    | 1, _ => h1
    | 2, _ => h2
    | 3, _ => h3
    | 4, _ => AVle.of_eq h4
    | 5, _ => AVle.of_eq h5
    | 6, _ => AVle.of_eq h6
theorem okTexts : SpecOK Tryz.prog 16 sTexts := by
  refine SpecOK.f4 Tryz.func16 rfl (by decide) Tryz.results16 Tryz.ntmps16 (by decide) fun a b c o ⟨hM, hl⟩ => ?_
  have hΓ : GOK Tryz.prog (gam [(50, sCheckM), (41, sSplit), (51, sMatchM), (52, sWidthD), (53, sOfK), (54, sDocB), (45, sPrintM), (55, sCountB)]) := (.cons okCheckM (.cons okSplit (.cons okMatchM (.cons okWidthD (.cons okOfK (.cons okDocB (.cons okPrintM (.cons okCountB .nil))))))))
  obtain ⟨h1, h2, h3, h4⟩ := hM
  by_cases he : wrgM o = 0
  · obtain ⟨p1, p2, p3⟩ := wrg_0 he
    have e : mrgO a b c o = mrgT a b c o.2.2.1 o.2.1 o.1 o.2.2.2 := by unfold mrgO; rw [if_pos he]
    have hF := mrg_facts (a := a) (b := b) (c := c) ⟨h1, h2, h3, h4⟩ p2 o.2.1 hl p1 o.2.2.2
    rw [e, he]
    obtain ⟨⟨l1, l2, l3⟩, st, w, v⟩ := o
    dsimp only at p1 p2 p3 hF hl
    refine AW.of hΓ mixed [0, 200007] _ _ _ rfl ?_
    simp only [go_sem, sCheckM, sSplit, sMatchM, sWidthD, sOfK, sDocB, sPrintM, sCountB]
    refine AW.still 7 0 0 40 6 _ rfl rfl (fun j hj => match j, hj with | 0, _ => rfl | 1, _ => rfl | 2, _ => rfl | 3, _ => rfl | 4, _ => rfl | 5, _ => rfl) ?_
    refine AW.of hΓ mixed [6, 200007] _ _ _ rfl ?_
    simp only [go_sem, sCheckM, sSplit, sMatchM, sWidthD, sOfK, sDocB, sPrintM, sCountB, he]
    refine ⟨⟨by omega, by omega⟩, ⟨by omega, by omega⟩, fun h => absurd h (by omega), fun _ => ⟨hl, by omega, by omega, by omega, ?_⟩⟩
    refine AW.still 11 2 2 95 3 _ rfl rfl (fun j hj => match j, hj with | 0, _ => rfl | 1, _ => rfl | 2, _ => rfl) ?_
    refine AW.fork ?_
    refine AW.drawZ hΓ mixed 19 [] [] [] (by kernel_rfl) ?_
    simp only [go_sem, sCheckM, sSplit, sMatchM, sWidthD, sOfK, sDocB, sPrintM, sCountB, keeps_sL]
    have la := splitL_len a
    have lb := splitL_len b
    have lc := splitL_len c
    refine ⟨⟨by omega, by omega⟩, ⟨by omega, by omega⟩, ⟨by omega, by omega, by omega⟩, ?_⟩
    refine AW.cut ⟨[(7, .ps 6 (eOp.enc ((l1, l2, l3), st, w, v))), (8, .pt 1 1 0), (11, .ps 3 (eFl.enc (splitL a, splitL b, splitL c))), (12, .pt 3 3 0)], [(1, .box 1 33 7 (eRt.enc rt0)), (3, .box 3 33 7 (eRt.enc ([], prsF (splitL a) (splitL b), prsF (splitL a) (splitL c), [], [], mrgW w a b c, 0)))], 114, 4, 4, []⟩ ?_ ?_
    · simp only [go_sem, sCheckM, sSplit, sMatchM, sWidthD, sOfK, sDocB, sPrintM, sCountB]
      exact ⟨AVle.ps fun j hj => AVle.of_eq (match j, hj with | 0, _ => rfl | 1, _ => rfl | 2, _ => rfl), rt_box (em_sL _) (em_sL _) (em_sL _) (em_sL _) rfl rfl rfl, rt_box (em_sL _) (AVle.refl _) (AVle.refl _) (em_sL _) rfl rfl rfl⟩
    have hfit : fitK (splitL a).length (splitL b).length (splitL c).length (prsF (splitL a) (splitL b)) (prsF (splitL a) (splitL c)) = true := mtch_fit (prs_three (filesF a b c)).1
    have hK : ofK (((splitL a).length : Int), ((splitL b).length : Int), ((splitL c).length : Int)) (bothF (prsF (splitL a) (splitL b)) (prsF (splitL a) (splitL c))) [] (0, 0, 0) = mrgK (filesF a b c) := rfl
    have hdoc : docF (splitL a, splitL b, splitL c) (mrgK (filesF a b c)) st (l1, l2, l3) v = (mrgD a b c st (l1, l2, l3) v, 0) := doc_mrg p3 p1
    have hpr := mrg_text hF
    have hok := hF.ok
    have hlen := hF.len
    have hsum := hF.sum
    have hdl := hF.dlen
    have hpL := hF.pr
    have hps := sum_okPt (Nat.le_trans hF.sump (by decide))
    have hcn := cnt_le (filesF a b c) (mrgK (filesF a b c))
    have p1 := prsF_len (splitL a) (splitL b)
    have p2 := prsF_len (splitL a) (splitL c)
    unfold mrgT
    unfold filesF at *
    generalize mrgD a b c st (l1, l2, l3) v = D at *
    generalize mrgW w a b c = W at *
    generalize hKe : mrgK (splitL a, splitL b, splitL c) = K at *
    generalize prsF (splitL a) (splitL b) = lp at *
    generalize prsF (splitL a) (splitL c) = rp at *
    generalize splitL a = x at *
    generalize splitL b = y at *
    generalize splitL c = z at *
    refine AW.of hΓ mixed [99999] _ _ _ rfl ?_
    simp only [go_sem, sCheckM, sSplit, sMatchM, sWidthD, sOfK, sDocB, sPrintM, sCountB, hfit, hK, hdoc, hpr]
    unfold lbN at hl
    exact ⟨⟨by omega, by omega, by omega, by omega, by omega⟩, ⟨⟨hok, by omega, hsum⟩, by unfold okLb; dsimp only at *; omega⟩, ⟨⟨by omega, hps⟩, fun _ => hpL⟩, ⟨hok, by omega⟩, rt_le (AVle.refl _) (AVle.refl _) (AVle.refl _) (AVle.refl _) rfl rfl rfl⟩
  · have e : mrgO a b c o = rt0 := by unfold mrgO; rw [if_neg he]
    rw [e]
    obtain ⟨⟨l1, l2, l3⟩, st, w, v⟩ := o
    refine AW.of hΓ mixed [0] _ _ _ rfl ?_
    simp only [go_sem, sCheckM, sSplit, sMatchM, sWidthD, sOfK, sDocB, sPrintM, sCountB]
    refine AW.still 7 0 0 40 6 _ rfl rfl (fun j hj => match j, hj with | 0, _ => rfl | 1, _ => rfl | 2, _ => rfl | 3, _ => rfl | 4, _ => rfl | 5, _ => rfl) ?_
    refine AW.of hΓ mixed [99999] _ _ _ rfl ?_
    simp only [go_sem, sCheckM, sSplit, sMatchM, sWidthD, sOfK, sDocB, sPrintM, sCountB, he]
    exact ⟨⟨by omega, by omega⟩, ⟨by omega, by omega⟩, fun h => absurd h (by omega), fun _ => ⟨hl, rt_le (em_sL _) (em_sL _) (em_sL _) (em_sL _) rfl rfl rfl⟩⟩
end Go.Proofs.YtjfmigpahglajaaGreatDoor
set_option linter.unusedSimpArgs false
set_option linter.unusedVariables false
set_option maxRecDepth 100000
namespace Go.Proofs.YtjfmigpahglajaaGreatDoor
open Go
def baP (p : Pt) : BS := p.2.2.2.2.2.2.1
def catB (d : List Pt) : BS := (d.map fun p => txP p ++ baP p).flatten
theorem catB_app (a b : List Pt) : catB (a ++ b) = catB a ++ catB b := by simp [catB]
theorem catB_one (p : Pt) : catB [p] = txP p ++ baP p := by simp [catB]
theorem catB_text {p : Pt} (h : isTextD p = true) : catB [p] = txP p := by
  rw [catB_one, isText_eq h]
  show _ ++ [] = _
  rw [List.append_nil]
theorem catB_join (out : List Pt) (p : Pt) : catB (joinR out p) = catB out ++ catB [p] := by
  cases hp : isTextD p with
  | false => rw [join_no hp, catB_app]
  | true =>
    rw [catB_text hp]
    rcases join_cases out p hp with ⟨h0, e⟩ | ⟨_, ⟨m, q, rfl, hq, e⟩ | ⟨_, e⟩⟩
    · rw [e, h0, List.append_nil]
    · rw [e, catB_app, catB_app, catB_text hq, catB_text (isText_textP _), List.append_assoc]
      rfl
    · rw [e, catB_app, catB_text hp]
theorem catB_fold : ∀ (l out : List Pt), catB (l.foldl joinR out) = catB out ++ catB l
  | [], out => by simp [catB]
  | p :: l, out => by
    rw [List.foldl_cons, catB_fold l, catB_join, List.append_assoc, show p :: l = [p] ++ l from rfl, catB_app]
theorem catB_of (l : List Pt) : catB (ofD l) = catB l := by
  rw [ofD_eq, catB_fold]
  rfl
theorem join_mem {out : List Pt} {p q : Pt} (h : q ∈ joinR out p) : q ∈ out ∨ q = p ∨ ∃ t, q = textP t := by
  cases hp : isTextD p with
  | false =>
    rw [join_no hp] at h
    rcases List.mem_append.1 h with h | h
    · exact .inl h
    · exact .inr (.inl (by simpa using h))
  | true =>
    rcases join_cases out p hp with ⟨h0, e⟩ | ⟨_, ⟨m, r, rfl, hr, e⟩ | ⟨_, e⟩⟩
    · rw [e] at h; exact .inl h
    · rw [e] at h
      rcases List.mem_append.1 h with h | h
      · exact .inl (List.mem_append_left _ h)
      · exact .inr (.inr ⟨_, by simpa using h⟩)
    · rw [e] at h
      rcases List.mem_append.1 h with h | h
      · exact .inl h
      · exact .inr (.inl (by simpa using h))
theorem fold_mem {q : Pt} : ∀ (l out : List Pt), q ∈ l.foldl joinR out → q ∈ out ∨ q ∈ l ∨ ∃ t, q = textP t
  | [], _, h => .inl h
  | p :: l, out, h => by
    rcases fold_mem l _ h with h | h | h
    · rcases join_mem h with h | h | h
      · exact .inl h
      · exact .inr (.inl (by rw [h]; exact List.mem_cons_self ..))
      · exact .inr (.inr h)
    · exact .inr (.inl (List.mem_cons_of_mem _ h))
    · exact .inr (.inr h)
theorem of_mem {q : Pt} {l : List Pt} (h : q ∈ ofD l) : q ∈ l ∨ ∃ t, q = textP t := by
  rw [ofD_eq] at h
  rcases fold_mem l [] h with h | h
  · simp at h
  · exact h
def basP (p : Pt) : Prop := isTextD p = true ∨ (hkP p = true ∧ p.2.2.2.2.2.2.2.2 = true ∧ txP p = [])
theorem text_base : ∀ (d : List Pt), (∀ p ∈ d, basP p) → ∀ acc : BS, textV d (List.replicate (conflD d) 2) acc = (acc ++ catB d, 0)
  | [], _, acc => by simp [textV, catB]
  | p :: d, h, acc => by
    have hd := text_base d (fun q hq => h q (List.mem_cons_of_mem _ hq))
    rw [textV, confl_cons, show p :: d = [p] ++ d from rfl, catB_app]
    rcases h p (List.mem_cons_self ..) with hp | ⟨h1, h2, h3⟩
    · have hk := text_noHk hp
      rw [if_neg (by rw [hk]; simp), if_neg (by rw [hk]; simp), Nat.zero_add, hd, catB_text hp, List.append_assoc]
    · rw [if_pos h1, if_pos h1, Nat.add_comm 1, List.replicate_succ]
      have e : ofS p 2 = (baP p, 0) := by
        unfold ofS baP
        rw [if_neg (by decide), if_neg (by decide), if_neg (by decide), if_neg (by rw [h2]; simp)]
      rw [List.getD_cons_zero, e, if_neg (by simp), List.tail_cons, hd, catB_one, h3, List.append_assoc]
      rfl
theorem ckPs_base (f : Fl) (lb lb' : BS × BS × BS) (v : Int) (c : Ck) : catB (ckPs f 1 lb v c) = catB (ckPs f 1 lb' v c) := by
  unfold ckPs
  split
  · rfl
  · rfl
theorem flat_base (f : Fl) (lb lb' : BS × BS × BS) (v : Int) : ∀ L : List Ck, catB (L.flatMap (ckPs f 1 lb v)) = catB (L.flatMap (ckPs f 1 lb' v))
  | [] => rfl
  | c :: L => by rw [List.flatMap_cons, List.flatMap_cons, catB_app, catB_app, flat_base f lb lb' v L, ckPs_base f lb lb' v c]
theorem ckPs_basP (f : Fl) (lb : BS × BS × BS) (v : Int) (c : Ck) : ∀ p ∈ ckPs f 1 lb v c, basP p := by
  unfold ckPs
  split
  · intro p hp
    simp only [confL, List.mem_cons, List.not_mem_nil, or_false] at hp
    rcases hp with rfl | rfl | rfl
    · exact .inl (isText_textP _)
    · exact .inr ⟨rfl, by simp [confP], rfl⟩
    · exact .inl (isText_textP _)
  · intro p hp
    simp only [List.mem_singleton] at hp
    subst hp
    exact .inl (isText_textP _)
theorem mrg_base (a b c : BS) (lb : BS × BS × BS) (hr : rightD (mrgD a b c 1 lb 0) = true) : allR (mrgD a b c 1 lb 0) 2 = (catB (mrgD a b c 1 ([], [], []) 0), 0) := by
  unfold allR
  rw [if_neg (by rw [hr]; simp), if_neg (by decide), text_base]
  · rw [List.nil_append]
    congr 1
    unfold mrgD
    rw [catB_of, catB_of]
    exact flat_base _ _ _ _ _
  · intro p hp
    rcases of_mem hp with hp | ⟨t, rfl⟩
    · obtain ⟨c, _, hc⟩ := List.mem_flatMap.1 hp
      exact ckPs_basP _ _ _ c p hc
    · exact .inl (isText_textP t)
theorem catB_snoc (d : List Pt) (p : Pt) : catB (d ++ [p]) = catB d ++ txP p ++ baP p := by rw [catB_app, catB_one, List.append_assoc]
theorem left_same (a b : BS) : cntF (filesF a a b) (mrgK (filesF a a b)) = 0 ∧ ∀ st lb v w, printL w (mrgD a a b st lb v) = b := by
  obtain ⟨h1, h2⟩ := left_clean (splitL a) (splitL b)
  exact ⟨none_cnt h1, fun st lb v w => by rw [mrg_clean h1]; rw [splitL_flat] at h2; exact h2⟩
theorem right_same (a b : BS) : cntF (filesF a b a) (mrgK (filesF a b a)) = 0 ∧ ∀ st lb v w, printL w (mrgD a b a st lb v) = b := by
  obtain ⟨h1, h2⟩ := right_clean (splitL a) (splitL b)
  exact ⟨none_cnt h1, fun st lb v w => by rw [mrg_clean h1]; rw [splitL_flat] at h2; exact h2⟩
theorem both_same (a b : BS) : cntF (filesF a b b) (mrgK (filesF a b b)) = 0 ∧ ∀ st lb v w, printL w (mrgD a b b st lb v) = b := by
  obtain ⟨h1, h2⟩ := both_clean (splitL a) (splitL b)
  exact ⟨none_cnt h1, fun st lb v w => by rw [mrg_clean h1]; rw [splitL_flat] at h2; exact h2⟩
theorem files_swap (a b c : BS) : filesF a c b = swapF (filesF a b c) := rfl
theorem mrg_swap (a b c : BS) : mrgK (filesF a c b) = (mrgK (filesF a b c)).map turnC ∧ cntF (filesF a c b) (mrgK (filesF a c b)) = cntF (filesF a b c) (mrgK (filesF a b c)) ∧
    (cntF (filesF a b c) (mrgK (filesF a b c)) = 0 → ∀ st lb v w st' lb' v' w', printL w' (mrgD a c b st' lb' v') = printL w (mrgD a b c st lb v)) := by
  have e := mrg_turn (filesF a b c)
  rw [← files_swap] at e
  have e2 : cntF (filesF a c b) (mrgK (filesF a c b)) = cntF (filesF a b c) (mrgK (filesF a b c)) := by
    rw [e, files_swap, cnt_turn]
  refine ⟨e, e2, fun h0 st lb v w st' lb' v' w' => ?_⟩
  rw [mrg_clean (cnt_none h0), mrg_clean (cnt_none (by rw [e2]; exact h0)), files_swap]
  exact fav_turn (cnt_none h0)
end Go.Proofs.YtjfmigpahglajaaGreatDoor
set_option linter.unusedSimpArgs false
set_option linter.unusedVariables false
set_option maxRecDepth 100000
set_option maxHeartbeats 4000000
namespace Go.Proofs.YtjfmigpahglajaaGreatDoor
open Go
attribute [local irreducible] AW AVle ASle RowLe
abbrev Hw := Int × Int × Int × BS × BS × BS
abbrev eHw : El Hw := eP eI (eP eI (eP eI (eP eS (eP eS eS))))
def rchH (h : Hw) : Prop := h.2.2.2.1.length ≤ 140737488351232 ∧ h.2.2.2.2.1.length ≤ 140737488351232 ∧ h.2.2.2.2.2.length ≤ 140737488351232
def fewH (h : Hw) : Bool := decide (h.2.2.2.1.length + h.2.2.2.2.1.length + h.2.2.2.2.2.length ≤ 500)
def sFewM : Spec := Spec.f1 (kA eHw) rchH (fun h => kB.enc (fewH h))
theorem okFewM : SpecOK Tryz.prog 13 sFewM := by
  refine SpecOK.f1 Tryz.func13 rfl (by decide) Tryz.results13 Tryz.ntmps13 (by decide) fun h hh => ?_
  have hΓ : GOK Tryz.prog (gam []) := GOK.nil
  obtain ⟨st, w, v, l1, l2, l3⟩ := h
  obtain ⟨h1, h2, h3⟩ := hh
  dsimp only at h1 h2 h3
  refine AW.of hΓ mixed [] _ _ _ rfl ?_
  simp only [go_sem]
  refine ⟨⟨by omega, by omega⟩, ⟨by omega, by omega⟩, ?_⟩
  unfold fewH
  exact decide_eq_decide.2 (by dsimp only; omega)
def sShortM : Spec := Spec.f1 kS (fun _ => True) (fun s => kS.enc (s.take 250))
theorem okShortM : SpecOK Tryz.prog 15 sShortM := by
  refine SpecOK.f1 Tryz.func15 rfl (by decide) Tryz.results15 Tryz.ntmps15 (by decide) fun s _ => ?_
  have hΓ : GOK Tryz.prog (gam []) := GOK.nil
  refine AW.of hΓ mixed [] _ _ _ rfl ?_
  simp only [go_sem]
  have e : (min (s.length : Int) 250).toNat = min s.length 250 := by omega
  refine ⟨⟨by omega, by omega⟩, ?_⟩
  rw [e, List.take_eq_take_iff]
  omega
def optH (h : Hw) : Op := ((h.2.2.2.1, h.2.2.2.2.1, h.2.2.2.2.2), h.1, h.2.1, h.2.2.1)
def labH (h : Hw) : Pt := (h.2.2.2.1, h.2.2.2.2.1, h.2.2.2.2.2, false, [], [], [], [], false)
theorem op_le {c : Nat → AV} {l1 l2 l3 : BS} {a b d : Int} (h0 : c 0 = .st l1) (h1 : c 1 = .st l2) (h2 : c 2 = .st l3) (h3 : c 3 = .val (.int .i64 a)) (h4 : c 4 = .val (.int .i64 b)) (h5 : c 5 = .val (.int .i64 d)) : AVle (.ag 6 c) (.ag 6 (eOp.enc ((l1, l2, l3), a, b, d))) :=
  AVle.ag fun j hj => AVle.of_eq (match j, hj with
    | 0, _ => h0
    | 1, _ => h1
    | 2, _ => h2
    | 3, _ => h3
    | 4, _ => h4
    | 5, _ => h5)
def sOptM : Spec := Spec.f1 (kA eHw) (fun _ => True) (fun h => (kA eOp).enc (optH h))
theorem okOptM : SpecOK Tryz.prog 17 sOptM := by
  refine SpecOK.f1 Tryz.func17 rfl (by decide) Tryz.results17 Tryz.ntmps17 (by decide) fun h _ => ?_
  have hΓ : GOK Tryz.prog (gam []) := GOK.nil
  obtain ⟨st, w, v, l1, l2, l3⟩ := h
  refine AW.of hΓ mixed [] _ _ _ rfl ?_
  simp only [go_sem]
  exact op_le rfl rfl rfl rfl rfl rfl
def sLabM : Spec := Spec.f1 (kA eHw) (fun _ => True) (fun h => (kA ePt).enc (labH h))
theorem okLabM : SpecOK Tryz.prog 19 sLabM := by
  refine SpecOK.f1 Tryz.func19 rfl (by decide) Tryz.results19 Tryz.ntmps19 (by decide) fun h _ => ?_
  have hΓ : GOK Tryz.prog (gam []) := GOK.nil
  obtain ⟨st, w, v, l1, l2, l3⟩ := h
  refine AW.of hΓ mixed [] _ _ _ rfl ?_
  simp only [go_sem]
  exact pt_le rfl rfl rfl rfl rfl rfl rfl rfl rfl
def sCleanM : Spec := Spec.f1 (kA eRt) (fun _ => True) (fun r => kB.enc (decide (r.2.2.2.2.2.2 = 0)))
theorem okCleanM : SpecOK Tryz.prog 26 sCleanM := by
  refine SpecOK.f1 Tryz.func26 rfl (by decide) Tryz.results26 Tryz.ntmps26 (by decide) fun r _ => ?_
  have hΓ : GOK Tryz.prog (gam []) := GOK.nil
  obtain ⟨d, l, r, k, t, w, n⟩ := r
  refine AW.of hΓ mixed [] _ _ _ rfl ?_
  simp only [go_sem]
def sDefaultM : Spec := Spec.f0 ((kA eOp).enc (([], [], []), 0, 7, 0))
theorem okDefaultM : SpecOK Tryz.prog 49 sDefaultM := by
  refine SpecOK.f0 Tryz.func49 rfl (by decide) Tryz.results49 Tryz.ntmps49 ?_
  have hΓ : GOK Tryz.prog (gam []) := GOK.nil
  refine AW.of hΓ mixed [] _ _ _ rfl ?_
  simp only [go_sem]
  exact op_le rfl rfl rfl rfl rfl rfl
def sWrongM : Spec := Spec.f4 (kA ePt) kI kI kI (fun p _ _ _ => lbN (lbP p) ≤ 3000) (fun p st w v => kI.enc (wrgM (lbP p, st, w, v)))
theorem okWrongM : SpecOK Tryz.prog 18 sWrongM := by
  refine SpecOK.f4 Tryz.func18 rfl (by decide) Tryz.results18 Tryz.ntmps18 (by decide) fun p st w v hp => ?_
  have hΓ : GOK Tryz.prog (gam [(56, sRefPlain)]) := (.cons okRefPlain .nil)
  obtain ⟨l1, l2, l3, ph, pt, pl, pb, pr, phb⟩ := p
  unfold lbN lbP at hp
  dsimp only at hp
  refine AW.of hΓ mixed [99999] _ _ _ rfl ?_
  simp only [go_sem, sRefPlain]
  have e : plainD (l1, l2, l3, ph, pt, pl, pb, pr, phb) = plainLb (l1, l2, l3) := rfl
  rw [e]
  unfold wrgM lbP styOK favOK
  dsimp only
  generalize plainLb (l1, l2, l3) = P
  refine ⟨⟨by omega, by omega, by omega⟩, fun h => ?_, fun h => ⟨fun h2 => by simp [h2], fun h2 => ?_, fun h2 => ⟨fun h3 => by simp [h3], fun h3 h4 => ?_, fun h3 h4 => ?_, fun h3 => by simpa using h3, fun h5 => ?_, fun h5 => ?_⟩⟩⟩
  · have h : P = false := by simpa using h
    rw [if_pos h]
  · have h : P = true := by simpa using h
    simp only [Bool.or_eq_true, decide_eq_true_eq] at h2
    rw [if_neg (by rw [h]; simp), if_pos h2]
  · simp [h4]
    omega
  · simp [h4]
    omega
  · have h : P = true := by simpa using h
    simp only [Bool.or_eq_false_iff, decide_eq_false_iff_not] at h2
    simp only [Bool.or_eq_true, Bool.and_eq_true, decide_eq_true_eq] at h5
    rw [if_neg (by rw [h]; simp), if_neg (by omega), if_pos]
    simp only [Bool.and_eq_false_iff, Bool.or_eq_false_iff, decide_eq_false_iff_not]
    omega
  · have h : P = true := by simpa using h
    simp only [Bool.or_eq_false_iff, decide_eq_false_iff_not] at h2
    simp only [Bool.or_eq_false_iff, Bool.and_eq_false_iff, decide_eq_false_iff_not] at h5
    rw [if_neg (by rw [h]; simp), if_neg (by omega), if_neg]
    simp only [Bool.and_eq_false_iff, Bool.or_eq_false_iff, decide_eq_false_iff_not]
    omega
def bareB (s : BS) : BS := s.takeWhile fun c => !(c == 10)
theorem bare_at : ∀ (s : BS) (i : Nat), i ≤ s.length → (∀ k, k < i → s.getD k 0 ≠ 10) → (i < s.length → s.getD i 0 = 10) → bareB s = s.take i
  | [], i, h, _, _ => by simp [bareB]
  | c :: s, 0, _, _, h => by
    have h : c = 10 := by simpa using h (by simp)
    simp [bareB, h]
  | c :: s, i + 1, h, h1, h2 => by
    have h0 : c ≠ 10 := by simpa using h1 0 (by omega)
    have ih := bare_at s i (by simpa using h) (fun k hk => by simpa using h1 (k + 1) (by omega)) (fun hk => by simpa using h2 (by simpa using hk))
    unfold bareB at ih ⊢
    rw [List.takeWhile_cons, if_pos (by simpa using h0), ih, List.take_succ_cons]
theorem bare_plain (s : BS) : plainB (bareB s) = true := by
  unfold plainB bareB
  rw [decide_eq_true_eq]
  intro h
  have := List.all_eq_true.1 (List.all_takeWhile (p := fun c : UInt8 => !(c == 10)) (l := s)) 10 h
  simp at this
theorem bare_len (s : BS) : (bareB s).length ≤ s.length := by
  unfold bareB
  exact (List.takeWhile_sublist _).length_le
def sBareM : Spec := Spec.f1 kS (fun s => s.length ≤ 100000000000) (fun s => kS.enc (bareB s))
theorem okBareM : SpecOK Tryz.prog 63 sBareM := by
  refine SpecOK.f1 Tryz.func63 rfl (by decide) Tryz.results63 Tryz.ntmps63 (by decide) fun s hs => ?_
  have hΓ : GOK Tryz.prog (gam []) := GOK.nil
  refine AW.of hΓ mixed [] _ _ _ rfl ?_
  simp only [go_sem]
  refine AW.round (α := { i : Nat // i ≤ s.length ∧ ∀ k, k < i → s.getD k 0 ≠ 10 }) (fun x => ⟨[(0, .st s), (2, .st []), (3, .val (.int .i64 x.1))], [], 18, 0, 0, []⟩) (fun x => s.length - x.1) ⟨0, Nat.zero_le _, fun k hk => absurd hk (Nat.not_lt_zero _)⟩ ?_ ?_
  · simp only [go_sem]
  · rintro ⟨i, hi, hk⟩
    refine AW.of hΓ mixed [99999] _ _ _ rfl ?_
    simp only [go_sem]
    refine ⟨fun hlt => ⟨⟨by omega, by omega⟩, fun h => ⟨⟨by omega, by omega⟩, (bare_at s i hi hk fun _ => h).symm⟩, fun h => ⟨⟨by omega, by omega⟩, ⟨i + 1, by omega, fun k hk2 => ?_⟩, by dsimp only; omega, by dsimp only; omega⟩⟩, fun hge => ?_⟩
    · rcases Nat.lt_or_ge k i with g | g
      · exact hk k g
      · obtain rfl : k = i := by omega
        exact h
    · rw [bare_at s i hi hk (fun h => absurd h (by omega)), List.take_of_length_le (by omega)]
def u64r (n m : Int) : Int := (IntKind.u64.wrap n).tmod m
theorem u64r_in (n : Int) {m : Int} (h : 0 < m) : 0 ≤ u64r n m ∧ u64r n m < m := by
  unfold u64r
  have h1 : 0 ≤ IntKind.u64.wrap n := by rw [IntKind.wrap_u64]; omega
  rw [Int.tmod_eq_emod_of_nonneg h1]
  exact ⟨Int.emod_nonneg _ (by omega), Int.emod_lt_of_pos _ h⟩
def OptH (h : Hw) : Op := ((bareB h.2.2.2.1, bareB h.2.2.2.2.1, bareB h.2.2.2.2.2), u64r h.1 3, 7 + u64r h.2.1 58, 0)
def sOPTM : Spec := Spec.f1 (kA eHw) (fun h => h.2.2.2.1.length ≤ 100000000000 ∧ h.2.2.2.2.1.length ≤ 100000000000 ∧ h.2.2.2.2.2.length ≤ 100000000000) (fun h => (kA eOp).enc (OptH h))
theorem okOPTM : SpecOK Tryz.prog 27 sOPTM := by
  refine SpecOK.f1 Tryz.func27 rfl (by decide) Tryz.results27 Tryz.ntmps27 (by decide) fun h hh => ?_
  have hΓ : GOK Tryz.prog (gam [(19, sLabM), (63, sBareM)]) := (.cons okLabM (.cons okBareM .nil))
  obtain ⟨st, w, v, l1, l2, l3⟩ := h
  obtain ⟨h1, h2, h3⟩ := hh
  dsimp only at h1 h2 h3
  refine AW.of hΓ mixed [0, 200002] _ _ _ rfl ?_
  simp only [go_sem, sLabM, sBareM]
  refine AW.still 1 0 0 24 6 _ rfl rfl (fun j hj => match j, hj with | 0, _ => rfl | 1, _ => rfl | 2, _ => rfl | 3, _ => rfl | 4, _ => rfl | 5, _ => rfl) ?_
  refine AW.of hΓ mixed [1, 200002] _ _ _ rfl ?_
  simp only [go_sem, sLabM, sBareM]
  refine AW.fork ?_
  refine AW.drawZ hΓ mixed 9 [9, 11, 13] [9, 11, 13] [] (by decide +kernel) ?_
  simp only [go_sem, sLabM, sBareM, keeps_sL]
  refine ⟨h1, h2, h3, ?_⟩
  refine AW.cut ⟨[(1, .ps 6 (eHw.enc (st, w, v, l1, l2, l3))), (2, .pt 1 1 0), (3, .pt 2 2 0)], [(1, .box 1 40 6 (eOp.enc (([], [], []), 0, 0, 0))), (2, .box 2 44 9 (ePt.enc (bareB l1, bareB l2, bareB l3, false, [], [], [], [], false)))], 37, 3, 3, []⟩ ?_ ?_
  · simp only [go_sem, sLabM, sBareM]
    exact ⟨RowLe.box fun j hj => AVle.of_eq (match j, hj with | 0, _ => rfl | 1, _ => rfl | 2, _ => rfl | 3, _ => rfl | 4, _ => rfl | 5, _ => rfl), pt_box rfl rfl rfl rfl rfl rfl rfl rfl rfl⟩
  refine AW.of hΓ mixed [99999] _ _ _ rfl ?_
  simp only [go_sem, sLabM, sBareM]
  have g1 : 0 ≤ (IntKind.u64.wrap st).tmod 3 ∧ (IntKind.u64.wrap st).tmod 3 < 3 := u64r_in st (by decide)
  have g2 : 0 ≤ (IntKind.u64.wrap w).tmod 58 ∧ (IntKind.u64.wrap w).tmod 58 < 58 := u64r_in w (by decide)
  exact ⟨⟨by omega, by omega⟩, ⟨by omega, by omega⟩, ⟨by omega, by omega⟩, op_le rfl rfl rfl rfl rfl rfl⟩
theorem OptH_ok (h : Hw) (h1 : fewH h = true) : wrgM (OptH h) = 0 ∧ lbN (OptH h).1 ≤ 500 := by
  have g1 := u64r_in h.1 (m := 3) (by decide)
  have g2 := u64r_in h.2.1 (m := 58) (by decide)
  constructor
  · unfold wrgM OptH
    dsimp only
    rw [if_neg, if_neg (by omega), if_neg]
    · have e : styOK (u64r h.1 3) = true := by
        unfold styOK
        simp only [Bool.or_eq_true, decide_eq_true_eq]
        omega
      rw [e]
      decide
    · unfold plainLb
      rw [bare_plain, bare_plain, bare_plain]
      simp
  · unfold fewH at h1
    have h1 := of_decide_eq_true h1
    have b1 := bare_len h.2.2.2.1
    have b2 := bare_len h.2.2.2.2.1
    have b3 := bare_len h.2.2.2.2.2
    unfold lbN OptH
    dsimp only
    omega
theorem told_prs : prsF (splitL [97, 10, 98, 10]) (splitL [97, 10, 120, 10]) = [(0, 0)] ∧ prsF (splitL [97, 10, 98, 10]) (splitL [97, 10, 121, 10]) = [(0, 0)] := by decide +kernel
theorem told_K : mrgK (filesF [97, 10, 98, 10] [97, 10, 120, 10] [97, 10, 121, 10]) = [(true, (0, 1), (0, 1), (0, 1)), (false, (1, 2), (1, 2), (1, 2))] := by
  have h := told_prs
  unfold mrgK cksF filesF
  dsimp only
  rw [h.1, h.2]
  have e : bothF [(0, 0)] [(0, 0)] = [((0 : Int), (0 : Int), (0 : Int))] := by
    rw [bothF, if_neg (by decide), if_neg (by decide), both_nil]
  rw [e]
  decide
theorem told_D : mrgD [97, 10, 98, 10] [97, 10, 120, 10] [97, 10, 121, 10] 0 ([], [], []) 0 = [textP [97, 10], ([], [], [], true, [], [120, 10], [], [121, 10], false)] := by
  unfold mrgD
  rw [told_K]
  decide +kernel
theorem told_O : mrgO [97, 10, 98, 10] [97, 10, 120, 10] [97, 10, 121, 10] (([], [], []), 0, 7, 0) = ([textP [97, 10], ([], [], [], true, [], [120, 10], [], [121, 10], false)], [(0, 0)], [(0, 0)], [(true, (0, 1), (0, 1), (0, 1)), (false, (1, 2), (1, 2), (1, 2))],
    [97, 10, 60, 60, 60, 60, 60, 60, 60, 10, 120, 10, 61, 61, 61, 61, 61, 61, 61, 10, 121, 10, 62, 62, 62, 62, 62, 62, 62, 10], 7, 1) := by
  have h := told_prs
  unfold mrgO
  rw [if_pos (by decide)]
  unfold mrgT
  dsimp only
  rw [told_D, told_K, h.1, h.2]
  have e1 : mrgW 7 [97, 10, 98, 10] [97, 10, 120, 10] [97, 10, 121, 10] = 7 := by decide +kernel
  have e2 : printL 7 [textP [97, 10], ([], [], [], true, [], [120, 10], [], [121, 10], false)] = [97, 10, 60, 60, 60, 60, 60, 60, 60, 10, 120, 10, 61, 61, 61, 61, 61, 61, 61, 10, 121, 10, 62, 62, 62, 62, 62, 62, 62, 10] := by decide +kernel
  have e3 : cntF (filesF [97, 10, 98, 10] [97, 10, 120, 10] [97, 10, 121, 10]) [(true, (0, 1), (0, 1), (0, 1)), (false, (1, 2), (1, 2), (1, 2))] = 1 := by decide +kernel
  rw [e1, e2, e3]
  rfl
def sToldMg : Spec := Spec.f0 (kB.enc true)
theorem okToldMg : SpecOK Tryz.prog 14 sToldMg := by
  refine SpecOK.f0 Tryz.func14 rfl (by decide) Tryz.results14 Tryz.ntmps14 ?_
  have hΓ : GOK Tryz.prog (gam [(49, sDefaultM), (16, sTexts), (26, sCleanM), (47, sConflD)]) := (.cons okDefaultM (.cons okTexts (.cons okCleanM (.cons okConflD .nil))))
  have ht := told_O
  have hw : wrgM (([], [], []), 0, 7, 0) = 0 := by decide
  have hok : okM [97, 10, 98, 10] [97, 10, 120, 10] [97, 10, 121, 10] := by unfold okM; decide
  refine AW.of hΓ mixed [99999] _ _ _ rfl ?_
  simp only [go_sem, sDefaultM, sTexts, sCleanM, sConflD, ht, hw]
  exact ⟨⟨hok, by unfold lbN; decide⟩, by decide⟩
abbrev Rd12 := List Pt × List Ck × BS × Int × Int
abbrev eRd12 : El Rd12 := eP (eL ePt) (eP (eL eCk) (eP eS (eP eI eI)))
theorem rd12_le {c : Nat → AV} {d : List Pt} {k : List Ck} {t : BS} {w n : Int} (h0 : AVle (c 0) (sL ePt d)) (h1 : AVle (c 1) (sL eCk k)) (h2 : c 2 = .st t) (h3 : c 3 = .val (.int .i64 w)) (h4 : c 4 = .val (.int .i64 n)) : AVle (.ag 5 c) (.ag 5 (eRd12.enc (d, k, t, w, n))) :=
  AVle.ag fun j hj => match j, hj with
    | 0, _ => h0
    | 1, _ => h1
    | 2, _ => AVle.of_eq h2
    | 3, _ => AVle.of_eq h3
    | 4, _ => AVle.of_eq h4
def sNumsM : Spec := Spec.f3 kS kS kS (fun a b c => a.length ≤ 100000 ∧ b.length ≤ 100000 ∧ c.length ≤ 100000) (fun a b c => sL (eL eI) (numF [] [splitL a, splitL b, splitL c]))
theorem okNumsM : SpecOK Tryz.prog 57 sNumsM := by
  refine SpecOK.f3 Tryz.func57 rfl (by decide) Tryz.results57 Tryz.ntmps57 (by decide) fun a b c ⟨ha, hb, hc⟩ => ?_
  have hΓ : GOK Tryz.prog (gam [(33, sRefSplit), (34, sRefNumber)]) := (.cons okRefSplit (.cons okRefNumber .nil))
  have la := splitL_len a
  have lb := splitL_len b
  have lc := splitL_len c
  refine AW.of hΓ mixed [] _ _ _ rfl ?_
  simp only [go_sem, sRefSplit, sRefNumber]
  exact ⟨by omega, by omega, by omega, by omega, by omega, by omega⟩
def mrgQ (a b c : BS) (p : Pt) (st w v : Int) : Rd12 := (mrgD a b c st (lbP p) v, mrgK (filesF a b c), printL (mrgW w a b c) (mrgD a b c st (lbP p) v), mrgW w a b c, (cntF (filesF a b c) (mrgK (filesF a b c)) : Int))
def sRefOfM : Spec := Spec.f9 kS kS kS (kL (eP eI eI)) (kL (eP eI eI)) (kA ePt) kI kI kI
  (fun a b c l r p st w v => (a.length ≤ 250 ∧ b.length ≤ 250 ∧ c.length ≤ 250) ∧ l = prsF (splitL a) (splitL b) ∧ r = prsF (splitL a) (splitL c) ∧ lbN (lbP p) ≤ 3000 ∧ wrgM (lbP p, st, w, v) = 0)
  (fun a b c l r p st w v => tu2 ((kA eRd12).enc (mrgQ a b c p st w v)) (kB.enc true))
theorem okRefOfM : SpecOK Tryz.prog 20 sRefOfM := by
  refine SpecOK.f9 Tryz.func20 rfl (by decide) Tryz.results20 Tryz.ntmps20 (by decide) fun a b c l r p st w v ⟨⟨h1, h2, h3⟩, hl, hr, hlb, hw⟩ => ?_
  have hΓ : GOK Tryz.prog (gam [(57, sNumsM), (58, sLcsRefRight), (59, sLcsLength), (33, sRefSplit), (36, sRefOfK), (37, sRefDocB), (60, sRefRunT), (38, sRefPrint), (39, sRefCountB)]) := (.cons okNumsM (.cons okLcsRefRight (.cons okLcsLength (.cons okRefSplit (.cons okRefOfK (.cons okRefDocB (.cons okRefRunT (.cons okRefPrint (.cons okRefCountB .nil)))))))))
  obtain ⟨p1, p2, p3⟩ := wrg_0 hw
  have la := splitL_len a
  have lb := splitL_len b
  have lc := splitL_len c
  have hM : okM a b c := ⟨by omega, by omega, by omega, .inl (by omega)⟩
  have hF := mrg_facts hM p2 st hlb p1 v
  obtain ⟨⟨m1, m2⟩, m3, m4⟩ := prs_three (filesF a b c)
  have n0 : (numF [] [splitL a, splitL b, splitL c]).length = 3 := by rw [numF_len]; rfl
  have n1 : ((numF [] [splitL a, splitL b, splitL c]).getD 0 []).length = (splitL a).length := by simp [numF, numL_len]
  have n2 : ((numF [] [splitL a, splitL b, splitL c]).getD 1 []).length = (splitL b).length := by simp [numF, numL_len]
  have n3 : ((numF [] [splitL a, splitL b, splitL c]).getD 2 []).length = (splitL c).length := by simp [numF, numL_len]
  unfold filesF at m1 m2 m3 m4
  dsimp only at m1 m2 m3 m4
  have hl2 := prsF_len (splitL a) (splitL b)
  have hr2 := prsF_len (splitL a) (splitL c)
  subst hl hr
  obtain ⟨l1, l2, l3, ph, pt, pl, pb, pr, phb⟩ := p
  generalize hp : lbP (l1, l2, l3, ph, pt, pl, pb, pr, phb) = lbs at *
  dsimp only at p1 p2 p3 hF
  have hfit : fitK (splitL a).length (splitL b).length (splitL c).length (prsF (splitL a) (splitL b)) (prsF (splitL a) (splitL c)) = true := mtch_fit (prs_three (filesF a b c)).1
  have hK : ofK (((splitL a).length : Int), ((splitL b).length : Int), ((splitL c).length : Int)) (bothF (prsF (splitL a) (splitL b)) (prsF (splitL a) (splitL c))) [] (0, 0, 0) = mrgK (filesF a b c) := rfl
  have hdoc : docF (splitL a, splitL b, splitL c) (mrgK (filesF a b c)) st lbs v = (mrgD a b c st lbs v, 0) := doc_mrg p3 p1
  have hpr := mrg_text hF
  have hok := hF.ok
  have hlen := hF.len
  have hsum := hF.sum
  have hdl := hF.dlen
  have hpL := hF.pr
  have hps := sum_okPs (Nat.le_trans hF.sump (by decide))
  have hcn := cnt_le (filesF a b c) (mrgK (filesF a b c))
  have hW : mrgW w a b c = max (max (max w ((longL (splitL a) : Int) + 1)) ((longL (splitL b) : Int) + 1)) ((longL (splitL c) : Int) + 1) := by
    unfold mrgW longT
    simp only [List.foldl_cons, List.foldl_nil]
    omega
  unfold mrgQ
  rw [hp]
  unfold filesF at *
  generalize mrgD a b c st lbs v = D at *
  generalize mrgW w a b c = W at *
  generalize hKe : mrgK (splitL a, splitL b, splitL c) = K at *
  generalize hlp : prsF (splitL a) (splitL b) = lp at *
  generalize hrp : prsF (splitL a) (splitL c) = rp at *
  have q1 : longL (splitL a) ≤ 250 := Nat.le_trans (longT_mem (l := [a, b, c]) (by simp)) (longT_bnd h1 h2 h3)
  have q2 : longL (splitL b) ≤ 250 := Nat.le_trans (longT_mem (l := [a, b, c]) (by simp)) (longT_bnd h1 h2 h3)
  have q3 : longL (splitL c) ≤ 250 := Nat.le_trans (longT_mem (l := [a, b, c]) (by simp)) (longT_bnd h1 h2 h3)
  generalize hra : longL (splitL a) = ra at *
  generalize hrb : longL (splitL b) = rb at *
  generalize hrc : longL (splitL c) = rc at *
  generalize hx : splitL a = x at *
  generalize hy : splitL b = y at *
  generalize hz : splitL c = z at *
  refine AW.of hΓ mixed [0] _ _ _ rfl ?_
  simp only [go_sem, sNumsM, sLcsRefRight, sLcsLength, sRefSplit, sRefOfK, sRefDocB, sRefRunT, sRefPrint, sRefCountB]
  refine AW.still 14 0 0 44 9 _ rfl rfl (fun j hj => match j, hj with | 0, _ => rfl | 1, _ => rfl | 2, _ => rfl | 3, _ => rfl | 4, _ => rfl | 5, _ => rfl | 6, _ => rfl | 7, _ => rfl | 8, _ => rfl) ?_
  refine AW.of hΓ mixed [6] _ _ _ rfl ?_
  simp only [go_sem, sNumsM, sLcsRefRight, sLcsLength, sRefSplit, sRefOfK, sRefDocB, sRefRunT, sRefPrint, sRefCountB, n0, n1, n2, n3, m1, m2, ← m3, ← m4, hfit, hK, hdoc, hp, hx, hy, hz]
  have hlb2 : okLb lbs := by
    unfold lbN at hlb
    unfold okLb
    omega
  refine ⟨⟨by omega, by omega, by omega⟩, ⟨by omega, by omega, by omega⟩, ⟨by omega, by omega, by omega⟩, ⟨by omega, by omega⟩, ⟨by omega, by omega⟩, by omega, by omega, by omega, ⟨by omega, by omega, by omega, by omega, by omega⟩, ⟨⟨hok, by omega, hsum⟩, hlb2⟩, ?_⟩
  refine AW.cut ⟨[(0, .st a), (1, .st b), (2, .st c), (7, .val (.int .i64 w)), (18, .pt 1 1 0), (21, .pt 2 2 0), (22, sL eCk K), (24, sL ePt D)], [(1, .box 1 49 5 (eRd12.enc ([], [], [], 0, 0))), (2, .box 2 79 3 (eFl.enc (x, y, z)))], 139, 3, 3, []⟩ ?_ ?_
  · simp only [go_sem, sNumsM, sLcsRefRight, sLcsLength, sRefSplit, sRefOfK, sRefDocB, sRefRunT, sRefPrint, sRefCountB]
    exact ⟨RowLe.box fun j hj => match j, hj with | 0, _ => em_sL _ | 1, _ => em_sL _ | 2, _ => AVle.refl _ | 3, _ => AVle.refl _ | 4, _ => AVle.refl _, RowLe.box fun j hj => AVle.of_eq (match j, hj with | 0, _ => rfl | 1, _ => rfl | 2, _ => rfl)⟩
  refine AW.still 21 2 2 79 3 _ rfl rfl (fun j hj => match j, hj with | 0, _ => rfl | 1, _ => rfl | 2, _ => rfl) ?_
  refine AW.fork ?_
  refine AW.regionO hΓ [false, false, false, false, false, false, false, false, false, false, true, false] ?_
  simp only [go_sem, sNumsM, sLcsRefRight, sLcsLength, sRefSplit, sRefOfK, sRefDocB, sRefRunT, sRefPrint, sRefCountB, hx, hy, hz, hra, hrb, hrc]
  refine ⟨by omega, ⟨by omega, by omega⟩, by omega, ⟨by omega, by omega⟩, by omega, ⟨by omega, by omega⟩, max4_wp rfl rfl rfl rfl rfl (by exact (by decide : 122 < 139)) ?_⟩
  rw [← hW]
  simp only [go_sem, sNumsM, sLcsRefRight, sLcsLength, sRefSplit, sRefOfK, sRefDocB, sRefRunT, sRefPrint, sRefCountB]
  refine AW.cut ⟨[(18, .pt 1 1 0), (21, .ps 3 (eFl.enc (x, y, z))), (22, sL eCk K), (24, sL ePt D), (26, .val (.int .i64 W))], [(1, .box 1 49 5 (eRd12.enc ([], [], [], 0, 0)))], 139, 3, 3, []⟩ ?_ ?_
  · simp only [go_sem, sNumsM, sLcsRefRight, sLcsLength, sRefSplit, sRefOfK, sRefDocB, sRefRunT, sRefPrint, sRefCountB]
    exact RowLe.refl _
  refine AW.of hΓ mixed [99999] _ _ _ rfl ?_
  simp only [go_sem, sNumsM, sLcsRefRight, sLcsLength, sRefSplit, sRefOfK, sRefDocB, sRefRunT, sRefPrint, sRefCountB, hpr]
  exact ⟨⟨⟨by omega, hps⟩, fun _ => hpL⟩, ⟨hok, by omega⟩, rd12_le (AVle.refl _) (AVle.refl _) rfl rfl rfl⟩
end Go.Proofs.YtjfmigpahglajaaGreatDoor
set_option linter.unusedSimpArgs false
set_option linter.unusedVariables false
set_option maxRecDepth 100000
set_option maxHeartbeats 8000000
namespace Go.Proofs.YtjfmigpahglajaaGreatDoor
open Go
attribute [local irreducible] AW AVle ASle RowLe
theorem few_lbN {h : Hw} (hf : fewH h = true) : lbN (optH h).1 ≤ 500 := by
  unfold fewH at hf
  exact of_decide_eq_true hf
theorem short_M {a b c : BS} (ha : a.length ≤ 250) (hb : b.length ≤ 250) (hc : c.length ≤ 250) : okM a b c := ⟨by omega, by omega, by omega, .inl (Nat.le_trans (splitL_len a) (by omega))⟩
def sMergeTexts : Spec := Spec.f2 (kA eLb) (kA eHw) (fun _ h => rchH h) (fun _ _ => kB.enc true)
theorem okMergeTexts : SpecOK Tryz.prog 3 sMergeTexts := by
  refine SpecOK.f2 Tryz.func3 rfl (by decide) Tryz.results3 Tryz.ntmps3 (by decide) fun t h hh => ?_
  have hΓ : GOK Tryz.prog (gam [(13, sFewM), (14, sToldMg), (15, sShortM), (17, sOptM), (16, sTexts), (19, sLabM), (18, sWrongM), (20, sRefOfM), (21, sLcsFrom), (23, sFromD), (22, sSameD), (25, sFromK), (24, sSameK), (26, sCleanM)]) := (.cons okFewM (.cons okToldMg (.cons okShortM (.cons okOptM (.cons okTexts (.cons okLabM (.cons okWrongM (.cons okRefOfM (.cons okLcsFrom (.cons okFromD (.cons okSameD (.cons okFromK (.cons okSameK (.cons okCleanM .nil))))))))))))))
  obtain ⟨ta, tb, tc⟩ := t
  obtain ⟨st, w, v, l1, l2, l3⟩ := h
  have la : (ta.take 250).length ≤ 250 := by simp; omega
  have lb : (tb.take 250).length ≤ 250 := by simp; omega
  have lc : (tc.take 250).length ≤ 250 := by simp; omega
  have ho : optH (st, w, v, l1, l2, l3) = ((l1, l2, l3), st, w, v) := rfl
  have hb : labH (st, w, v, l1, l2, l3) = (l1, l2, l3, false, [], [], [], [], false) := rfl
  have hlb : lbP (l1, l2, l3, false, [], [], [], [], false) = (l1, l2, l3) := rfl
  refine AW.of hΓ mixed [0, 200010] _ _ _ rfl ?_
  simp only [go_sem, sFewM, sToldMg, sShortM, sOptM, sTexts, sLabM, sWrongM, sRefOfM, sLcsFrom, sFromD, sSameD, sFromK, sSameK, sCleanM]
  refine AW.still 2 0 0 22 3 _ rfl rfl (fun j hj => match j, hj with | 0, _ => rfl | 1, _ => rfl | 2, _ => rfl) ?_
  refine AW.still 3 1 1 24 6 _ rfl rfl (fun j hj => match j, hj with | 0, _ => rfl | 1, _ => rfl | 2, _ => rfl | 3, _ => rfl | 4, _ => rfl | 5, _ => rfl) ?_
  refine AW.of hΓ mixed [3, 200010] _ _ _ rfl ?_
  simp only [go_sem, sFewM, sToldMg, sShortM, sOptM, sTexts, sLabM, sWrongM, sRefOfM, sLcsFrom, sFromD, sSameD, sFromK, sSameK, sCleanM]
  refine ⟨hh, fun hfew => ?_⟩
  have hfew : fewH (st, w, v, l1, l2, l3) = true := by simpa using hfew
  have hl := few_lbN hfew
  rw [ho] at hl
  dsimp only at hl
  refine AW.cut ⟨[(3, .ps 6 (eHw.enc (st, w, v, l1, l2, l3))), (5, .st (ta.take 250)), (6, .st (tb.take 250)), (7, .st (tc.take 250))], [], 141, 2, 2, []⟩ ?_ ?_
  · simp only [go_sem, sFewM, sToldMg, sShortM, sOptM, sTexts, sLabM, sWrongM, sRefOfM, sLcsFrom, sFromD, sSameD, sFromK, sSameK, sCleanM]
  generalize ta.take 250 = a at *
  generalize tb.take 250 = b at *
  generalize tc.take 250 = c at *
  have hM := short_M la lb lc
  refine AW.of hΓ mixed [4, 200010] _ _ _ rfl ?_
  simp only [go_sem, sFewM, sToldMg, sShortM, sOptM, sTexts, sLabM, sWrongM, sRefOfM, sLcsFrom, sFromD, sSameD, sFromK, sSameK, sCleanM, ho]
  refine ⟨⟨hM, by omega⟩, ?_⟩
  refine AW.cut ⟨[(3, .ps 6 (eHw.enc (st, w, v, l1, l2, l3))), (5, .st a), (6, .st b), (7, .st c), (8, .pt 2 2 0), (9, .val (.int .i64 (wrgM ((l1, l2, l3), st, w, v))))], [(2, .box 2 33 7 (eRt.enc (mrgO a b c ((l1, l2, l3), st, w, v))))], 141, 3, 3, []⟩ ?_ ?_
  · simp only [go_sem, sFewM, sToldMg, sShortM, sOptM, sTexts, sLabM, sWrongM, sRefOfM, sLcsFrom, sFromD, sSameD, sFromK, sSameK, sCleanM]
    exact box_st
  by_cases he : wrgM ((l1, l2, l3), st, w, v) = 0
  · have e : mrgO a b c ((l1, l2, l3), st, w, v) = mrgT a b c w st (l1, l2, l3) v := by unfold mrgO; rw [if_pos he]
    rw [e, he]
    obtain ⟨p1, p2, p3⟩ := wrg_0 he
    have hF := mrg_facts hM p2 st (by dsimp only; omega) p1 v
    dsimp only at p1 p2 p3 hF
    have hq : mrgQ a b c (l1, l2, l3, false, [], [], [], [], false) st w v = (mrgD a b c st (l1, l2, l3) v, mrgK (filesF a b c), printL (mrgW w a b c) (mrgD a b c st (l1, l2, l3) v), mrgW w a b c, (cntF (filesF a b c) (mrgK (filesF a b c)) : Int)) := rfl
    have hdl := hF.dlen
    have hkl := hF.len
    have hl1 := prsF_len (splitL a) (splitL b)
    have hl2 := prsF_len (splitL a) (splitL c)
    have sa := splitL_len a
    unfold mrgT
    generalize hlp : prsF (splitL a) (splitL b) = lp at *
    generalize hrp : prsF (splitL a) (splitL c) = rp at *
    generalize mrgD a b c st (l1, l2, l3) v = D at *
    generalize mrgK (filesF a b c) = K at *
    generalize printL (mrgW w a b c) D = T at *
    generalize mrgW w a b c = W at *
    generalize ((cntF (filesF a b c) K : Nat) : Int) = n at *
    refine AW.still 8 2 2 33 7 _ rfl rfl (fun j hj => match j, hj with | 0, _ => rfl | 1, _ => rfl | 2, _ => rfl | 3, _ => rfl | 4, _ => rfl | 5, _ => rfl | 6, _ => rfl) ?_
    refine AW.of hΓ mixed [200010] _ _ _ rfl ?_
    simp only [go_sem, sFewM, sToldMg, sShortM, sOptM, sTexts, sLabM, sWrongM, sRefOfM, sLcsFrom, sFromD, sSameD, sFromK, sSameK, sCleanM, hb, hlb, he]
    refine ⟨by omega, ?_⟩
    refine AW.drawZ hΓ mixed 22 [23] [20, 23] [] (by decide +kernel) ?_
    simp only [go_sem, sFewM, sToldMg, sShortM, sOptM, sTexts, sLabM, sWrongM, sRefOfM, sLcsFrom, sFromD, sSameD, sFromK, sSameK, sCleanM, keeps_sL, hb, hlb, hq]
    exact ⟨by omega, by omega, ⟨⟨la, lb, lc⟩, hlp.symm, hrp.symm, by omega, he⟩, by omega, by omega, by omega, by omega⟩
  · have e : mrgO a b c ((l1, l2, l3), st, w, v) = rt0 := by unfold mrgO; rw [if_neg he]
    rw [e]
    unfold rt0
    refine AW.still 8 2 2 33 7 _ rfl rfl (fun j hj => match j, hj with | 0, _ => rfl | 1, _ => rfl | 2, _ => rfl | 3, _ => rfl | 4, _ => rfl | 5, _ => rfl | 6, _ => rfl) ?_
    refine AW.of hΓ mixed [99999, 200010] _ _ _ rfl ?_
    simp only [go_sem, sFewM, sToldMg, sShortM, sOptM, sTexts, sLabM, sWrongM, sRefOfM, sLcsFrom, sFromD, sSameD, sFromK, sSameK, sCleanM, hb, hlb, he]
    omega
end Go.Proofs.YtjfmigpahglajaaGreatDoor
set_option linter.unusedSimpArgs false
set_option linter.unusedVariables false
set_option maxRecDepth 100000
set_option maxHeartbeats 8000000
namespace Go.Proofs.YtjfmigpahglajaaGreatDoor
open Go
attribute [local irreducible] AW AVle ASle RowLe
theorem O_eq {a b c : BS} {o : Op} (he : wrgM o = 0) : mrgO a b c o = mrgT a b c o.2.2.1 o.2.1 o.1 o.2.2.2 := by unfold mrgO; rw [if_pos he]
theorem left_O (a b : BS) {o : Op} (he : wrgM o = 0) : ∃ D l r W, mrgO a a b o = (D, l, r, mrgK (filesF a a b), b, W, 0) := by
  rw [O_eq he]
  unfold mrgT
  obtain ⟨h1, h2⟩ := left_same a b
  rw [h1, h2]
  exact ⟨_, _, _, _, rfl⟩
theorem right_O (a b : BS) {o : Op} (he : wrgM o = 0) : ∃ D l r W, mrgO a b a o = (D, l, r, mrgK (filesF a b a), b, W, 0) := by
  rw [O_eq he]
  unfold mrgT
  obtain ⟨h1, h2⟩ := right_same a b
  rw [h1, h2]
  exact ⟨_, _, _, _, rfl⟩
theorem both_O (a b : BS) {o : Op} (he : wrgM o = 0) : ∃ D l r W, mrgO a b b o = (D, l, r, mrgK (filesF a b b), b, W, 0) := by
  rw [O_eq he]
  unfold mrgT
  obtain ⟨h1, h2⟩ := both_same a b
  rw [h1, h2]
  exact ⟨_, _, _, _, rfl⟩
theorem few_opt {h : Hw} (hf : fewH h = true) : ∃ m1 m2 m3 s u, OptH h = ((m1, m2, m3), s, u, 0) ∧ wrgM ((m1, m2, m3), s, u, 0) = 0 ∧ lbN (m1, m2, m3) ≤ 500 ∧ (h.2.2.2.1.length ≤ 100000000000 ∧ h.2.2.2.2.1.length ≤ 100000000000 ∧ h.2.2.2.2.2.length ≤ 100000000000) := by
  obtain ⟨h1, h2⟩ := OptH_ok h hf
  have hf := of_decide_eq_true hf
  exact ⟨_, _, _, _, _, rfl, h1, h2, by omega, by omega, by omega⟩
def sMergeSames : Spec := Spec.f3 kS kS (kA eHw) (fun _ _ h => rchH h) (fun _ _ _ => kB.enc true)
theorem okMergeSames : SpecOK Tryz.prog 4 sMergeSames := by
  refine SpecOK.f3 Tryz.func4 rfl (by decide) Tryz.results4 Tryz.ntmps4 (by decide) fun ta tb h hh => ?_
  have hΓ : GOK Tryz.prog (gam [(13, sFewM), (14, sToldMg), (15, sShortM), (27, sOPTM), (16, sTexts)]) := (.cons okFewM (.cons okToldMg (.cons okShortM (.cons okOPTM (.cons okTexts .nil)))))
  obtain ⟨st, w, v, l1, l2, l3⟩ := h
  have la : (ta.take 250).length ≤ 250 := by simp; omega
  have lb : (tb.take 250).length ≤ 250 := by simp; omega
  refine AW.of hΓ mixed [0] _ _ _ rfl ?_
  simp only [go_sem, sFewM, sToldMg, sShortM, sOPTM, sTexts]
  refine AW.still 5 0 0 24 6 _ rfl rfl (fun j hj => match j, hj with | 0, _ => rfl | 1, _ => rfl | 2, _ => rfl | 3, _ => rfl | 4, _ => rfl | 5, _ => rfl) ?_
  refine AW.of hΓ mixed [3] _ _ _ rfl ?_
  simp only [go_sem, sFewM, sToldMg, sShortM, sOPTM, sTexts]
  refine ⟨hh, fun hfew => ?_⟩
  have hfew : fewH (st, w, v, l1, l2, l3) = true := by simpa using hfew
  obtain ⟨m1, m2, m3, s, u, ho, hw, hl, hl2⟩ := few_opt hfew
  refine AW.cut ⟨[(0, .st (ta.take 250)), (1, .st (tb.take 250)), (5, .ps 6 (eHw.enc (st, w, v, l1, l2, l3)))], [], 90, 1, 1, []⟩ ?_ ?_
  · simp only [go_sem, sFewM, sToldMg, sShortM, sOPTM, sTexts]
  generalize ta.take 250 = a at *
  generalize tb.take 250 = b at *
  refine AW.of hΓ mixed [4] _ _ _ rfl ?_
  simp only [go_sem, sFewM, sToldMg, sShortM, sOPTM, sTexts, ho]
  refine ⟨hl2, ?_⟩
  refine AW.cut ⟨[(0, .st a), (1, .st b), (7, .pt 1 1 0)], [(1, .box 1 40 6 (eOp.enc ((m1, m2, m3), s, u, 0)))], 90, 2, 2, []⟩ ?_ ?_
  · simp only [go_sem, sFewM, sToldMg, sShortM, sOPTM, sTexts]
    exact box_st
  refine AW.still 7 1 1 40 6 _ rfl rfl (fun j hj => match j, hj with | 0, _ => rfl | 1, _ => rfl | 2, _ => rfl | 3, _ => rfl | 4, _ => rfl | 5, _ => rfl) ?_
  obtain ⟨D1, lp1, rp1, W1, e1⟩ := left_O a b hw
  obtain ⟨D2, lp2, rp2, W2, e2⟩ := right_O a b hw
  obtain ⟨D3, lp3, rp3, W3, e3⟩ := both_O a b hw
  refine AW.of hΓ mixed [99999] _ _ _ rfl ?_
  simp only [go_sem, sFewM, sToldMg, sShortM, sOPTM, sTexts, e1, e2, e3, hw]
  exact ⟨⟨short_M la la lb, by omega⟩, ⟨short_M la lb la, by omega⟩, short_M la lb lb, by omega⟩
def sMergeAgain : Spec := Spec.f2 (kA eLb) (kA eHw) (fun _ h => rchH h) (fun _ _ => kB.enc true)
theorem okMergeAgain : SpecOK Tryz.prog 7 sMergeAgain := by
  refine SpecOK.f2 Tryz.func7 rfl (by decide) Tryz.results7 Tryz.ntmps7 (by decide) fun t h hh => ?_
  have hΓ : GOK Tryz.prog (gam [(13, sFewM), (14, sToldMg), (15, sShortM), (27, sOPTM), (16, sTexts)]) := (.cons okFewM (.cons okToldMg (.cons okShortM (.cons okOPTM (.cons okTexts .nil)))))
  obtain ⟨ta, tb, tc⟩ := t
  obtain ⟨st, w, v, l1, l2, l3⟩ := h
  have la : (ta.take 250).length ≤ 250 := by simp; omega
  have lb : (tb.take 250).length ≤ 250 := by simp; omega
  have lc : (tc.take 250).length ≤ 250 := by simp; omega
  refine AW.of hΓ mixed [0] _ _ _ rfl ?_
  simp only [go_sem, sFewM, sToldMg, sShortM, sOPTM, sTexts]
  refine AW.still 2 0 0 22 3 _ rfl rfl (fun j hj => match j, hj with | 0, _ => rfl | 1, _ => rfl | 2, _ => rfl) ?_
  refine AW.still 3 1 1 24 6 _ rfl rfl (fun j hj => match j, hj with | 0, _ => rfl | 1, _ => rfl | 2, _ => rfl | 3, _ => rfl | 4, _ => rfl | 5, _ => rfl) ?_
  refine AW.of hΓ mixed [3] _ _ _ rfl ?_
  simp only [go_sem, sFewM, sToldMg, sShortM, sOPTM, sTexts]
  refine ⟨hh, fun hfew => ?_⟩
  have hfew : fewH (st, w, v, l1, l2, l3) = true := by simpa using hfew
  obtain ⟨m1, m2, m3, s, u, ho, hw, hl, hl2⟩ := few_opt hfew
  refine AW.cut ⟨[(3, .ps 6 (eHw.enc (st, w, v, l1, l2, l3))), (5, .st (ta.take 250)), (6, .st (tb.take 250)), (7, .st (tc.take 250))], [], 105, 2, 2, []⟩ ?_ ?_
  · simp only [go_sem, sFewM, sToldMg, sShortM, sOPTM, sTexts]
  generalize ta.take 250 = a at *
  generalize tb.take 250 = b at *
  generalize tc.take 250 = c at *
  refine AW.of hΓ mixed [4] _ _ _ rfl ?_
  simp only [go_sem, sFewM, sToldMg, sShortM, sOPTM, sTexts, ho]
  refine ⟨hl2, ?_⟩
  refine AW.cut ⟨[(5, .st a), (6, .st b), (7, .st c), (8, .pt 2 2 0)], [(2, .box 2 40 6 (eOp.enc ((m1, m2, m3), s, u, 0)))], 105, 3, 3, []⟩ ?_ ?_
  · simp only [go_sem, sFewM, sToldMg, sShortM, sOPTM, sTexts]
    exact box_st
  refine AW.still 8 2 2 40 6 _ rfl rfl (fun j hj => match j, hj with | 0, _ => rfl | 1, _ => rfl | 2, _ => rfl | 3, _ => rfl | 4, _ => rfl | 5, _ => rfl) ?_
  have e0 := O_eq (a := a) (b := b) (c := c) hw
  unfold mrgT at e0
  have hT := mrg_short la lb lc (wrg_0 hw).2.1 s (lb := (m1, m2, m3)) hl 0
  have hM := short_M la lb lc
  dsimp only at e0 hT
  generalize mrgD a b c s (m1, m2, m3) 0 = D at *
  generalize prsF (splitL a) (splitL b) = lp at *
  generalize prsF (splitL a) (splitL c) = rp at *
  generalize mrgK (filesF a b c) = K at *
  generalize mrgW u a b c = W at *
  generalize printL W D = T at *
  generalize ((cntF (filesF a b c) K : Nat) : Int) = n at *
  obtain ⟨D1, lp1, rp1, W1, e1⟩ := both_O a T hw
  obtain ⟨D2, lp2, rp2, W2, e2⟩ := right_O a T hw
  obtain ⟨D3, lp3, rp3, W3, e3⟩ := both_O T a hw
  have sa := splitL_len a
  have hM1 : okM a T T := ⟨by omega, by omega, by omega, .inl (by omega)⟩
  have hM2 : okM a T a := ⟨by omega, by omega, by omega, .inl (by omega)⟩
  have hM3 : okM T a a := ⟨by omega, by omega, by omega, .inr (by omega)⟩
  refine AW.of hΓ mixed [99999] _ _ _ rfl ?_
  simp only [go_sem, sFewM, sToldMg, sShortM, sOPTM, sTexts, e0, e1, e2, e3, hw]
  exact ⟨⟨hM, by omega⟩, ⟨hM1, by omega⟩, ⟨hM2, by omega⟩, hM3, by omega⟩
end Go.Proofs.YtjfmigpahglajaaGreatDoor
set_option linter.unusedSimpArgs false
set_option linter.unusedVariables false
set_option maxRecDepth 100000
set_option maxHeartbeats 2000000
namespace Go.Proofs.YtjfmigpahglajaaGreatDoor
open Go
abbrev Rs := BS × Nat × Nat × Int × Pt × List Pt
def rdC (x : Rs) (r u : Nat) : Nat → AV := fun j => if j = 0 then .st x.1 else if j = 1 then .val (.int .i64 x.2.1) else if j = 2 then .val (.int .i64 x.2.2.1) else if j = 3 then .val (.int .u8 x.2.2.2.1) else if j < 13 then ePt.enc x.2.2.2.2.1 (j - 4) else .ow r u x.2.2.2.2.2.length
section
variable (x : Rs) (r u : Nat)
@[go_sem] theorem rdC0 : rdC x r u 0 = .st x.1 := rfl
@[go_sem] theorem rdC1 : rdC x r u 1 = .val (.int .i64 x.2.1) := rfl
@[go_sem] theorem rdC2 : rdC x r u 2 = .val (.int .i64 x.2.2.1) := rfl
@[go_sem] theorem rdC3 : rdC x r u 3 = .val (.int .u8 x.2.2.2.1) := rfl
@[go_sem] theorem rdC13 : rdC x r u 13 = .ow r u x.2.2.2.2.2.length := rfl
@[go_sem] theorem rdC4 : rdC x r u 4 = .st x.2.2.2.2.1.1 := rfl
@[go_sem] theorem rdC5 : rdC x r u 5 = .st x.2.2.2.2.1.2.1 := rfl
@[go_sem] theorem rdC6 : rdC x r u 6 = .st x.2.2.2.2.1.2.2.1 := rfl
@[go_sem] theorem rdC7 : rdC x r u 7 = .val (.bool x.2.2.2.2.1.2.2.2.1) := rfl
@[go_sem] theorem rdC8 : rdC x r u 8 = .st x.2.2.2.2.1.2.2.2.2.1 := rfl
@[go_sem] theorem rdC9 : rdC x r u 9 = .st x.2.2.2.2.1.2.2.2.2.2.1 := rfl
@[go_sem] theorem rdC10 : rdC x r u 10 = .st x.2.2.2.2.1.2.2.2.2.2.2.1 := rfl
@[go_sem] theorem rdC11 : rdC x r u 11 = .st x.2.2.2.2.1.2.2.2.2.2.2.2.1 := rfl
@[go_sem] theorem rdC12 : rdC x r u 12 = .val (.bool x.2.2.2.2.1.2.2.2.2.2.2.2.2) := rfl
@[go_sem] theorem rdCc (j : Nat) (h : j < 9) : rdC x r u (4 + j) = ePt.enc x.2.2.2.2.1 j := by
  unfold rdC
  rw [if_neg (by omega), if_neg (by omega), if_neg (by omega), if_neg (by omega), if_pos (by omega), Nat.add_sub_cancel_left]
end
theorem rd_row {v : Nat} {t : TypeId} {c : Nat → AV} {x : Rs} {r u : Nat} (h0 : c 0 = rdC x r u 0) (h1 : c 1 = rdC x r u 1) (h2 : c 2 = rdC x r u 2) (h3 : c 3 = rdC x r u 3) (h4 : c 4 = rdC x r u 4) (h5 : c 5 = rdC x r u 5) (h6 : c 6 = rdC x r u 6) (h7 : c 7 = rdC x r u 7)
    (h8 : c 8 = rdC x r u 8) (h9 : c 9 = rdC x r u 9) (h10 : c 10 = rdC x r u 10) (h11 : c 11 = rdC x r u 11) (h12 : c 12 = rdC x r u 12) (h13 : c 13 = rdC x r u 13) : RowLe (.box v t 14 c) (.box v t 14 (rdC x r u)) := RowLe.box fun j hj => AVle.of_eq (match j, hj with
  | 0, _ => h0
  | 1, _ => h1
  | 2, _ => h2
  | 3, _ => h3
  | 4, _ => h4
  | 5, _ => h5
  | 6, _ => h6
  | 7, _ => h7
  | 8, _ => h8
  | 9, _ => h9
  | 10, _ => h10
  | 11, _ => h11
  | 12, _ => h12
  | 13, _ => h13)
theorem rowP_le {u n : Nat} {t : TypeId} {l : List Pt} (h : l.length = n) : RowLe (.sl u t 9 l.length fun i => ePt.enc (l.getD i ePt.dflt)) (.sl u t 9 n fun i => ePt.enc (l.getD i ePt.dflt)) := by
  subst h
  exact RowLe.refl _
theorem rd_le (x : Rs) (v r r' u : Nat) : RowLe (.box v 122 14 (rdC x r u)) (.box v 122 14 (rdC x r' u)) := RowLe.box fun j hj => by
  by_cases h : j < 13
  · refine AVle.of_eq ?_
    unfold rdC
    simp only [h, if_true]
  · obtain rfl : j = 13 := by omega
    exact AVle.ow
def sRd (R : List AV → Rs → AV → Rs → Prop) : MSpec := fun args hp top nx K => ∃ (v u : Nat) (xs : List AV) (a : Rs) (r : AV) (b : Rs), args = .pt 0 v 0 :: xs ∧ R xs a r b ∧
  hp = rws [(0, .box v 122 14 (rdC a 1 u)), (1, rowL u 112 ePt a.2.2.2.2.2)] ∧ top = 2 ∧
  ∀ u' nx', (u' = u ∨ nx ≤ u') → nx ≤ nx' → K r (rws [(0, .box v 122 14 (rdC b 1 u')), (1, rowL u' 112 ePt b.2.2.2.2.2)]) 2 nx'
theorem rd_go {R : List AV → Rs → AV → Rs → Prop} {xs : List AV} {a b : Rs} {z : AV} {p q v u : Nat} {hp : Nat → Row} {top nx : Nat} {K : AV → (Nat → Row) → Nat → Nat → Prop} (hd : R xs a z b) (hpq : p ≠ q)
    (hr : RowLe (hp p) (.box v 122 14 (rdC a q u))) (hr2 : RowLe (hp q) (rowL u 112 ePt a.2.2.2.2.2)) (ht : p < top ∧ q < top)
    (hK : ∀ u' nx', (u' = u ∨ nx ≤ u') → nx ≤ nx' → K z (updR (updR hp p (.box v 122 14 (rdC b q u'))) q (rowL u' 112 ePt b.2.2.2.2.2)) top nx') :
    framed (sRd R) (.pt p v 0 :: xs) hp top nx K := by
  have e1 : (hp p).ver = some v := hr.vers.symm
  have e2 : (hp q).ver = some u := hr2.vers.symm
  refine ⟨[p, q], .pt 0 v 0 :: xs, rws [(0, .box v 122 14 (rdC a 1 u)), (1, rowL u 112 ePt a.2.2.2.2.2)], by simp [hpq], by simp; omega, .cons AVle.pt (All2.same xs), rows_2 (hr.trans (rd_le a v q 1 u)) hr2, fun i hi => rws_top (top := 2) (by simp) i (by simpa using hi), v, u, xs, a, z, b, rfl, hd, rfl, rfl, fun u' nx' h1 h3 => ?_⟩
  refine ⟨_, _, AVle.refl _, fun i o ho => ?_, fun o ho => ?_, fun o ho w hv => ?_, hK u' nx' h1 h3⟩
  · match i with
    | 0 =>
      simp only [List.getElem?_cons_zero, Option.some.injEq] at ho
      subst ho
      rw [updR_ne _ _ hpq, updR_at]
      exact rd_le b v 1 q u'
    | 1 =>
      simp only [List.getElem?_cons_succ, List.getElem?_cons_zero, Option.some.injEq] at ho
      subst ho
      rw [updR_at]
      exact RowLe.refl _
    | i + 2 => simp at ho
  · simp only [List.mem_cons, List.not_mem_nil, or_false, not_or] at ho
    rw [updR_ne _ _ ho.2, updR_ne _ _ ho.1]
  · simp only [List.mem_cons, List.not_mem_nil, or_false] at ho
    rcases ho with rfl | rfl
    · rw [updR_ne _ _ hpq, updR_at] at hv
      have : some v = some w := hv
      obtain rfl := Option.some.inj this
      exact .inl e1
    · rw [updR_at] at hv
      have : some u' = some w := hv
      obtain rfl := Option.some.inj this
      rcases h1 with rfl | h1
      · exact .inl e2
      · exact .inr h1
attribute [local irreducible] AW AVle ASle RowLe
def sFollowsR : Spec := Spec.f2 kU kU (fun _ _ => True) (fun a k => kB.enc (followsI a k))
theorem okFollowsR : SpecOK Tryz.prog 115 sFollowsR := by
  refine SpecOK.f2 Tryz.func115 rfl (by decide) Tryz.results115 Tryz.ntmps115 (by decide) fun a k _ => ?_
  have hΓ : GOK Tryz.prog (gam []) := GOK.nil
  by_cases h1 : k = 60
  · subst h1
    refine AW.of hΓ mixed [] _ _ _ rfl ?_
    simp only [go_sem]
    rfl
  by_cases h2 : k = 124
  · subst h2
    refine AW.of hΓ mixed [] _ _ _ rfl ?_
    simp only [go_sem]
    rfl
  by_cases h3 : k = 61
  · subst h3
    refine AW.of hΓ mixed [] _ _ _ rfl ?_
    simp only [go_sem]
    exact ⟨fun h => by rw [decide_eq_false h]; rfl, rfl⟩
  · refine AW.of hΓ mixed [] _ _ _ rfl ?_
    simp only [go_sem, h1, h2, h3]
    simp [followsI, h1, h2, h3]
def sTrimL : Spec := Spec.f2 kS kS (fun a b => a.length ≤ 100000000000 ∧ b = [10]) (fun a _ => kS.enc (cutE a))
theorem okTrimL : SpecOK Tryz.prog 146 sTrimL := by
  refine SpecOK.f2 Tryz.func146 rfl (by decide) Tryz.results146 Tryz.ntmps146 (by decide) fun a b ⟨ha, h⟩ => ?_
  have hΓ : GOK Tryz.prog (gam [(147, sHasSufL)]) := (.cons okHasSufL .nil)
  subst h
  unfold cutE
  refine AW.of hΓ mixed [] _ _ _ rfl ?_
  simp only [go_sem, sHasSufL]
  have hp : endsL a = true → 0 < a.length := fun h => by
    cases a with
    | nil => cases h
    | cons _ _ => simp
  refine ⟨ha, fun h => ?_, fun h => ?_⟩
  · have := hp h
    refine ⟨by omega, by omega, ?_⟩
    rw [if_pos h]
    congr 1
    omega
  · rw [if_neg (by simp [h])]
def sTrimS : Spec := Spec.f2 kS kS (fun a b => a.length ≤ 100000000000 ∧ b = [10]) (fun a _ => kS.enc (cutE a))
theorem okTrimS : SpecOK Tryz.prog 116 sTrimS := by
  refine SpecOK.f2 Tryz.func116 rfl (by decide) Tryz.results116 Tryz.ntmps116 (by decide) fun a b ⟨ha, h⟩ => ?_
  have hΓ : GOK Tryz.prog (gam [(146, sTrimL)]) := (.cons okTrimL .nil)
  subst h
  refine AW.of hΓ mixed [] _ _ _ rfl ?_
  simp only [go_sem, sTrimL]
  exact ha
def nowR (a : Rs) : BS := (a.1.take a.2.2.1).drop a.2.1
def goodR (a : Rs) : Prop := a.2.1 ≤ a.2.2.1 ∧ a.2.2.1 ≤ a.1.length ∧ a.1.length ≤ 100000000 ∧ a.2.2.2.2.2.length < 1000000000
def withPs (a : Rs) (ps : List Pt) : Rs := (a.1, a.2.1, a.2.2.1, a.2.2.2.1, a.2.2.2.2.1, ps)
def sPutT0 : MSpec := sRd fun xs a r b => xs = [] ∧ r = .val (.tuple #[]) ∧ goodR a ∧ b = withPs a (a.2.2.2.2.2 ++ [textP (nowR a)])
theorem okPutT0 : MethOK Tryz.prog 66 sPutT0 := by
  refine MethOK.mk Tryz.func66 rfl (by decide) Tryz.results66 Tryz.ntmps66 ?_
  rintro args hp top nx K ⟨v, u, xs, a, r, b, rfl, ⟨rfl, rfl, ⟨g1, g2, g3, g4⟩, rfl⟩, rfl, rfl, hK⟩
  have hΓ : GOK Tryz.prog (gam []) := GOK.nil
  refine ⟨Nat.le_of_ble_eq_true rfl, AW.late ?_⟩
  refine AW.of hΓ mixed [200000] _ _ _ rfl ?_
  simp only [go_sem]
  refine AW.drawT hΓ mixed 20 [] (by decide +kernel) ?_
  simp only [go_sem]
  refine ⟨⟨by omega, by omega, by omega⟩, by omega, _, toFitsV (fun p => p) (l := []) (r := [(0, .box v 122 14 (rdC (withPs a (a.2.2.2.2.2 ++ [textP (nowR a)])) 1 nx)), (1, rowL nx 112 ePt (a.2.2.2.2.2 ++ [textP (nowR a)]))]) (sz := 25) (top := 2) (nx := nx + 1) (df := []) ?_, ?_⟩
  · simp only [go_sem]
    refine ⟨rd_row rfl rfl rfl rfl rfl rfl rfl rfl rfl rfl rfl rfl rfl ?_, ?_⟩
    · exact congrArg (AV.ow 1 nx) (by simp [withPs])
    · refine row_app1 (E := ePt) rfl rfl rfl rfl (by simp) fun j hj => ?_
      match j, hj with
      | 0, _ => exact AVle.refl _
      | 1, _ => exact AVle.refl _
      | 2, _ => exact AVle.refl _
      | 3, _ => exact AVle.refl _
      | 4, _ => exact AVle.refl _
      | 5, _ => exact AVle.refl _
      | 6, _ => exact AVle.refl _
      | 7, _ => exact AVle.refl _
      | 8, _ => exact AVle.refl _
  · exact ⟨rfl, hK nx (nx + 1) (.inr (Nat.le_refl _)) (by omega)⟩
def sPutT : MSpec := framed sPutT0
theorem okPutT : MethOK Tryz.prog 66 sPutT := okPutT0.frame
def sPutR0 : MSpec := sRd fun xs a r b => ∃ (m : Mk) (sd : BS), xs = [(kA eMk).enc m, .st sd] ∧ r = .val (.tuple #[]) ∧ goodR a ∧ signI m.1 ∧ b = (a.1, a.2.1, a.2.2.1, a.2.2.2.1, putC a.2.2.2.1 m sd a.2.2.2.2.1, putLs a.2.2.2.1 m (nowR a) sd a.2.2.2.2.1 a.2.2.2.2.2)
theorem okPutR0 : MethOK Tryz.prog 118 sPutR0 := by
  refine MethOK.mk Tryz.func118 rfl (by decide) Tryz.results118 Tryz.ntmps118 ?_
  rintro args hp top nx K ⟨v, u, xs, a, r, b, rfl, ⟨m, sd, rfl, rfl, ⟨g1, g2, g3, g4⟩, hsg, rfl⟩, rfl, rfl, hK⟩
  have hΓ : GOK Tryz.prog (gam [(66, sPutT)]) := (.cons okPutT .nil)
  refine ⟨Nat.le_of_ble_eq_true rfl, AW.late ?_⟩
  obtain ⟨s, fr, at_, af, c, ps⟩ := a
  obtain ⟨k, f, lab⟩ := m
  simp only at g1 g2 g3 g4 hsg hK
  refine AW.of hΓ mixed [0, 200014, 200017] _ _ _ rfl ?_
  simp only [go_sem, sPutT]
  refine AW.cut ⟨[(0, .pt 0 v 0), (2, .st sd), (4, .pt 2 nx 0)], [(0, .box v 122 14 (rdC (s, fr, at_, af, c, ps) 1 u)), (1, rowL u 112 ePt ps), (2, .box nx 118 3 (eMk.enc (k, f, lab)))], 83, 3, nx + 1, []⟩ ?_ ?_
  · simp only [go_sem, sPutT]
    exact ⟨RowLe.refl _, RowLe.refl _, RowLe.refl _⟩
  refine AW.still 4 2 nx 118 3 _ rfl rfl (fun j hj => match j, hj with | 0, _ => rfl | 1, _ => rfl | 2, _ => rfl) ?_
  refine AW.seqTo (fun _ : Unit => Sh.st ⟨[(0, .pt 0 v 0), (2, .st sd), (4, .ps 3 (eMk.enc (k, f, lab)))], [(0, .box v 122 14 (rdC (s, fr, at_, af, putS af sd c, ps) 1 u)), (1, rowL u 112 ePt ps)], 83, 3, nx + 1, []⟩) ?_ fun _ => ?_
  · by_cases h1 : af = 60
    · subst h1
      refine AW.of hΓ mixed [200014, 200017] _ _ _ rfl ?_
      simp only [go_sem, sPutT]
      refine ⟨(), toFitsV (fun p => p) ?_⟩
      simp only [go_sem, sPutT]
      exact ⟨rd_row rfl rfl rfl rfl rfl rfl rfl rfl rfl rfl rfl rfl rfl rfl, RowLe.refl _⟩
    by_cases h2 : af = 124
    · subst h2
      refine AW.of hΓ mixed [200014, 200017] _ _ _ rfl ?_
      simp only [go_sem, sPutT]
      refine ⟨(), toFitsV (fun p => p) ?_⟩
      simp only [go_sem, sPutT]
      exact ⟨rd_row rfl rfl rfl rfl rfl rfl rfl rfl rfl rfl rfl rfl rfl rfl, RowLe.refl _⟩
    by_cases h3 : af = 61
    · subst h3
      refine AW.of hΓ mixed [200014, 200017] _ _ _ rfl ?_
      simp only [go_sem, sPutT]
      refine ⟨(), toFitsV (fun p => p) ?_⟩
      simp only [go_sem, sPutT]
      exact ⟨rd_row rfl rfl rfl rfl rfl rfl rfl rfl rfl rfl rfl rfl rfl rfl, RowLe.refl _⟩
    · refine AW.of hΓ mixed [200014, 200017] _ _ _ rfl ?_
      simp only [go_sem, sPutT, h1, h2, h3]
      refine ⟨(), toFitsV (fun p => p) ?_⟩
      have e : putS af sd c = c := by
        unfold putS
        rw [if_neg h1, if_neg h2, if_neg h3]
      simp only [go_sem, sPutT, e]
      exact ⟨RowLe.refl _, RowLe.refl _⟩
  have hpc : putC af (k, f, lab) sd c = if k = 60 then (lab, [], [], true, [], [], [], [], false) else if k = 124 then setBL (putS af sd c) lab else if k = 62 then setRL (putS af sd c) lab else putS af sd c := rfl
  have hpl : putLs af (k, f, lab) (nowR (s, fr, at_, af, c, ps)) sd c ps = if k = 60 then ps ++ [textP ((s.take at_).drop fr)] else if k = 62 then ps ++ [putC af (k, f, lab) sd c] else ps := rfl
  rw [hpl, hpc] at hK
  generalize putS af sd c = d at *
  rcases hsg with rfl | rfl | rfl | rfl
  · rw [if_pos rfl, if_pos rfl] at hK
    refine AW.of hΓ mixed [200014, 200017] _ _ _ rfl ?_
    simp only [go_sem, sPutT]
    refine rd_go (a := (s, fr, at_, af, d, ps)) ⟨rfl, rfl, ⟨g1, g2, g3, g4⟩, rfl⟩ (by decide) (RowLe.refl _) (RowLe.refl _) (by decide) fun u1 n1 q1 h1 => ?_
    simp only [go_sem, sPutT]
    refine ⟨_, toFitsV (fun p => p) (l := []) (r := [(0, .box v 122 14 (rdC (s, fr, at_, af, (lab, [], [], true, [], [], [], [], false), ps ++ [textP ((s.take at_).drop fr)]) 1 u1)), (1, rowL u1 112 ePt (ps ++ [textP ((s.take at_).drop fr)]))]) (sz := 83) (top := 2) (nx := n1) (df := []) ?_, ?_⟩
    · simp only [go_sem, sPutT]
      exact ⟨rd_row rfl rfl rfl rfl rfl rfl rfl rfl rfl rfl rfl rfl rfl (congrArg (AV.ow 1 u1) (by simp [withPs])), rowP_le (by simp [withPs])⟩
    · exact ⟨rfl, hK u1 n1 (by omega) (by omega)⟩
  · rw [if_neg (by decide), if_pos rfl, if_neg (by decide), if_neg (by decide)] at hK
    refine AW.of hΓ mixed [200014, 200017] _ _ _ rfl ?_
    simp only [go_sem, sPutT]
    refine AW.drawZ hΓ mixed 7 [8, 9, 10, 11] [2, 3, 8, 9, 10, 11] [] (by decide +kernel) ?_
    simp only [go_sem, sPutT]
    refine ⟨_, toFitsV (fun p => p) (l := []) (r := [(0, .box v 122 14 (rdC (s, fr, at_, af, setBL d lab, ps) 1 u)), (1, rowL u 112 ePt (ps))]) (sz := 83) (top := 2) (nx := nx + 1) (df := []) ?_, ?_⟩
    · simp only [go_sem, sPutT]
      exact ⟨rd_row rfl rfl rfl rfl rfl rfl rfl rfl rfl rfl rfl rfl rfl rfl, RowLe.refl _⟩
    · exact ⟨rfl, hK u (nx + 1) (.inl rfl) (by omega)⟩
  · rw [if_neg (by decide), if_neg (by decide), if_neg (by decide), if_neg (by decide), if_neg (by decide)] at hK
    refine AW.of hΓ mixed [200014, 200017] _ _ _ rfl ?_
    simp only [go_sem, sPutT]
    refine ⟨_, toFitsV (fun p => p) (l := []) (r := [(0, .box v 122 14 (rdC (s, fr, at_, af, d, ps) 1 u)), (1, rowL u 112 ePt (ps))]) (sz := 83) (top := 2) (nx := nx + 1) (df := []) ?_, ?_⟩
    · simp only [go_sem, sPutT]
      exact ⟨RowLe.refl _, RowLe.refl _⟩
    · exact ⟨rfl, hK u (nx + 1) (.inl rfl) (by omega)⟩
  · rw [if_neg (by decide), if_neg (by decide), if_pos rfl, if_neg (by decide), if_pos rfl] at hK
    refine AW.of hΓ mixed [200014, 200017] _ _ _ rfl ?_
    simp only [go_sem, sPutT]
    refine AW.drawT hΓ mixed 10 [] (by decide +kernel) ?_
    simp only [go_sem, sPutT]
    refine ⟨by omega, _, toFitsV (fun p => p) (l := []) (r := [(0, .box v 122 14 (rdC (s, fr, at_, af, setRL d lab, ps ++ [setRL d lab]) 1 (nx + 1))), (1, rowL (nx + 1) 112 ePt (ps ++ [setRL d lab]))]) (sz := 83) (top := 2) (nx := nx + 2) (df := []) ?_, ?_⟩
    · simp only [go_sem, sPutT]
      refine ⟨rd_row rfl rfl rfl rfl rfl rfl rfl rfl rfl rfl rfl rfl rfl (congrArg (AV.ow 1 (nx + 1)) (by simp)), ?_⟩
      refine row_app1 (E := ePt) rfl rfl rfl rfl (by simp) fun j hj => ?_
      match j, hj with
      | 0, _ => exact AVle.refl _
      | 1, _ => exact AVle.refl _
      | 2, _ => exact AVle.refl _
      | 3, _ => exact AVle.refl _
      | 4, _ => exact AVle.refl _
      | 5, _ => exact AVle.refl _
      | 6, _ => exact AVle.refl _
      | 7, _ => exact AVle.refl _
      | 8, _ => exact AVle.refl _
    · exact ⟨rfl, hK (nx + 1) (nx + 2) (.inr (by omega)) (by omega)⟩
def sPutR : MSpec := framed sPutR0
theorem okPutR : MethOK Tryz.prog 118 sPutR := okPutR0.frame
def takeB (a : Rs) (m : Mk) (line : BS) : Rs := if (takeR a.2.2.2.1 (nowR a) a.2.2.2.2.1 a.2.2.2.2.2 m).1 = 0 then
    (a.1, a.2.2.1 + line.length, a.2.2.1, (takeR a.2.2.2.1 (nowR a) a.2.2.2.2.1 a.2.2.2.2.2 m).2.1, (takeR a.2.2.2.1 (nowR a) a.2.2.2.2.1 a.2.2.2.2.2 m).2.2.1, (takeR a.2.2.2.1 (nowR a) a.2.2.2.2.1 a.2.2.2.2.2 m).2.2.2) else a
def sTake0 : MSpec := sRd fun xs a r b => ∃ (m : Mk) (line : BS), xs = [(kA eMk).enc m, .st line] ∧ r = .val (.int .i64 (takeR a.2.2.2.1 (nowR a) a.2.2.2.2.1 a.2.2.2.2.2 m).1) ∧ goodR a ∧ signI m.1 ∧ line.length ≤ 100000000 ∧ b = takeB a m line
theorem okTake0 : MethOK Tryz.prog 65 sTake0 := by
  refine MethOK.mk Tryz.func65 rfl (by decide) Tryz.results65 Tryz.ntmps65 ?_
  rintro args hp top nx K ⟨v, u, xs, a, r, b, rfl, ⟨m, line, rfl, rfl, ⟨g1, g2, g3, g4⟩, hsg, hll, rfl⟩, rfl, rfl, hK⟩
  have hΓ : GOK Tryz.prog (gam [(115, sFollowsR), (116, sTrimS), (117, sHasSuf), (118, sPutR)]) := (.cons okFollowsR (.cons okTrimS (.cons okHasSuf (.cons okPutR .nil))))
  refine ⟨Nat.le_of_ble_eq_true rfl, AW.late ?_⟩
  obtain ⟨s, fr, at_, af, c, ps⟩ := a
  obtain ⟨k, f, lab⟩ := m
  simp only at g1 g2 g3 g4 hsg hK
  generalize hnow : nowR (s, fr, at_, af, c, ps) = now at *
  have hnow' : (s.take at_).drop fr = now := hnow
  have hnl : now.length ≤ 100000000 := by
    rw [← hnow', List.length_drop, List.length_take]
    omega
  unfold takeB at hK
  simp only [hnow] at hK
  refine AW.of hΓ mixed [0, 200012] _ _ _ rfl ?_
  simp only [go_sem, sFollowsR, sTrimS, sHasSuf, sPutR]
  refine AW.cut ⟨[(0, .pt 0 v 0), (2, .st line), (4, .pt 2 nx 0)], [(0, .box v 122 14 (rdC (s, fr, at_, af, c, ps) 1 u)), (1, rowL u 112 ePt ps), (2, .box nx 118 3 (eMk.enc (k, f, lab)))], 76, 3, nx + 1, []⟩ ?_ ?_
  · simp only [go_sem, sFollowsR, sTrimS, sHasSuf, sPutR]
    exact ⟨RowLe.refl _, RowLe.refl _, RowLe.refl _⟩
  refine AW.still 4 2 nx 118 3 _ rfl rfl (fun j hj => match j, hj with | 0, _ => rfl | 1, _ => rfl | 2, _ => rfl) ?_
  have fin : ∀ e : Int, (takeR af now c ps (k, f, lab)).1 = e → e ≠ 0 → K (.val (.int .i64 e)) (rws [(0, .box v 122 14 (rdC (s, fr, at_, af, c, ps) 1 u)), (1, rowL u 112 ePt ps)]) 2 (nx + 1) := fun e he h0 => by
    have := hK u (nx + 1) (.inl rfl) (by omega)
    rw [he, if_neg h0] at this
    exact this
  by_cases hn : k = 60 ∧ af ≠ 0
  · have ht : (takeR af now c ps (k, f, lab)).1 = 7 := by
      unfold takeR
      rw [if_pos hn]
    refine AW.of hΓ mixed [200012] _ _ _ rfl ?_
    simp only [go_sem, sFollowsR, sTrimS, sHasSuf, sPutR, hn.1, hn.2]
    refine ⟨_, toFitsV (fun p => p) (l := [(6, .val (.int .i64 7))]) (r := [(0, .box v 122 14 (rdC (s, fr, at_, af, c, ps) 1 u)), (1, rowL u 112 ePt ps)]) (sz := 76) (top := 2) (nx := nx + 1) (df := []) ?_, ?_⟩
    · simp only [go_sem, sFollowsR, sTrimS, sHasSuf, sPutR]
      exact ⟨RowLe.refl _, RowLe.refl _⟩
    · exact ⟨rfl, trivial, fin 7 ht (by decide)⟩
  have hn1 : (decide (k = 60) && decide (¬ af = 0)) = false := by
    by_cases h1 : k = 60
    · rw [decide_eq_false (p := ¬ af = 0) fun h => hn ⟨h1, h⟩, Bool.and_false]
    · rw [decide_eq_false h1, Bool.false_and]
  by_cases hf : followsI af k = false
  · have ht : (takeR af now c ps (k, f, lab)).1 = 8 := by
      unfold takeR
      rw [if_neg hn, if_pos hf]
    refine AW.of hΓ mixed [200012] _ _ _ rfl ?_
    simp only [go_sem, sFollowsR, sTrimS, sHasSuf, sPutR, hn1, hf]
    refine ⟨_, toFitsV (fun p => p) (l := [(6, .val (.int .i64 8))]) (r := [(0, .box v 122 14 (rdC (s, fr, at_, af, c, ps) 1 u)), (1, rowL u 112 ePt ps)]) (sz := 76) (top := 2) (nx := nx + 1) (df := []) ?_, ?_⟩
    · simp only [go_sem, sFollowsR, sTrimS, sHasSuf, sPutR]
      exact ⟨RowLe.refl _, RowLe.refl _⟩
    · exact ⟨rfl, trivial, fin 8 ht (by decide)⟩
  have hf' : followsI af k = true := by simpa using hf
  have htk : takeR af now c ps (k, f, lab) = (match sideQ (k, f, lab) now with
    | none => (9, af, c, ps)
    | some sd => (0, if k = 62 then 0 else k, putC af (k, f, lab) sd c, putLs af (k, f, lab) now sd c ps)) := by
    unfold takeR
    rw [if_neg hn, if_neg hf]
    rfl
  refine AW.of hΓ mixed [5, 200012] _ _ _ rfl ?_
  simp only [go_sem, sFollowsR, sTrimS, sHasSuf, sPutR, hn1, hf']
  refine ⟨⟨by omega, by omega, by omega⟩, ?_⟩
  refine AW.cut ⟨[(0, .pt 0 v 0), (2, .st line), (4, .ps 3 (eMk.enc (k, f, lab))), (7, .st now)], [(0, .box v 122 14 (rdC (s, fr, at_, af, c, ps) 1 u)), (1, rowL u 112 ePt ps)], 76, 3, nx + 1, []⟩ ?_ ?_
  · rw [hnow']
    simp only [go_sem, sFollowsR, sTrimS, sHasSuf, sPutR]
    exact ⟨RowLe.refl _, RowLe.refl _⟩
  by_cases hb : f = true ∧ (cutE now = [] ∨ endsL (cutE now) = true)
  · obtain ⟨rfl, hb⟩ := hb
    have ht : (takeR af now c ps (k, true, lab)).1 = 9 := by
      rw [htk]
      unfold sideQ
      rw [if_pos rfl, if_pos hb]
    have hb2 : (decide (cutE now = []) || endsL (cutE now)) = true := by simpa using hb
    have hcl := cutE_le now
    refine AW.fork ?_
    refine AW.of hΓ mixed [200012] _ _ _ rfl ?_
    simp only [go_sem, sFollowsR, sTrimS, sHasSuf, sPutR, hb2]
    refine ⟨by omega, fun _ => by omega, fun h => by rw [decide_eq_false h]; rfl, ?_⟩
    refine ⟨_, toFitsV (fun p => p) (l := [(6, .val (.int .i64 9))]) (r := [(0, .box v 122 14 (rdC (s, fr, at_, af, c, ps) 1 u)), (1, rowL u 112 ePt ps)]) (sz := 76) (top := 2) (nx := nx + 1) (df := []) ?_, ?_⟩
    · simp only [go_sem, sFollowsR, sTrimS, sHasSuf, sPutR]
      exact ⟨RowLe.refl _, RowLe.refl _⟩
    · exact ⟨rfl, trivial, fin 9 ht (by decide)⟩
  obtain ⟨sd, hsd⟩ : ∃ sd, sideQ (k, f, lab) now = some sd := by
    unfold sideQ
    cases f with
    | false => exact ⟨now, rfl⟩
    | true =>
      refine ⟨cutE now, ?_⟩
      rw [if_pos rfl, if_neg fun h => hb ⟨rfl, h⟩]
  rw [hsd] at htk
  dsimp only at htk
  rw [htk] at hK
  refine AW.seqTo (fun _ : Unit => Sh.st ⟨[(0, .pt 0 v 0), (2, .st line), (4, .ps 3 (eMk.enc (k, f, lab))), (7, .st sd)], [(0, .box v 122 14 (rdC (s, fr, at_, af, c, ps) 1 u)), (1, rowL u 112 ePt ps)], 76, 3, nx + 1, []⟩) ?_ fun _ => ?_
  · have hcl := cutE_le now
    cases f with
    | false =>
      have e : sd = now := by
        unfold sideQ at hsd
        rw [if_neg (by simp)] at hsd
        exact (Option.some.inj hsd).symm
      subst e
      refine AW.of hΓ mixed [200012] _ _ _ rfl ?_
      simp only [go_sem, sFollowsR, sTrimS, sHasSuf, sPutR]
      refine ⟨(), toFitsV (fun p => p) ?_⟩
      simp only [go_sem, sFollowsR, sTrimS, sHasSuf, sPutR]
      exact ⟨RowLe.refl _, RowLe.refl _⟩
    | true =>
      have hb3 : ¬ (cutE now = [] ∨ endsL (cutE now) = true) := fun h => hb ⟨rfl, h⟩
      have hb2 : (decide (cutE now = []) || endsL (cutE now)) = false := by
        rw [decide_eq_false fun h => hb3 (.inl h), Bool.false_or]
        cases h : endsL (cutE now) with
        | false => rfl
        | true => exact absurd (.inr h) hb3
      have e : sd = cutE now := by
        unfold sideQ at hsd
        rw [if_pos rfl, if_neg hb3] at hsd
        exact (Option.some.inj hsd).symm
      subst e
      refine AW.of hΓ mixed [200012] _ _ _ rfl ?_
      simp only [go_sem, sFollowsR, sTrimS, sHasSuf, sPutR, hb2]
      refine ⟨by omega, fun _ => by omega, fun h => by rw [decide_eq_false h]; rfl, (), toFitsV (fun p => p) ?_⟩
      simp only [go_sem, sFollowsR, sTrimS, sHasSuf, sPutR]
      exact ⟨RowLe.refl _, RowLe.refl _⟩
  refine AW.of hΓ mixed [200012] _ _ _ rfl ?_
  simp only [go_sem, sFollowsR, sTrimS, sHasSuf, sPutR]
  refine rd_go (a := (s, fr, at_, af, c, ps)) ⟨(k, f, lab), sd, rfl, rfl, ⟨g1, g2, g3, g4⟩, hsg, rfl⟩ (by decide) (RowLe.refl _) (RowLe.refl _) (by decide) fun u1 n1 q1 h1 => ?_
  rw [hnow]
  dsimp only
  generalize putC af (k, f, lab) sd c = c1 at *
  generalize putLs af (k, f, lab) now sd c ps = ps1 at *
  simp only [go_sem, sFollowsR, sTrimS, sHasSuf, sPutR]
  refine AW.drawZ hΓ mixed 13 [] [9, 10] [] (by decide +kernel) ?_
  simp only [go_sem, sFollowsR, sTrimS, sHasSuf, sPutR]
  refine ⟨by omega, ?_⟩
  have hK' : ∀ u' nx', (u' = u ∨ nx ≤ u') → nx ≤ nx' → K (.val (.int .i64 0)) (rws [(0, .box v 122 14 (rdC (s, at_ + line.length, at_, if k = 62 then 0 else k, c1, ps1) 1 u')), (1, rowL u' 112 ePt ps1)]) 2 nx' := hK
  refine AW.cut ⟨[(0, .pt 0 v 0), (4, .ps 3 (eMk.enc (k, f, lab)))], [(0, .box v 122 14 (rdC (s, at_ + line.length, at_, k, c1, ps1) 1 u1)), (1, rowL u1 112 ePt ps1)], 76, 3, n1, []⟩ ?_ ?_
  · simp only [go_sem, sFollowsR, sTrimS, sHasSuf, sPutR]
    exact ⟨rd_row rfl rfl rfl rfl rfl rfl rfl rfl rfl rfl rfl rfl rfl rfl, RowLe.refl _⟩
  by_cases hk : k = 62
  · subst hk
    refine AW.of hΓ mixed [] _ _ _ rfl ?_
    simp only [go_sem, sFollowsR, sTrimS, sHasSuf, sPutR]
    refine AW.fork ?_
    refine AW.of hΓ mixed [] _ _ _ rfl ?_
    simp only [go_sem, sFollowsR, sTrimS, sHasSuf, sPutR]
    refine AW.of hΓ mixed [] _ _ _ rfl ?_
    simp only [go_sem, sFollowsR, sTrimS, sHasSuf, sPutR]
    refine ⟨_, toFitsV (fun p => p) (l := [(6, .val (.int .i64 0))]) (r := [(0, .box v 122 14 (rdC (s, at_ + line.length, at_, 0, c1, ps1) 1 u1)), (1, rowL u1 112 ePt ps1)]) (sz := 76) (top := 2) (nx := n1) (df := []) ?_, ?_⟩
    · simp only [go_sem, sFollowsR, sTrimS, sHasSuf, sPutR]
      exact ⟨rd_row rfl rfl rfl rfl rfl rfl rfl rfl rfl rfl rfl rfl rfl rfl, RowLe.refl _⟩
    · exact ⟨rfl, trivial, hK' u1 n1 (by omega) (by omega)⟩
  · rw [if_neg hk] at hK'
    refine AW.of hΓ mixed [] _ _ _ rfl ?_
    simp only [go_sem, sFollowsR, sTrimS, sHasSuf, sPutR, hk]
    refine AW.fork ?_
    refine AW.of hΓ mixed [] _ _ _ rfl ?_
    simp only [go_sem, sFollowsR, sTrimS, sHasSuf, sPutR, hk]
    refine AW.of hΓ mixed [] _ _ _ rfl ?_
    simp only [go_sem, sFollowsR, sTrimS, sHasSuf, sPutR]
    refine ⟨_, toFitsV (fun p => p) (l := [(6, .val (.int .i64 0))]) (r := [(0, .box v 122 14 (rdC (s, at_ + line.length, at_, k, c1, ps1) 1 u1)), (1, rowL u1 112 ePt ps1)]) (sz := 76) (top := 2) (nx := n1) (df := []) ?_, ?_⟩
    · simp only [go_sem, sFollowsR, sTrimS, sHasSuf, sPutR]
      exact ⟨RowLe.refl _, RowLe.refl _⟩
    · exact ⟨rfl, trivial, hK' u1 n1 (by omega) (by omega)⟩
def sTake : MSpec := framed sTake0
theorem okTake : MethOK Tryz.prog 65 sTake := okTake0.frame
end Go.Proofs.YtjfmigpahglajaaGreatDoor
set_option linter.unusedSimpArgs false
set_option linter.unusedVariables false
set_option maxRecDepth 100000
set_option maxHeartbeats 2000000
namespace Go.Proofs.YtjfmigpahglajaaGreatDoor
open Go
attribute [local irreducible] AW AVle ASle RowLe
def InvT (s : BS) (w : Int) (i fr at_ : Nat) (af : Int) (c : Pt) (ps : List Pt) : Prop :=
  i ≤ (splitL s).length ∧ ((splitL s).take i).flatten = s.take at_ ∧ at_ ≤ s.length ∧ fr ≤ at_ ∧ txP c = [] ∧ sumT ps ≤ fr ∧ ps.length ≤ 2 * i ∧
  runR w (splitL s) 0 [] ePt.dflt [] 0 = runR w ((splitL s).drop i) af (nowR (s, fr, at_, af, c, ps)) c ps i
theorem txP_putC (a : Int) (m : Mk) (sd : BS) {c : Pt} (h : txP c = []) : txP (putC a m sd c) = [] := by
  have hp : txP (putS a sd c) = [] := by
    unfold putS
    split
    · exact h
    · split
      · exact h
      · split
        · exact h
        · exact h
  unfold putC
  split
  · rfl
  · split
    · exact hp
    · split
      · exact hp
      · exact hp
theorem take_now {s : BS} {i at_ : Nat} (h : ((splitL s).take i).flatten = s.take at_) (ha : at_ ≤ s.length) (hi : i < (splitL s).length) :
    at_ + ((splitL s).getD i []).length ≤ s.length ∧ s.take (at_ + ((splitL s).getD i []).length) = s.take at_ ++ (splitL s).getD i [] ∧ ((splitL s).take (i + 1)).flatten = s.take (at_ + ((splitL s).getD i []).length) := by
  have e1 : ((splitL s).take (i + 1)).flatten = s.take at_ ++ (splitL s).getD i [] := by
    rw [take_snoc _ [] hi, List.flatten_append, h]
    simp
  have e2 : s = ((splitL s).take (i + 1)).flatten ++ ((splitL s).drop (i + 1)).flatten := by
    rw [← List.flatten_append, List.take_append_drop, splitL_flat]
  rw [e1] at e2
  generalize (splitL s).getD i [] = l at *
  generalize ((splitL s).drop (i + 1)).flatten = r at *
  have hl : (s.take at_).length = at_ := by rw [List.length_take]; omega
  have e3 := congrArg List.length e2
  simp only [List.length_append, hl] at e3
  have e4 : s.take (at_ + l.length) = s.take at_ ++ l := by
    have h5 : (s.take at_ ++ l).length = at_ + l.length := by rw [List.length_append, hl]
    conv => lhs; rw [e2]
    rw [← h5, List.take_left]
  exact ⟨by omega, e4, by rw [e1, e4]⟩
theorem now_more {s : BS} {fr at_ n : Nat} {l : BS} (h : s.take n = s.take at_ ++ l) (hf : fr ≤ at_) (ha : at_ ≤ s.length) : (s.take n).drop fr = (s.take at_).drop fr ++ l := by
  rw [h, List.drop_append_of_le_length (by rw [List.length_take]; omega)]
theorem inv_text {s : BS} {w : Int} {i fr at_ : Nat} {af : Int} {c : Pt} {ps : List Pt} (h : InvT s w i fr at_ af c ps) (hi : i < (splitL s).length) (hr : (readM ((splitL s).getD i []) w).2.1 = false) (he : (readM ((splitL s).getD i []) w).2.2 = 0) :
    InvT s w (i + 1) fr (at_ + ((splitL s).getD i []).length) af c ps := by
  obtain ⟨h1, h2, h3, h4, h5, h6, h7, h8⟩ := h
  obtain ⟨t1, t2, t3⟩ := take_now h2 h3 hi
  refine ⟨hi, t3, t1, by omega, h5, h6, by omega, ?_⟩
  rw [h8, List.drop_eq_getElem_cons hi, ← gd_lt _ [] hi, runR, if_neg (by rw [hr]; simp), if_neg (by rw [he]; simp)]
  congr 1
  exact (now_more t2 h4 h3).symm
theorem inv_mark {s : BS} {w : Int} {i fr at_ : Nat} {af : Int} {c : Pt} {ps : List Pt} (h : InvT s w i fr at_ af c ps) (hi : i < (splitL s).length) (hr : (readM ((splitL s).getD i []) w).2.1 = true)
    (he : (takeR af (nowR (s, fr, at_, af, c, ps)) c ps (readM ((splitL s).getD i []) w).1).1 = 0) :
    InvT s w (i + 1) (at_ + ((splitL s).getD i []).length) (at_ + ((splitL s).getD i []).length) (takeR af (nowR (s, fr, at_, af, c, ps)) c ps (readM ((splitL s).getD i []) w).1).2.1
      (takeR af (nowR (s, fr, at_, af, c, ps)) c ps (readM ((splitL s).getD i []) w).1).2.2.1 (takeR af (nowR (s, fr, at_, af, c, ps)) c ps (readM ((splitL s).getD i []) w).1).2.2.2 := by
  obtain ⟨h1, h2, h3, h4, h5, h6, h7, h8⟩ := h
  obtain ⟨t1, t2, t3⟩ := take_now h2 h3 hi
  have hnl : (nowR (s, fr, at_, af, c, ps)).length = at_ - fr := by
    unfold nowR
    simp only [List.length_drop, List.length_take]
    omega
  have hk : txP (takeR af (nowR (s, fr, at_, af, c, ps)) c ps (readM ((splitL s).getD i []) w).1).2.2.1 = [] ∧ sumT (takeR af (nowR (s, fr, at_, af, c, ps)) c ps (readM ((splitL s).getD i []) w).1).2.2.2 ≤ at_ ∧ (takeR af (nowR (s, fr, at_, af, c, ps)) c ps (readM ((splitL s).getD i []) w).1).2.2.2.length ≤ ps.length + 1 := by
    generalize (readM ((splitL s).getD i []) w).1 = m
    generalize nowR (s, fr, at_, af, c, ps) = now at *
    have h0 : txP c = [] ∧ sumT ps ≤ at_ ∧ ps.length ≤ ps.length + 1 := ⟨h5, by omega, by omega⟩
    unfold takeR
    split
    · exact h0
    · split
      · exact h0
      · split
        · exact h0
        · rename_i sd _
          refine ⟨txP_putC _ _ _ h5, ?_, ?_⟩
          · dsimp only
            unfold putLs
            split
            · rw [sumT_app, sumT_one]
              show sumT ps + now.length ≤ at_
              omega
            · split
              · rw [sumT_app, sumT_one, txP_putC _ _ _ h5]
                simp
                omega
              · omega
          · dsimp only
            unfold putLs
            split
            · simp
            · split
              · simp
              · omega
  refine ⟨hi, t3, t1, Nat.le_refl _, hk.1, by omega, by omega, ?_⟩
  rw [h8, List.drop_eq_getElem_cons hi, ← gd_lt _ [] hi, runR, if_pos hr, if_neg (by rw [he]; simp)]
  congr 1
  unfold nowR
  simp only
  exact (List.drop_of_length_le (by rw [List.length_take]; omega)).symm
theorem err_text {s : BS} {w : Int} {i fr at_ : Nat} {af : Int} {c : Pt} {ps : List Pt} (h : InvT s w i fr at_ af c ps) (hi : i < (splitL s).length) (hr : (readM ((splitL s).getD i []) w).2.1 = false) (he : (readM ((splitL s).getD i []) w).2.2 ≠ 0) :
    runR w (splitL s) 0 [] ePt.dflt [] 0 = ([], (readM ((splitL s).getD i []) w).2.2, (i : Int) + 1) := by
  rw [h.2.2.2.2.2.2.2, List.drop_eq_getElem_cons hi, ← gd_lt _ [] hi, runR, if_neg (by rw [hr]; simp), if_pos he]
theorem err_mark {s : BS} {w : Int} {i fr at_ : Nat} {af : Int} {c : Pt} {ps : List Pt} (h : InvT s w i fr at_ af c ps) (hi : i < (splitL s).length) (hr : (readM ((splitL s).getD i []) w).2.1 = true)
    (he : (takeR af (nowR (s, fr, at_, af, c, ps)) c ps (readM ((splitL s).getD i []) w).1).1 ≠ 0) :
    runR w (splitL s) 0 [] ePt.dflt [] 0 = ([], (takeR af (nowR (s, fr, at_, af, c, ps)) c ps (readM ((splitL s).getD i []) w).1).1, (i : Int) + 1) := by
  rw [h.2.2.2.2.2.2.2, List.drop_eq_getElem_cons hi, ← gd_lt _ [] hi, runR, if_pos hr, if_pos he]
end Go.Proofs.YtjfmigpahglajaaGreatDoor
set_option linter.unusedSimpArgs false
set_option linter.unusedVariables false
set_option maxRecDepth 100000
set_option maxHeartbeats 2000000
namespace Go.Proofs.YtjfmigpahglajaaGreatDoor
open Go
attribute [local irreducible] AW AVle ASle RowLe
theorem read_em (w : Int) : readM [] w = (mk0, false, if wideM w = false then 4 else 0) := by
  unfold readM
  by_cases h : wideM w = false
  · rw [if_pos h, if_pos h]
  · rw [if_neg h, if_neg h, if_pos]
    have h2 := (wide_iff.1 (by simpa using h)).1
    show ((0 : Nat) : Int) < w
    omega
def sTextP : Spec := Spec.f2 kS kI (fun s _ => s.length ≤ 10000000) (fun s w => tu3 (sL ePt (textR s w).1) (kI.enc (textR s w).2.1) (kI.enc (textR s w).2.2))
theorem okTextP : SpecOK Tryz.prog 29 sTextP := by
  refine SpecOK.f2 Tryz.func29 rfl (by decide) Tryz.results29 Tryz.ntmps29 (by decide) fun s w hs => ?_
  have hΓ : GOK Tryz.prog (gam [(64, sReadM), (41, sSplit), (65, sTake), (66, sPutT), (67, sOfD)]) := (.cons okReadM (.cons okSplit (.cons okTake (.cons okPutT (.cons okOfD .nil)))))
  have hem := read_em w
  unfold textR
  by_cases hw : wideM w = false
  · rw [if_pos hw] at hem ⊢
    refine AW.of hΓ mixed [] _ _ _ rfl ?_
    simp only [go_sem, sReadM, sSplit, sTake, sPutT, sOfD, hem]
    exact em_sL ePt
  rw [if_neg hw] at hem ⊢
  have hw' : wideM w = true := by simpa using hw
  refine AW.of hΓ mixed [4] _ _ _ rfl ?_
  simp only [go_sem, sReadM, sSplit, sTake, sPutT, sOfD, hem]
  refine AW.cut ⟨[(0, .st s), (1, .val (.int .i64 w)), (10, .pt 1 1 0)], [(1, .box 1 122 14 fun j => if j = 13 then .em else rdC (s, 0, 0, 0, ePt.dflt, []) 2 2 j)], 70, 2, 2, []⟩ ?_ ?_
  · simp only [go_sem, sReadM, sSplit, sTake, sPutT, sOfD]
    refine RowLe.box fun j hj => AVle.of_eq ?_
    match j, hj with
    | 0, _ => rfl
    | 1, _ => rfl
    | 2, _ => rfl
    | 3, _ => rfl
    | 4, _ => rfl
    | 5, _ => rfl
    | 6, _ => rfl
    | 7, _ => rfl
    | 8, _ => rfl
    | 9, _ => rfl
    | 10, _ => rfl
    | 11, _ => rfl
    | 12, _ => rfl
    | 13, _ => rfl
  refine AW.adoptB (q := 1) 13 112 9 (fun i => ePt.enc (([] : List Pt).getD i ePt.dflt)) rfl rfl ?_
  refine AW.cut ⟨[(0, .st s), (1, .val (.int .i64 w)), (10, .pt 1 1 0)], [(1, .box 1 122 14 (rdC (s, 0, 0, 0, ePt.dflt, []) 2 2)), (2, rowL 2 112 ePt [])], 70, 3, 3, []⟩ ?_ ?_
  · simp only [go_sem, sReadM, sSplit, sTake, sPutT, sOfD]
    exact ⟨rd_row rfl rfl rfl rfl rfl rfl rfl rfl rfl rfl rfl rfl rfl rfl, RowLe.refl _⟩
  refine AW.of hΓ mixed [18] _ _ _ rfl ?_
  simp only [go_sem, sReadM, sSplit, sTake, sPutT, sOfD]
  have hsp := okLs_split (s := s) (by omega)
  have hsl := splitL_len s
  have hI0 : InvT s w 0 0 0 0 ePt.dflt [] := ⟨Nat.zero_le _, rfl, Nat.zero_le _, Nat.le_refl _, rfl, Nat.zero_le _, Nat.zero_le _, rfl⟩
  generalize hT : runR w (splitL s) 0 [] ePt.dflt [] 0 = T at *
  refine ⟨by omega, ?_⟩
  refine AW.round (α := { x : Nat × Nat × Nat × Int × Pt × List Pt × Nat × Nat // InvT s w x.1 x.2.1 x.2.2.1 x.2.2.2.1 x.2.2.2.2.1 x.2.2.2.2.2.1 })
    (fun x => ⟨[(1, .val (.int .i64 w)), (10, .pt 1 1 0), (11, sL eS (splitL s)), (30, sL eS (splitL s)), (31, .val (.int .i64 (splitL s).length)), (32, .val (.int .i64 x.1.1))],
      [(1, .box 1 122 14 (rdC (s, x.1.2.1, x.1.2.2.1, x.1.2.2.2.1, x.1.2.2.2.2.1, x.1.2.2.2.2.2.1) 2 x.1.2.2.2.2.2.2.1)), (2, rowL x.1.2.2.2.2.2.2.1 112 ePt x.1.2.2.2.2.2.1)], 70, 3, x.1.2.2.2.2.2.2.2, []⟩) (fun x => (splitL s).length - x.1.1) ⟨(0, 0, 0, 0, ePt.dflt, [], 2, 3), hI0⟩ ?_ ?_
  · simp only [go_sem, sReadM, sSplit, sTake, sPutT, sOfD]
    exact ⟨RowLe.refl _, RowLe.refl _⟩
  · rintro ⟨⟨i, fr, at_, af, c, ps, u, nx⟩, hI⟩
    simp only at hI
    refine AW.of hΓ mixed [9, 99999] _ _ _ rfl ?_
    simp only [go_sem, sReadM, sSplit, sTake, sPutT, sOfD]
    refine ⟨fun hlt => ?_, fun hge => ?_⟩
    · have hi : i < (splitL s).length := by omega
      have hll : ((splitL s).getD i []).length ≤ 10000000 := by
        rw [gd_lt _ _ hi]
        have := split_mem (List.getElem_mem hi)
        omega
      have t1 := inv_text hI hi
      have t2 := inv_mark hI hi
      have t3 := err_text hI hi
      have t4 := err_mark hI hi
      rw [hT] at t3 t4
      generalize hle : (splitL s).getD i [] = l at *
      have hpl := take_now hI.2.1 hI.2.2.1 hi
      rw [hle] at hpl
      have hI' := hI
      obtain ⟨_, _, i3, i4, i5, i6, i7, _⟩ := hI'
      refine ⟨by omega, by omega, ?_⟩
      refine AW.cut ⟨[(1, .val (.int .i64 w)), (10, .pt 1 1 0), (11, sL eS (splitL s)), (12, .val (.int .i64 i)), (13, .st l), (14, .pt 3 nx 0), (15, .val (.bool (readM l w).2.1)), (16, .val (.int .i64 (readM l w).2.2)), (30, sL eS (splitL s)), (31, .val (.int .i64 (splitL s).length)), (32, .val (.int .i64 i))],
        [(1, .box 1 122 14 (rdC (s, fr, at_, af, c, ps) 2 u)), (2, rowL u 112 ePt ps), (3, .box nx 118 3 (eMk.enc (readM l w).1))], 70, 4, nx + 1, []⟩ ?_ ?_
      · simp only [go_sem, sReadM, sSplit, sTake, sPutT, sOfD]
        exact ⟨RowLe.refl _, RowLe.refl _, RowLe.box fun j hj => AVle.of_eq (stC_in (Nat.zero_le _) (by omega))⟩
      refine AW.still 14 3 nx 118 3 _ rfl rfl (fun j hj => match j, hj with | 0, _ => rfl | 1, _ => rfl | 2, _ => rfl) ?_
      cases hm : (readM l w).2.1 with
      | false =>
        refine AW.fork ?_
        refine AW.of hΓ mixed [99999] _ _ _ rfl ?_
        simp only [go_sem, sReadM, sSplit, sTake, sPutT, sOfD]
        refine AW.of hΓ mixed [99999] _ _ _ rfl ?_
        simp only [go_sem, sReadM, sSplit, sTake, sPutT, sOfD]
        refine ⟨fun h => ?_, fun h => ⟨by omega, by omega, ⟨(i + 1, fr, at_ + l.length, af, c, ps, u, nx + 1), t1 hm (Decidable.not_not.1 h)⟩, ⟨Nat.le_refl _, by dsimp only; omega, rd_row rfl rfl rfl rfl rfl rfl rfl rfl rfl rfl rfl rfl rfl rfl, RowLe.refl _⟩, by dsimp only; omega⟩⟩
        rw [t3 hm h]
        exact ⟨by omega, em_sL ePt, rfl, rfl⟩
      | true =>
        have hsg : signI (readM l w).1.1 := by
          have he : readM l w = ((readM l w).1, true, (readM l w).2.2) := by rw [← hm]
          exact may_sign (line_read he).2.1
        refine AW.fork ?_
        refine AW.of hΓ mixed [99999] _ _ _ rfl ?_
        simp only [go_sem, sReadM, sSplit, sTake, sPutT, sOfD]
        refine rd_go (a := (s, fr, at_, af, c, ps)) ⟨(readM l w).1, l, rfl, rfl, ⟨i4, i3, by dsimp only; omega, by dsimp only; omega⟩, hsg, by omega, rfl⟩ (by decide) (RowLe.refl _) (RowLe.refl _) (by decide) fun u1 n1 q1 h1 => ?_
        have t2 := t2 hm
        have t4 := t4 hm
        dsimp only at t2 t4 ⊢
        have htb : (takeR af (nowR (s, fr, at_, af, c, ps)) c ps (readM l w).1).1 = 0 → takeB (s, fr, at_, af, c, ps) (readM l w).1 l = (s, at_ + l.length, at_, (takeR af (nowR (s, fr, at_, af, c, ps)) c ps (readM l w).1).2.1, (takeR af (nowR (s, fr, at_, af, c, ps)) c ps (readM l w).1).2.2.1, (takeR af (nowR (s, fr, at_, af, c, ps)) c ps (readM l w).1).2.2.2) := fun h => if_pos h
        generalize takeR af (nowR (s, fr, at_, af, c, ps)) c ps (readM l w).1 = t at *
        simp only [go_sem, sReadM, sSplit, sTake, sPutT, sOfD]
        by_cases he : t.1 = 0
        · rw [htb he]
          have he2 : (decide ¬ t.1 = 0) = false := by simp [he]
          refine AW.of hΓ mixed [99999] _ _ _ rfl ?_
          simp only [go_sem, sReadM, sSplit, sTake, sPutT, sOfD, he]
          exact ⟨by omega, by omega, ⟨(i + 1, at_ + l.length, at_ + l.length, t.2.1, t.2.2.1, t.2.2.2, u1, n1), t2 he⟩, ⟨Nat.le_refl _, by dsimp only; omega, rd_row rfl rfl rfl rfl rfl rfl rfl rfl rfl rfl rfl rfl rfl rfl, RowLe.refl _⟩, by dsimp only; omega⟩
        · have he2 : (decide ¬ t.1 = 0) = true := by simp [he]
          refine AW.of hΓ mixed [99999] _ _ _ rfl ?_
          simp only [go_sem, sReadM, sSplit, sTake, sPutT, sOfD, he]
          rw [t4 he]
          exact ⟨by omega, em_sL ePt, rfl, rfl⟩
    · obtain ⟨i1, _, i3, i4, i5, i6, i7, i8⟩ := hI
      obtain rfl : i = (splitL s).length := by omega
      rw [List.drop_length, runR, hT] at i8
      refine ⟨fun h => ?_, fun h => ?_⟩
      · rw [if_pos h] at i8
        rw [i8]
        exact ⟨by omega, em_sL ePt, rfl, rfl⟩
      · rw [if_neg h] at i8
        have hnl : (nowR (s, fr, at_, af, c, ps)).length = at_ - fr := by
          unfold nowR
          simp only [List.length_drop, List.length_take]
          omega
        refine rd_go (a := (s, fr, at_, af, c, ps)) ⟨rfl, rfl, ⟨i4, i3, by dsimp only; omega, by dsimp only; omega⟩, rfl⟩ (by decide) (RowLe.refl _) (RowLe.refl _) (by decide) fun u1 n1 q1 h1 => ?_
        have hsm : sumT (ps ++ [textP (nowR (s, fr, at_, af, c, ps))]) ≤ at_ := by
          rw [sumT_app, sumT_one]
          show sumT ps + (nowR (s, fr, at_, af, c, ps)).length ≤ at_
          omega
        dsimp only
        generalize nowR (s, fr, at_, af, c, ps) = now at *
        simp only [go_sem, sReadM, sSplit, sTake, sPutT, sOfD]
        refine AW.freeze 2 u1 112 9 (ps ++ [textP now]).length (fun i => ePt.enc ((ps ++ [textP now]).getD i ePt.dflt)) rfl (fun i _ j hj => match j, hj with | 0, _ => rfl | 1, _ => rfl | 2, _ => rfl | 3, _ => rfl | 4, _ => rfl | 5, _ => rfl | 6, _ => rfl | 7, _ => rfl | 8, _ => rfl) ?_
        refine AW.cut ⟨[(10, .pt 1 1 0)], [(1, .box 1 122 14 (fun j => if j = 13 then sL ePt (ps ++ [textP now]) else .any))], 70, 2, n1, []⟩ ?_ ?_
        · simp only [go_sem, sReadM, sSplit, sTake, sPutT, sOfD]
          refine RowLe.box fun j hj => ?_
          by_cases e : j = 13
          · subst e
            rw [if_pos rfl]
            have : fz 2 u1 (ps.length + 1) 9 (fun i => ePt.enc ((ps ++ [textP now]).getD i ePt.dflt)) (rdC (withPs (s, fr, at_, af, c, ps) (ps ++ [textP now])) 2 u1 13) = sL ePt (ps ++ [textP now]) := if_pos ⟨rfl, rfl, by simp [withPs]⟩
            rw [this]
            exact AVle.refl _
          · rw [if_neg e]
            exact AVle.any _
        refine AW.of hΓ mixed [] _ _ _ rfl ?_
        simp only [go_sem, sReadM, sSplit, sTake, sPutT, sOfD]
        rw [i8]
        exact ⟨⟨by omega, by omega⟩, AVle.refl _, rfl, rfl⟩
end Go.Proofs.YtjfmigpahglajaaGreatDoor
set_option linter.unusedSimpArgs false
set_option linter.unusedVariables false
set_option maxRecDepth 100000
set_option maxHeartbeats 2000000
namespace Go.Proofs.YtjfmigpahglajaaGreatDoor
open Go
attribute [local irreducible] AW AVle ASle RowLe
def sIsSide : Spec := Spec.f1 kI (fun _ => True) (fun n => kB.enc (sideOK n))
theorem okIsSide : SpecOK Tryz.prog 69 sIsSide := by
  refine SpecOK.f1 Tryz.func69 rfl (by decide) Tryz.results69 Tryz.ntmps69 (by decide) fun n _ => ?_
  have hΓ : GOK Tryz.prog (gam []) := GOK.nil
  refine AW.of hΓ mixed [] _ _ _ rfl ?_
  simp only [go_sem]
  refine ⟨fun h => by rw [decide_eq_false h]; rfl, fun h => by rw [h]; rfl, ?_⟩
  unfold sideOK
  rw [Bool.or_assoc]
def sOfS : Spec := Spec.f2 (kA ePt) kI (fun _ _ => True) (fun p n => tu2 (kS.enc (ofS p n).1) (kI.enc (ofS p n).2))
theorem okOfS : SpecOK Tryz.prog 123 sOfS := by
  refine SpecOK.f2 Tryz.func123 rfl (by decide) Tryz.results123 Tryz.ntmps123 (by decide) fun p n _ => ?_
  have hΓ : GOK Tryz.prog (gam [(69, sIsSide)]) := (.cons okIsSide .nil)
  obtain ⟨ll, bl, rl, h, t, l, b, r, hb⟩ := p
  unfold ofS
  cases hs : sideOK n with
  | false =>
    refine AW.of hΓ mixed [] _ _ _ rfl ?_
    simp only [go_sem, sIsSide, hs]
  | true =>
    rw [if_neg (by simp)]
    by_cases h1 : n = 1
    · subst h1
      refine AW.of hΓ mixed [] _ _ _ rfl ?_
      simp only [go_sem, sIsSide, hs]
    · rw [if_neg h1]
      by_cases h3 : n = 3
      · subst h3
        refine AW.of hΓ mixed [] _ _ _ rfl ?_
        simp only [go_sem, sIsSide, hs]
      · rw [if_neg h3]
        cases hb with
        | false =>
          refine AW.of hΓ mixed [] _ _ _ rfl ?_
          simp only [go_sem, sIsSide, hs, h1, h3]
        | true =>
          refine AW.of hΓ mixed [] _ _ _ rfl ?_
          simp only [go_sem, sIsSide, hs, h1, h3]
end Go.Proofs.YtjfmigpahglajaaGreatDoor
