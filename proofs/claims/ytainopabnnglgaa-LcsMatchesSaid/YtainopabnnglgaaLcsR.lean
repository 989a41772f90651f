/-
  lcs: Match, Distance.
-/
import Derived.Test.YtainopabnnglgaaLcsQ
set_option linter.unusedSimpArgs false
set_option linter.unusedVariables false
set_option maxRecDepth 100000
set_option maxHeartbeats 2000000
namespace Go.Proofs.Ytainopabnnglgaa
open Go
attribute [local irreducible] AW AVle ASle RowLe
theorem pp0 (p : Int × Int) : (eP eI eI).enc p 0 = .val (.int .i64 p.1) := rfl
theorem pp1 (p : Int × Int) : (eP eI eI).enc p 1 = .val (.int .i64 p.2) := rfl
theorem stC_0 (c d : Nat → AV) : stC c 0 2 d 0 = d 0 := rfl
theorem stC_1 (c d : Nat → AV) : stC c 0 2 d 1 = d 1 := rfl
def sMatch : Spec := Spec.f2 (kL eI) (kL eI) (fun a b => a.length < 100000000 ∧ b.length < 100000000) (fun a b => sL (eP eI eI) (matchF a b))
theorem okMatch : SpecOK Try.prog 19 sMatch := by
  refine SpecOK.f2 Try.func19 rfl (by decide) Try.results19 Try.ntmps19 (by decide) fun a b ⟨ha, hb⟩ => ?_
  have hΓ : GOK Try.prog (gam [(30, sShared), (31, sSearch)]) := (.cons okShared (.cons okSearch .nil))
  have hA := plc_len (fun y => b.contains y) 0 a
  have hB := plc_len (fun y => a.contains y) 0 b
  have hsp := (find_spec ((shI a b).length + (shI b a).length + 1) (shI a b) (shI b a) (by omega)).1
  have hm : matchF a b = mapM (shQ a b) (shQ b a) (findG (shI a b) (shI b a)) := rfl
  have lA : (shI a b).length ≤ a.length := List.length_filter_le _ _
  have lB : (shI b a).length ≤ b.length := List.length_filter_le _ _
  have lG := findG_len (shI a b) (shI b a)
  have lG2 := lcsN_le (shI a b) (shI b a)
  refine AW.of hΓ mixed [3, 99999] _ _ _ rfl ?_
  simp only [go_sem, sShared, sSearch]
  refine ⟨⟨ha, hb⟩, ⟨hb, ha⟩, _, _, shI a b, shI b a, rfl, AVle.refl _, AVle.refl _, rfl, by omega, by omega, fun ver hp' nx' h1 h2 h3 h4 => ?_⟩
  have eA : (shQ a b).length = (shI a b).length := hA
  have eB : (shQ b a).length = (shI b a).length := hB
  change isM (shI a b) (shI b a) (findG (shI a b) (shI b a)) at hsp
  generalize hG : findG (shI a b) (shI b a) = G at *
  refine AW.cut ⟨[(6, sL eI (shQ a b)), (8, sL eI (shQ b a)), (9, .ow 3 ver G.length)], [(3, rowL ver 41 (eP eI eI) G)], 50, 4, nx', []⟩ ?_ ?_
  · simp only [go_sem, h1]
    exact RowLe.refl _
  generalize hqa : shQ a b = qa at *
  generalize hqb : shQ b a = qb at *
  refine AW.of hΓ mixed [] _ _ _ rfl ?_
  simp only [go_sem, sShared, sSearch]
  refine AW.round (α := { x : Nat × Nat // x.1 ≤ G.length })
    (fun x => ⟨[(6, sL eI qa), (8, sL eI qb), (9, .ow 3 ver G.length), (27, .ow 3 ver G.length), (28, .val (.int .i64 G.length)), (29, .val (.int .i64 x.1.1))], [(3, rowL ver 41 (eP eI eI) (mapM qa qb (G.take x.1.1) ++ G.drop x.1.1))], 50, 4, x.1.2, []⟩) (fun x => G.length - x.1.1) ⟨(0, nx'), Nat.zero_le _⟩ ?_ ?_
  · simp only [go_sem, sShared, sSearch]
    exact RowLe.of_eq (by simp [mapM])
  · rintro ⟨⟨i, nx⟩, hi⟩
    simp only at hi
    have hmap : (mapM qa qb (G.take i)).length = i := by simp only [mapM, List.length_map, List.length_take]; omega
    refine AW.of hΓ mixed [6, 99999] _ _ _ rfl ?_
    simp only [go_sem, sShared, sSearch, pp_sz]
    refine ⟨fun hlt => ?_, fun hge => ?_⟩
    · have hel : (mapM qa qb (G.take i) ++ G.drop i).getD i (0, 0) = G.getD i (0, 0) := by
        simp only [List.getD]
        rw [List.getElem?_append_right (by omega), List.getElem?_drop, hmap]
        congr 2
        omega
      obtain ⟨u, v, huv⟩ : ∃ u v, G.getD i (0, 0) = (u, v) := ⟨_, _, rfl⟩
      have hin := hsp.2 (G.getD i (0, 0)) (by rw [gd_lt _ _ (by omega)]; exact List.getElem_mem _)
      rw [huv] at hin
      unfold inM at hin
      simp only at hin
      refine ⟨by omega, by omega, ?_⟩
      refine AW.cut ⟨[(6, sL eI qa), (8, sL eI qb), (9, .ow 3 ver G.length), (10, .val (.int .i64 i)), (11, .pt 4 nx 0), (27, .ow 3 ver G.length), (28, .val (.int .i64 G.length)), (29, .val (.int .i64 i))],
        [(3, rowL ver 41 (eP eI eI) (mapM qa qb (G.take i) ++ G.drop i)), (4, .box nx 41 2 fun j => if j = 0 then .val (.int .i64 u) else .val (.int .i64 v))], 50, 5, nx + 1, []⟩ ?_ ?_
      · simp only [go_sem]
        refine ⟨RowLe.refl _, RowLe.box fun j hj => AVle.of_eq ?_⟩
        match j, hj with
        | 0, _ => show (eP eI eI).enc ((mapM qa qb (G.take i) ++ G.drop i).getD i (0, 0)) 0 = _; rw [hel, huv]; rfl
        | 1, _ => show (eP eI eI).enc ((mapM qa qb (G.take i) ++ G.drop i).getD i (0, 0)) 1 = _; rw [hel, huv]; rfl
      · refine AW.of hΓ mixed [] _ _ _ rfl ?_
        simp only [go_sem, sShared, sSearch, pp_sz]
        have hset : mapM qa qb (G.take (i + 1)) ++ G.drop (i + 1) = (mapM qa qb (G.take i) ++ G.drop i).set i (qa.getD u.toNat 0, qb.getD v.toNat 0) := by
          have hi' : i < G.length := by omega
          have hgi : G[i] = (u, v) := by rw [← huv, gd_lt _ _ hi']
          rw [List.set_append_right _ _ (by omega), hmap, Nat.sub_self, List.drop_eq_getElem_cons hi', List.set_cons_zero, List.take_succ_eq_append_getElem hi', hgi]
          simp only [mapM, List.map_append, List.map_cons, List.map_nil, List.append_assoc, List.singleton_append]
        refine ⟨by omega, by omega, by omega, by omega, by omega, ⟨(i + 1, nx + 1), by dsimp only; omega⟩, ⟨Nat.le_refl _, rfl, ?_⟩, by dsimp only; omega⟩
        refine row_set (E := eP eI eI) rfl hset (by simp) (by simp) fun j hj => ?_
        match j, hj with
        | 0, _ => exact AVle.refl _
        | 1, _ => exact AVle.refl _
    · obtain rfl : i = G.length := by omega
      rw [List.take_length, List.drop_length, List.append_nil, hm]
      refine ⟨⟨by simp [mapM], ?_⟩, vw_all (E := eP eI eI) rfl rfl (by simp [mapM])⟩
      exact fun i hi => ⟨rfl, rfl⟩
def sDistance : Spec := Spec.f2 (kL eI) (kL eI) (fun a b => a.length < 100000000 ∧ b.length < 100000000) (fun a b => kI.enc (distF a b))
theorem okDistance : SpecOK Try.prog 22 sDistance := by
  refine SpecOK.f2 Try.func22 rfl (by decide) Try.results22 Try.ntmps22 (by decide) fun a b ⟨ha, hb⟩ => ?_
  have hΓ : GOK Try.prog (gam [(19, sMatch)]) := (.cons okMatch .nil)
  have h := (match_spec a b).2
  have h2 := lcsN_le a b
  refine AW.of hΓ mixed [] _ _ _ rfl ?_
  simp only [go_sem, sMatch]
  exact ⟨by omega, ⟨ha, hb⟩, by omega, by omega, rfl⟩
end Go.Proofs.Ytainopabnnglgaa
