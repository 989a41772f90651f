/-
  chunk: the law of chunks of three lists.
-/
import Derived.Test.YtpbccamaipekjaaChunkT
import Derived.Test.YtpbccamaipekjaaChunkS
import Derived.Test.YtpbccamaipekjaaChunkO
set_option linter.unusedSimpArgs false
set_option linter.unusedVariables false
set_option maxRecDepth 100000
set_option maxHeartbeats 2000000
namespace Go.Proofs.Ytpbccamaipekjaa
open Go
attribute [local irreducible] AW AVle ASle RowLe
theorem of_lenK (ends : Pl) : ∀ (M : List Pl) (s : List Ck) (t : Pl), (ofK ends M s t).length ≤ s.length + 2 * M.length + 1
  | [], s, t => by
    rw [ofK]
    split
    · omega
    · simp
  | p :: M, s, t => by
    rw [ofK]
    have h1 := stretch_len (if p = t then s else s ++ [btw t p]) p
    have h2 : (if p = t then s else s ++ [btw t p]).length ≤ s.length + 1 := by
      split
      · omega
      · simp
    have h3 := of_lenK ends M (stretchF (if p = t then s else s ++ [btw t p]) p) (nextP p)
    simp only [List.length_cons]
    omega
def sChunkLists : Spec := Spec.f3 (kA ePl) (kL (eP eI eI)) (kL (eP eI eI)) (fun n l r => okInt n.1 ∧ okInt n.2.1 ∧ okInt n.2.2) (fun _ _ _ => kB.enc true)
theorem okChunkLists : SpecOK Try.prog 5 sChunkLists := by
  refine SpecOK.f3 Try.func5 rfl (by decide) Try.results5 Try.ntmps5 (by decide) fun n l r ⟨hn1, hn2, hn3⟩ => ?_
  have hΓ : GOK Try.prog (gam [(26, sToldK), (8, sLcsTo), (24, sOfK), (25, sRefOfK), (23, sSmallK), (28, sFromK), (27, sSameK), (30, sTurnedK), (29, sOneK), (31, sLenK)]) := (.cons okToldK (.cons okLcsTo (.cons okOfK (.cons okRefOfK (.cons okSmallK (.cons okFromK (.cons okSameK (.cons okTurnedK (.cons okOneK (.cons okLenK .nil))))))))))
  obtain ⟨n1, n2, n3⟩ := n
  refine AW.of hΓ mixed [2, 99999] _ _ _ rfl ?_
  simp only [go_sem, sToldK, sLcsTo, sOfK, sRefOfK, sSmallK, sFromK, sSameK, sTurnedK, sOneK, sLenK]
  refine ⟨hn1, hn2, hn3, by omega, by omega, ?_⟩
  have s1 := small_in n1
  have s2 := small_in n2
  have s3 := small_in n3
  generalize smallN n1 = a at *
  generalize smallN n2 = b at *
  generalize smallN n3 = c at *
  refine AW.cut ⟨[(7, .val (.int .i64 a)), (8, .val (.int .i64 b)), (9, .val (.int .i64 c)), (1, sL (eP eI eI) (l.take 70)), (2, sL (eP eI eI) (r.take 70))], [], 194, 0, 1, []⟩ ?_ ?_
  · simp only [go_sem]
    exact ⟨cap_le (eP eI eI) l rfl rfl (by omega), cap_le (eP eI eI) r rfl rfl (by omega)⟩
  obtain ⟨X, hX, lX⟩ := capped l 70
  obtain ⟨Y, hY, lY⟩ := capped r 70
  rw [hX, hY]
  clear hX hY
  have hsw := fit_swap a b c X Y
  rcases hf : fitK a b c X Y with _ | _
  · rw [hf] at hsw
    refine AW.of hΓ mixed [8, 99999] _ _ _ rfl ?_
    simp only [go_sem, sToldK, sLcsTo, sOfK, sRefOfK, sSmallK, sFromK, sSameK, sTurnedK, sOneK, sLenK, hf, hsw]
    refine ⟨by omega, by omega, by omega, by omega, by omega, by omega, by omega, ?_⟩
    refine AW.fork ?_
    refine AW.of hΓ mixed [9] _ _ _ rfl ?_
    simp only [go_sem, sToldK, sLcsTo, sOfK, sRefOfK, sSmallK, sFromK, sSameK, sTurnedK, sOneK, sLenK]
    refine AW.block (AW.round (α := Nat) (fun nx => ⟨[(7, .val (.int .i64 a)), (8, .val (.int .i64 b)), (9, .val (.int .i64 c)), (10, .em), (13, .val (.bool false)), (16, .pt 0 1 0), (17, .val (.int .i64 0))], [(0, .box 1 49 3 (ePl.enc (0, 0, 0)))], 194, 1, nx, []⟩) (fun _ => 0) 3 ?_ fun nx => ?_)
    · simp only [go_sem, sToldK, sLcsTo, sOfK, sRefOfK, sSmallK, sFromK, sSameK, sTurnedK, sOneK, sLenK]
      refine RowLe.box fun j hj => ?_
      match j, hj with
      | 0, _ => exact AVle.refl _
      | 1, _ => exact AVle.refl _
      | 2, _ => exact AVle.refl _
    · refine AW.of hΓ mixed [99999] _ _ _ rfl ?_
      simp only [go_sem, sToldK, sLcsTo, sOfK, sRefOfK, sSmallK, sFromK, sSameK, sTurnedK, sOneK, sLenK]
      refine AW.of hΓ mixed [] _ _ _ rfl ?_
      simp only [go_sem, sToldK, sLcsTo, sOfK, sRefOfK, sSmallK, sFromK, sSameK, sTurnedK, sOneK, sLenK]
      done
  · rw [hf] at hsw
    have hch := ch_all hf
    have htn : ofK (a, c, b) (bothF Y X) [] (0, 0, 0) = (ofK (a, b, c) (bothF X Y) [] (0, 0, 0)).map turnC := of_turned
    have hbl := both_len _ X Y (Nat.le_refl _)
    have hSl := of_lenK (a, b, c) (bothF X Y) [] (0, 0, 0)
    obtain ⟨S, hS⟩ : ∃ S, ofK (a, b, c) (bothF X Y) [] (0, 0, 0) = S := ⟨_, rfl⟩
    rw [hS] at hch htn hSl
    simp only [List.length_nil] at hSl
    refine AW.of hΓ mixed [8, 99999] _ _ _ rfl ?_
    simp only [go_sem, sToldK, sLcsTo, sOfK, sRefOfK, sSmallK, sFromK, sSameK, sTurnedK, sOneK, sLenK, hf, hsw, hS, htn]
    refine ⟨by omega, by omega, by omega, by omega, by omega, by omega, by omega, by omega, by omega, ?_⟩
    refine AW.fork ?_
    refine AW.of hΓ mixed [9] _ _ _ rfl ?_
    simp only [go_sem, sToldK, sLcsTo, sOfK, sRefOfK, sSmallK, sFromK, sSameK, sTurnedK, sOneK, sLenK]
    refine AW.block (AW.round (α := { x : Nat × Pl × Nat // x.1 ≤ S.length ∧ chF x.2.1 (if x.1 = 0 then none else some (S.getD (x.1 - 1) eCk.dflt).1) (S.drop x.1) (a, b, c) ∧ leP (0, 0, 0) x.2.1 })
      (fun x => ⟨[(7, .val (.int .i64 a)), (8, .val (.int .i64 b)), (9, .val (.int .i64 c)), (10, sL eCk S), (13, .val (.bool true)), (14, sL eCk (S.map turnC)), (16, .pt 0 1 0), (17, .val (.int .i64 x.1.1))], [(0, .box 1 49 3 (ePl.enc x.1.2.1))], 194, 1, x.1.2.2, []⟩) (fun x => S.length - x.1.1)
      ⟨(0, (0, 0, 0), 2), Nat.zero_le _, hch, leP_refl _⟩ ?_ ?_)
    · simp only [go_sem, sToldK, sLcsTo, sOfK, sRefOfK, sSmallK, sFromK, sSameK, sTurnedK, sOneK, sLenK]
      refine RowLe.box fun j hj => ?_
      match j, hj with
      | 0, _ => exact AVle.refl _
      | 1, _ => exact AVle.refl _
      | 2, _ => exact AVle.refl _
    · rintro ⟨⟨i, ⟨t1, t2, t3⟩, nx⟩, hi, hc, hle⟩
      simp only at hi hc hle
      refine AW.of hΓ mixed [12, 99999] _ _ _ rfl ?_
      simp only [go_sem, sToldK, sLcsTo, sOfK, sRefOfK, sSmallK, sFromK, sSameK, sTurnedK, sOneK, sLenK]
      refine ⟨fun hlt => ?_, fun hge => ?_⟩
      · have hil : i < S.length := by omega
        obtain ⟨st, b1, b2, l1, l2, r1, r2, hx⟩ : ∃ st b1 b2 l1 l2 r1 r2, S.getD i eCk.dflt = (st, (b1, b2), (l1, l2), r1, r2) := ⟨_, _, _, _, _, _, _, rfl⟩
        have hd : S.drop i = (st, (b1, b2), (l1, l2), r1, r2) :: S.drop (i + 1) := by
          rw [List.drop_eq_getElem_cons hil, ← gd_lt S eCk.dflt hil, hx]
        rw [hd] at hc
        obtain ⟨hfrom, hle2, hne, hflag, hrest⟩ := hc
        have hend := ch_le hrest
        obtain ⟨rfl, rfl, rfl⟩ : b1 = t1 ∧ l1 = t2 ∧ r1 = t3 := by
          have h1 := Prod.mk.inj hfrom
          have h2 := Prod.mk.inj h1.2
          exact ⟨h1.1, h2.1, h2.2⟩
        have hmap : (S.map turnC).getD i eCk.dflt = (st, (b1, b2), (r1, r2), l1, l2) := by
          have e1 : (S.map turnC).getD i eCk.dflt = turnC (S.getD i eCk.dflt) := by simp [List.getD, List.getElem?_eq_getElem hil]
          rw [e1, hx]
          rfl
        unfold leP at hle hle2 hend
        simp only [toP] at hle hle2 hend
        have hn : ¬ (b1 = b2 ∧ l1 = l2 ∧ r1 = r2) := fun h => hne (by simp only [toP]; rw [h.1, h.2.1, h.2.2])
        have z1 : lenS (b1, b2) = b2 - b1 := by unfold lenS; simp only; split <;> omega
        have z2 : lenS (l1, l2) = l2 - l1 := by unfold lenS; simp only; split <;> omega
        have z3 : lenS (r1, r2) = r2 - r1 := by unfold lenS; simp only; split <;> omega
        have ht1 : turnC (st, (b1, b2), (r1, r2), l1, l2) = (st, (b1, b2), (l1, l2), r1, r2) := rfl
        refine ⟨by omega, ?_⟩
        refine AW.cut ⟨[(7, .val (.int .i64 a)), (8, .val (.int .i64 b)), (9, .val (.int .i64 c)), (10, sL eCk S), (13, .val (.bool true)), (14, sL eCk (S.map turnC)), (16, .pt 0 1 0), (17, .val (.int .i64 i)), (18, .pt 1 nx 0)],
          [(0, .box 1 49 3 (ePl.enc (b1, l1, r1))), (1, .box nx 62 7 (eCk.enc (st, (b1, b2), (l1, l2), r1, r2)))], 194, 2, nx + 1, []⟩ ?_ ?_
        · simp only [go_sem, hx]
          exact ⟨RowLe.refl _, ck_box rfl rfl rfl rfl rfl rfl rfl⟩
        · cases i with
          | zero =>
            have e0 : (((0 : Nat) : Int) + 1) = 1 := by omega
            refine AW.of hΓ mixed [99999] _ _ _ rfl ?_
            simp only [go_sem, sToldK, sLcsTo, sOfK, sRefOfK, sSmallK, sFromK, sSameK, sTurnedK, sOneK, sLenK, hmap, ht1, z1, z2, z3, Int.natCast_zero]
            refine ⟨by omega, by omega, by omega, by omega, by omega, by omega, fun h => by omega, fun _ => ⟨⟨(1, (b2, l2, r2), nx + 1), by dsimp only; omega, ?_, ?_⟩, ⟨Nat.le_refl _, rfl, RowLe.box fun j hj => ?_⟩, by dsimp only; omega⟩⟩
            · dsimp only
              rw [if_neg (by decide), Nat.sub_self, hx]
              exact hrest
            · exact ⟨by show 0 ≤ b2; omega, by show 0 ≤ l2; omega, by show 0 ≤ r2; omega⟩
            · match j, hj with
              | 0, _ => exact AVle.refl _
              | 1, _ => exact AVle.refl _
              | 2, _ => exact AVle.refl _
          | succ i =>
            obtain ⟨d, hdc⟩ : ∃ d, S.getD i eCk.dflt = d := ⟨_, rfl⟩
            have e0 : (((i + 1 : Nat) : Int) - 1).toNat = i := by omega
            have hfl : d.1 ≠ st := fun e => hflag (by
              rw [if_neg (by omega), Nat.add_sub_cancel, hdc, e])
            refine AW.of hΓ mixed [99999] _ _ _ rfl ?_
            simp only [go_sem, sToldK, sLcsTo, sOfK, sRefOfK, sSmallK, sFromK, sSameK, sTurnedK, sOneK, sLenK, hmap, ht1, z1, z2, z3, e0, hdc]
            refine ⟨by omega, fun _ => by omega, fun _ => by omega, fun h => hfl h.2, fun _ => ⟨by omega, by omega, by omega, by omega, by omega, fun h => by omega, fun _ => ⟨by omega, ⟨(i + 1 + 1, (b2, l2, r2), nx + 1), by dsimp only; omega, ?_, ?_⟩, ⟨Nat.le_refl _, by dsimp only; omega, RowLe.box fun j hj => ?_⟩, by dsimp only; omega⟩⟩⟩
            · dsimp only
              rw [if_neg (by omega), Nat.add_sub_cancel, hx]
              exact hrest
            · exact ⟨by show 0 ≤ b2; omega, by show 0 ≤ l2; omega, by show 0 ≤ r2; omega⟩
            · match j, hj with
              | 0, _ => exact AVle.refl _
              | 1, _ => exact AVle.refl _
              | 2, _ => exact AVle.refl _
      · obtain rfl : i = S.length := by omega
        rw [List.drop_length] at hc
        have hc : ((t1, t2, t3) : Pl) = (a, b, c) := hc
        refine AW.of hΓ mixed [] _ _ _ rfl ?_
        simp only [go_sem, sToldK, sLcsTo, sOfK, sRefOfK, sSmallK, sFromK, sSameK, sTurnedK, sOneK, sLenK]
        have h1 := Prod.mk.inj hc
        exact ⟨h1.1, (Prod.mk.inj h1.2).1, (Prod.mk.inj h1.2).2⟩
end Go.Proofs.Ytpbccamaipekjaa
