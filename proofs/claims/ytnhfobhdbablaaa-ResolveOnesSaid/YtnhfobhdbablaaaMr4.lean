/-
  Part 4 of what the proof rests on: values that are told, code that is walked, what comes out.
-/
import Derived.Test.YtnhfobhdbablaaaMr3
import Derived.Laws.CopyRow
set_option linter.unusedSimpArgs false
set_option linter.unusedVariables false
set_option maxRecDepth 100000
set_option maxHeartbeats 2000000
namespace Go.Proofs.Ytnhfobhdbablaaa
open Go
attribute [local irreducible] AW AVle ASle RowLe
theorem map_getD_range {l : List Pt} {n : Nat} (h : n = l.length) : (List.range n).map (fun i => l.getD i ePt.dflt) = l := by
  subst h
  refine list_ext_getD ePt.dflt (by simp) fun i hi => ?_
  have hi : i < l.length := by simpa using hi
  rw [gd_lt _ _ (by simpa using hi)]
  simp
def sRefOneR : Spec := Spec.f3 (kL ePt) kI kI (fun d _ _ => d.length < 100000000 ∧ (∀ p ∈ d, okPr p) ∧ widD d ≤ 100000000) (fun d n s => tu2 (sL ePt (oneD d n s).1) (kI.enc (oneD d n s).2))
theorem okRefOneR : SpecOK Try.prog 34 sRefOneR := by
  refine SpecOK.f3 Try.func34 rfl (by decide) Try.results34 Try.ntmps34 (by decide) fun d n side ⟨hd, hp, hw⟩ => ?_
  have hΓ : GOK Try.prog (gam [(60, sRefRight), (62, sRefConfl), (63, sPick), (68, sRefEnds), (51, sRefOf)]) := (.cons okRefRight (.cons okRefConfl (.cons okPick (.cons okRefEnds (.cons okRefOf .nil)))))
  have hcl := confl_le d
  unfold oneD
  by_cases hr : rightD d = false
  · rw [if_pos hr]
    refine AW.of hΓ mixed [] _ _ _ rfl ?_
    simp only [go_sem, sRefRight, sRefConfl, sPick, sRefEnds, sRefOf, hr]
    exact ⟨⟨hd, hp⟩, em_sL _⟩
  have hr' : rightD d = true := by simpa using hr
  rw [if_neg hr]
  by_cases hn : 0 ≤ n ∧ n < conflD d
  · obtain ⟨hn1, hn2⟩ := hn
    obtain ⟨k, hpl, hk, hkk, hkn⟩ := (place_spec d 0 n hn1).2 hn2
    have hpl : placeG d 0 n = (k : Int) := by simpa using hpl
    rw [hpl, if_neg (by omega), Int.toNat_natCast]
    generalize hpe : d.getD k ePt.dflt = p at *
    have hwp := ofS_len p side
    have hwk : widP p ≤ widD d := by
      have e := wid_drop hk
      have e2 : widD d = widD (d.take k) + widD (d.drop k) := by
        conv => lhs; rw [← List.take_append_drop k d]
        unfold widD
        rw [List.map_append, List.sum_append]
      rw [hpe] at e
      omega
    generalize ho : ofS p side = o at *
    obtain ⟨t, e⟩ := o
    dsimp only at hwp ⊢
    have htl : t.length ≤ 100000000 := by
      unfold widP at hwk
      omega
    have hmap : (List.range d.length).map (fun i => (d.set k (textP t)).getD i ePt.dflt) = d.set k (textP t) := map_getD_range (by simp)
    have h1 : (decide (n < 0) || decide ((conflD d : Int) ≤ n)) = false := by
      simp only [Bool.or_eq_false_iff, decide_eq_false_iff_not]
      omega
    refine AW.of hΓ mixed [5] _ _ _ rfl ?_
    simp only [go_sem, sRefRight, sRefConfl, sPick, sRefEnds, sRefOf, hr', h1]
    refine ⟨⟨hd, hp⟩, fun _ => hd, fun h => by rw [decide_eq_false h]; rfl, by omega, ?_⟩
    refine AW.cut ⟨[(0, sL ePt d), (1, .val (.int .i64 n)), (2, .val (.int .i64 side)), (8, .ow 0 0 d.length)], [(0, rowL 0 24 ePt d)], 75, 1, 1, []⟩ ?_ ?_
    · simp only [go_sem, sRefRight, sRefConfl, sPick, sRefEnds, sRefOf]
      exact RowLe.refl _
    refine AW.seqTo (fun x : { nx : Nat // e = 0 ∧ ¬ (t ≠ [] ∧ endsL t = false ∧ (k : Int) < (d.length : Int) - 1) } => Sh.st ⟨[(8, .ow 0 0 (d.set k (textP t)).length)], [(0, rowL 0 24 ePt (d.set k (textP t)))], 75, 1, x.1, []⟩) ?_ fun x => ?_
    rotate_left
    · obtain ⟨nx, rfl, ht⟩ := x
      rw [if_neg (by simp), if_neg ht]
      have hws := wid_set d k t (by rw [hpe]; unfold widP; omega)
      have hss := sumT_wid (d.set k (textP t))
      have hls : (d.set k (textP t)).length = d.length := by simp
      generalize d.set k (textP t) = d' at *
      refine AW.freeze 0 0 24 9 d'.length (fun i => ePt.enc (d'.getD i ePt.dflt)) rfl (fun _ _ j hj => match j, hj with | 0, _ => rfl | 1, _ => rfl | 2, _ => rfl | 3, _ => rfl | 4, _ => rfl | 5, _ => rfl | 6, _ => rfl | 7, _ => rfl | 8, _ => rfl) ?_
      refine AW.cut ⟨[(8, sL ePt d')], [], 75, 1, nx, []⟩ ?_ ?_
      · simp only [go_sem, sRefRight, sRefConfl, sPick, sRefEnds, sRefOf]
        exact vw_all (E := ePt) rfl rfl rfl
      refine AW.of hΓ mixed [] _ _ _ rfl ?_
      simp only [go_sem, sRefRight, sRefConfl, sPick, sRefEnds, sRefOf]
      exact ⟨by omega, by omega⟩
    refine AW.of hΓ mixed [] _ _ _ rfl ?_
    simp only [go_sem, sRefRight, sRefConfl, sPick, sRefEnds, sRefOf]
    refine AW.round (α := { x : Nat × Int × Nat // x.1 ≤ d.length ∧ x.2.1 = n - conflD (d.take x.1) ∧ (k < x.1 → e = 0 ∧ ¬ (t ≠ [] ∧ endsL t = false ∧ (k : Int) < (d.length : Int) - 1)) })
      (fun x => ⟨[(0, sL ePt d), (1, .val (.int .i64 x.1.2.1)), (2, .val (.int .i64 side)), (8, .ow 0 0 d.length), (9, .val (.int .i64 x.1.1))], [(0, rowL 0 24 ePt (if k < x.1.1 then d.set k (textP t) else d))], 75, 1, x.1.2.2, []⟩) (fun x => d.length - x.1.1) ⟨(0, n, 1), Nat.zero_le _, by simp [conflD], fun h => absurd h (Nat.not_lt_zero _)⟩ ?_ ?_
    · simp only [go_sem, sRefRight, sRefConfl, sPick, sRefEnds, sRefOf]
      exact RowLe.refl _
    · rintro ⟨⟨i, m, nx⟩, hi, hm, hg⟩
      simp only at hi hm hg
      rcases Nat.lt_or_ge i d.length with hlt' | hge
      · have hlI : ((i : Int) < (d.length : Nat)) = True := eq_true (by omega)
        have es := confl_snoc (d.take i) (d.getD i ePt.dflt)
        rw [← take_snoc d ePt.dflt hlt'] at es
        have hkd : hkP p = true := hkk
        have hst : ∀ cc, (∀ j, j < 9 → AVle (cc j) (ePt.enc (textP t) j)) → RowLe (Row.sl 0 24 9 d.length (stE (fun i => ePt.enc (d.getD i ePt.dflt)) k 0 9 cc)) (Row.sl 0 24 9 (d.set k (textP t)).length fun i => ePt.enc ((d.set k (textP t)).getD i ePt.dflt)) := fun cc hcc => RowLe.sl (by simp) fun k' hk' j hj => stE_le (E := ePt) (n := d.length) hk (fun _ _ _ _ => AVle.refl _) hcc k' hk' j hj
        by_cases hik : i = k
        · subst hik
          rw [hpe] at es
          have hm0 : m = 0 := by omega
          subst hm0
          rw [if_neg (Nat.lt_irrefl _)]
          obtain ⟨ll, bl, rl, h, tx, l, b, r, hb⟩ := p
          obtain rfl : h = true := hkd
          by_cases hz : e ≠ 0
          · rw [if_pos hz]
            refine AW.of hΓ mixed [99999] _ _ _ rfl ?_
            simp only [go_sem, sRefRight, sRefConfl, sPick, sRefEnds, sRefOf, hlI, hpe, ho, hz]
            exact ⟨by omega, by omega, em_sL _⟩
          rw [if_neg hz]
          have hz : e = 0 := by simpa using hz
          subst hz
          by_cases ht : t ≠ [] ∧ endsL t = false ∧ (i : Int) < (d.length : Int) - 1
          · rw [if_pos ht]
            obtain ⟨g1, g2, g3⟩ := ht
            refine AW.of hΓ mixed [99999] _ _ _ rfl ?_
            simp only [go_sem, sRefRight, sRefConfl, sPick, sRefEnds, sRefOf, hlI, hpe, ho, g1, g2]
            exact ⟨by omega, by omega, by omega, by omega, fun _ => em_sL _, fun h => absurd (by omega) h⟩
          · rw [if_neg ht]
            refine AW.of hΓ mixed [99999] _ _ _ rfl ?_
            simp only [go_sem, sRefRight, sRefConfl, sPick, sRefEnds, sRefOf, hlI, hpe, ho]
            refine ⟨by omega, by omega, fun _ => by omega, fun _ => by omega, fun ⟨⟨g1, g2⟩, g3⟩ => ht ⟨g1, by simpa using g2, by omega⟩, fun _ => ⟨by omega, hk, by omega, ⟨(i + 1, -1, nx), by dsimp only; omega, by dsimp only; rw [es, if_pos rfl]; omega, fun _ => ⟨rfl, ht⟩⟩, ⟨Nat.le_refl _, ⟨rfl, by dsimp only; omega⟩, ?_⟩, by dsimp only; omega⟩⟩
            dsimp only
            rw [if_pos (Nat.lt_succ_self i)]
            exact hst _ fun j hj => match j, hj with
              | 0, _ => AVle.refl _
              | 1, _ => AVle.refl _
              | 2, _ => AVle.refl _
              | 3, _ => AVle.refl _
              | 4, _ => AVle.refl _
              | 5, _ => AVle.refl _
              | 6, _ => AVle.refl _
              | 7, _ => AVle.refl _
              | 8, _ => AVle.refl _
        · have hif : (if k < i + 1 then d.set k (textP t) else d) = (if k < i then d.set k (textP t) else d) := by
            by_cases c : k < i
            · rw [if_pos c, if_pos (by omega)]
            · rw [if_neg c, if_neg (by omega)]
          have hci := confl_le (d.take i)
          rw [List.length_take] at hci
          cases hh : (d.getD i ePt.dflt).2.2.2.1 with
          | true =>
            have hm0 : ¬ m = 0 := fun h0 => hik (confl_uniq hlt' hk hh (by rw [hpe]; exact hkk) (by omega))
            refine AW.of hΓ mixed [99999] _ _ _ rfl ?_
            simp only [go_sem, sRefRight, sRefConfl, sPick, sRefEnds, sRefOf, hlI, hh, hm0]
            refine ⟨by omega, by omega, by omega, ⟨(i + 1, m - 1, nx), by dsimp only; omega, by dsimp only; rw [es, if_pos hh]; omega, fun h => hg (by dsimp only at h; omega)⟩, ⟨Nat.le_refl _, ⟨rfl, by dsimp only; omega⟩, ?_⟩, by dsimp only; omega⟩
            dsimp only
            rw [hif]
            exact RowLe.refl _
          | false =>
            refine AW.of hΓ mixed [99999] _ _ _ rfl ?_
            simp only [go_sem, sRefRight, sRefConfl, sPick, sRefEnds, sRefOf, hlI, hh]
            refine ⟨by omega, by omega, ⟨(i + 1, m, nx), by dsimp only; omega, by dsimp only; rw [es, if_neg (by rw [hh]; simp)]; omega, fun h => hg (by dsimp only at h; omega)⟩, ⟨Nat.le_refl _, ⟨rfl, by dsimp only; omega⟩, ?_⟩, by dsimp only; omega⟩
            dsimp only
            rw [hif]
            exact RowLe.refl _
      · obtain rfl : i = d.length := by omega
        obtain ⟨rfl, ht⟩ := hg hk
        rw [if_pos hk]
        refine AW.of hΓ mixed [99999] _ _ _ rfl ?_
        simp only [go_sem, sRefRight, sRefConfl, sPick, sRefEnds, sRefOf, hmap]
        refine ⟨⟨nx, rfl, ht⟩, toFits ?_⟩
        simp only [go_sem, sRefRight, sRefConfl, sPick, sRefEnds, sRefOf, List.length_set]
        exact RowLe.refl _
  · have hpl : placeG d 0 n = -1 := by
      rcases Int.lt_or_le n 0 with g | g
      · exact place_neg d 0 n g
      · exact (place_spec d 0 n g).1 (by omega)
    rw [hpl, if_pos (by omega)]
    have h1 : (decide (n < 0) || decide ((conflD d : Int) ≤ n)) = true := by
      simp only [Bool.or_eq_true, decide_eq_true_eq]
      omega
    refine AW.of hΓ mixed [] _ _ _ rfl ?_
    simp only [go_sem, sRefRight, sRefConfl, sPick, sRefEnds, sRefOf, hr', h1]
    exact ⟨⟨hd, hp⟩, fun _ => hd, fun h => by rw [decide_eq_false h]; rfl, em_sL _⟩
end Go.Proofs.Ytnhfobhdbablaaa
set_option linter.unusedSimpArgs false
set_option linter.unusedVariables false
set_option maxRecDepth 100000
namespace Go.Proofs.Ytnhfobhdbablaaa
open Go
/-- A slice of a row at hand from a place on. -/
def obS (v k n : Nat) : AV := .ob fun η u => ∃ g cap, η v = some (some g, cap) ∧ u = .slice (some ⟨g, k, none⟩) (n - k) (cap - k)
def cpC (cc : Nat → Nat → AV) (k m : Nat) (dd : Nat → Nat → AV) : Nat → Nat → AV := fun i j => if k ≤ i ∧ i < k + m then dd (i - k) j else cc i j
section
variable {P : Program} {st : AS} {o : Oper} {K : AS → Prop}
theorem AS.ev_mask {st : AS} {fr' : Nat → AV} {x : Operand} (h : evAV fr' x = evAV st.fr x) : (⟨fr', st.hp, st.sz, st.top, st.nx, st.df⟩ : AS).ev x = st.ev x := h
theorem slice_ob {t e : TypeId} {x y : Operand} {p v n : Nat} {k : Int} (ho : o.op = .slice t x (some y) none none) (ht : P.underlying t = some (.slice e)) (hs : P.cellsOf e = 1) (hx : st.ev x = .ow p v n) (hy : st.ev y = .val (.int .i64 k)) (h0 : 0 ≤ k) (hn : k < n) (hd : dstOK st.sz o.dst)
    (hK : K ⟨updO st.fr o.dst (obS v k.toNat n), st.hp, st.sz, st.top, st.nx, st.df⟩) : OpM P o st K := by
  intro fr' hl
  have ex := hl x (by rw [ho]; simp [Op.operands])
  have ey := hl y (by rw [ho]; simp [Op.operands])
  refine pure_wp (z := obS v k.toNat n) hd (fun c η a w hsr => ?_) ⟨_, rfl, rfl, hK⟩
  have hev : ∀ x, Rep w η (Lset c η st.hp) (evAV fr' x) (a.eval x) := rep_ev hsr.slots
  have hxv := hev x
  have hyv := hev y
  rw [ex, show evAV st.fr x = _ from hx] at hxv
  rw [ey, show evAV st.fr y = _ from hy] at hyv
  obtain ⟨g, cap, hη, hv⟩ := hxv
  have hyv : a.eval y = .int .i64 k := hyv
  cases g with
  | none => obtain ⟨hv, _⟩ := hv; omega
  | some g =>
    obtain ⟨hv, hcap⟩ := hv
    refine ⟨.slice (some ⟨g, k.toNat, none⟩) (n - k.toNat) (cap - k.toNat), ?_, η, fun _ _ h => h, g, cap, hη, rfl⟩
    have hb := run_bounds (P := P) (w := w) (η := η) (L := fun _ => False) (isS := true) (len := n) (cap := cap) (lo := some (.val (.int .i64 k))) (hi := none) (vlo := some (.int .i64 k)) (vhi := none) (a := k) (b := n) rfl rfl h0 (by omega) (by omega) (.some rfl) .none
    unfold execOp
    rw [ho]
    simp [Instr.sliceAt, run_underlying ht, Instr.slice, hb, run_sizeOf' (P := P) (w := w) hs Nat.one_pos, hv, hyv]
    rw [if_neg (by omega)]
    simp [add_off]
theorem copy_wp {t t' e : TypeId} {x y : Operand} {p v n k m : Nat} {cc dd : Nat → Nat → AV} (ho : o.op = .call ⟨.builtin .copy, ⟨[x, y]⟩, ⟨[t, t']⟩⟩) (ht : P.underlying t = some (.slice e)) (hs : (P.info? e).map (·.size) = some 1) (hrow : st.hp p = .sl v e 1 n cc) (hd : dstOK st.sz o.dst)
    (h : ∀ (c : Ctx) (η : Env) (a : Act) (w : World), SR c st η a w → ∃ g cap dl dc, η v = some (some g, cap) ∧ a.eval x = .slice (some ⟨g, k, none⟩) dl dc ∧ k + dl ≤ n ∧ ∃ ad sl sc, a.eval y = .slice (some ad) sl sc ∧ m = Nat.min sl dl ∧
      ∀ i, i < m → ∃ u, w.cell? (ad.add i) = some u ∧ u.oneCell' = true ∧ Rep w η (Lset c η st.hp) (dd i 0) u)
    (hK : K ⟨updO st.fr o.dst (.val (.int .i64 m)), updR st.hp p (.sl v e 1 n (cpC cc k m dd)), st.sz, st.top, st.nx, st.df⟩) : OpW P o st K := by
  intro c η a w next Q hsr hnext
  obtain ⟨g, cap, dl, dc, hη, hxv, hkd, ad, sl, sc, hyv, hm, hcell⟩ := h c η a w hsr
  have hr := hsr.hs.rows p
  rw [hrow] at hr
  obtain ⟨cur, hh, hsz, hnc, hcm, hc⟩ := hr _ _ hη
  have hmd : m ≤ dl := by rw [hm]; exact Nat.min_le_right _ _
  obtain ⟨cs, hcl, hcs⟩ : ∃ cs : List Value, cs.length = m ∧ ∀ i, i < m → w.cell? (ad.add i) = cs[i]? ∧ ∃ u, cs[i]? = some u ∧ u.oneCell' = true ∧ Rep w η (Lset c η st.hp) (dd i 0) u := by
    refine ⟨(List.range m).map fun i => (w.cell? (ad.add i)).getD undef, by simp, fun i hi => ?_⟩
    obtain ⟨u, hu, h1, h2⟩ := hcell i hi
    have : ((List.range m).map fun i => (w.cell? (ad.add i)).getD undef)[i]? = some u := by simp [hi, hu]
    rw [this, hu]
    exact ⟨rfl, u, rfl, h1, h2⟩
  have hblk : (st.hp p).blk η = some g := by rw [hrow]; simp [Row.blk, Row.ver, hη]
  have hf := fr_setRow w g (cur.toList.take k ++ cs ++ cur.toList.drop (k + cs.length)).toArray
  have hO : ∀ k, k < w.heap.size → k = g → Lset c η st.hp k := fun k _ e => .inr ⟨p, by rw [e]; exact hblk⟩
  have hcur : cur.size = cap := by rw [hsz, Nat.mul_one]
  have hrun := run_copy_row P w t t' o.type e g k dl dc ad sl sc cur e cs ht hs hh (by rw [hcl, hm]) (fun j u hj => by
      have hj' : j < m := by rw [← hcl]; exact (List.getElem?_eq_some_iff.1 hj).1
      rw [(hcs j hj').1, hj]) (by rw [hcl]; omega) (fun u hu => by
      obtain ⟨j, hj, rfl⟩ := List.getElem_of_mem hu
      obtain ⟨_, u, h1, h2, _⟩ := hcs j (by omega)
      rw [List.getElem?_eq_getElem hj] at h1
      rw [Option.some.inj h1]
      exact h2)
  rw [hcl] at hrun
  have hwr := hsr.hs.write (row := .sl v e 1 n (cpC cc k m dd)) hblk (by rw [hrow]; rfl) hf (by
    intro g' cap' he
    rw [hη] at he
    simp only [Option.some.injEq, Prod.mk.injEq] at he
    obtain ⟨rfl, rfl⟩ := he
    refine ⟨_, setRow_heap w g cur _ e (0, 0) hh, by simp [hcl]; omega, hnc, hcm, fun i hi j hj => ?_⟩
    obtain rfl : j = 0 := by omega
    rw [splice_at cur cs k _ (by omega)]
    unfold cpC
    by_cases hki : k ≤ i ∧ i < k + m
    · rw [if_pos (by omega), if_pos hki]
      obtain ⟨_, u, h1, h2, h3⟩ := hcs (i - k) (by omega)
      exact ⟨u, by rw [show i * 1 + 0 - k = i - k by omega]; exact h1, h2, Rep.keep hf hO (fun _ _ h => h) _ _ _ _ (Env.le_refl _) h3⟩
    · rw [if_neg (by omega), if_neg hki]
      obtain ⟨u, hu, h1, hrep⟩ := hc i hi 0 hj
      exact ⟨u, hu, h1, Rep.keep hf hO (fun _ _ h => h) _ _ _ _ (Env.le_refl _) hrep⟩)
  unfold Oper.wp
  have : (execOp a.eval o).run P w = .ok (.value (.int .i64 m)) (w.setRow g (cur.toList.take k ++ cs ++ cur.toList.drop (k + cs.length)).toArray) := by
    unfold execOp
    rw [ho]
    simp only [resolve, invoke, builtin, hxv, hyv, List.map_cons, List.map_nil]
    simp [hxv, hyv, hrun, goInt, hcl]
  rw [this]
  refine hnext _ η _ _ (hsr.put (z := .val (.int .i64 m)) hd hwr.1 (fun q hq => ?_) hwr.2 rfl) hK
  by_cases e : q = p
  · subst e; rw [hsr.dead q hq] at hrow; cases hrow
  · rw [updR_ne _ _ e]; exact hsr.dead q hq
theorem copy_ob {t t' e : TypeId} {x y : Operand} {p q v n k l : Nat} {cc : Nat → Nat → AV} (ho : o.op = .call ⟨.builtin .copy, ⟨[x, y]⟩, ⟨[t, t']⟩⟩) (ht : P.underlying t = some (.slice e)) (hs : (P.info? e).map (·.size) = some 1) (hx : st.ev x = obS v k n) (hy : st.ev y = .ow q v l) (hl : l ≤ n) (hk : k ≤ n)
    (hrow : st.hp p = .sl v e 1 n cc) (hd : dstOK st.sz o.dst)
    (hK : K ⟨updO st.fr o.dst (.val (.int .i64 (Nat.min l (n - k) : Nat))), updR st.hp p (.sl v e 1 n (cpC cc k (Nat.min l (n - k)) cc)), st.sz, st.top, st.nx, st.df⟩) : OpM P o st K := by
  intro fr' hlk
  have ex := hlk x (by rw [ho]; simp [Op.operands, Call.operands])
  have ey := hlk y (by rw [ho]; simp [Op.operands, Call.operands])
  refine copy_wp (st := ⟨fr', st.hp, st.sz, st.top, st.nx, st.df⟩) ho ht hs hrow hd (k := k) (m := Nat.min l (n - k)) (dd := cc) (fun c η a w hsr => ?_) ⟨_, rfl, rfl, hK⟩
  have hev : ∀ x, Rep w η (Lset c η st.hp) (evAV fr' x) (a.eval x) := rep_ev hsr.slots
  have hxv := hev x
  have hyv := hev y
  rw [ex, show evAV st.fr x = _ from hx] at hxv
  rw [ey, show evAV st.fr y = _ from hy] at hyv
  obtain ⟨η0, hle, g, cap, hη, hxv⟩ := hxv
  have hη := hle _ _ hη
  obtain ⟨g', cap', hη', hyv⟩ := hyv
  rw [hη] at hη'
  simp only [Option.some.injEq, Prod.mk.injEq] at hη'
  obtain ⟨rfl, rfl⟩ := hη'
  obtain ⟨hyv, hlc⟩ := hyv
  have hr := hsr.hs.rows p
  rw [show (⟨fr', st.hp, st.sz, st.top, st.nx, st.df⟩ : AS).hp p = _ from hrow] at hr
  obtain ⟨cur, hh, hsz, hnc, hcm, hc⟩ := hr _ _ hη
  have hmin : Nat.min l (n - k) ≤ n := Nat.le_trans (Nat.min_le_left _ _) hl
  refine ⟨g, cap, n - k, cap - k, hη, hxv, by omega, ⟨g, 0, none⟩, l, cap, hyv, rfl, fun i hi => ?_⟩
  obtain ⟨u, hu, h1, h2⟩ := hc i (by omega) 0 Nat.one_pos
  exact ⟨u, by rw [add_off, cell_heap hh, ← hu]; congr 1, h1, h2⟩
theorem copy_sn {t t' e : TypeId} {x y : Operand} {p v n l : Nat} {cc dd : Nat → Nat → AV} (ho : o.op = .call ⟨.builtin .copy, ⟨[x, y]⟩, ⟨[t, t']⟩⟩) (ht : P.underlying t = some (.slice e)) (hs : (P.info? e).map (·.size) = some 1) (hx : st.ev x = .ow p v n) (hy : st.ev y = .sn l 1 dd) (hn : 0 < n) (hl : 0 < l)
    (hrow : st.hp p = .sl v e 1 n cc) (hd : dstOK st.sz o.dst)
    (hK : K ⟨updO st.fr o.dst (.val (.int .i64 (Nat.min l n : Nat))), updR st.hp p (.sl v e 1 n (cpC cc 0 (Nat.min l n) dd)), st.sz, st.top, st.nx, st.df⟩) : OpW P o st K := by
  refine copy_wp ho ht hs hrow hd (k := 0) (m := Nat.min l n) (dd := dd) (fun c η a w hsr => ?_) hK
  have hxv := rep_ev hsr.slots x
  have hyv := rep_ev hsr.slots y
  rw [show evAV st.fr x = _ from hx] at hxv
  rw [show evAV st.fr y = _ from hy] at hyv
  obtain ⟨g, cap, hη, hxv⟩ := hxv
  obtain ⟨ad, cap', hyv, _, hc⟩ := hyv
  obtain ⟨b, off, rfl, _, hc⟩ := hc hl Nat.one_pos
  cases g with
  | none => obtain ⟨h, _⟩ := hxv; omega
  | some g =>
    obtain ⟨hxv, hcap⟩ := hxv
    refine ⟨g, cap, n, cap, hη, hxv, by omega, _, l, cap', hyv, rfl, fun i hi => ?_⟩
    have : Nat.min l n ≤ l := Nat.min_le_left _ _
    obtain ⟨u, hu, h1, h2⟩ := hc i (by omega) 0 Nat.one_pos
    exact ⟨u, by rw [add_off, ← hu]; congr 2; omega, h1, h2.up⟩
theorem copyN_wp {t t' e : TypeId} {x y : Operand} (ho : o.op = .call ⟨.builtin .copy, ⟨[x, y]⟩, ⟨[t, t']⟩⟩) (ht : P.underlying t = some (.slice e)) (hs : (P.info? e).map (·.size) = some 1) (hd : dstOK st.sz o.dst)
    (h : ∀ (c : Ctx) (η : Env) (a : Act) (w : World), SR c st η a w → ∃ d dl dc s sl sc, a.eval x = .slice d dl dc ∧ a.eval y = .slice s sl sc ∧ Nat.min sl dl = 0)
    (hK : K ⟨updO st.fr o.dst (.val (.int .i64 0)), st.hp, st.sz, st.top, st.nx, st.df⟩) : OpW P o st K := by
  refine pure_wp hd (fun c η a w hsr => ?_) hK
  obtain ⟨d, dl, dc, s, sl, sc, hxv, hyv, h0⟩ := h c η a w hsr
  refine ⟨.int .i64 0, ?_, rfl⟩
  have hrun := run_copy_none (P := P) w t t' o.type e d s dl dc sl sc ht hs h0
  unfold execOp
  rw [ho]
  simp [resolve, invoke, builtin, hxv, hyv, hrun, goInt]
theorem copy_zero {t t' e : TypeId} {x y : Operand} {p v l : Nat} {dd : Nat → Nat → AV} (ho : o.op = .call ⟨.builtin .copy, ⟨[x, y]⟩, ⟨[t, t']⟩⟩) (ht : P.underlying t = some (.slice e)) (hs : (P.info? e).map (·.size) = some 1) (hx : st.ev x = .ow p v 0) (hy : st.ev y = .sn l 1 dd)
    (hd : dstOK st.sz o.dst) (hK : K ⟨updO st.fr o.dst (.val (.int .i64 0)), st.hp, st.sz, st.top, st.nx, st.df⟩) : OpW P o st K := by
  refine copyN_wp ho ht hs hd (fun c η a w hsr => ?_) hK
  have hxv := rep_ev hsr.slots x
  have hyv := rep_ev hsr.slots y
  rw [show evAV st.fr x = _ from hx] at hxv
  rw [show evAV st.fr y = _ from hy] at hyv
  obtain ⟨g, cap, hη, hxv⟩ := hxv
  obtain ⟨ad, cap', hyv, _, hc⟩ := hyv
  cases g with
  | none =>
    obtain ⟨_, d, hxv⟩ := hxv
    exact ⟨_, _, _, _, _, _, hxv, hyv, Nat.min_zero _⟩
  | some g =>
    obtain ⟨hxv, hcap⟩ := hxv
    exact ⟨_, _, _, _, _, _, hxv, hyv, Nat.min_zero _⟩
end
end Go.Proofs.Ytnhfobhdbablaaa
set_option linter.unusedSimpArgs false
set_option linter.unusedVariables false
set_option maxRecDepth 100000
set_option maxHeartbeats 2000000
namespace Go.Proofs.Ytnhfobhdbablaaa
open Go
attribute [local irreducible] AW AVle ASle RowLe
def kU6 : Kd Int := ⟨fun n => .val (.int .u64 n), AV.int, fun _ => rfl⟩
@[go_sem] theorem kU6_ok (n : Int) : kU6.ok (.val (.int .u64 n)) = True := eq_true (kU6.ok_enc n)
@[go_sem] theorem kU6_dec (n : Int) : kU6.dec (.val (.int .u64 n)) = n := rfl
@[go_sem] theorem kU6_enc (n : Int) : kU6.enc n = .val (.int .u64 n) := rfl
def sMul : Spec := Spec.f2 kU6 kU6 (fun a b => a = 1 ∧ 0 ≤ b ∧ b ≤ 100000000) (fun _ b => tu2 (kU6.enc 0) (kU6.enc b))
theorem okMul : SpecOK Try.prog 84 sMul := by
  refine SpecOK.raw Try.func84 rfl (by decide) ?_
  intro args hp w L vs hL ha
  match args, hp with
  | [x, y], hp =>
    obtain ⟨h1, h2, h3, h4, h5⟩ := hp
    cases ha with
    | cons hx hr => cases hr with
      | cons hy hr => cases hr with
        | nil =>
          have ex := okGet h1 hx
          have ey := okGet h2 hy
          obtain rfl := ex
          obtain rfl := ey
          obtain ⟨b, hb⟩ : ∃ b : Nat, kU6.dec y = (b : Int) := ⟨(kU6.dec y).toNat, by omega⟩
          rw [h3, hb]
          refine (Calls.mono (Try.bits_Mul 1 b (by omega) (by omega) w) ?_)
          rintro e w' ⟨rfl, rfl⟩
          refine ⟨_, rfl, Fr.refl _ _, ?_⟩
          show Rep w' noEnv L (tu2 (kU6.enc 0) (kU6.enc (kU6.dec y))) _
          rw [hb, show 1 * b / 18446744073709551616 = 0 by omega, show 1 * b % 18446744073709551616 = b by omega]
          refine ⟨_, rfl, rfl, fun j hj => ?_⟩
          match j, hj with
          | 0, _ => exact ⟨_, rfl, rfl⟩
          | 1, _ => exact ⟨_, rfl, rfl⟩
/-- So many of these, and noughts. -/
def fillR (n k : Nat) (a : Int) : List Int := List.replicate k a ++ List.replicate (n - k) 0
theorem fill_at {n k i : Nat} (a : Int) (hk : k ≤ n) (hi : i < n) : (fillR n k a).getD i 0 = if i < k then a else 0 := by
  unfold fillR
  by_cases h : i < k
  · rw [if_pos h]
    simp [List.getD, List.getElem?_append, h]
  · rw [if_neg h]
    simp [List.getD, List.getElem?_append, h, show i - k < n - k by omega]
def rowF (n k : Nat) (a : Int) : Row := .sl 0 3 1 n fun i => eI.enc ((fillR n k a).getD i 0)
theorem fill_cp {n k m : Nat} {a : Int} {cc dd : Nat → Nat → AV} (hk : k + m ≤ n) (hc : ∀ i, i < n → cc i 0 = .val (.int .i64 (if i < k then a else 0))) (hd : ∀ i, i < m → dd i 0 = .val (.int .i64 a)) : RowLe (.sl 0 3 1 n (cpC cc k m dd)) (rowF n (k + m) a) := by
  refine RowLe.sl rfl fun i hi j hj => AVle.of_eq ?_
  obtain rfl : j = 0 := by omega
  show _ = AV.val (.int .i64 ((fillR n (k + m) a).getD i 0))
  rw [fill_at a hk hi]
  unfold cpC
  by_cases h : k ≤ i ∧ i < k + m
  · rw [if_pos h, if_pos h.2, hd _ (by omega)]
  · rw [if_neg h, hc i hi]
    by_cases h2 : i < k
    · rw [if_pos h2, if_pos (by omega)]
    · rw [if_neg h2, if_neg (by omega)]
theorem info_int : (Try.prog.info? 3).map (·.size) = some 1 := by kernel_rfl
def sRepI : Spec := Spec.f2 (kL eI) kI (fun x n => x.length = 1 ∧ 0 ≤ n ∧ n ≤ 100000000) (fun x n => sL eI (List.replicate n.toNat (x.getD 0 0)))
theorem okRepI : SpecOK Try.prog 59 sRepI := by
  refine SpecOK.f2 Try.func59 rfl (by decide) Try.results59 Try.ntmps59 (by decide) fun x n ⟨hx, hn0, hn1⟩ => ?_
  have hΓ : GOK Try.prog (gam [(84, sMul)]) := (.cons okMul .nil)
  obtain ⟨n, rfl⟩ : ∃ k : Nat, n = k := ⟨n.toNat, by omega⟩
  have hw1 : IntKind.u64.wrap (n : Int) = n := by rw [IntKind.wrap_u64]; omega
  have hw2 : IntKind.u64.wrap 1 = 1 := by decide
  refine AW.of hΓ mixed [6, 99999, 200009] _ _ _ rfl ?_
  simp only [go_sem, sMul, hx, hw1, hw2]
  refine ⟨fun h => absurd h (by omega), fun _ => ⟨⟨hn0, hn1⟩, fun h => ?_, fun h => ?_⟩⟩
  · exact absurd h (by omega)
  refine ⟨by omega, by omega, ?_⟩
  obtain ⟨a, rfl⟩ : ∃ a, x = [a] := List.length_eq_one_iff.1 hx
  refine AW.cut ⟨[(0, sL eI [a]), (7, .ow 0 0 n)], [(0, rowF n 0 a)], 48, 1, 1, []⟩ ?_ ?_
  · simp only [go_sem, sMul]
    refine RowLe.sl rfl fun i hi j hj => AVle.of_eq ?_
    obtain rfl : j = 0 := by omega
    show _ = AV.val (.int .i64 ((fillR n 0 a).getD i 0))
    rw [fill_at a (Nat.zero_le _) hi]
    rfl
  refine AW.seqTo (fun _ : Unit => Sh.st ⟨[(7, .ow 0 0 n), (8, .val (.int .i64 (min 1 n : Nat)))], [(0, rowF n (min 1 n) a)], 48, 1, 1, []⟩) ?_ fun _ => ?_
  · refine AW.regionO hΓ [false, false, true] ?_
    simp only [go_sem, sMul]
    rcases Nat.eq_zero_or_pos n with rfl | hn
    · refine copy_zero rfl Try.underlying66 info_int rfl rfl (by decide : 33 < 48) ?_
      simp only [go_sem, sMul]
      exact ⟨(), toFits (by
        simp only [go_sem, sMul]
        exact ⟨rfl, RowLe.refl _⟩)⟩
    · refine copy_sn rfl Try.underlying66 info_int rfl rfl hn (by simp) rfl (by decide : 33 < 48) ?_
      have e : Nat.min [a].length n = 1 := Nat.min_eq_left hn
      have e2 : min 1 n = 1 := Nat.min_eq_left hn
      rw [e, e2]
      simp only [go_sem, sMul]
      exact ⟨(), toFits (by
        simp only [go_sem, sMul]
        exact fill_cp (k := 0) (m := 1) (by omega) (fun i hi => by rw [fill_at a (Nat.zero_le _) hi]; rfl) (fun i hi => by
          obtain rfl : i = 0 := by omega
          rfl))⟩
  refine AW.of hΓ mixed [200009] _ _ _ rfl ?_
  simp only [go_sem, sMul]
  refine AW.round (α := { k : Nat // k ≤ n ∧ (0 < n → 0 < k) }) (fun k => ⟨[(7, .ow 0 0 n), (8, .val (.int .i64 k.1))], [(0, rowF n k.1 a)], 48, 1, 1, []⟩) (fun k => n - k.1) ⟨min 1 n, by omega, by omega⟩ ?_ ?_
  · simp only [go_sem, sMul]
    exact RowLe.refl _
  · rintro ⟨k, hk, hk0⟩
    refine AW.of hΓ mixed [99999, 200009] _ _ _ rfl ?_
    simp only [go_sem, sMul]
    refine ⟨fun hlt => ?_, fun hge => ?_⟩
    · refine AW.drawZ hΓ mixed 3 [4, 5, 6] [6] [] (by kernel_rfl) ?_
      simp only [go_sem, sMul]
      refine ⟨by omega, slice_ob (n := n) (k := k) (by rfl) Try.underlying66 cells3 (by rfl) (by rfl) (by omega) (by omega) (by exact (by decide : 41 < 48)) ?_⟩
      simp only [go_sem, sMul]
      refine copy_ob (k := k) (l := k) (n := n) (p := 0) (v := 0) (q := 0) (by rfl) Try.underlying66 info_int (by rfl) (by rfl) hk hk (by rfl) (by exact (by decide : 45 < 48)) ?_
      simp only [go_sem, sMul]
      have hm : k.min (n - k) ≤ k := Nat.min_le_left _ _
      have hm2 : k.min (n - k) ≤ n - k := Nat.min_le_right _ _
      have hm3 : 0 < k.min (n - k) := by
        rcases Nat.le_total k (n - k) with h | h
        · rw [show k.min (n - k) = k from Nat.min_eq_left h]; omega
        · rw [show k.min (n - k) = n - k from Nat.min_eq_right h]; omega
      refine ⟨by omega, ⟨k + k.min (n - k), by omega, by omega⟩, ⟨by dsimp only; omega, fill_cp (by omega) (fun i hi => ?_) (fun i hi => ?_)⟩, by dsimp only; omega⟩
      · show AV.val (.int .i64 ((fillR n k a).getD i 0)) = _
        rw [fill_at a hk hi]
      · show AV.val (.int .i64 ((fillR n k a).getD i 0)) = _
        rw [fill_at a hk (by omega), if_pos (by omega)]
    · obtain rfl : k = n := by omega
      have e : fillR k k a = List.replicate k a := by simp [fillR]
      simp only [rowF, e]
      exact ⟨⟨trivial, Nat.le_refl _, fun i _ j _ => rfl⟩, vw_all (E := eI) rfl rfl (by simp)⟩
def sAllR : Spec := Spec.f2 (kL ePt) kI (fun d _ => d.length < 100000000 ∧ (∀ p ∈ d, okPt p) ∧ widD d ≤ 90000000000) (fun d n => tu2 (kS.enc (allR d n).1) (kI.enc (allR d n).2))
theorem okAllR : SpecOK Try.prog 29 sAllR := by
  refine SpecOK.f2 Try.func29 rfl (by decide) Try.results29 Try.ntmps29 (by decide) fun d n ⟨hd, hp, hw⟩ => ?_
  have hΓ : GOK Try.prog (gam [(21, sRightD), (57, sIsSide), (22, sConflD), (59, sRepI), (58, sTextR)]) := (.cons okRightD (.cons okIsSide (.cons okConflD (.cons okRepI (.cons okTextR .nil)))))
  have hcl := confl_le d
  unfold allR
  by_cases hr : rightD d = false
  · rw [if_pos hr]
    refine AW.of hΓ mixed [] _ _ _ rfl ?_
    simp only [go_sem, sRightD, sIsSide, sConflD, sRepI, sTextR, hr]
    exact ⟨hd, hp⟩
  have hr' : rightD d = true := by simpa using hr
  rw [if_neg hr]
  by_cases hs : sideOK n = false
  · rw [if_pos hs]
    refine AW.of hΓ mixed [] _ _ _ rfl ?_
    simp only [go_sem, sRightD, sIsSide, sConflD, sRepI, sTextR, hr', hs]
    exact ⟨hd, hp⟩
  · rw [if_neg hs]
    have hs' : sideOK n = true := by simpa using hs
    refine AW.of hΓ mixed [] _ _ _ rfl ?_
    simp only [go_sem, sRightD, sIsSide, sConflD, sRepI, sTextR, hr', hs']
    exact ⟨⟨hd, hp⟩, hd, ⟨by omega, by omega⟩, hd, by omega, hw⟩
end Go.Proofs.Ytnhfobhdbablaaa
set_option linter.unusedSimpArgs false
set_option linter.unusedVariables false
set_option maxRecDepth 100000
set_option maxHeartbeats 2000000
namespace Go.Proofs.Ytnhfobhdbablaaa
open Go
attribute [local irreducible] AW AVle ASle RowLe
def sRefRunT : Spec := Spec.f1 kS (fun s => s.length ≤ 100000000) (fun s => kI.enc (longL (splitL s)))
def lenP (p : Pt) : Nat := p.2.2.2.2.1.length + p.2.2.2.2.2.1.length + p.2.2.2.2.2.2.1.length + p.2.2.2.2.2.2.2.1.length + p.1.length + p.2.1.length + p.2.2.1.length
def sumP (l : List Pt) : Nat := (l.map lenP).sum
def fewD (l : List Pt) : Bool := decide (l.length ≤ 60) && decide (sumP l ≤ 3000)
theorem sumP_snoc (l : List Pt) (p : Pt) : sumP (l ++ [p]) = sumP l + lenP p := by simp [sumP]
theorem sumP_mem {l : List Pt} {p : Pt} (h : p ∈ l) : lenP p ≤ sumP l := by
  induction l with
  | nil => cases h
  | cons t l ih =>
    have e : sumP (t :: l) = lenP t + sumP l := by simp [sumP]
    rcases List.mem_cons.1 h with rfl | h
    · omega
    · have := ih h
      omega
def rchP (m : Nat) (p : Pt) : Prop := (p.1.length ≤ m ∧ p.2.1.length ≤ m ∧ p.2.2.1.length ≤ m) ∧ p.2.2.2.2.1.length ≤ m ∧ p.2.2.2.2.2.1.length ≤ m ∧ p.2.2.2.2.2.2.1.length ≤ m ∧ p.2.2.2.2.2.2.2.1.length ≤ m
theorem sumP_bnd {m : Nat} : ∀ {l : List Pt}, (∀ p ∈ l, rchP m p) → sumP l ≤ l.length * (7 * m)
  | [], _ => by simp [sumP]
  | p :: l, h => by
    have h1 := h p (List.mem_cons_self ..)
    have h2 := sumP_bnd fun x hx => h x (List.mem_cons_of_mem p hx)
    have e : sumP (p :: l) = lenP p + sumP l := by simp [sumP]
    obtain ⟨⟨g1, g2, g3⟩, g4, g5, g6, g7⟩ := h1
    rw [e, List.length_cons, Nat.succ_mul]
    unfold lenP
    omega
def sFewD : Spec := Spec.f1 (kL ePt) (fun l => l.length ≤ 140737488351232 ∧ ∀ p ∈ l, rchP 140737488351232 p) (fun l => kB.enc (fewD l))
theorem okFewD : SpecOK Try.prog 8 sFewD := by
  refine SpecOK.f1 Try.func8 rfl (by decide) Try.results8 Try.ntmps8 (by decide) fun l ⟨hl, hs⟩ => ?_
  have hΓ : GOK Try.prog (gam []) := GOK.nil
  refine AW.of hΓ mixed [] _ _ _ rfl ?_
  simp only [go_sem]
  refine AW.round (α := { x : Nat × Int × Nat // x.1 ≤ l.length ∧ (x.1 ≤ 60 → x.2.1 = sumP (l.take x.1)) })
    (fun x => ⟨[(0, sL ePt l), (3, .val (.int .i64 x.1.2.1)), (4, .val (.int .i64 x.1.1))], [], 52, 0, x.1.2.2, []⟩) (fun x => l.length - x.1.1) ⟨(0, 0, 0), Nat.zero_le _, fun _ => by simp [sumP]⟩ ?_ ?_
  · simp only [go_sem]
  · rintro ⟨⟨i, u, nx⟩, hi, hu⟩
    simp only at hi hu
    refine AW.of hΓ mixed [5, 99999] _ _ _ rfl ?_
    simp only [go_sem]
    refine ⟨fun hlt => ⟨by omega, ?_⟩, fun hge => ?_⟩
    · refine AW.regionW hΓ [false, false, false, false, true, false, false, false, true, false, false, false, true, false, false, false, true, false, false, false, true, false, false, false, true, false, false, false, true] ?_
      simp only [go_sem]
      have hlt' : i < l.length := by omega
      have h1 : rchP 140737488351232 (l.getD i ePt.dflt) := by
        rw [gd_lt l _ hlt']
        exact hs _ (List.getElem_mem _)
      have h2 : sumP (l.take i) ≤ (l.take i).length * (7 * 140737488351232) := sumP_bnd fun s h => hs s (List.mem_of_mem_take h)
      rw [List.length_take] at h2
      have e : sumP (l.take (i + 1)) = sumP (l.take i) + lenP (l.getD i ePt.dflt) := by rw [take_snoc l ePt.dflt hlt', sumP_snoc]
      generalize l.getD i ePt.dflt = p at *
      obtain ⟨⟨g1, g2, g3⟩, g4, g5, g6, g7⟩ := h1
      refine ⟨by omega, ⟨(i + 1, IntKind.i64.wrap (IntKind.i64.wrap (IntKind.i64.wrap (IntKind.i64.wrap (IntKind.i64.wrap (IntKind.i64.wrap (IntKind.i64.wrap (u + (p.2.2.2.2.1.length : Int)) + (p.2.2.2.2.2.1.length : Int)) + (p.2.2.2.2.2.2.1.length : Int)) + (p.2.2.2.2.2.2.2.1.length : Int)) + (p.1.length : Int)) + (p.2.1.length : Int)) + (p.2.2.1.length : Int)), nx + 1), by dsimp only; omega, fun hh => ?_⟩, ⟨Nat.le_refl _, rfl, by dsimp only; omega⟩, by dsimp only; omega⟩
      dsimp only at hh ⊢
      have h3 := hu (by omega)
      have h4 : min i l.length * (7 * 140737488351232) ≤ 60 * (7 * 140737488351232) := Nat.mul_le_mul_right _ (by omega)
      rw [wrap_i64 (u + _) (by omega), wrap_i64 (u + _ + _) (by omega), wrap_i64 (u + _ + _ + _) (by omega), wrap_i64 (u + _ + _ + _ + _) (by omega), wrap_i64 (u + _ + _ + _ + _ + _) (by omega), wrap_i64 (u + _ + _ + _ + _ + _ + _) (by omega), wrap_i64 (u + _ + _ + _ + _ + _ + _ + _) (by omega), e, h3]
      unfold lenP
      omega
    · refine Bool.eq_iff_iff.2 ?_
      obtain rfl : i = l.length := by omega
      rw [List.take_length] at hu
      simp only [fewD, Bool.and_eq_true, decide_eq_true_eq]
      exact ⟨fun ⟨h1, h2⟩ => ⟨by omega, by have := hu (by omega); omega⟩, fun ⟨h1, h2⟩ => ⟨by omega, by have := hu (by omega); omega⟩⟩
def sToldD : Spec := Spec.f0 (kB.enc true)
theorem longT_two (a b : BS) : longT [a, b] = max (longL (splitL a)) (longL (splitL b)) := by
  unfold longT
  simp
theorem sumT_sumP (l : List Pt) : sumT l ≤ sumP l := by
  induction l with
  | nil => simp [sumT, sumP]
  | cons p l ih =>
    have e1 : sumT (p :: l) = (txP p).length + sumT l := by simp [sumT]
    have e2 : sumP (p :: l) = lenP p + sumP l := by simp [sumP]
    have : (txP p).length ≤ lenP p := by unfold lenP txP; omega
    omega
theorem few_le {l : List Pt} (h : fewD l = true) : l.length ≤ 60 ∧ sumP l ≤ 3000 ∧ sumT l ≤ 3000 := by
  have := sumT_sumP l
  simp only [fewD, Bool.and_eq_true, decide_eq_true_eq] at h
  omega
def sDocWidths : Spec := Spec.f3 kI kS kS (fun n _ _ => -9223372036854775808 ≤ n ∧ n ≤ 9223372036854775807) (fun _ _ _ => kB.enc true)
def sDocJoins : Spec := Spec.f2 (kL ePt) (kL ePt) (fun d e => (d.length ≤ 140737488351232 ∧ ∀ p ∈ d, rchP 140737488351232 p) ∧ e.length ≤ 140737488351232 ∧ ∀ p ∈ e, rchP 140737488351232 p) (fun _ _ => kB.enc true)
end Go.Proofs.Ytnhfobhdbablaaa
set_option linter.unusedSimpArgs false
set_option linter.unusedVariables false
set_option maxRecDepth 100000
set_option maxHeartbeats 2000000
namespace Go.Proofs.Ytnhfobhdbablaaa
open Go
attribute [local irreducible] AW AVle ASle RowLe
def d11 : List Pt := [([], [], [], false, [120, 10], [], [], [], false), ([], [], [], true, [], [97, 10], [], [98, 10], false)]
def sToldR : Spec := Spec.f0 (kB.enc true)
theorem okToldR : SpecOK Try.prog 27 sToldR := by
  refine SpecOK.f0 Try.func27 rfl (by decide) Try.results27 Try.ntmps27 ?_
  have hΓ : GOK Try.prog (gam [(29, sAllR), (31, sEachR), (33, sOneR)]) := (.cons okAllR (.cons okEachR (.cons okOneR .nil)))
  have e1 : allR [([], [], [], false, [120, 10], [], [], [], false), ([], [], [], true, [], [97, 10], [], [98, 10], false)] 3 = ([120, 10, 98, 10], 0) := by decide
  have e2 : allR [([], [], [], false, [120, 10], [], [], [], false), ([], [], [], true, [], [97, 10], [], [98, 10], false)] 2 = ([], 1) := by decide
  have e3 : eachR [([], [], [], false, [120, 10], [], [], [], false), ([], [], [], true, [], [97, 10], [], [98, 10], false)] [1] = ([120, 10, 97, 10], 0) := by decide
  have e4 : oneD [([], [], [], false, [120, 10], [], [], [], false), ([], [], [], true, [], [97, 10], [], [98, 10], false)] 0 1 = ([([], [], [], false, [120, 10, 97, 10], [], [], [], false)], 0) := by decide
  have e5 : ∀ p ∈ [(([], [], [], false, [120, 10], [], [], [], false) : Pt), ([], [], [], true, [], [97, 10], [], [98, 10], false)], okPt p := by
    intro p hp
    simp only [List.mem_cons, List.not_mem_nil, or_false] at hp
    rcases hp with rfl | rfl <;> (unfold okPt; decide)
  have e6 : widD [([], [], [], false, [120, 10], [], [], [], false), ([], [], [], true, [], [97, 10], [], [98, 10], false)] ≤ 100000000 := by decide
  have e7 : widD [([], [], [], false, [120, 10], [], [], [], false), ([], [], [], true, [], [97, 10], [], [98, 10], false)] ≤ 90000000000 := by decide
  refine AW.of hΓ mixed [] _ _ _ rfl ?_
  simp only [go_sem, sAllR, sEachR, sOneR, e1, e2, e3, e4, e5, e6, e7]
  have h1 := e5 _ (List.mem_cons_self ..)
  have h2 := e5 _ (List.mem_cons_of_mem _ (List.mem_cons_self ..))
  exact ⟨⟨h1, h2⟩, ⟨h1, h2⟩, ⟨h1, h2⟩, ⟨h1, h2⟩, by unfold gI; decide⟩
theorem wid_sumP (d : List Pt) : widD d ≤ sumP d := by
  induction d with
  | nil => exact Nat.le_refl _
  | cons p d ih =>
    have e1 : widD (p :: d) = widP p + widD d := by unfold widD; rw [List.map_cons, List.sum_cons]
    have e2 : sumP (p :: d) = lenP p + sumP d := by simp [sumP]
    have : widP p ≤ lenP p := by unfold widP lenP; omega
    omega
/-- Parts of which there are few are small. -/
theorem few_okPt {d : List Pt} (h : fewD d = true) : d.length < 100000000 ∧ (∀ p ∈ d, okPt p) ∧ (∀ p ∈ d, okPr p) ∧ widD d ≤ 3000 := by
  obtain ⟨h1, h2, _⟩ := few_le h
  refine ⟨by omega, fun p hp => ?_, fun p hp => ?_, Nat.le_trans (wid_sumP d) h2⟩
  · have := sumP_mem hp
    unfold lenP at this
    unfold okPt txP
    omega
  · have := sumP_mem hp
    unfold lenP at this
    unfold okPr txP
    omega
def sResolveAlls : Spec := Spec.f3 (kL ePt) kI (kL eI) (fun d _ s => (d.length ≤ 140737488351232 ∧ ∀ p ∈ d, rchP 140737488351232 p) ∧ s.length ≤ 140737488351232) (fun _ _ _ => kB.enc true)
theorem okResolveAlls : SpecOK Try.prog 6 sResolveAlls := by
  refine SpecOK.f3 Try.func6 rfl (by decide) Try.results6 Try.ntmps6 (by decide) fun d n ss ⟨⟨hd1, hd2⟩, hs⟩ => ?_
  have hΓ : GOK Try.prog (gam [(8, sFewD), (27, sToldR), (28, sToD), (29, sAllR), (30, sRefAll), (31, sEachR), (32, sRefEach), (17, sFromD), (16, sSameD)]) := (.cons okFewD (.cons okToldR (.cons okToD (.cons okAllR (.cons okRefAll (.cons okEachR (.cons okRefEach (.cons okFromD (.cons okSameD .nil)))))))))
  refine AW.of hΓ mixed [3] _ _ _ rfl ?_
  simp only [go_sem, sFewD, sToldR, sToD, sAllR, sRefAll, sEachR, sRefEach, sFromD, sSameD]
  refine ⟨⟨hd1, hd2⟩, fun hf => ⟨⟨by omega, by omega⟩, ?_⟩⟩
  have hf : fewD d = true := by simpa using hf
  obtain ⟨f1, f2, f3, f4⟩ := few_okPt hf
  refine AW.cut ⟨[(0, sL ePt d), (1, .val (.int .i64 n)), (2, sL eI (ss.take 100))], [], 78, 0, 0, []⟩ ?_ ?_
  · simp only [go_sem, sFewD, sToldR, sToD, sAllR, sRefAll, sEachR, sRefEach, sFromD, sSameD]
    exact take_le eI ss rfl rfl (by omega)
  have hl : (ss.take 100).length ≤ 100 := by simp; omega
  generalize ss.take 100 = s at *
  refine AW.of hΓ mixed [] _ _ _ rfl ?_
  simp only [go_sem, sFewD, sToldR, sToD, sAllR, sRefAll, sEachR, sRefEach, sFromD, sSameD]
  exact ⟨f1, ⟨f1, f2, by omega⟩, ⟨f1, f3, by omega⟩, ⟨⟨f1, f2, by omega⟩, by omega⟩, ⟨⟨f1, f3, by omega⟩, by omega⟩, f1, by omega⟩
theorem sumP_app (a b : List Pt) : sumP (a ++ b) = sumP a + sumP b := by simp [sumP]
theorem sumP_one (p : Pt) : sumP [p] = lenP p := by simp [sumP]
theorem len_textP (t : BS) : lenP (textP t) = t.length := by
  show t.length + 0 + 0 + 0 + 0 + 0 + 0 = _
  omega
theorem join_sumP (out : List Pt) (p : Pt) : sumP (joinR out p) ≤ sumP out + lenP p := by
  cases hp : isTextD p with
  | false => rw [join_no hp, sumP_app, sumP_one]; exact Nat.le_refl _
  | true =>
    rcases join_cases out p hp with ⟨_, e⟩ | ⟨_, ⟨m, q, rfl, hq, e⟩ | ⟨_, e⟩⟩
    · rw [e]; omega
    · rw [e, sumP_app, sumP_app, sumP_one, sumP_one, len_textP, List.length_append]
      have h1 : (txP q).length ≤ lenP q := by unfold lenP txP; omega
      have h2 : (txP p).length ≤ lenP p := by unfold lenP txP; omega
      omega
    · rw [e, sumP_app, sumP_one]; exact Nat.le_refl _
theorem fold_sumP : ∀ (l out : List Pt), sumP (l.foldl joinR out) ≤ sumP out + sumP l
  | [], _ => by simp [sumP]
  | p :: l, out => by
    have h1 := fold_sumP l (joinR out p)
    have h2 := join_sumP out p
    have h3 : sumP (p :: l) = lenP p + sumP l := by simp [sumP]
    rw [List.foldl_cons]
    omega
theorem of_sumP (l : List Pt) : sumP (ofD l) ≤ sumP l := by
  rw [ofD_eq]
  have := fold_sumP l []
  have e : sumP [] = 0 := rfl
  omega
theorem sumP_set : ∀ (d : List Pt) (k : Nat) (t : BS), t.length ≤ lenP (d.getD k ePt.dflt) → sumP (d.set k (textP t)) ≤ sumP d
  | [], _, _, _ => Nat.le_refl _
  | p :: d, 0, t, h => by
    have h : t.length ≤ lenP p := h
    have e : ∀ q, sumP (q :: d) = lenP q + sumP d := fun q => by simp [sumP]
    rw [List.set_cons_zero, e, e, len_textP]
    omega
  | p :: d, k + 1, t, h => by
    have ih := sumP_set d k t (by simpa using h)
    have e : ∀ l, sumP (p :: l) = lenP p + sumP l := fun l => by simp [sumP]
    rw [List.set_cons_succ, e, e]
    omega
theorem sum_okPt {d : List Pt} (h : sumP d ≤ 100000000) : ∀ p ∈ d, okPt p := fun p hp => by
  have := sumP_mem hp
  unfold lenP at this
  unfold okPt txP
  omega
theorem one_small {d : List Pt} {n m : Int} (h : fewD d = true) : (oneD d n m).1.length ≤ 60 ∧ ∀ p ∈ (oneD d n m).1, okPt p := by
  obtain ⟨h1, h2, _⟩ := few_le h
  have no : ([] : List Pt).length ≤ 60 ∧ ∀ p ∈ ([] : List Pt), okPt p := ⟨by simp, fun p hp => by simp at hp⟩
  unfold oneD
  split
  · exact no
  · split
    · exact no
    · split
      · exact no
      · split
        · exact no
        · generalize (placeG d 0 n).toNat = k
          have hs := ofS_len (d.getD k ePt.dflt) m
          have h3 := sumP_set d k (ofS (d.getD k ePt.dflt) m).1 (by unfold lenP; omega)
          have h4 := of_sumP (d.set k (textP (ofS (d.getD k ePt.dflt) m).1))
          have h5 := (ofD_sum (d.set k (textP (ofS (d.getD k ePt.dflt) m).1))).2
          rw [List.length_set] at h5
          exact ⟨by dsimp only; omega, sum_okPt (by dsimp only; omega)⟩
def sResolveOnes : Spec := Spec.f3 (kL ePt) kI kI (fun d n _ => (d.length ≤ 140737488351232 ∧ ∀ p ∈ d, rchP 140737488351232 p) ∧ gI n) (fun _ _ _ => kB.enc true)
theorem okResolveOnes : SpecOK Try.prog 7 sResolveOnes := by
  refine SpecOK.f3 Try.func7 rfl (by decide) Try.results7 Try.ntmps7 (by decide) fun d n m ⟨⟨hd1, hd2⟩, hn⟩ => ?_
  have hΓ : GOK Try.prog (gam [(8, sFewD), (27, sToldR), (28, sToD), (33, sOneR), (34, sRefOneR), (17, sFromD), (16, sSameD), (21, sRightD)]) := (.cons okFewD (.cons okToldR (.cons okToD (.cons okOneR (.cons okRefOneR (.cons okFromD (.cons okSameD (.cons okRightD .nil))))))))
  have ho := one_right (d := d) (n := n) (side := m)
  refine AW.of hΓ mixed [] _ _ _ rfl ?_
  simp only [go_sem, sFewD, sToldR, sToD, sOneR, sRefOneR, sFromD, sSameD, sRightD]
  refine ⟨⟨hd1, hd2⟩, fun hf => ?_⟩
  have hf : fewD d = true := by simpa using hf
  obtain ⟨f1, f2, f3, f4⟩ := few_okPt hf
  obtain ⟨g1, g2⟩ := one_small (n := n) (m := m) hf
  refine ⟨f1, ⟨f1, f2, by omega, hn⟩, ⟨f1, f3, by omega⟩, by omega, by omega, fun _ => ⟨by omega, g2⟩, fun h => ?_, fun _ => f1, fun _ => by omega, ?_⟩
  · rw [decide_eq_false h]; rfl
  · by_cases h : (oneD d n m).2 = 0
    · rw [ho h, Bool.or_true]
    · rw [decide_eq_true h, Bool.true_or]
end Go.Proofs.Ytnhfobhdbablaaa
