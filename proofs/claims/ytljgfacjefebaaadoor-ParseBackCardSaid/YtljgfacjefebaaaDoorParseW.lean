/-
  parse: a reader's steps.
-/
import Derived.Test.YtljgfacjefebaaaDoorParseP
set_option linter.unusedSimpArgs false
set_option linter.unusedVariables false
set_option maxRecDepth 100000
set_option maxHeartbeats 2000000
namespace Go.Proofs.YtljgfacjefebaaaDoor
open Go
/-- The text; from where, at where; behind which marker; the conflict; the Parts. -/
abbrev Rs := BS × Nat × Nat × Int × Pt × List Pt
def rdC (x : Rs) (r u : Nat) : Nat → AV := fun j => if j = 0 then .st x.1 else if j = 1 then .val (.int .i64 x.2.1) else if j = 2 then .val (.int .i64 x.2.2.1) else if j = 3 then .val (.int .u8 x.2.2.2.1) else if j < 13 then ePt.enc x.2.2.2.2.1 (j - 4) else .ow r u x.2.2.2.2.2.length
section
variable (x : Rs) (r u : Nat)
@[go_sem] theorem rdC0 : rdC x r u 0 = .st x.1 := rfl
@[go_sem] theorem rdC1 : rdC x r u 1 = .val (.int .i64 x.2.1) := rfl
@[go_sem] theorem rdC2 : rdC x r u 2 = .val (.int .i64 x.2.2.1) := rfl
@[go_sem] theorem rdC3 : rdC x r u 3 = .val (.int .u8 x.2.2.2.1) := rfl
@[go_sem] theorem rdC13 : rdC x r u 13 = .ow r u x.2.2.2.2.2.length := rfl
@[go_sem] theorem rdC4 : rdC x r u 4 = .st x.2.2.2.2.1.1 := rfl
@[go_sem] theorem rdC5 : rdC x r u 5 = .st x.2.2.2.2.1.2.1 := rfl
@[go_sem] theorem rdC6 : rdC x r u 6 = .st x.2.2.2.2.1.2.2.1 := rfl
@[go_sem] theorem rdC7 : rdC x r u 7 = .val (.bool x.2.2.2.2.1.2.2.2.1) := rfl
@[go_sem] theorem rdC8 : rdC x r u 8 = .st x.2.2.2.2.1.2.2.2.2.1 := rfl
@[go_sem] theorem rdC9 : rdC x r u 9 = .st x.2.2.2.2.1.2.2.2.2.2.1 := rfl
@[go_sem] theorem rdC10 : rdC x r u 10 = .st x.2.2.2.2.1.2.2.2.2.2.2.1 := rfl
@[go_sem] theorem rdC11 : rdC x r u 11 = .st x.2.2.2.2.1.2.2.2.2.2.2.2.1 := rfl
@[go_sem] theorem rdC12 : rdC x r u 12 = .val (.bool x.2.2.2.2.1.2.2.2.2.2.2.2.2) := rfl
@[go_sem] theorem rdCc (j : Nat) (h : j < 9) : rdC x r u (4 + j) = ePt.enc x.2.2.2.2.1 j := by
  unfold rdC
  rw [if_neg (by omega), if_neg (by omega), if_neg (by omega), if_neg (by omega), if_pos (by omega), Nat.add_sub_cancel_left]
end
theorem rd_row {v : Nat} {t : TypeId} {c : Nat → AV} {x : Rs} {r u : Nat} (h0 : c 0 = rdC x r u 0) (h1 : c 1 = rdC x r u 1) (h2 : c 2 = rdC x r u 2) (h3 : c 3 = rdC x r u 3) (h4 : c 4 = rdC x r u 4) (h5 : c 5 = rdC x r u 5) (h6 : c 6 = rdC x r u 6) (h7 : c 7 = rdC x r u 7)
    (h8 : c 8 = rdC x r u 8) (h9 : c 9 = rdC x r u 9) (h10 : c 10 = rdC x r u 10) (h11 : c 11 = rdC x r u 11) (h12 : c 12 = rdC x r u 12) (h13 : c 13 = rdC x r u 13) : RowLe (.box v t 14 c) (.box v t 14 (rdC x r u)) := RowLe.box fun j hj => AVle.of_eq (match j, hj with
  | 0, _ => h0
  | 1, _ => h1
  | 2, _ => h2
  | 3, _ => h3
  | 4, _ => h4
  | 5, _ => h5
  | 6, _ => h6
  | 7, _ => h7
  | 8, _ => h8
  | 9, _ => h9
  | 10, _ => h10
  | 11, _ => h11
  | 12, _ => h12
  | 13, _ => h13)
theorem rowP_le {u n : Nat} {t : TypeId} {l : List Pt} (h : l.length = n) : RowLe (.sl u t 9 l.length fun i => ePt.enc (l.getD i ePt.dflt)) (.sl u t 9 n fun i => ePt.enc (l.getD i ePt.dflt)) := by
  subst h
  exact RowLe.refl _
theorem rd_le (x : Rs) (v r r' u : Nat) : RowLe (.box v 96 14 (rdC x r u)) (.box v 96 14 (rdC x r' u)) := RowLe.box fun j hj => by
  by_cases h : j < 13
  · refine AVle.of_eq ?_
    unfold rdC
    simp only [h, if_true]
  · obtain rfl : j = 13 := by omega
    exact AVle.ow
/-- A reader's step: what is handed in, what it comes to. -/
def sRd (R : List AV → Rs → AV → Rs → Prop) : MSpec := fun args hp top nx K => ∃ (v u : Nat) (xs : List AV) (a : Rs) (r : AV) (b : Rs), args = .pt 0 v 0 :: xs ∧ R xs a r b ∧
  hp = rws [(0, .box v 96 14 (rdC a 1 u)), (1, rowL u 66 ePt a.2.2.2.2.2)] ∧ top = 2 ∧
  ∀ u' nx', (u' = u ∨ nx ≤ u') → nx ≤ nx' → K r (rws [(0, .box v 96 14 (rdC b 1 u')), (1, rowL u' 66 ePt b.2.2.2.2.2)]) 2 nx'
theorem rd_go {R : List AV → Rs → AV → Rs → Prop} {xs : List AV} {a b : Rs} {z : AV} {p q v u : Nat} {hp : Nat → Row} {top nx : Nat} {K : AV → (Nat → Row) → Nat → Nat → Prop} (hd : R xs a z b) (hpq : p ≠ q)
    (hr : RowLe (hp p) (.box v 96 14 (rdC a q u))) (hr2 : RowLe (hp q) (rowL u 66 ePt a.2.2.2.2.2)) (ht : p < top ∧ q < top)
    (hK : ∀ u' nx', (u' = u ∨ nx ≤ u') → nx ≤ nx' → K z (updR (updR hp p (.box v 96 14 (rdC b q u'))) q (rowL u' 66 ePt b.2.2.2.2.2)) top nx') :
    framed (sRd R) (.pt p v 0 :: xs) hp top nx K := by
  have e1 : (hp p).ver = some v := hr.vers.symm
  have e2 : (hp q).ver = some u := hr2.vers.symm
  refine ⟨[p, q], .pt 0 v 0 :: xs, rws [(0, .box v 96 14 (rdC a 1 u)), (1, rowL u 66 ePt a.2.2.2.2.2)], by simp [hpq], by simp; omega, .cons AVle.pt (All2.same xs), rows_2 (hr.trans (rd_le a v q 1 u)) hr2, fun i hi => rws_top (top := 2) (by simp) i (by simpa using hi), v, u, xs, a, z, b, rfl, hd, rfl, rfl, fun u' nx' h1 h3 => ?_⟩
  refine ⟨_, _, AVle.refl _, fun i o ho => ?_, fun o ho => ?_, fun o ho w hv => ?_, hK u' nx' h1 h3⟩
  · match i with
    | 0 =>
      simp only [List.getElem?_cons_zero, Option.some.injEq] at ho
      subst ho
      rw [updR_ne _ _ hpq, updR_at]
      exact rd_le b v 1 q u'
    | 1 =>
      simp only [List.getElem?_cons_succ, List.getElem?_cons_zero, Option.some.injEq] at ho
      subst ho
      rw [updR_at]
      exact RowLe.refl _
    | i + 2 => simp at ho
  · simp only [List.mem_cons, List.not_mem_nil, or_false, not_or] at ho
    rw [updR_ne _ _ ho.2, updR_ne _ _ ho.1]
  · simp only [List.mem_cons, List.not_mem_nil, or_false] at ho
    rcases ho with rfl | rfl
    · rw [updR_ne _ _ hpq, updR_at] at hv
      have : some v = some w := hv
      obtain rfl := Option.some.inj this
      exact .inl e1
    · rw [updR_at] at hv
      have : some u' = some w := hv
      obtain rfl := Option.some.inj this
      rcases h1 with rfl | h1
      · exact .inl e2
      · exact .inr h1
attribute [local irreducible] AW AVle ASle RowLe
def sFollows : Spec := Spec.f2 kU kU (fun _ _ => True) (fun a k => kB.enc (followsI a k))
theorem okFollows : SpecOK Tryd.prog 80 sFollows := by
  refine SpecOK.f2 Tryd.func80 rfl (by decide) Tryd.results80 Tryd.ntmps80 (by decide) fun a k _ => ?_
  have hΓ : GOK Tryd.prog (gam []) := GOK.nil
  by_cases h1 : k = 60
  · subst h1
    refine AW.of hΓ mixed [] _ _ _ rfl ?_
    simp only [go_sem]
    rfl
  by_cases h2 : k = 124
  · subst h2
    refine AW.of hΓ mixed [] _ _ _ rfl ?_
    simp only [go_sem]
    rfl
  by_cases h3 : k = 61
  · subst h3
    refine AW.of hΓ mixed [] _ _ _ rfl ?_
    simp only [go_sem]
    exact ⟨fun h => by rw [decide_eq_false h]; rfl, rfl⟩
  · refine AW.of hΓ mixed [] _ _ _ rfl ?_
    simp only [go_sem, h1, h2, h3]
    simp [followsI, h1, h2, h3]
def sTrimL : Spec := Spec.f2 kS kS (fun a b => a.length ≤ 100000000000 ∧ b = [10]) (fun a _ => kS.enc (cutS a))
theorem okTrimL : SpecOK Tryd.prog 97 sTrimL := by
  refine SpecOK.f2 Tryd.func97 rfl (by decide) Tryd.results97 Tryd.ntmps97 (by decide) fun a b ⟨ha, h⟩ => ?_
  have hΓ : GOK Tryd.prog (gam [(98, sHasSufL)]) := (.cons okHasSufL .nil)
  subst h
  unfold cutS
  refine AW.of hΓ mixed [] _ _ _ rfl ?_
  simp only [go_sem, sHasSufL]
  have hp : endsL a = true → 0 < a.length := fun h => by
    cases a with
    | nil => cases h
    | cons _ _ => simp
  refine ⟨ha, fun h => ?_, fun h => ?_⟩
  · have := hp h
    refine ⟨by omega, by omega, ?_⟩
    rw [if_pos h]
    congr 1
    omega
  · rw [if_neg (by simp [h])]
def sTrimS : Spec := Spec.f2 kS kS (fun a b => a.length ≤ 100000000000 ∧ b = [10]) (fun a _ => kS.enc (cutS a))
theorem okTrimS : SpecOK Tryd.prog 81 sTrimS := by
  refine SpecOK.f2 Tryd.func81 rfl (by decide) Tryd.results81 Tryd.ntmps81 (by decide) fun a b ⟨ha, h⟩ => ?_
  have hΓ : GOK Tryd.prog (gam [(97, sTrimL)]) := (.cons okTrimL .nil)
  subst h
  refine AW.of hΓ mixed [] _ _ _ rfl ?_
  simp only [go_sem, sTrimL]
  exact ha
/-- What came since then. -/
def nowR (a : Rs) : BS := (a.1.take a.2.2.1).drop a.2.1
def goodR (a : Rs) : Prop := a.2.1 ≤ a.2.2.1 ∧ a.2.2.1 ≤ a.1.length ∧ a.1.length ≤ 100000000 ∧ a.2.2.2.2.2.length < 1000000000
def withPs (a : Rs) (ps : List Pt) : Rs := (a.1, a.2.1, a.2.2.1, a.2.2.2.1, a.2.2.2.2.1, ps)
def sPutT0 : MSpec := sRd fun xs a r b => xs = [] ∧ r = .val (.tuple #[]) ∧ goodR a ∧ b = withPs a (a.2.2.2.2.2 ++ [textP (nowR a)])
theorem okPutT0 : MethOK Tryd.prog 63 sPutT0 := by
  refine MethOK.mk Tryd.func63 rfl (by decide) Tryd.results63 Tryd.ntmps63 ?_
  rintro args hp top nx K ⟨v, u, xs, a, r, b, rfl, ⟨rfl, rfl, ⟨g1, g2, g3, g4⟩, rfl⟩, rfl, rfl, hK⟩
  have hΓ : GOK Tryd.prog (gam []) := GOK.nil
  refine ⟨Nat.le_of_ble_eq_true rfl, AW.late ?_⟩
  refine AW.of hΓ mixed [200000] _ _ _ rfl ?_
  simp only [go_sem]
  refine AW.drawT hΓ mixed 20 [] (by decide +kernel) ?_
  simp only [go_sem]
  refine ⟨⟨by omega, by omega, by omega⟩, by omega, _, toFitsV (fun p => p) (l := []) (r := [(0, .box v 96 14 (rdC (withPs a (a.2.2.2.2.2 ++ [textP (nowR a)])) 1 nx)), (1, rowL nx 66 ePt (a.2.2.2.2.2 ++ [textP (nowR a)]))]) (sz := 25) (top := 2) (nx := nx + 1) (df := []) ?_, ?_⟩
  · simp only [go_sem]
    refine ⟨rd_row rfl rfl rfl rfl rfl rfl rfl rfl rfl rfl rfl rfl rfl ?_, ?_⟩
    · exact congrArg (AV.ow 1 nx) (by simp [withPs])
    · refine row_app1 (E := ePt) rfl rfl rfl rfl (by simp) fun j hj => ?_
      match j, hj with
      | 0, _ => exact AVle.refl _
      | 1, _ => exact AVle.refl _
      | 2, _ => exact AVle.refl _
      | 3, _ => exact AVle.refl _
      | 4, _ => exact AVle.refl _
      | 5, _ => exact AVle.refl _
      | 6, _ => exact AVle.refl _
      | 7, _ => exact AVle.refl _
      | 8, _ => exact AVle.refl _
  · exact ⟨rfl, hK nx (nx + 1) (.inr (Nat.le_refl _)) (by omega)⟩
def sPutT : MSpec := framed sPutT0
theorem okPutT : MethOK Tryd.prog 63 sPutT := okPutT0.frame
def withC (a : Rs) (c : Pt) : Rs := (a.1, a.2.1, a.2.2.1, a.2.2.2.1, c, a.2.2.2.2.2)
def sPut0 : MSpec := sRd fun xs a r b => ∃ (m : Mk) (sd : BS), xs = [(kA eMk).enc m, .st sd] ∧ r = .val (.tuple #[]) ∧ goodR a ∧ signI m.1 ∧ b = (a.1, a.2.1, a.2.2.1, a.2.2.2.1, putC a.2.2.2.1 m sd a.2.2.2.2.1, putL a.2.2.2.1 m (nowR a) sd a.2.2.2.2.1 a.2.2.2.2.2)
theorem okPut0 : MethOK Tryd.prog 83 sPut0 := by
  refine MethOK.mk Tryd.func83 rfl (by decide) Tryd.results83 Tryd.ntmps83 ?_
  rintro args hp top nx K ⟨v, u, xs, a, r, b, rfl, ⟨m, sd, rfl, rfl, ⟨g1, g2, g3, g4⟩, hsg, rfl⟩, rfl, rfl, hK⟩
  have hΓ : GOK Tryd.prog (gam [(63, sPutT)]) := (.cons okPutT .nil)
  refine ⟨Nat.le_of_ble_eq_true rfl, AW.late ?_⟩
  obtain ⟨s, fr, at_, af, c, ps⟩ := a
  obtain ⟨k, f, lab⟩ := m
  simp only at g1 g2 g3 g4 hsg hK
  refine AW.of hΓ mixed [0, 200014, 200017] _ _ _ rfl ?_
  simp only [go_sem, sPutT]
  refine AW.cut ⟨[(0, .pt 0 v 0), (2, .st sd), (4, .pt 2 nx 0)], [(0, .box v 96 14 (rdC (s, fr, at_, af, c, ps) 1 u)), (1, rowL u 66 ePt ps), (2, .box nx 42 3 (eMk.enc (k, f, lab)))], 83, 3, nx + 1, []⟩ ?_ ?_
  · simp only [go_sem, sPutT]
    exact ⟨RowLe.refl _, RowLe.refl _, RowLe.refl _⟩
  refine AW.still 4 2 nx 42 3 _ rfl rfl (fun j hj => match j, hj with | 0, _ => rfl | 1, _ => rfl | 2, _ => rfl) ?_
  refine AW.seqTo (fun _ : Unit => Sh.st ⟨[(0, .pt 0 v 0), (2, .st sd), (4, .ps 3 (eMk.enc (k, f, lab)))], [(0, .box v 96 14 (rdC (s, fr, at_, af, putS af sd c, ps) 1 u)), (1, rowL u 66 ePt ps)], 83, 3, nx + 1, []⟩) ?_ fun _ => ?_
  · by_cases h1 : af = 60
    · subst h1
      refine AW.of hΓ mixed [200014, 200017] _ _ _ rfl ?_
      simp only [go_sem, sPutT]
      refine ⟨(), toFitsV (fun p => p) ?_⟩
      simp only [go_sem, sPutT]
      exact ⟨rd_row rfl rfl rfl rfl rfl rfl rfl rfl rfl rfl rfl rfl rfl rfl, RowLe.refl _⟩
    by_cases h2 : af = 124
    · subst h2
      refine AW.of hΓ mixed [200014, 200017] _ _ _ rfl ?_
      simp only [go_sem, sPutT]
      refine ⟨(), toFitsV (fun p => p) ?_⟩
      simp only [go_sem, sPutT]
      exact ⟨rd_row rfl rfl rfl rfl rfl rfl rfl rfl rfl rfl rfl rfl rfl rfl, RowLe.refl _⟩
    by_cases h3 : af = 61
    · subst h3
      refine AW.of hΓ mixed [200014, 200017] _ _ _ rfl ?_
      simp only [go_sem, sPutT]
      refine ⟨(), toFitsV (fun p => p) ?_⟩
      simp only [go_sem, sPutT]
      exact ⟨rd_row rfl rfl rfl rfl rfl rfl rfl rfl rfl rfl rfl rfl rfl rfl, RowLe.refl _⟩
    · refine AW.of hΓ mixed [200014, 200017] _ _ _ rfl ?_
      simp only [go_sem, sPutT, h1, h2, h3]
      refine ⟨(), toFitsV (fun p => p) ?_⟩
      have e : putS af sd c = c := by
        unfold putS
        rw [if_neg h1, if_neg h2, if_neg h3]
      simp only [go_sem, sPutT, e]
      exact ⟨RowLe.refl _, RowLe.refl _⟩
  have hpc : putC af (k, f, lab) sd c = if k = 60 then (lab, [], [], true, [], [], [], [], false) else if k = 124 then setBL (putS af sd c) lab else if k = 62 then setRL (putS af sd c) lab else putS af sd c := rfl
  have hpl : putL af (k, f, lab) (nowR (s, fr, at_, af, c, ps)) sd c ps = if k = 60 then ps ++ [textP ((s.take at_).drop fr)] else if k = 62 then ps ++ [putC af (k, f, lab) sd c] else ps := rfl
  rw [hpl, hpc] at hK
  generalize putS af sd c = d at *
  rcases hsg with rfl | rfl | rfl | rfl
  · rw [if_pos rfl, if_pos rfl] at hK
    refine AW.of hΓ mixed [200014, 200017] _ _ _ rfl ?_
    simp only [go_sem, sPutT]
    refine rd_go (a := (s, fr, at_, af, d, ps)) ⟨rfl, rfl, ⟨g1, g2, g3, g4⟩, rfl⟩ (by decide) (RowLe.refl _) (RowLe.refl _) (by decide) fun u1 n1 q1 h1 => ?_
    simp only [go_sem, sPutT]
    refine ⟨_, toFitsV (fun p => p) (l := []) (r := [(0, .box v 96 14 (rdC (s, fr, at_, af, (lab, [], [], true, [], [], [], [], false), ps ++ [textP ((s.take at_).drop fr)]) 1 u1)), (1, rowL u1 66 ePt (ps ++ [textP ((s.take at_).drop fr)]))]) (sz := 83) (top := 2) (nx := n1) (df := []) ?_, ?_⟩
    · simp only [go_sem, sPutT]
      exact ⟨rd_row rfl rfl rfl rfl rfl rfl rfl rfl rfl rfl rfl rfl rfl (congrArg (AV.ow 1 u1) (by simp [withPs])), rowP_le (by simp [withPs])⟩
    · exact ⟨rfl, hK u1 n1 (by omega) (by omega)⟩
  · rw [if_neg (by decide), if_pos rfl, if_neg (by decide), if_neg (by decide)] at hK
    refine AW.of hΓ mixed [200014, 200017] _ _ _ rfl ?_
    simp only [go_sem, sPutT]
    refine AW.drawZ hΓ mixed 7 [8, 9, 10, 11] [2, 3, 8, 9, 10, 11] [] (by decide +kernel) ?_
    simp only [go_sem, sPutT]
    refine ⟨_, toFitsV (fun p => p) (l := []) (r := [(0, .box v 96 14 (rdC (s, fr, at_, af, setBL d lab, ps) 1 u)), (1, rowL u 66 ePt (ps))]) (sz := 83) (top := 2) (nx := nx + 1) (df := []) ?_, ?_⟩
    · simp only [go_sem, sPutT]
      exact ⟨rd_row rfl rfl rfl rfl rfl rfl rfl rfl rfl rfl rfl rfl rfl rfl, RowLe.refl _⟩
    · exact ⟨rfl, hK u (nx + 1) (.inl rfl) (by omega)⟩
  · rw [if_neg (by decide), if_neg (by decide), if_neg (by decide), if_neg (by decide), if_neg (by decide)] at hK
    refine AW.of hΓ mixed [200014, 200017] _ _ _ rfl ?_
    simp only [go_sem, sPutT]
    refine ⟨_, toFitsV (fun p => p) (l := []) (r := [(0, .box v 96 14 (rdC (s, fr, at_, af, d, ps) 1 u)), (1, rowL u 66 ePt (ps))]) (sz := 83) (top := 2) (nx := nx + 1) (df := []) ?_, ?_⟩
    · simp only [go_sem, sPutT]
      exact ⟨RowLe.refl _, RowLe.refl _⟩
    · exact ⟨rfl, hK u (nx + 1) (.inl rfl) (by omega)⟩
  · rw [if_neg (by decide), if_neg (by decide), if_pos rfl, if_neg (by decide), if_pos rfl] at hK
    refine AW.of hΓ mixed [200014, 200017] _ _ _ rfl ?_
    simp only [go_sem, sPutT]
    refine AW.drawT hΓ mixed 10 [] (by decide +kernel) ?_
    simp only [go_sem, sPutT]
    refine ⟨by omega, _, toFitsV (fun p => p) (l := []) (r := [(0, .box v 96 14 (rdC (s, fr, at_, af, setRL d lab, ps ++ [setRL d lab]) 1 (nx + 1))), (1, rowL (nx + 1) 66 ePt (ps ++ [setRL d lab]))]) (sz := 83) (top := 2) (nx := nx + 2) (df := []) ?_, ?_⟩
    · simp only [go_sem, sPutT]
      refine ⟨rd_row rfl rfl rfl rfl rfl rfl rfl rfl rfl rfl rfl rfl rfl (congrArg (AV.ow 1 (nx + 1)) (by simp)), ?_⟩
      refine row_app1 (E := ePt) rfl rfl rfl rfl (by simp) fun j hj => ?_
      match j, hj with
      | 0, _ => exact AVle.refl _
      | 1, _ => exact AVle.refl _
      | 2, _ => exact AVle.refl _
      | 3, _ => exact AVle.refl _
      | 4, _ => exact AVle.refl _
      | 5, _ => exact AVle.refl _
      | 6, _ => exact AVle.refl _
      | 7, _ => exact AVle.refl _
      | 8, _ => exact AVle.refl _
    · exact ⟨rfl, hK (nx + 1) (nx + 2) (.inr (by omega)) (by omega)⟩
def sPut : MSpec := framed sPut0
theorem okPut : MethOK Tryd.prog 83 sPut := okPut0.frame
def takeB (a : Rs) (m : Mk) (line : BS) : Rs := if (takeR a.2.2.2.1 (nowR a) a.2.2.2.2.1 a.2.2.2.2.2 m).1 = 0 then
    (a.1, a.2.2.1 + line.length, a.2.2.1, (takeR a.2.2.2.1 (nowR a) a.2.2.2.2.1 a.2.2.2.2.2 m).2.1, (takeR a.2.2.2.1 (nowR a) a.2.2.2.2.1 a.2.2.2.2.2 m).2.2.1, (takeR a.2.2.2.1 (nowR a) a.2.2.2.2.1 a.2.2.2.2.2 m).2.2.2) else a
def sTake0 : MSpec := sRd fun xs a r b => ∃ (m : Mk) (line : BS), xs = [(kA eMk).enc m, .st line] ∧ r = .val (.int .i64 (takeR a.2.2.2.1 (nowR a) a.2.2.2.2.1 a.2.2.2.2.2 m).1) ∧ goodR a ∧ signI m.1 ∧ line.length ≤ 100000000 ∧ b = takeB a m line
theorem okTake0 : MethOK Tryd.prog 62 sTake0 := by
  refine MethOK.mk Tryd.func62 rfl (by decide) Tryd.results62 Tryd.ntmps62 ?_
  rintro args hp top nx K ⟨v, u, xs, a, r, b, rfl, ⟨m, line, rfl, rfl, ⟨g1, g2, g3, g4⟩, hsg, hll, rfl⟩, rfl, rfl, hK⟩
  have hΓ : GOK Tryd.prog (gam [(80, sFollows), (81, sTrimS), (82, sHasSuf), (83, sPut)]) := (.cons okFollows (.cons okTrimS (.cons okHasSuf (.cons okPut .nil))))
  refine ⟨Nat.le_of_ble_eq_true rfl, AW.late ?_⟩
  obtain ⟨s, fr, at_, af, c, ps⟩ := a
  obtain ⟨k, f, lab⟩ := m
  simp only at g1 g2 g3 g4 hsg hK
  generalize hnow : nowR (s, fr, at_, af, c, ps) = now at *
  have hnow' : (s.take at_).drop fr = now := hnow
  have hnl : now.length ≤ 100000000 := by
    rw [← hnow', List.length_drop, List.length_take]
    omega
  unfold takeB at hK
  simp only [hnow] at hK
  refine AW.of hΓ mixed [0, 200012] _ _ _ rfl ?_
  simp only [go_sem, sFollows, sTrimS, sHasSuf, sPut]
  refine AW.cut ⟨[(0, .pt 0 v 0), (2, .st line), (4, .pt 2 nx 0)], [(0, .box v 96 14 (rdC (s, fr, at_, af, c, ps) 1 u)), (1, rowL u 66 ePt ps), (2, .box nx 42 3 (eMk.enc (k, f, lab)))], 76, 3, nx + 1, []⟩ ?_ ?_
  · simp only [go_sem, sFollows, sTrimS, sHasSuf, sPut]
    exact ⟨RowLe.refl _, RowLe.refl _, RowLe.refl _⟩
  refine AW.still 4 2 nx 42 3 _ rfl rfl (fun j hj => match j, hj with | 0, _ => rfl | 1, _ => rfl | 2, _ => rfl) ?_
  have fin : ∀ e : Int, (takeR af now c ps (k, f, lab)).1 = e → e ≠ 0 → K (.val (.int .i64 e)) (rws [(0, .box v 96 14 (rdC (s, fr, at_, af, c, ps) 1 u)), (1, rowL u 66 ePt ps)]) 2 (nx + 1) := fun e he h0 => by
    have := hK u (nx + 1) (.inl rfl) (by omega)
    rw [he, if_neg h0] at this
    exact this
  by_cases hn : k = 60 ∧ af ≠ 0
  · have ht : (takeR af now c ps (k, f, lab)).1 = 7 := by
      unfold takeR
      rw [if_pos hn]
    refine AW.of hΓ mixed [200012] _ _ _ rfl ?_
    simp only [go_sem, sFollows, sTrimS, sHasSuf, sPut, hn.1, hn.2]
    refine ⟨_, toFitsV (fun p => p) (l := [(6, .val (.int .i64 7))]) (r := [(0, .box v 96 14 (rdC (s, fr, at_, af, c, ps) 1 u)), (1, rowL u 66 ePt ps)]) (sz := 76) (top := 2) (nx := nx + 1) (df := []) ?_, ?_⟩
    · simp only [go_sem, sFollows, sTrimS, sHasSuf, sPut]
      exact ⟨RowLe.refl _, RowLe.refl _⟩
    · exact ⟨rfl, trivial, fin 7 ht (by decide)⟩
  have hn1 : (decide (k = 60) && decide (¬ af = 0)) = false := by
    by_cases h1 : k = 60
    · rw [decide_eq_false (p := ¬ af = 0) fun h => hn ⟨h1, h⟩, Bool.and_false]
    · rw [decide_eq_false h1, Bool.false_and]
  by_cases hf : followsI af k = false
  · have ht : (takeR af now c ps (k, f, lab)).1 = 8 := by
      unfold takeR
      rw [if_neg hn, if_pos hf]
    refine AW.of hΓ mixed [200012] _ _ _ rfl ?_
    simp only [go_sem, sFollows, sTrimS, sHasSuf, sPut, hn1, hf]
    refine ⟨_, toFitsV (fun p => p) (l := [(6, .val (.int .i64 8))]) (r := [(0, .box v 96 14 (rdC (s, fr, at_, af, c, ps) 1 u)), (1, rowL u 66 ePt ps)]) (sz := 76) (top := 2) (nx := nx + 1) (df := []) ?_, ?_⟩
    · simp only [go_sem, sFollows, sTrimS, sHasSuf, sPut]
      exact ⟨RowLe.refl _, RowLe.refl _⟩
    · exact ⟨rfl, trivial, fin 8 ht (by decide)⟩
  have hf' : followsI af k = true := by simpa using hf
  have htk : takeR af now c ps (k, f, lab) = (match sideF (k, f, lab) now with
    | none => (9, af, c, ps)
    | some sd => (0, if k = 62 then 0 else k, putC af (k, f, lab) sd c, putL af (k, f, lab) now sd c ps)) := by
    unfold takeR
    rw [if_neg hn, if_neg hf]
    rfl
  refine AW.of hΓ mixed [5, 200012] _ _ _ rfl ?_
  simp only [go_sem, sFollows, sTrimS, sHasSuf, sPut, hn1, hf']
  refine ⟨⟨by omega, by omega, by omega⟩, ?_⟩
  refine AW.cut ⟨[(0, .pt 0 v 0), (2, .st line), (4, .ps 3 (eMk.enc (k, f, lab))), (7, .st now)], [(0, .box v 96 14 (rdC (s, fr, at_, af, c, ps) 1 u)), (1, rowL u 66 ePt ps)], 76, 3, nx + 1, []⟩ ?_ ?_
  · rw [hnow']
    simp only [go_sem, sFollows, sTrimS, sHasSuf, sPut]
    exact ⟨RowLe.refl _, RowLe.refl _⟩
  by_cases hb : f = true ∧ (cutS now = [] ∨ endsL (cutS now) = true)
  · obtain ⟨rfl, hb⟩ := hb
    have ht : (takeR af now c ps (k, true, lab)).1 = 9 := by
      rw [htk]
      unfold sideF
      rw [if_pos rfl, if_pos hb]
    have hb2 : (decide (cutS now = []) || endsL (cutS now)) = true := by simpa using hb
    have hcl := cutS_le now
    refine AW.fork ?_
    refine AW.of hΓ mixed [200012] _ _ _ rfl ?_
    simp only [go_sem, sFollows, sTrimS, sHasSuf, sPut, hb2]
    refine ⟨by omega, fun _ => by omega, fun h => by rw [decide_eq_false h]; rfl, ?_⟩
    refine ⟨_, toFitsV (fun p => p) (l := [(6, .val (.int .i64 9))]) (r := [(0, .box v 96 14 (rdC (s, fr, at_, af, c, ps) 1 u)), (1, rowL u 66 ePt ps)]) (sz := 76) (top := 2) (nx := nx + 1) (df := []) ?_, ?_⟩
    · simp only [go_sem, sFollows, sTrimS, sHasSuf, sPut]
      exact ⟨RowLe.refl _, RowLe.refl _⟩
    · exact ⟨rfl, trivial, fin 9 ht (by decide)⟩
  obtain ⟨sd, hsd⟩ : ∃ sd, sideF (k, f, lab) now = some sd := by
    unfold sideF
    cases f with
    | false => exact ⟨now, rfl⟩
    | true =>
      refine ⟨cutS now, ?_⟩
      rw [if_pos rfl, if_neg fun h => hb ⟨rfl, h⟩]
  rw [hsd] at htk
  dsimp only at htk
  rw [htk] at hK
  refine AW.seqTo (fun _ : Unit => Sh.st ⟨[(0, .pt 0 v 0), (2, .st line), (4, .ps 3 (eMk.enc (k, f, lab))), (7, .st sd)], [(0, .box v 96 14 (rdC (s, fr, at_, af, c, ps) 1 u)), (1, rowL u 66 ePt ps)], 76, 3, nx + 1, []⟩) ?_ fun _ => ?_
  · have hcl := cutS_le now
    cases f with
    | false =>
      have e : sd = now := by
        unfold sideF at hsd
        rw [if_neg (by simp)] at hsd
        exact (Option.some.inj hsd).symm
      subst e
      refine AW.of hΓ mixed [200012] _ _ _ rfl ?_
      simp only [go_sem, sFollows, sTrimS, sHasSuf, sPut]
      refine ⟨(), toFitsV (fun p => p) ?_⟩
      simp only [go_sem, sFollows, sTrimS, sHasSuf, sPut]
      exact ⟨RowLe.refl _, RowLe.refl _⟩
    | true =>
      have hb3 : ¬ (cutS now = [] ∨ endsL (cutS now) = true) := fun h => hb ⟨rfl, h⟩
      have hb2 : (decide (cutS now = []) || endsL (cutS now)) = false := by
        rw [decide_eq_false fun h => hb3 (.inl h), Bool.false_or]
        cases h : endsL (cutS now) with
        | false => rfl
        | true => exact absurd (.inr h) hb3
      have e : sd = cutS now := by
        unfold sideF at hsd
        rw [if_pos rfl, if_neg hb3] at hsd
        exact (Option.some.inj hsd).symm
      subst e
      refine AW.of hΓ mixed [200012] _ _ _ rfl ?_
      simp only [go_sem, sFollows, sTrimS, sHasSuf, sPut, hb2]
      refine ⟨by omega, fun _ => by omega, fun h => by rw [decide_eq_false h]; rfl, (), toFitsV (fun p => p) ?_⟩
      simp only [go_sem, sFollows, sTrimS, sHasSuf, sPut]
      exact ⟨RowLe.refl _, RowLe.refl _⟩
  refine AW.of hΓ mixed [200012] _ _ _ rfl ?_
  simp only [go_sem, sFollows, sTrimS, sHasSuf, sPut]
  refine rd_go (a := (s, fr, at_, af, c, ps)) ⟨(k, f, lab), sd, rfl, rfl, ⟨g1, g2, g3, g4⟩, hsg, rfl⟩ (by decide) (RowLe.refl _) (RowLe.refl _) (by decide) fun u1 n1 q1 h1 => ?_
  rw [hnow]
  dsimp only
  generalize putC af (k, f, lab) sd c = c1 at *
  generalize putL af (k, f, lab) now sd c ps = ps1 at *
  simp only [go_sem, sFollows, sTrimS, sHasSuf, sPut]
  refine AW.drawZ hΓ mixed 13 [] [9, 10] [] (by decide +kernel) ?_
  simp only [go_sem, sFollows, sTrimS, sHasSuf, sPut]
  refine ⟨by omega, ?_⟩
  have hK' : ∀ u' nx', (u' = u ∨ nx ≤ u') → nx ≤ nx' → K (.val (.int .i64 0)) (rws [(0, .box v 96 14 (rdC (s, at_ + line.length, at_, if k = 62 then 0 else k, c1, ps1) 1 u')), (1, rowL u' 66 ePt ps1)]) 2 nx' := hK
  refine AW.cut ⟨[(0, .pt 0 v 0), (4, .ps 3 (eMk.enc (k, f, lab)))], [(0, .box v 96 14 (rdC (s, at_ + line.length, at_, k, c1, ps1) 1 u1)), (1, rowL u1 66 ePt ps1)], 76, 3, n1, []⟩ ?_ ?_
  · simp only [go_sem, sFollows, sTrimS, sHasSuf, sPut]
    exact ⟨rd_row rfl rfl rfl rfl rfl rfl rfl rfl rfl rfl rfl rfl rfl rfl, RowLe.refl _⟩
  by_cases hk : k = 62
  · subst hk
    refine AW.of hΓ mixed [] _ _ _ rfl ?_
    simp only [go_sem, sFollows, sTrimS, sHasSuf, sPut]
    refine AW.fork ?_
    refine AW.of hΓ mixed [] _ _ _ rfl ?_
    simp only [go_sem, sFollows, sTrimS, sHasSuf, sPut]
    refine AW.of hΓ mixed [] _ _ _ rfl ?_
    simp only [go_sem, sFollows, sTrimS, sHasSuf, sPut]
    refine ⟨_, toFitsV (fun p => p) (l := [(6, .val (.int .i64 0))]) (r := [(0, .box v 96 14 (rdC (s, at_ + line.length, at_, 0, c1, ps1) 1 u1)), (1, rowL u1 66 ePt ps1)]) (sz := 76) (top := 2) (nx := n1) (df := []) ?_, ?_⟩
    · simp only [go_sem, sFollows, sTrimS, sHasSuf, sPut]
      exact ⟨rd_row rfl rfl rfl rfl rfl rfl rfl rfl rfl rfl rfl rfl rfl rfl, RowLe.refl _⟩
    · exact ⟨rfl, trivial, hK' u1 n1 (by omega) (by omega)⟩
  · rw [if_neg hk] at hK'
    refine AW.of hΓ mixed [] _ _ _ rfl ?_
    simp only [go_sem, sFollows, sTrimS, sHasSuf, sPut, hk]
    refine AW.fork ?_
    refine AW.of hΓ mixed [] _ _ _ rfl ?_
    simp only [go_sem, sFollows, sTrimS, sHasSuf, sPut, hk]
    refine AW.of hΓ mixed [] _ _ _ rfl ?_
    simp only [go_sem, sFollows, sTrimS, sHasSuf, sPut]
    refine ⟨_, toFitsV (fun p => p) (l := [(6, .val (.int .i64 0))]) (r := [(0, .box v 96 14 (rdC (s, at_ + line.length, at_, k, c1, ps1) 1 u1)), (1, rowL u1 66 ePt ps1)]) (sz := 76) (top := 2) (nx := n1) (df := []) ?_, ?_⟩
    · simp only [go_sem, sFollows, sTrimS, sHasSuf, sPut]
      exact ⟨RowLe.refl _, RowLe.refl _⟩
    · exact ⟨rfl, trivial, hK' u1 n1 (by omega) (by omega)⟩
def sTake : MSpec := framed sTake0
theorem okTake : MethOK Tryd.prog 62 sTake := okTake0.frame
end Go.Proofs.YtljgfacjefebaaaDoor
