/-
  chunk: spans, classes, chunks other way round.
-/
import Derived.Test.YtpbccamaipekjaaAxq
import Derived.Test.YtpbccamaipekjaaTrimW
import Derived.Test.YtpbccamaipekjaaEditU
set_option linter.unusedSimpArgs false
set_option linter.unusedVariables false
set_option maxRecDepth 100000
set_option maxHeartbeats 2000000
namespace Go.Proofs.Ytpbccamaipekjaa
open Go
attribute [local irreducible] AW AVle ASle RowLe
abbrev Sp := Int × Int
abbrev Ck := Bool × Sp × Sp × Sp
abbrev Pl := Int × Int × Int
abbrev eSp : El Sp := eP eI eI
abbrev eCk : El Ck := eP eB (eP eSp (eP eSp eSp))
abbrev ePl : El Pl := eP eI (eP eI eI)
theorem sp_le {a b : Int} {c : Nat → AV} (h0 : c 0 = .val (.int .i64 a)) (h1 : c 1 = .val (.int .i64 b)) : AVle (.ag 2 c) (.ag 2 (eSp.enc (a, b))) := AVle.ag fun j hj => AVle.of_eq (match j, hj with
  | 0, _ => h0
  | 1, _ => h1)
theorem pl_le {a b d : Int} {c : Nat → AV} (h0 : c 0 = .val (.int .i64 a)) (h1 : c 1 = .val (.int .i64 b)) (h2 : c 2 = .val (.int .i64 d)) : AVle (.ag 3 c) (.ag 3 (ePl.enc (a, b, d))) := AVle.ag fun j hj => AVle.of_eq (match j, hj with
  | 0, _ => h0
  | 1, _ => h1
  | 2, _ => h2)
theorem ck_le {s : Bool} {b1 b2 l1 l2 r1 r2 : Int} {c : Nat → AV} (h0 : c 0 = .val (.bool s)) (h1 : c 1 = .val (.int .i64 b1)) (h2 : c 2 = .val (.int .i64 b2)) (h3 : c 3 = .val (.int .i64 l1)) (h4 : c 4 = .val (.int .i64 l2)) (h5 : c 5 = .val (.int .i64 r1)) (h6 : c 6 = .val (.int .i64 r2)) :
    AVle (.ag 7 c) (.ag 7 (eCk.enc (s, (b1, b2), (l1, l2), r1, r2))) := AVle.ag fun j hj => AVle.of_eq (match j, hj with
  | 0, _ => h0
  | 1, _ => h1
  | 2, _ => h2
  | 3, _ => h3
  | 4, _ => h4
  | 5, _ => h5
  | 6, _ => h6)
def lenS (s : Sp) : Int := if s.2 ≤ s.1 then 0 else s.2 - s.1
def sLenK : Spec := Spec.f1 (kA eSp) (fun s => s.2 ≤ s.1 ∨ s.2 - s.1 ≤ 9223372036854775807) (fun s => kI.enc (lenS s))
theorem okLenK : SpecOK Try.prog 31 sLenK := by
  refine SpecOK.f1 Try.func31 rfl (by decide) Try.results31 Try.ntmps31 (by decide) fun s hs => ?_
  have hΓ : GOK Try.prog (gam []) := GOK.nil
  obtain ⟨f, t⟩ := s
  simp only at hs
  unfold lenS
  refine AW.of hΓ mixed [] _ _ _ rfl ?_
  simp only [go_sem]
  exact ⟨fun h => by rw [if_pos h], fun h => ⟨by omega, by rw [if_neg h]⟩⟩
def cutS (s : Sp) (l : List (List UInt8)) : List (List UInt8) := if s.1 < 0 ∨ (l.length : Int) < s.2 ∨ s.2 < s.1 then [] else cutL l s.1.toNat s.2.toNat
theorem cutS_le (s : Sp) (l : List (List UInt8)) : (cutS s l).length ≤ l.length := by
  unfold cutS
  by_cases h : s.1 < 0 ∨ (l.length : Int) < s.2 ∨ s.2 < s.1
  · rw [if_pos h]; simp
  · rw [if_neg h, cutL_len l (by omega)]; omega
def sCutK : Spec := Spec.f2 (kA eSp) (kL eS) (fun s l => l.length < 100000000) (fun s l => sL eS (cutS s l))
theorem okCutK : SpecOK Try.prog 33 sCutK := by
  refine SpecOK.f2 Try.func33 rfl (by decide) Try.results33 Try.ntmps33 (by decide) fun s l hl => ?_
  have hΓ : GOK Try.prog (gam [(54, sCloneS)]) := (.cons okCloneS .nil)
  obtain ⟨f, t⟩ := s
  unfold cutS
  refine AW.of hΓ mixed [] _ _ _ rfl ?_
  simp only [go_sem, sCloneS]
  refine ⟨fun h => by simp [h], fun h => by simp [h], fun h => ?_, fun h => ?_⟩
  · simp only [Bool.or_eq_true, decide_eq_true_eq, or_assoc] at h
    rw [if_pos h]
    exact AVle.em_sn
  · simp only [Bool.or_eq_false_iff, decide_eq_false_iff_not] at h
    refine ⟨by omega, _, cutL l f.toNat t.toNat, rfl, cut_le (by omega), by rw [cutL_len l (by omega)]; omega, fun ver nx' _ _ => ?_⟩
    rw [if_neg (by omega)]
    exact AVle.refl _
def sRefCutK : Spec := Spec.f2 (kA eSp) (kL eS) (fun s l => l.length < 100000000) (fun s l => sL eS (cutS s l))
theorem okRefCutK : SpecOK Try.prog 34 sRefCutK := by
  refine SpecOK.f2 Try.func34 rfl (by decide) Try.results34 Try.ntmps34 (by decide) fun s l hl => ?_
  have hΓ : GOK Try.prog (gam []) := GOK.nil
  obtain ⟨f, t⟩ := s
  unfold cutS
  refine AW.of hΓ mixed [] _ _ _ rfl ?_
  simp only [go_sem]
  refine ⟨fun h => by simp [h], fun h => by simp [h], fun h => ?_, fun h => ?_⟩
  · simp only [Bool.or_eq_true, decide_eq_true_eq, or_assoc] at h
    rw [if_pos h]
    exact AVle.em_sn
  · simp only [Bool.or_eq_false_iff, decide_eq_false_iff_not] at h
    rw [if_neg (by omega)]
    exact ⟨by omega, cut_le (by omega)⟩
def sSpanK : Spec := Spec.f1 (kA eSp) (fun _ => True) (fun s => (kA eSp).enc s)
theorem okSpanK : SpecOK Try.prog 53 sSpanK := by
  refine SpecOK.f1 Try.func53 rfl (by decide) Try.results53 Try.ntmps53 (by decide) fun s _ => ?_
  have hΓ : GOK Try.prog (gam []) := GOK.nil
  obtain ⟨f, t⟩ := s
  refine AW.of hΓ mixed [] _ _ _ rfl ?_
  simp only [go_sem]
  exact sp_le rfl rfl
def turnC (c : Ck) : Ck := (c.1, c.2.1, c.2.2.2, c.2.2.1)
def sTurnedK : Spec := Spec.f1 (kA eCk) (fun _ => True) (fun c => (kA eCk).enc (turnC c))
theorem okTurnedK : SpecOK Try.prog 30 sTurnedK := by
  refine SpecOK.f1 Try.func30 rfl (by decide) Try.results30 Try.ntmps30 (by decide) fun c _ => ?_
  have hΓ : GOK Try.prog (gam []) := GOK.nil
  obtain ⟨s, ⟨b1, b2⟩, ⟨l1, l2⟩, r1, r2⟩ := c
  unfold turnC
  refine AW.of hΓ mixed [] _ _ _ rfl ?_
  simp only [go_sem]
  exact ck_le rfl rfl rfl rfl rfl rfl rfl
def btw (p q : Pl) : Ck := (false, (p.1, q.1), (p.2.1, q.2.1), (p.2.2, q.2.2))
def sBetween : Spec := Spec.f2 (kA ePl) (kA ePl) (fun _ _ => True) (fun p q => (kA eCk).enc (btw p q))
theorem okBetween : SpecOK Try.prog 48 sBetween := by
  refine SpecOK.f2 Try.func48 rfl (by decide) Try.results48 Try.ntmps48 (by decide) fun p q _ => ?_
  have hΓ : GOK Try.prog (gam []) := GOK.nil
  obtain ⟨p1, p2, p3⟩ := p
  obtain ⟨q1, q2, q3⟩ := q
  unfold btw
  refine AW.of hΓ mixed [] _ _ _ rfl ?_
  simp only [go_sem]
  exact ck_le rfl rfl rfl rfl rfl rfl rfl
def nextP (p : Pl) : Pl := (p.1 + 1, p.2.1 + 1, p.2.2 + 1)
def okPl (p : Pl) : Prop := (-9223372036854775808 ≤ p.1 ∧ p.1 < 9223372036854775807) ∧ (-9223372036854775808 ≤ p.2.1 ∧ p.2.1 < 9223372036854775807) ∧ -9223372036854775808 ≤ p.2.2 ∧ p.2.2 < 9223372036854775807
def sNextP : Spec := Spec.f1 (kA ePl) okPl (fun p => (kA ePl).enc (nextP p))
theorem okNextP : SpecOK Try.prog 50 sNextP := by
  refine SpecOK.f1 Try.func50 rfl (by decide) Try.results50 Try.ntmps50 (by decide) fun p hp => ?_
  have hΓ : GOK Try.prog (gam []) := GOK.nil
  obtain ⟨p1, p2, p3⟩ := p
  obtain ⟨h1, h2, h3⟩ := hp
  simp only at h1 h2 h3
  unfold nextP
  refine AW.of hΓ mixed [] _ _ _ rfl ?_
  simp only [go_sem]
  exact ⟨by omega, by omega, by omega, pl_le rfl rfl rfl⟩
def sOneK : Spec := Spec.f1 (kA eCk) (fun _ => True) (fun c => (kA eCk).enc c)
theorem okOneK : SpecOK Try.prog 29 sOneK := by
  refine SpecOK.f1 Try.func29 rfl (by decide) Try.results29 Try.ntmps29 (by decide) fun c _ => ?_
  have hΓ : GOK Try.prog (gam [(53, sSpanK)]) := (.cons okSpanK .nil)
  obtain ⟨s, ⟨b1, b2⟩, ⟨l1, l2⟩, r1, r2⟩ := c
  refine AW.of hΓ mixed [200001] _ _ _ rfl ?_
  simp only [go_sem, sSpanK]
  refine AW.drawT hΓ mixed 12 [] (by decide +kernel) ?_
  simp only [go_sem, sSpanK]
  exact ck_le rfl rfl rfl rfl rfl rfl rfl
def sToK : Spec := Spec.f1 (kA eCk) (fun _ => True) (fun c => (kA eCk).enc c)
theorem okToK : SpecOK Try.prog 32 sToK := by
  refine SpecOK.f1 Try.func32 rfl (by decide) Try.results32 Try.ntmps32 (by decide) fun c _ => ?_
  have hΓ : GOK Try.prog (gam []) := GOK.nil
  obtain ⟨s, ⟨b1, b2⟩, ⟨l1, l2⟩, r1, r2⟩ := c
  refine AW.of hΓ mixed [] _ _ _ rfl ?_
  simp only [go_sem]
  exact ck_le rfl rfl rfl rfl rfl rfl rfl
def smallN (n : Int) : Int := if 60 < n then n.tmod 61 else max n (-1)
def sSmallK : Spec := Spec.f1 kI (fun n => -9223372036854775808 ≤ n ∧ n ≤ 9223372036854775807) (fun n => kI.enc (smallN n))
theorem okSmallK : SpecOK Try.prog 23 sSmallK := by
  refine SpecOK.f1 Try.func23 rfl (by decide) Try.results23 Try.ntmps23 (by decide) fun n hn => ?_
  have hΓ : GOK Try.prog (gam []) := GOK.nil
  unfold smallN
  refine AW.of hΓ mixed [] _ _ _ rfl ?_
  simp only [go_sem]
  exact ⟨fun h => by rw [if_pos h], fun h => by rw [if_neg h]⟩
def classK (c : Ck) (b l r : List (List UInt8)) : Int := if c.1 = true then 0 else if cutS c.2.2.1 l = cutS c.2.1 b then 2 else if cutS c.2.2.2 r = cutS c.2.1 b then 1 else if cutS c.2.2.1 l = cutS c.2.2.2 r then 3 else 4
def sClassK : Spec := Spec.f4 (kA eCk) (kL eS) (kL eS) (kL eS) (fun c b l r => b.length < 100000000 ∧ l.length < 100000000 ∧ r.length < 100000000) (fun c b l r => kI.enc (classK c b l r))
theorem okClassK : SpecOK Try.prog 35 sClassK := by
  refine SpecOK.f4 Try.func35 rfl (by decide) Try.results35 Try.ntmps35 (by decide) fun c b l r ⟨hb, hl, hr⟩ => ?_
  have hΓ : GOK Try.prog (gam [(33, sCutK), (55, sEqS)]) := (.cons okCutK (.cons okEqS .nil))
  obtain ⟨s, ⟨b1, b2⟩, ⟨l1, l2⟩, r1, r2⟩ := c
  unfold classK
  dsimp only
  have g1 := cutS_le (b1, b2) b
  have g2 := cutS_le (l1, l2) l
  have g3 := cutS_le (r1, r2) r
  refine AW.of hΓ mixed [] _ _ _ rfl ?_
  simp only [go_sem, sCutK, sEqS]
  refine ⟨fun h => by rw [if_pos h], fun h => ⟨hb, hl, hr, by omega, fun h1 => by simp [h, h1], fun h1 => ⟨by omega, fun h2 => by simp [h, h1, h2], fun h2 => ⟨by omega, fun h3 => ?_, fun h3 => ?_⟩⟩⟩⟩
  · rw [if_neg (by simp [h]), if_neg h1, if_neg h2, if_pos h3]
  · rw [if_neg (by simp [h]), if_neg h1, if_neg h2, if_neg h3]
def sRefClassK : Spec := Spec.f4 (kA eCk) (kL eS) (kL eS) (kL eS) (fun c b l r => b.length < 100000000 ∧ l.length < 100000000 ∧ r.length < 100000000) (fun c b l r => kI.enc (classK c b l r))
theorem okRefClassK : SpecOK Try.prog 36 sRefClassK := by
  refine SpecOK.f4 Try.func36 rfl (by decide) Try.results36 Try.ntmps36 (by decide) fun c b l r ⟨hb, hl, hr⟩ => ?_
  have hΓ : GOK Try.prog (gam [(34, sRefCutK), (16, sSameS)]) := (.cons okRefCutK (.cons okSameS .nil))
  obtain ⟨s, ⟨b1, b2⟩, ⟨l1, l2⟩, r1, r2⟩ := c
  unfold classK
  dsimp only
  have g1 := cutS_le (b1, b2) b
  have g2 := cutS_le (l1, l2) l
  have g3 := cutS_le (r1, r2) r
  refine AW.of hΓ mixed [] _ _ _ rfl ?_
  simp only [go_sem, sRefCutK, sSameS]
  refine ⟨hb, hl, hr, fun h => by rw [if_pos h], fun h => ⟨by omega, fun h1 => by simp [h, h1], fun h1 => ?_⟩⟩
  have h1' : ¬ cutS (l1, l2) l = cutS (b1, b2) b := fun e => h1 e.symm
  refine ⟨by omega, fun h2 => by rw [if_neg (by simp [h]), if_neg h1', if_pos h2.symm], fun h2 => ?_⟩
  have h2' : ¬ cutS (r1, r2) r = cutS (b1, b2) b := fun e => h2 e.symm
  refine ⟨by omega, fun h3 => ?_, fun h3 => ?_⟩
  · rw [if_neg (by simp [h]), if_neg h1', if_neg h2', if_pos h3]
  · rw [if_neg (by simp [h]), if_neg h1', if_neg h2', if_neg h3]
end Go.Proofs.Ytpbccamaipekjaa
