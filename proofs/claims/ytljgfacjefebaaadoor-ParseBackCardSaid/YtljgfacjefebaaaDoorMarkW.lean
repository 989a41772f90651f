/-
  mark, and the document's answers on it: lines, and Markers read.
-/
import Derived.Test.YtljgfacjefebaaaDoorDocW
import Derived.Test.YtljgfacjefebaaaDoorMarkP
set_option linter.unusedSimpArgs false
set_option linter.unusedVariables false
set_option maxRecDepth 100000
set_option maxHeartbeats 2000000
namespace Go.Proofs.YtljgfacjefebaaaDoor
open Go
attribute [local irreducible] AW AVle ASle RowLe
/-! ### the library's -/
def sHasPreL : Spec := Spec.f2 kS kS (fun a b => a.length ≤ 100000000000 ∧ b.length = 1) (fun a b => kB.enc (prB a b))
theorem okHasPreL : SpecOK Tryd.prog 102 sHasPreL := by
  refine SpecOK.f2 Tryd.func102 rfl (by decide) Tryd.results102 Tryd.ntmps102 (by decide) fun a b ⟨ha, h⟩ => ?_
  have hΓ : GOK Tryd.prog (gam []) := GOK.nil
  unfold prB
  refine AW.of hΓ mixed [] _ _ _ rfl ?_
  simp only [go_sem]
  refine ⟨fun _ => by omega, ?_⟩
  rw [h]
  by_cases g : a = []
  · subst g
    have : b ≠ [] := fun e => by subst e; cases h
    simp [Ne.symm this]
  · have : 0 < a.length := List.length_pos_iff.2 g
    rw [decide_eq_true (by omega), Bool.true_and]
def sRepeat : Spec := Spec.f2 kS kI (fun a n => a.length = 1 ∧ 0 ≤ n ∧ n ≤ 100000000000) (fun a n => kS.enc (List.replicate n.toNat (a.getD 0 0)))
theorem okRepeat : SpecOK Tryd.prog 69 sRepeat := by
  refine SpecOK.raw Tryd.func69 rfl (by decide) fun args hp w L vs hL ha => ?_
  match args, hp with
  | [x, y], hp =>
    obtain ⟨h1, h2, h3, h4, h5⟩ := hp
    cases ha with
    | cons hx hr => cases hr with
      | cons hy hr => cases hr with
        | nil =>
          have ex := okGet h1 hx
          have ey := okGet h2 hy
          obtain rfl := ex
          obtain rfl := ey
          rw [show sRepeat.res [x, y] = kS.enc (List.replicate (kI.dec y).toNat ((kS.dec x).getD 0 0)) from rfl]
          generalize kS.dec x = a at *
          generalize kI.dec y = n at *
          obtain ⟨k, rfl⟩ := Int.eq_ofNat_of_zero_le h4
          have hsz : (⟨a.toArray⟩ : ByteArray).size = 1 := by simpa [ByteArray.size] using h3
          refine (Tryd.strings_Repeat ⟨a.toArray⟩ k w (by omega) (by rw [hsz]; omega)).mono ?_
          rintro e w' ⟨rfl, hb⟩
          refine ⟨_, rfl, Fr.of_below hb _, ?_⟩
          obtain ⟨c, rfl⟩ : ∃ c, a = [c] := by
            match a, h3 with
            | [c], _ => exact ⟨c, rfl⟩
          show Value.string _ = Value.string _
          rw [show ([c] : List UInt8) = List.replicate 1 c from rfl, Lib.repeatL_replicate, Nat.mul_one]
          rfl
def sIsWidth : Spec := Spec.f1 kI (fun _ => True) (fun w => kB.enc (wideM w))
theorem okIsWidth : SpecOK Tryd.prog 45 sIsWidth := by
  refine SpecOK.f1 Tryd.func45 rfl (by decide) Tryd.results45 Tryd.ntmps45 (by decide) fun w _ => ?_
  have hΓ : GOK Tryd.prog (gam []) := GOK.nil
  refine AW.of hΓ mixed [] _ _ _ rfl ?_
  simp only [go_sem]
  rfl
def sRefWide : Spec := Spec.f1 kI (fun _ => True) (fun w => kB.enc (wideM w))
theorem okRefWide : SpecOK Tryd.prog 48 sRefWide := by
  refine SpecOK.f1 Tryd.func48 rfl (by decide) Tryd.results48 Tryd.ntmps48 (by decide) fun w _ => ?_
  have hΓ : GOK Tryd.prog (gam []) := GOK.nil
  refine AW.of hΓ mixed [] _ _ _ rfl ?_
  simp only [go_sem]
  rfl
def sIsLabel : Spec := Spec.f1 kS (fun _ => True) (fun l => kB.enc (plainB l))
theorem okIsLabel : SpecOK Tryd.prog 68 sIsLabel := by
  refine SpecOK.f1 Tryd.func68 rfl (by decide) Tryd.results68 Tryd.ntmps68 (by decide) fun l _ => ?_
  have hΓ : GOK Tryd.prog (gam [(86, sContains)]) := (.cons okContains .nil)
  refine AW.of hΓ mixed [] _ _ _ rfl ?_
  simp only [go_sem, sContains]
  rw [Bool.not_not]
def sRefPlain1 : Spec := Spec.f1 kS (fun l => l.length ≤ 100000000000) (fun l => kB.enc (plainB l))
theorem okRefPlain1 : SpecOK Tryd.prog 91 sRefPlain1 := by
  refine SpecOK.f1 Tryd.func91 rfl (by decide) Tryd.results91 Tryd.ntmps91 (by decide) fun l hl => ?_
  have hΓ : GOK Tryd.prog (gam []) := GOK.nil
  refine AW.of hΓ mixed [] _ _ _ rfl ?_
  simp only [go_sem]
  refine AW.round (α := { x : Nat × Nat × Nat // x.1 ≤ l.length ∧ ∀ k, k < x.1 → l.getD k 0 ≠ 10 }) (fun x => ⟨[(0, .st l), (3, .val (.int .i64 x.1.1))], [], 14, x.1.2.2, x.1.2.1, []⟩) (fun x => l.length - x.1.1) ⟨(0, 0, 0), Nat.zero_le _, fun k hk => absurd hk (Nat.not_lt_zero _)⟩ ?_ ?_
  · simp only [go_sem]
  · rintro ⟨⟨i, nx, tp⟩, hi, hk⟩
    simp only at hi hk
    refine AW.of hΓ mixed [99999] _ _ _ rfl ?_
    simp only [go_sem]
    refine ⟨fun hlt => ⟨by omega, fun h10 => ?_, fun hn => ⟨by omega, ⟨(i + 1, nx, tp), by dsimp only; omega, fun k hk' => ?_⟩, ⟨Nat.le_refl _, by dsimp only; omega⟩, by dsimp only; omega⟩⟩, fun hge => ?_⟩
    · refine (decide_eq_false fun hh => hh ?_).symm
      rw [← h10, gd_lt l _ (by omega)]
      exact List.getElem_mem _
    · dsimp only at hk'
      rcases Nat.lt_or_ge k i with h' | h'
      · exact hk k h'
      · obtain rfl : k = i := by omega
        exact hn
    · have hno : ¬ (10 : UInt8) ∈ l := fun hm => ?_
      · unfold plainB
        rw [decide_eq_true hno]
      obtain ⟨k, hk1, hk2⟩ := List.getElem_of_mem hm
      exact hk k (by omega) (by rw [gd_lt l _ hk1]; exact hk2)
def sRefPlain : Spec := Spec.f1 (kA ePt) (fun p => p.1.length ≤ 100000000 ∧ p.2.1.length ≤ 100000000 ∧ p.2.2.1.length ≤ 100000000) (fun p => kB.enc (plainD p))
theorem okRefPlain : SpecOK Tryd.prog 70 sRefPlain := by
  refine SpecOK.f1 Tryd.func70 rfl (by decide) Tryd.results70 Tryd.ntmps70 (by decide) fun p ⟨h1, h2, h3⟩ => ?_
  have hΓ : GOK Tryd.prog (gam [(91, sRefPlain1)]) := (.cons okRefPlain1 .nil)
  obtain ⟨ll, bl, rl, h, t, l, b, r, hb⟩ := p
  simp only at h1 h2 h3
  refine AW.of hΓ mixed [] _ _ _ rfl ?_
  simp only [go_sem, sRefPlain1]
  refine ⟨by omega, fun _ => by omega, fun _ => by omega, ?_⟩
  unfold plainD
  rw [Bool.and_assoc]
def sMayBe : Spec := Spec.f1 (kA eMk) (fun _ => True) (fun m => kB.enc (mayM m))
theorem okMayBe : SpecOK Tryd.prog 46 sMayBe := by
  refine SpecOK.f1 Tryd.func46 rfl (by decide) Tryd.results46 Tryd.ntmps46 (by decide) fun m _ => ?_
  have hΓ : GOK Tryd.prog (gam [(68, sIsLabel)]) := (.cons okIsLabel .nil)
  obtain ⟨k, f, l⟩ := m
  by_cases h1 : k = 60
  · subst h1
    refine AW.of hΓ mixed [] _ _ _ rfl ?_
    simp only [go_sem, sIsLabel]
    rfl
  by_cases h2 : k = 124
  · subst h2
    refine AW.of hΓ mixed [] _ _ _ rfl ?_
    simp only [go_sem, sIsLabel]
    refine AW.fork ?_
    refine AW.of hΓ mixed [] _ _ _ rfl ?_
    simp only [go_sem, sIsLabel]
    refine AW.of hΓ mixed [] _ _ _ rfl ?_
    simp only [go_sem, sIsLabel]
    rfl
  by_cases h3 : k = 62
  · subst h3
    refine AW.of hΓ mixed [] _ _ _ rfl ?_
    simp only [go_sem, sIsLabel]
    refine AW.fork ?_
    refine AW.of hΓ mixed [] _ _ _ rfl ?_
    simp only [go_sem, sIsLabel]
    refine AW.of hΓ mixed [] _ _ _ rfl ?_
    simp only [go_sem, sIsLabel]
    rfl
  by_cases h4 : k = 61
  · subst h4
    refine AW.of hΓ mixed [] _ _ _ rfl ?_
    simp only [go_sem, sIsLabel]
    refine AW.fork ?_
    refine AW.of hΓ mixed [] _ _ _ rfl ?_
    simp only [go_sem, sIsLabel]
    refine AW.of hΓ mixed [] _ _ _ rfl ?_
    simp only [go_sem, sIsLabel]
    rfl
  · refine AW.of hΓ mixed [] _ _ _ rfl ?_
    simp only [go_sem, sIsLabel, h1, h2, h3, h4]
    refine AW.fork ?_
    refine AW.of hΓ mixed [] _ _ _ rfl ?_
    simp only [go_sem, sIsLabel, h1, h2, h3, h4]
    refine AW.of hΓ mixed [] _ _ _ rfl ?_
    simp only [go_sem, sIsLabel, h1, h2, h3, h4]
    simp [mayM, h1, h2, h3, h4]
def sRefMay : Spec := Spec.f1 (kA eMk) (fun m => m.2.2.length ≤ 100000000) (fun m => kB.enc (mayM m))
theorem okRefMay : SpecOK Tryd.prog 49 sRefMay := by
  refine SpecOK.f1 Tryd.func49 rfl (by decide) Tryd.results49 Tryd.ntmps49 (by decide) fun m hl => ?_
  have hΓ : GOK Tryd.prog (gam [(70, sRefPlain)]) := (.cons okRefPlain .nil)
  obtain ⟨k, f, l⟩ := m
  simp only at hl
  have e : ∀ l : BS, plainD (l, [], [], false, [], [], [], [], false) = plainB l := fun l => by
    unfold plainD
    have : plainB [] = true := rfl
    simp [this]
  by_cases h1 : k = 60
  · subst h1
    refine AW.of hΓ mixed [] _ _ _ rfl ?_
    simp only [go_sem, sRefPlain, e]
    exact ⟨fun _ => hl, rfl⟩
  by_cases h2 : k = 124
  · subst h2
    refine AW.of hΓ mixed [] _ _ _ rfl ?_
    simp only [go_sem, sRefPlain, e]
    exact ⟨hl, rfl⟩
  by_cases h3 : k = 62
  · subst h3
    refine AW.of hΓ mixed [] _ _ _ rfl ?_
    simp only [go_sem, sRefPlain, e]
    exact ⟨hl, rfl⟩
  by_cases h4 : k = 61
  · subst h4
    refine AW.of hΓ mixed [] _ _ _ rfl ?_
    simp only [go_sem, sRefPlain, e]
    refine ⟨fun _ => hl, ?_⟩
    simp only [mayM]
    by_cases h : l = []
    · subst h; rfl
    · simp [h]
  · refine AW.of hΓ mixed [] _ _ _ rfl ?_
    simp only [go_sem, sRefPlain, h1, h2, h3, h4]
    simp [mayM, h1, h2, h3, h4]
def sCutSL : Spec := Spec.f2 kS kS (fun a b => a.length ≤ 100000000000 ∧ b = [10]) (fun a _ => tu2 (kS.enc (cutS a)) (kB.enc (endsL a)))
theorem okCutSL : SpecOK Tryd.prog 93 sCutSL := by
  refine SpecOK.f2 Tryd.func93 rfl (by decide) Tryd.results93 Tryd.ntmps93 (by decide) fun a b ⟨ha, h⟩ => ?_
  have hΓ : GOK Tryd.prog (gam [(98, sHasSufL)]) := (.cons okHasSufL .nil)
  subst h
  unfold cutS
  refine AW.of hΓ mixed [] _ _ _ rfl ?_
  simp only [go_sem, sHasSufL]
  have hp : endsL a = true → 0 < a.length := fun h => by
    cases a with
    | nil => cases h
    | cons _ _ => simp
  refine ⟨ha, fun h => ?_, fun h => ?_⟩
  · have h : endsL a = false := by simpa using h
    exact ⟨by rw [if_neg (by simp [h])], h.symm⟩
  · have h : endsL a = true := by simpa using h
    have := hp h
    refine ⟨by omega, by omega, ?_, h.symm⟩
    rw [if_pos h]
    congr 1
    omega
def sCutS : Spec := Spec.f2 kS kS (fun a b => a.length ≤ 100000000000 ∧ b = [10]) (fun a _ => tu2 (kS.enc (cutS a)) (kB.enc (endsL a)))
theorem okCutS : SpecOK Tryd.prog 73 sCutS := by
  refine SpecOK.f2 Tryd.func73 rfl (by decide) Tryd.results73 Tryd.ntmps73 (by decide) fun a b ⟨ha, h⟩ => ?_
  have hΓ : GOK Tryd.prog (gam [(93, sCutSL)]) := (.cons okCutSL .nil)
  subst h
  refine AW.of hΓ mixed [] _ _ _ rfl ?_
  simp only [go_sem, sCutSL]
  exact ha
def sCutPL : Spec := Spec.f2 kS kS (fun a b => a.length ≤ 100000000000 ∧ b.length = 1) (fun a b => tu2 (kS.enc (cutP a (b.getD 0 0))) (kB.enc (prB a b)))
theorem okCutPL : SpecOK Tryd.prog 94 sCutPL := by
  refine SpecOK.f2 Tryd.func94 rfl (by decide) Tryd.results94 Tryd.ntmps94 (by decide) fun a b ⟨ha, h⟩ => ?_
  have hΓ : GOK Tryd.prog (gam [(102, sHasPreL)]) := (.cons okHasPreL .nil)
  unfold cutP
  have hb : [b.getD 0 0] = b := by
    match b, h with
    | [c], _ => rfl
  refine AW.of hΓ mixed [] _ _ _ rfl ?_
  simp only [go_sem, sHasPreL, hb]
  refine ⟨⟨ha, h⟩, fun h => ?_, fun h => ?_⟩
  · have h : prB a b = false := by simpa using h
    exact ⟨by rw [if_neg (prB_no.1 h)], h.symm⟩
  · have h : prB a b = true := by simpa using h
    have h1 := (prB_iff a b).1 h
    have := congrArg List.length h1
    rw [List.length_take] at this
    refine ⟨by omega, ?_, h.symm⟩
    rw [if_pos h1, show b.length = 1 by assumption]
def sCutP : Spec := Spec.f2 kS kS (fun a b => a.length ≤ 100000000000 ∧ b.length = 1) (fun a b => tu2 (kS.enc (cutP a (b.getD 0 0))) (kB.enc (prB a b)))
theorem okCutP : SpecOK Tryd.prog 74 sCutP := by
  refine SpecOK.f2 Tryd.func74 rfl (by decide) Tryd.results74 Tryd.ntmps74 (by decide) fun a b ⟨ha, h⟩ => ?_
  have hΓ : GOK Tryd.prog (gam [(94, sCutPL)]) := (.cons okCutPL .nil)
  refine AW.of hΓ mixed [] _ _ _ rfl ?_
  simp only [go_sem, sCutPL]
  exact ⟨ha, h⟩
theorem mk_le {k : Int} {f : Bool} {l : BS} {c : Nat → AV} (h0 : c 0 = .val (.int .u8 k)) (h1 : c 1 = .val (.bool f)) (h2 : c 2 = .st l) : AVle (.ag 3 c) (.ag 3 (eMk.enc (k, f, l))) := AVle.ag fun j hj => AVle.of_eq (match j, hj with
  | 0, _ => h0
  | 1, _ => h1
  | 2, _ => h2)
def rdO (c : Int) (b : BS) : Mk × Bool := match rdI b with
  | some (f, l) => ((c, f, l), true)
  | none => (mk0, false)
theorem cutS_le (b : BS) : (cutS b).length ≤ b.length := by
  unfold cutS
  split
  · rw [List.length_take]; omega
  · exact Nat.le_refl _
theorem cutP_le (b : BS) (c : UInt8) : (cutP b c).length ≤ b.length := by
  unfold cutP
  split
  · rw [List.length_drop]; omega
  · exact Nat.le_refl _
def sRead1 : Spec := Spec.f2 kU kS (fun _ b => b.length ≤ 100000000000) (fun c b => tu2 ((kA eMk).enc (rdO c b).1) (kB.enc (rdO c b).2))
theorem okRead1 : SpecOK Tryd.prog 52 sRead1 := by
  refine SpecOK.f2 Tryd.func52 rfl (by decide) Tryd.results52 Tryd.ntmps52 (by decide) fun c b hb => ?_
  have hΓ : GOK Tryd.prog (gam [(73, sCutS), (74, sCutP)]) := (.cons okCutS (.cons okCutP .nil))
  have h1 := cutS_le b
  have h2 := cutP_le (cutS b) 33
  refine AW.of hΓ mixed [] _ _ _ rfl ?_
  simp only [go_sem, sCutS, sCutP]
  refine ⟨hb, by omega, by omega, fun h => by rw [h]; rfl, fun h => ?_, fun h => ?_⟩
  · have e : rdO c b = (mk0, false) := by
      have : rdI b = none := if_neg fun ⟨g1, g2⟩ => by
        rw [g1, g2] at h
        simp at h
      unfold rdO
      rw [this]
    rw [e]
    exact ⟨mk_le rfl rfl rfl, rfl⟩
  · have e : rdO c b = ((c, prB (cutS b) [33], cutP (cutP (cutS b) 33) 32), true) := by
      have : rdI b = some (prB (cutS b) [33], cutP (cutP (cutS b) 33) 32) := if_pos (by
        simp only [Bool.or_eq_false_iff, Bool.not_eq_false', decide_eq_false_iff_not, Decidable.not_not] at h
        exact h)
      unfold rdO
      rw [this]
    rw [e]
    exact ⟨mk_le rfl rfl rfl, rfl⟩
def sLineI : Spec := Spec.f2 (kA eMk) kI (fun m w => signI m.1 ∧ 0 ≤ w ∧ w ≤ 10000000000 ∧ m.2.2.length ≤ 10000000000) (fun m w => kS.enc (lineM m w))
theorem okLineI : SpecOK Tryd.prog 47 sLineI := by
  refine SpecOK.f2 Tryd.func47 rfl (by decide) Tryd.results47 Tryd.ntmps47 (by decide) fun m w ⟨hk, hw1, hw2, hl⟩ => ?_
  have hΓ : GOK Tryd.prog (gam [(69, sRepeat)]) := (.cons okRepeat .nil)
  obtain ⟨k, f, l⟩ := m
  simp only at hk hl
  have e1 : Utf8.encode (IntKind.i32.wrap k) = ⟨([UInt8.ofNat k.toNat] : List UInt8).toArray⟩ := by
    rcases hk with rfl | rfl | rfl | rfl <;> rfl
  cases f
  all_goals (
    by_cases h : l = []
    all_goals (
      refine AW.of hΓ mixed [] _ _ _ rfl ?_
      simp only [go_sem, sRepeat, h]
      refine AW.fork ?_
      refine AW.of hΓ mixed [] _ _ _ rfl ?_
      simp only [go_sem, sRepeat, h]
      refine AW.fork ?_
      refine AW.of hΓ mixed [] _ _ _ rfl ?_
      simp only [go_sem, sRepeat, h]
      try refine ⟨by omega, by omega, ?_⟩
      refine AW.fork (AW.regionO hΓ [false, false, false, true] ?_)
      simp only [go_sem, sRepeat, h]
      refine rune_wp rfl (by rw [Tryd.underlying21]; rfl) Tryd.underlying9 rfl e1 (Nat.lt_of_lt_of_le (by decide : 19 < 25) (Nat.le_refl _)) ?_
      simp only [go_sem, sRepeat, h]
      refine ⟨by omega, by omega, by omega, ?_⟩
      refine AW.of hΓ mixed [] _ _ _ rfl ?_
      simp only [go_sem, sRepeat, h]
      simp [lineM, tailM, h]))
def lineR (m : Mk) (w : Int) : BS × Int := if wideM w = false then ([], 4) else if mayM m = false then ([], 6) else (lineM m w, 0)
def sLineM : Spec := Spec.f2 (kA eMk) kI (fun m _ => m.2.2.length ≤ 10000000000) (fun m w => tu2 (kS.enc (lineR m w).1) (kI.enc (lineR m w).2))
theorem okLineM : SpecOK Tryd.prog 21 sLineM := by
  refine SpecOK.f2 Tryd.func21 rfl (by decide) Tryd.results21 Tryd.ntmps21 (by decide) fun m w hl => ?_
  have hΓ : GOK Tryd.prog (gam [(45, sIsWidth), (46, sMayBe), (47, sLineI)]) := (.cons okIsWidth (.cons okMayBe (.cons okLineI .nil)))
  refine AW.of hΓ mixed [] _ _ _ rfl ?_
  simp only [go_sem, sIsWidth, sMayBe, sLineI]
  have et : (m.1, m.2.1, m.2.2) = m := rfl
  rw [et]
  unfold lineR
  refine ⟨fun h => ?_, fun h => ⟨fun h2 => ?_, fun h2 => ?_⟩⟩
  · rw [if_pos (by simpa using h)]
    exact ⟨rfl, rfl⟩
  · rw [if_neg (by simpa using h), if_pos (by simpa using h2)]
    exact ⟨rfl, rfl⟩
  · rw [if_neg (by simpa using h), if_neg (by simpa using h2)]
    have := wide_iff.1 (by simpa using h)
    exact ⟨⟨may_sign (by simpa using h2), by omega, by omega, hl⟩, rfl, rfl⟩
def sToM : Spec := Spec.f1 (kA eMk) (fun _ => True) (fun m => (kA eMk).enc m)
theorem okToM : SpecOK Tryd.prog 22 sToM := by
  refine SpecOK.f1 Tryd.func22 rfl (by decide) Tryd.results22 Tryd.ntmps22 (by decide) fun m _ => ?_
  have hΓ : GOK Tryd.prog (gam []) := GOK.nil
  obtain ⟨k, f, l⟩ := m
  refine AW.of hΓ mixed [] _ _ _ rfl ?_
  simp only [go_sem]
  exact mk_le rfl rfl rfl
def sFromM : Spec := Spec.f1 (kA eMk) (fun _ => True) (fun m => (kA eMk).enc m)
theorem okFromM : SpecOK Tryd.prog 26 sFromM := by
  refine SpecOK.f1 Tryd.func26 rfl (by decide) Tryd.results26 Tryd.ntmps26 (by decide) fun m _ => ?_
  have hΓ : GOK Tryd.prog (gam []) := GOK.nil
  obtain ⟨k, f, l⟩ := m
  refine AW.of hΓ mixed [] _ _ _ rfl ?_
  simp only [go_sem]
  exact mk_le rfl rfl rfl
def sRefRep : Spec := Spec.f2 kU kI (fun c w => 0 ≤ c ∧ c ≤ 255 ∧ w ≤ 10000000000) (fun c w => kS.enc (List.replicate w.toNat (UInt8.ofNat c.toNat)))
theorem okRefRep : SpecOK Tryd.prog 71 sRefRep := by
  refine SpecOK.f2 Tryd.func71 rfl (by decide) Tryd.results71 Tryd.ntmps71 (by decide) fun c w ⟨hc1, hc2, hw⟩ => ?_
  have hΓ : GOK Tryd.prog (gam []) := GOK.nil
  refine AW.of hΓ mixed [] _ _ _ rfl ?_
  simp only [go_sem]
  refine AW.round (α := { x : Nat × Nat × Nat // x.1 ≤ w.toNat }) (fun x => ⟨[(0, .val (.int .u8 c)), (1, .val (.int .i64 w)), (5, .st (List.replicate x.1.1 (UInt8.ofNat c.toNat))), (6, .val (.int .i64 x.1.1))], [], 18, x.1.2.2, x.1.2.1, []⟩) (fun x => w.toNat - x.1.1) ⟨(0, 0, 0), Nat.zero_le _⟩ ?_ ?_
  · simp only [go_sem]
    rfl
  · rintro ⟨⟨i, nx, tp⟩, hi⟩
    simp only at hi
    refine AW.fork ?_
    refine AW.of hΓ mixed [99999] _ _ _ rfl ?_
    simp only [go_sem]
    refine ⟨fun hlt => ?_, fun hge => ?_⟩
    · refine AW.fork (AW.block (AW.regionO hΓ [false, false, false, true] ?_))
      simp only [go_sem]
      refine str_wpS (l := [UInt8.ofNat c.toNat]) rfl Tryd.underlying82 Tryd.underlying5 Tryd.underlying9 rfl rfl (by simp) (fun i hi => ?_) (Nat.lt_of_lt_of_le (by decide : 15 < 18) (Nat.le_refl _)) ?_
      · obtain rfl : i = 0 := by omega
        show AV.val (.int .u8 c) = AV.val (.int .u8 _)
        congr 2
        simp
        omega
      · simp only [go_sem]
        refine ⟨by omega, ?_⟩
        refine AW.of hΓ mixed [] _ _ _ rfl ?_
        simp only [go_sem]
        exact ⟨by omega, ⟨(i + 1, nx, tp), by dsimp only; omega⟩, ⟨Nat.le_refl _, by dsimp only; rw [List.replicate_succ'], by dsimp only; omega⟩, by dsimp only; omega⟩
    · rw [show i = w.toNat by omega]
def sReadM : Spec := Spec.f2 kS kI (fun l _ => l.length ≤ 100000000000) (fun l w => tu3 ((kA eMk).enc (readM l w).1) (kB.enc (readM l w).2.1) (kI.enc (readM l w).2.2))
theorem mk0_le {c : Nat → AV} (h0 : c 0 = .val (.int .u8 0)) (h1 : c 1 = .val (.bool false)) (h2 : c 2 = .st []) : AVle (.ag 3 c) (.ag 3 (eMk.enc mk0)) := mk_le h0 h1 h2
theorem okReadM : SpecOK Tryd.prog 25 sReadM := by
  refine SpecOK.f2 Tryd.func25 rfl (by decide) Tryd.results25 Tryd.ntmps25 (by decide) fun l w hl => ?_
  have hΓ : GOK Tryd.prog (gam [(45, sIsWidth), (51, sRun), (52, sRead1), (46, sMayBe)]) := (.cons okIsWidth (.cons okRun (.cons okRead1 (.cons okMayBe .nil))))
  by_cases hw : wideM w = false
  · refine AW.of hΓ mixed [200005] _ _ _ rfl ?_
    simp only [go_sem, sIsWidth, sRun, sRead1, sMayBe, hw]
    have e : readM l w = (mk0, false, 4) := if_pos hw
    rw [e]
    exact ⟨mk0_le rfl rfl rfl, rfl, rfl⟩
  have hw' : wideM w = true := by simpa using hw
  have hw2 := wide_iff.1 hw'
  by_cases hr : (runL l : Int) < w
  · have hr' : ((runL l : Int) < w) = True := eq_true hr
    refine AW.of hΓ mixed [200005] _ _ _ rfl ?_
    simp only [go_sem, sIsWidth, sRun, sRead1, sMayBe, hw', hr']
    have e : readM l w = (mk0, false, 0) := by unfold readM; rw [if_neg hw, if_pos hr]
    rw [e]
    exact ⟨hl, mk0_le rfl rfl rfl, rfl, rfl⟩
  · have hr' : ((runL l : Int) < w) = False := eq_false hr
    have hrl := runL_le l
    have e : readM l w = (match rdT (l.drop w.toNat) with
      | some (f, x) => if mayM ((l.getD 0 0).toNat, f, x) = true then (((l.getD 0 0).toNat, f, x), true, 0) else (mk0, false, 6)
      | none => (mk0, false, 6)) := by
      conv => lhs; unfold readM
      rw [if_neg hw, if_neg hr]
      rfl
    refine AW.of hΓ mixed [200005] _ _ _ rfl ?_
    simp only [go_sem, sIsWidth, sRun, sRead1, sMayBe, hw', hr']
    refine ⟨hl, AW.drawZ hΓ mixed 10 [11] [8, 11] [] (by decide +kernel) ?_⟩
    simp only [go_sem, sIsWidth, sRun, sRead1, sMayBe]
    have ro : rdO ((l.getD 0 0).toNat : Int) (l.drop w.toNat) = (match rdT (l.drop w.toNat) with
      | some (f, x) => (((l.getD 0 0).toNat, f, x), true)
      | none => (mk0, false)) := by
      unfold rdO
      rw [rdI_eq]
    cases hT : rdT (l.drop w.toNat) with
    | none =>
      rw [hT] at ro e
      dsimp only at ro e
      rw [ro, e]
      refine ⟨by omega, ⟨by omega, by omega, by omega⟩, by omega, fun h => by simp at h, fun _ => ⟨mk0_le rfl rfl rfl, rfl, rfl⟩, fun h => ?_⟩
      simp at h
    | some p =>
      obtain ⟨f, x⟩ := p
      rw [hT] at ro e
      dsimp only at ro e
      rw [ro]
      refine ⟨by omega, ⟨by omega, by omega, by omega⟩, by omega, fun _ => rfl, fun h => ?_, fun h => ?_⟩
      · have hm : ¬ mayM ((l.getD 0 0).toNat, f, x) = true := by simpa using h
        rw [e, if_neg hm]
        exact ⟨mk0_le rfl rfl rfl, rfl, rfl⟩
      · have hm : mayM ((l.getD 0 0).toNat, f, x) = true := by simpa using h
        rw [e, if_pos hm]
        exact ⟨mk_le rfl rfl rfl, rfl, rfl⟩
def sRefLineI : Spec := Spec.f2 (kA eMk) kI (fun m w => (0 ≤ m.1 ∧ m.1 ≤ 255) ∧ w ≤ 10000000000 ∧ m.2.2.length ≤ 10000000000) (fun m w => kS.enc (lineM m w))
theorem okRefLineI : SpecOK Tryd.prog 50 sRefLineI := by
  refine SpecOK.f2 Tryd.func50 rfl (by decide) Tryd.results50 Tryd.ntmps50 (by decide) fun m w ⟨hk, hw, hl⟩ => ?_
  have hΓ : GOK Tryd.prog (gam [(71, sRefRep)]) := (.cons okRefRep .nil)
  obtain ⟨k, f, l⟩ := m
  simp only at hk hl
  cases f
  all_goals (
    by_cases h : l = []
    all_goals (
      refine AW.of hΓ mixed [] _ _ _ rfl ?_
      simp only [go_sem, sRefRep, h]
      refine ⟨⟨hk.1, hk.2, hw⟩, ?_⟩
      refine AW.fork ?_
      refine AW.of hΓ mixed [] _ _ _ rfl ?_
      simp only [go_sem, sRefRep, h]
      try refine ⟨by omega, ?_⟩
      refine AW.fork ?_
      refine AW.of hΓ mixed [] _ _ _ rfl ?_
      simp only [go_sem, sRefRep, h]
      try refine ⟨by omega, by omega, ?_⟩
      refine AW.of hΓ mixed [] _ _ _ rfl ?_
      simp only [go_sem, sRefRep]
      refine ⟨by omega, ?_⟩
      simp [lineM, tailM, h]))
def sRefLine : Spec := Spec.f2 (kA eMk) kI (fun m _ => (0 ≤ m.1 ∧ m.1 ≤ 255) ∧ m.2.2.length ≤ 100000000) (fun m w => tu2 (kS.enc (lineR m w).1) (kI.enc (lineR m w).2))
theorem okRefLine : SpecOK Tryd.prog 23 sRefLine := by
  refine SpecOK.f2 Tryd.func23 rfl (by decide) Tryd.results23 Tryd.ntmps23 (by decide) fun m w ⟨hk, hl⟩ => ?_
  have hΓ : GOK Tryd.prog (gam [(48, sRefWide), (49, sRefMay), (50, sRefLineI)]) := (.cons okRefWide (.cons okRefMay (.cons okRefLineI .nil)))
  refine AW.of hΓ mixed [] _ _ _ rfl ?_
  simp only [go_sem, sRefWide, sRefMay, sRefLineI]
  have et : (m.1, m.2.1, m.2.2) = m := rfl
  rw [et]
  unfold lineR
  refine ⟨fun h => ?_, fun h => ⟨hl, fun h2 => ?_, fun h2 => ?_⟩⟩
  · rw [if_pos (by simpa using h)]
    exact ⟨rfl, rfl⟩
  · rw [if_neg (by simpa using h), if_pos (by simpa using h2)]
    exact ⟨rfl, rfl⟩
  · rw [if_neg (by simpa using h), if_neg (by simpa using h2)]
    have := wide_iff.1 (by simpa using h)
    exact ⟨⟨hk, by omega, by omega⟩, rfl, rfl⟩
theorem mkRow {v : Nat} {t : TypeId} {k : Int} {f : Bool} {l : BS} {c : Nat → AV} (h0 : c 0 = .val (.int .u8 k)) (h1 : c 1 = .val (.bool f)) (h2 : c 2 = .st l) : RowLe (.box v t 3 c) (.box v t 3 (eMk.enc (k, f, l))) := RowLe.box fun j hj => AVle.of_eq (match j, hj with
  | 0, _ => h0
  | 1, _ => h1
  | 2, _ => h2)
theorem rdT_eq (r : BS) (f : Bool) (r1 x : BS) (hf : decide (r.getD 0 0 = 33) = f) (hr : (if f = true then r.drop 1 else r) = r1) (hx : (if 1 < r1.length ∧ r1.getD 0 0 = 32 then (r1.take (r1.length - 1)).drop 1 else []) = x) : rdT r = if tailM f x = r then some (f, x) else none := by
  subst hf
  subst hr
  subst hx
  rfl
def sRefReadM : Spec := Spec.f2 kS kI (fun l _ => l.length ≤ 100000000) (fun l w => tu3 ((kA eMk).enc (readM l w).1) (kB.enc (readM l w).2.1) (kI.enc (readM l w).2.2))
theorem okRefReadM : SpecOK Tryd.prog 27 sRefReadM := by
  refine SpecOK.f2 Tryd.func27 rfl (by decide) Tryd.results27 Tryd.ntmps27 (by decide) fun l w hl => ?_
  have hΓ : GOK Tryd.prog (gam [(48, sRefWide), (53, sRefRun), (49, sRefMay), (50, sRefLineI)]) := (.cons okRefWide (.cons okRefRun (.cons okRefMay (.cons okRefLineI .nil))))
  by_cases hw : wideM w = false
  · refine AW.of hΓ mixed [] _ _ _ rfl ?_
    simp only [go_sem, sRefWide, sRefRun, sRefMay, sRefLineI, hw]
    have e : readM l w = (mk0, false, 4) := if_pos hw
    rw [e]
    exact ⟨mk0_le rfl rfl rfl, rfl, rfl⟩
  have hw' : wideM w = true := by simpa using hw
  have hw2 := wide_iff.1 hw'
  by_cases hr : (runL l : Int) < w
  · have hr' : ((runL l : Int) < w) = True := eq_true hr
    refine AW.of hΓ mixed [] _ _ _ rfl ?_
    simp only [go_sem, sRefWide, sRefRun, sRefMay, sRefLineI, hw', hr']
    have e : readM l w = (mk0, false, 0) := by unfold readM; rw [if_neg hw, if_pos hr]
    rw [e]
    exact ⟨by omega, mk0_le rfl rfl rfl, rfl, rfl⟩
  · have hr' : ((runL l : Int) < w) = False := eq_false hr
    have hrl := runL_le l
    have hr2 := run_split (s := l) (n := w.toNat) (by omega) (by omega)
    have e : readM l w = (match rdT (l.drop w.toNat) with
      | some (f, x) => if mayM ((l.getD 0 0).toNat, f, x) = true then (((l.getD 0 0).toNat, f, x), true, 0) else (mk0, false, 6)
      | none => (mk0, false, 6)) := by
      conv => lhs; unfold readM
      rw [if_neg hw, if_neg hr]
      rfl
    refine AW.of hΓ mixed [6] _ _ _ rfl ?_
    simp only [go_sem, sRefWide, sRefRun, sRefMay, sRefLineI, hw', hr']
    refine ⟨by omega, by omega, by omega, ?_⟩
    have hrl2 : (l.drop w.toNat).length ≤ l.length := by rw [List.length_drop]; omega
    have h33l : (l.drop w.toNat).getD 0 0 = 33 → 0 < (l.drop w.toNat).length := fun h => by
      generalize l.drop w.toNat = d at h
      cases d with
      | nil => simp at h
      | cons _ _ => simp
    generalize hre : l.drop w.toNat = r at *
    generalize hc : ((l.getD 0 0).toNat : Int) = c at *
    have hc2 : 0 ≤ c ∧ c ≤ 255 := by
      have := (l.getD 0 0).toNat_lt
      omega
    have hlc : ∀ f x, (lineM (c, f, x) w = l ↔ tailM f x = r) := fun f x => by
      have e0 : UInt8.ofNat c.toNat = l.getD 0 0 := by rw [← hc]; simp
      unfold lineM
      simp only [e0]
      exact ⟨fun h => List.append_cancel_left (h.trans hr2.2), fun h => by rw [h]; exact hr2.2.symm⟩
    generalize hf : decide (r.getD 0 0 = 33) = f at *
    generalize hr1 : (if f = true then r.drop 1 else r) = r1 at *
    generalize hx : (if 1 < r1.length ∧ r1.getD 0 0 = 32 then (r1.take (r1.length - 1)).drop 1 else []) = x at *
    rw [rdT_eq r f r1 x hf hr1 hx] at e
    have hr1l : r1.length ≤ r.length := by
      rw [← hr1]
      split
      · rw [List.length_drop]; omega
      · exact Nat.le_refl _
    have hxl : x.length ≤ r1.length := by
      rw [← hx]
      split
      · rw [List.length_drop, List.length_take]; omega
      · simp
    refine AW.cut ⟨[(0, .st l), (1, .val (.int .i64 w)), (4, .pt 0 0 0), (7, .pt 1 1 0), (8, .st r)], [(0, .box 0 37 3 (eMk.enc mk0)), (1, .box 1 37 3 (eMk.enc (c, false, [])))], 61, 2, 2, []⟩ ?_ ?_
    · simp only [go_sem, sRefWide, sRefRun, sRefMay, sRefLineI]
      exact ⟨mkRow rfl rfl rfl, mkRow rfl rfl rfl⟩
    refine AW.seqTo (fun _ : Unit => Sh.st ⟨[(0, .st l), (1, .val (.int .i64 w)), (4, .pt 0 0 0), (7, .pt 1 1 0), (8, .st r1)], [(0, .box 0 37 3 (eMk.enc mk0)), (1, .box 1 37 3 (eMk.enc (c, f, [])))], 61, 2, 2, []⟩) ?_ fun _ => ?_
    · refine AW.of hΓ mixed [99999] _ _ _ rfl ?_
      simp only [go_sem, sRefWide, sRefRun, sRefMay, sRefLineI]
      refine ⟨fun ⟨h1, h2⟩ => ⟨by omega, (), toFits ?_⟩, fun h => ⟨(), toFits ?_⟩⟩
      · have ef : f = true := by rw [← hf]; exact decide_eq_true h2
        rw [if_pos ef] at hr1
        subst ef
        simp only [go_sem, sRefWide, sRefRun, sRefMay, sRefLineI, hr1]
        exact ⟨RowLe.refl _, mkRow rfl rfl rfl⟩
      · have ef : f = false := by
          rw [← hf]
          refine decide_eq_false fun hh => h ?_ hh
          have := h33l hh
          omega
        rw [if_neg (by rw [ef]; simp)] at hr1
        subst ef
        simp only [go_sem, sRefWide, sRefRun, sRefMay, sRefLineI, hr1]
        exact ⟨RowLe.refl _, mkRow rfl rfl rfl⟩
    refine AW.seqTo (fun _ : Unit => Sh.st ⟨[(0, .st l), (1, .val (.int .i64 w)), (4, .pt 0 0 0), (7, .pt 1 1 0)], [(0, .box 0 37 3 (eMk.enc mk0)), (1, .box 1 37 3 (eMk.enc (c, f, x)))], 61, 2, 2, []⟩) ?_ fun _ => ?_
    · refine AW.of hΓ mixed [99999] _ _ _ rfl ?_
      simp only [go_sem, sRefWide, sRefRun, sRefMay, sRefLineI]
      refine ⟨fun _ => by omega, fun ⟨h1, h2⟩ => ⟨by omega, by omega, (), toFits ?_⟩, fun h => ⟨(), toFits ?_⟩⟩
      · rw [if_pos ⟨by omega, h2⟩] at hx
        have e1 : ((r1.length : Int) - 1).toNat = r1.length - 1 := by omega
        simp only [go_sem, sRefWide, sRefRun, sRefMay, sRefLineI]
        refine ⟨RowLe.refl _, mkRow rfl rfl ?_⟩
        rw [stC_in (by decide) (by decide), e1, hx]
      · rw [if_neg fun hh => h (by omega) hh.2] at hx
        subst hx
        simp only [go_sem, sRefWide, sRefRun, sRefMay, sRefLineI]
        exact ⟨RowLe.refl _, RowLe.refl _⟩
    refine AW.of hΓ mixed [99999] _ _ _ rfl ?_
    simp only [go_sem, sRefWide, sRefRun, sRefMay, sRefLineI]
    refine ⟨by omega, fun _ => ⟨hc2, by omega, by omega⟩, fun h => by rw [h]; rfl, fun h => ?_, fun h => ?_⟩
    · have e2 : readM l w = (mk0, false, 6) := by
        rw [e]
        by_cases h2 : tailM f x = r
        · rw [if_pos h2]
          dsimp only
          simp only [Bool.or_eq_true, Bool.not_eq_true', decide_eq_true_eq] at h
          rcases h with h | h
          · rw [if_neg (by rw [h]; simp)]
          · exact absurd ((hlc f x).2 h2) h
        · rw [if_neg h2]
      rw [e2]
      exact ⟨mk0_le rfl rfl rfl, rfl, rfl⟩
    · simp only [Bool.or_eq_false_iff, Bool.not_eq_false', decide_eq_false_iff_not, Decidable.not_not] at h
      have e2 : readM l w = ((c, f, x), true, 0) := by
        rw [e, if_pos ((hlc f x).1 h.2)]
        dsimp only
        rw [if_pos h.1]
      rw [e2]
      exact ⟨mk_le rfl rfl rfl, rfl, rfl⟩
def sNarrow : Spec := Spec.f1 kI (fun _ => True) (fun w => kI.enc (narrW w))
theorem okNarrow : SpecOK Tryd.prog 20 sNarrow := by
  refine SpecOK.f1 Tryd.func20 rfl (by decide) Tryd.results20 Tryd.ntmps20 (by decide) fun w _ => ?_
  have hΓ : GOK Tryd.prog (gam []) := GOK.nil
  unfold narrW
  refine AW.of hΓ mixed [] _ _ _ rfl ?_
  simp only [go_sem]
  refine ⟨fun h => ?_, fun h => ?_⟩
  · rw [if_pos h]
    refine ⟨?_, rfl⟩
    rw [Int.tmod_eq_emod_of_nonneg (by omega)]
    omega
  · rw [if_neg fun hh => h hh.1 hh.2]
end Go.Proofs.YtljgfacjefebaaaDoor
