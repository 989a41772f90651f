/-
  lcs: the walks' functions, beside other rows.
-/
import Derived.Test.YtainopabnnglgaaLcsW
set_option linter.unusedSimpArgs false
set_option linter.unusedVariables false
set_option maxRecDepth 100000
set_option maxHeartbeats 2000000
namespace Go.Proofs.Ytainopabnnglgaa
open Go
attribute [local irreducible] AW AVle ASle RowLe
def sNewWalk : MSpec := framed sNewWalk0
theorem okNewWalk : MethOK Try.prog 43 sNewWalk := okNewWalk0.frame
theorem newWalk_go {a b far : List Int} {ver p n : Nat} {x y : AV} {hp : Nat → Row} {top nx : Nat} {K : AV → (Nat → Row) → Nat → Nat → Prop} (hx : AVle x (sL eI a)) (hy : AVle y (sL eI b)) (hn : n = far.length) (hr : RowLe (hp p) (rowL ver 3 eI far)) (hp0 : p < top)
    (ha : a.length < 100000000) (hb : b.length < 100000000) (hf : a.length + b.length + 3 ≤ far.length) (hl : far.length < 1000000000)
    (hK : ∀ nx', nx ≤ nx' → K (wAV (sL eI a) (sL eI b) (.ow p ver (a.length + b.length + 3))) (updR hp p (rowL ver 3 eI (startR (a.length + b.length + 3) ++ far.drop (a.length + b.length + 3)))) top nx') :
    sNewWalk [x, y, .ow p ver n] hp top nx K := by
  subst hn
  have hver : (hp p).ver = some ver := hr.vers.symm
  refine ⟨[p], [sL eI a, sL eI b, .ow 0 ver far.length], rws [(0, rowL ver 3 eI far)], by simp, by simpa using hp0, .cons hx (.cons hy (.cons AVle.ow .nil)), one_row hr, fun i hi => rws_top (top := 1) (by simp) i (by simpa using hi), a, b, far, ver, rfl, rfl, rfl, ha, hb, hf, hl, fun r hp' top' nx' h1 h2 h3 => ?_⟩
  refine ⟨wAV (sL eI a) (sL eI b) (.ow p ver (a.length + b.length + 3)), updR hp p (rowL ver 3 eI (startR (a.length + b.length + 3) ++ far.drop (a.length + b.length + 3))), h1.trans ?_, fun i q hq => ?_, fun q hq => ?_, fun q hq v hv => ?_, hK nx' h3⟩
  · refine AVle.ag fun j hj => ?_
    match j, hj with
    | 0, _ => exact AVle.refl _
    | 1, _ => exact AVle.refl _
    | 2, _ => exact AVle.ow
  · cases i with
    | zero =>
      simp only [List.getElem?_cons_zero, Option.some.injEq] at hq
      subst hq
      rw [updR_at]
      exact h2
    | succ i => simp at hq
  · rw [updR_ne _ _ (by simpa using hq)]
  · simp only [List.mem_singleton] at hq
    subst hq
    rw [updR_at] at hv
    exact .inl (hver.trans hv)
def sAdvance : MSpec := framed sAdvance0
theorem okAdvance : MethOK Try.prog 45 sAdvance := okAdvance0.frame
theorem advance_go {a b far far' rest : List Int} {k x : Int} {ver p : Nat} {w : AV} {hp : Nat → Row} {top nx : Nat} {K : AV → (Nat → Row) → Nat → Nat → Prop} (hw : AVle w (wAV (sL eI a) (sL eI b) (.ow p ver far.length))) (hr : RowLe (hp p) (rowL ver 3 eI (far ++ rest))) (hp0 : p < top)
    (hfar : okFar far) (ha : a.length < 100000000) (hb : b.length < 100000000) (hadv : advF a b far k = some (x, far'))
    (hK : ∀ nx', nx ≤ nx' → K (kI.enc x) (updR hp p (rowL ver 3 eI (far' ++ rest))) top nx') : sAdvance [w, kI.enc k] hp top nx K := by
  have hver : (hp p).ver = some ver := hr.vers.symm
  refine ⟨[p], [wAV (sL eI a) (sL eI b) (.ow 0 ver far.length), kI.enc k], rws [(0, rowL ver 3 eI (far ++ rest))], by simp, by simpa using hp0, .cons (hw.trans ?_) (.cons (AVle.refl _) .nil), one_row hr, fun i hi => rws_top (top := 1) (by simp) i (by simpa using hi), a, b, far, rest, k, ver, x, far', rfl, rfl, rfl, hfar, ha, hb, hadv, fun hp' top' nx' h2 h3 => ?_⟩
  · refine AVle.ag fun j hj => ?_
    match j, hj with
    | 0, _ => exact AVle.refl _
    | 1, _ => exact AVle.refl _
    | 2, _ => exact AVle.ow
  refine ⟨kI.enc x, updR hp p (rowL ver 3 eI (far' ++ rest)), AVle.refl _, fun i q hq => ?_, fun q hq => ?_, fun q hq v hv => ?_, hK nx' h3⟩
  · cases i with
    | zero =>
      simp only [List.getElem?_cons_zero, Option.some.injEq] at hq
      subst hq
      rw [updR_at]
      exact h2
    | succ i => simp at hq
  · rw [updR_ne _ _ (by simpa using hq)]
  · simp only [List.mem_singleton] at hq
    subst hq
    rw [updR_at] at hv
    exact .inl (hver.trans hv)
end Go.Proofs.Ytainopabnnglgaa
