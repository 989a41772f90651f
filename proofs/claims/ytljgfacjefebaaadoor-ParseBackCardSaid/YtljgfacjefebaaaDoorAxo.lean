/-
  What is known of a state may be given up where a call ends, too.
-/
import Derived.Test.YtljgfacjefebaaaDoorAxn
namespace Go.Proofs.YtljgfacjefebaaaDoor
open Go
def lateE (P : Program) (l : List ResultVar) (K : AV → (Nat → Row) → Nat → Nat → Prop) (st : AS) : Prop := ∃ st', ASle st st' ∧ endM P l K st'
def lateM (P : Program) (l : List ResultVar) (K : AV → (Nat → Row) → Nat → Nat → Prop) : Exit → AS → Prop
  | .normal, st => lateE P l K st
  | .ret, st => lateE P l K st
  | _, _ => False
@[go_sem] theorem lateM_normal {P : Program} {l : List ResultVar} {K : AV → (Nat → Row) → Nat → Nat → Prop} {st : AS} : lateM P l K .normal st = lateE P l K st := rflN rfl
@[go_sem] theorem lateM_ret {P : Program} {l : List ResultVar} {K : AV → (Nat → Row) → Nat → Nat → Prop} {st : AS} : lateM P l K .ret st = lateE P l K st := rflN rfl
theorem AW.late {P : Program} {l : List ResultVar} {K : AV → (Nat → Row) → Nat → Nat → Prop} {x : Code} {st : AS} (h : AW P x (lateM P l K) st) : AW P x (retM P l K) st := by
  intro c η a w hsr
  refine wp_mono (h c η a w hsr) ?_
  rintro e a' w' ⟨st', η', hq, hs'⟩
  cases e with
  | normal =>
    obtain ⟨s, h1, h2⟩ := hq
    obtain ⟨η'', h''⟩ := h1 c η' a' w' hs'
    exact ⟨s, η'', h2, h''⟩
  | ret =>
    obtain ⟨s, h1, h2⟩ := hq
    obtain ⟨η'', h''⟩ := h1 c η' a' w' hs'
    exact ⟨s, η'', h2, h''⟩
  | _ => exact hq.elim
theorem fz_flat {q v n sz : Nat} {cc : Nat → Nat → AV} {x : AV} (h : x.flat = true) : fz q v n sz cc x = x := by
  cases x with
  | ow p u m => cases h
  | _ => rfl
end Go.Proofs.YtljgfacjefebaaaDoor
