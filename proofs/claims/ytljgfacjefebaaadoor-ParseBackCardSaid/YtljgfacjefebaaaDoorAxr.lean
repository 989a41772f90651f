/-
  A variable that is only read from now on.
-/
import Derived.Test.YtljgfacjefebaaaDoorAxq
set_option linter.unusedSimpArgs false
set_option linter.unusedVariables false
namespace Go.Proofs.YtljgfacjefebaaaDoor
open Go
theorem ASle.still {st : AS} (s q v e m : Nat) (c : Nat → AV) (hs : st.fr s = .pt q v 0) (hrow : st.hp q = .box v e m c) (hfl : ∀ j, j < m → (c j).flat = true) :
    ASle st ⟨updA st.fr s (.ps m c), updR st.hp q .dead, st.sz, st.top, st.nx, st.df⟩ := by
  intro ct η a w h
  have hver : ∀ p u, (updR st.hp q .dead p).ver = some u → (st.hp p).ver = some u ∧ p ≠ q := fun p u hv => by
    by_cases e : p = q
    · subst e; rw [updR_at] at hv; cases hv
    · rw [updR_ne _ _ e] at hv; exact ⟨hv, e⟩
  have hblk : ∀ p b, (updR st.hp q .dead p).blk η = some b → (st.hp p).blk η = some b ∧ p ≠ q := fun p b hb => by
    by_cases e : p = q
    · subst e; rw [updR_at] at hb; cases hb
    · rw [updR_ne _ _ e] at hb; exact ⟨hb, e⟩
  have hL : ∀ b, Lset ct η (updR st.hp q .dead) b → Lset ct η st.hp b := by
    rintro b (hl | ⟨p, hp⟩)
    · exact .inl hl
    · exact .inr ⟨p, (hblk p b hp).1⟩
  have less : ∀ {x u}, Rep w η (Lset ct η st.hp) x u → Rep w η (Lset ct η (updR st.hp q .dead)) x u := fun h => Rep.less (fun b _ hb => hL b hb) h
  have lessN : ∀ {x u}, Rep w noEnv (Lset ct η st.hp) x u → Rep w noEnv (Lset ct η (updR st.hp q .dead)) x u := fun h => Rep.less (fun b _ hb => hL b hb) h
  refine ⟨η, ⟨⟨h.hs.fr, h.hs.lx, fun p => ?_, fun p p' u hp hq => h.hs.vers p p' u (hver p u hp).1 (hver p' u hq).1, fun p u hp => h.hs.bnd p u (hver p u hp).1,
    fun p p' b hp hq => h.hs.disj p p' b (hblk p b hp).1 (hblk p' b hq).1, fun p b hp => h.hs.own p b (hblk p b hp).1, h.hs.fresh, h.hs.env⟩, fun p hp => ?_, h.size,
    fun t => ?_, h.defs⟩⟩
  · show RowOK w η (Lset ct η (updR st.hp q .dead)) (if p = q then .dead else st.hp p)
    by_cases e : p = q
    · rw [if_pos e]; trivial
    · rw [if_neg e]
      exact RowOK.less hL (h.hs.rows p)
  · show (if p = q then Row.dead else st.hp p) = .dead
    by_cases e : p = q
    · rw [if_pos e]
    · rw [if_neg e]
      exact h.dead p hp
  · by_cases et : t = s
    · subst et
      show Rep w η (Lset ct η (updR st.hp q .dead)) (if t = t then .ps m c else st.fr t) _
      rw [if_pos rfl]
      have hr := h.slots t
      rw [hs] at hr
      obtain ⟨g, cap, hη, hv⟩ := hr
      have hrr := h.hs.rows q
      rw [hrow] at hrr
      obtain ⟨b, cur, hg, hh, hsz, hc⟩ := hrr (some g) cap hη
      have hg : g = b := Option.some.inj hg
      subst hg
      have hbk : (st.hp q).blk η = some g := by rw [hrow]; simp [Row.blk, Row.ver, hη]
      refine ⟨g, 0, hv, fun _ => ?_, fun j hj => ?_⟩
      · rintro (hl | ⟨p', hp'⟩)
        · exact (h.hs.own q g hbk).2.1 hl
        · obtain ⟨h1, h2⟩ := hblk p' g hp'
          exact h2 (h.hs.disj p' q g h1 hbk)
      · obtain ⟨u, hu, h1, hrep⟩ := hc j hj
        exact ⟨u, by rw [cell_heap hh, Nat.zero_add]; exact hu, h1, lessN (flat_rep (hfl j hj) hrep)⟩
    · show Rep w η (Lset ct η (updR st.hp q .dead)) (if t = s then .ps m c else st.fr t) _
      rw [if_neg et]
      exact less (h.slots t)
theorem AW.still {P : Program} {x : Code} {Q : Exit → AS → Prop} {st : AS} (s q v e m : Nat) (c : Nat → AV) (hs : st.fr s = .pt q v 0) (hrow : st.hp q = .box v e m c) (hfl : ∀ j, j < m → (c j).flat = true)
    (k : AW P x Q ⟨updA st.fr s (.ps m c), updR st.hp q .dead, st.sz, st.top, st.nx, st.df⟩) : AW P x Q st := AW.le (ASle.still s q v e m c hs hrow hfl) k
/-! ### five and six parameters -/
section
variable {α β γ δ ε ζ : Type}
def Spec.f5 (A : Kd α) (B : Kd β) (C : Kd γ) (D : Kd δ) (E : Kd ε) (dom : α → β → γ → δ → ε → Prop) (out : α → β → γ → δ → ε → AV) : Spec where
  pre | [x, y, z, u, v] => A.ok x ∧ B.ok y ∧ C.ok z ∧ D.ok u ∧ E.ok v ∧ dom (A.dec x) (B.dec y) (C.dec z) (D.dec u) (E.dec v)
      | _ => False
  res | [x, y, z, u, v] => out (A.dec x) (B.dec y) (C.dec z) (D.dec u) (E.dec v)
      | _ => .any
def Spec.f6 (A : Kd α) (B : Kd β) (C : Kd γ) (D : Kd δ) (E : Kd ε) (F : Kd ζ) (dom : α → β → γ → δ → ε → ζ → Prop) (out : α → β → γ → δ → ε → ζ → AV) : Spec where
  pre | [x, y, z, u, v, w] => A.ok x ∧ B.ok y ∧ C.ok z ∧ D.ok u ∧ E.ok v ∧ F.ok w ∧ dom (A.dec x) (B.dec y) (C.dec z) (D.dec u) (E.dec v) (F.dec w)
      | _ => False
  res | [x, y, z, u, v, w] => out (A.dec x) (B.dec y) (C.dec z) (D.dec u) (E.dec v) (F.dec w)
      | _ => .any
variable {P : Program} {f : FuncId} {fn : Func} {code : Code} {l : List ResultVar}
theorem SpecOK.f5 {A : Kd α} {B : Kd β} {C : Kd γ} {D : Kd δ} {E : Kd ε} {dom : α → β → γ → δ → ε → Prop} {out : α → β → γ → δ → ε → AV} (hf : P.funcs[f]? = some fn) (hb : fn.body = some code) (hn : (fn.name == "runtime.NumGoroutine") = false) (hl : fn.results = l.toArray) {n : Nat} (ht : fn.ntmps = n) (hm : 5 ≤ n)
    (h : ∀ a b c d e, dom a b c d e → AW P code (retQ P l (out a b c d e)) (st0 n [A.enc a, B.enc b, C.enc c, D.enc d, E.enc e])) : SpecOK P f (Spec.f5 A B C D E dom out) := by
  subst ht
  refine SpecOK.mk hf hb hn hl fun args hp => ?_
  match args, hp with
  | [x, y, z, u, v], hp => exact ⟨hm, AW.le (st0_le (.cons hp.1 (.cons hp.2.1 (.cons hp.2.2.1 (.cons hp.2.2.2.1 (.cons hp.2.2.2.2.1 .nil)))))) (h _ _ _ _ _ hp.2.2.2.2.2)⟩
theorem SpecOK.f6 {A : Kd α} {B : Kd β} {C : Kd γ} {D : Kd δ} {E : Kd ε} {F : Kd ζ} {dom : α → β → γ → δ → ε → ζ → Prop} {out : α → β → γ → δ → ε → ζ → AV} (hf : P.funcs[f]? = some fn) (hb : fn.body = some code) (hn : (fn.name == "runtime.NumGoroutine") = false) (hl : fn.results = l.toArray) {n : Nat} (ht : fn.ntmps = n) (hm : 6 ≤ n)
    (h : ∀ a b c d e g, dom a b c d e g → AW P code (retQ P l (out a b c d e g)) (st0 n [A.enc a, B.enc b, C.enc c, D.enc d, E.enc e, F.enc g])) : SpecOK P f (Spec.f6 A B C D E F dom out) := by
  subst ht
  refine SpecOK.mk hf hb hn hl fun args hp => ?_
  match args, hp with
  | [x, y, z, u, v, w], hp => exact ⟨hm, AW.le (st0_le (.cons hp.1 (.cons hp.2.1 (.cons hp.2.2.1 (.cons hp.2.2.2.1 (.cons hp.2.2.2.2.1 (.cons hp.2.2.2.2.2.1 .nil))))))) (h _ _ _ _ _ _ hp.2.2.2.2.2.2)⟩
end
attribute [go_sem] Spec.f5 Spec.f6
end Go.Proofs.YtljgfacjefebaaaDoor
