/-
  A function that defers a closure which does nothing but recover.
-/
import Derived.Test.YtainopabnnglgaaAxe
import Derived.Recover
set_option linter.unusedSimpArgs false
namespace Go.Proofs.Ytainopabnnglgaa
open Go

section
variable {P : Program}
/-- Called by a frame that returns, it leaves all as it is. -/
def Idle (P : Program) (g : FuncId) : Prop :=
  (∀ (args : Array Value) (w : World), (callFunc g args).run P w = .ok (.enter g args) w) ∧
  ∀ w : World, CallsD P g #[] .returning w fun e u' w' => u' = .returning ∧ (∃ v, e = .returned v) ∧ w' = w
theorem idle_recover {g : FuncId} {fn : Func} {id : Nat} {ty : TypeId} {pos : String} (hf : P.funcs[g]? = some fn) (hn : (fn.name == "runtime.NumGoroutine") = false) (hl : fn.results = #[])
    (hb : fn.body = some (.region id #[{ dst := some 0, op := .call { callee := .builtin .recover, args := #[], argTypes := #[] }, type := ty, pos := pos, after := #[], guard := none }] false)) : Idle P g := by
  refine ⟨enters hf hb hn, fun w => callsD_of_wpS hf hb fun c₀ cs hu => ?_⟩
  apply wpS_region
  have e : c₀ = { c₀ with mode := .returning } := by cases c₀; simp_all
  have : recoverD (c₀ :: cs) = none := by simp [recoverD, hu]
  have hx : ∀ ρ, (execOp ρ { dst := some 0, op := .call { callee := .builtin .recover, args := #[], argTypes := #[] }, type := ty, pos := pos, after := #[], guard := none }).run P w = .ok .recover w := fun _ => rfl
  simp [wpOpsS, Region.wanted, hx, this, bodyPostS, results, hl]
  exact ⟨rfl, e⟩

def retD (P : Program) (g : FuncId) (l : List ResultVar) (r : AV) (st : AS) : Prop :=
  st.df = [⟨.fn (.func g) #[], #[]⟩] ∧ retOK P l r ⟨st.fr, st.hp, st.sz, st.top, st.nx, []⟩
def retQD (P : Program) (g : FuncId) (l : List ResultVar) (r : AV) : Exit → AS → Prop
  | .normal, st => retD P g l r st
  | .ret, st => retD P g l r st
  | _, _ => False
@[go_sem] theorem retQD_normal {g : FuncId} {l : List ResultVar} {r : AV} {st : AS} : retQD P g l r .normal st = retD P g l r st := rfl
@[go_sem] theorem retQD_ret {g : FuncId} {l : List ResultVar} {r : AV} {st : AS} : retQD P g l r .ret st = retD P g l r st := rfl
attribute [go_sem] retD

theorem SR.undefer {c : Ctx} {st : AS} {η : Env} {a : Act} {w : World} (h : SR c st η a w) : SR c ⟨st.fr, st.hp, st.sz, st.top, st.nx, []⟩ η { a with defers := [] } w :=
  ⟨h.hs, h.dead, h.size, h.slots, rfl⟩
theorem SpecOK.mkD {f g : FuncId} {fn : Func} {code : Code} {s : Spec} {l : List ResultVar} (hg : Idle P g) (hf : P.funcs[f]? = some fn) (hb : fn.body = some code) (hn : (fn.name == "runtime.NumGoroutine") = false) (hl : fn.results = l.toArray)
    (h : ∀ args, s.pre args → args.length ≤ fn.ntmps ∧ AW P code (retQD P g l (s.res args)) (st0 fn.ntmps args)) : SpecOK P f s := by
  refine ⟨enters hf hb hn, fun args hpre w L vs hL hargs => ?_⟩
  obtain ⟨hlen, haw⟩ := h args hpre
  refine calls_of_wp_defers hf hb (wp_mono (haw _ _ _ _ (SR.begin hL hargs hlen)) ?_)
  rintro e a' w' ⟨st', η', hq, hsr'⟩
  have key : retD P g l (s.res args) st' → Leaves P fn a'.tmps (fun e w'' => ∃ v, e = .returned v ∧ Fr (fun _ => False) w w'' ∧ Rep w'' noEnv L (s.res args) v) a'.defers .returning w' := by
    rintro ⟨hd, hr⟩
    obtain ⟨_, v, hv, hrep⟩ := retOK_post hsr'.undefer hl hr
    rw [hsr'.defs, hd]
    refine leaves_cons (by simp) (f := g) (args := #[]) ?_ ?_
    · have := hg.1 #[] w'
      simp only [invoke] at this ⊢
      simpa using this
    · refine (hg.2 w').mono ?_
      rintro e u' w'' ⟨rfl, ⟨v', rfl⟩, rfl⟩
      exact ⟨v, hv, v, rfl, hsr'.hs.fr, hrep⟩
  cases e with
  | normal => exact key hq
  | ret => exact key hq
  | exit id => exact hq.elim
  | goto id => exact hq.elim
  | panic ch => exact hq.elim
  | outgrown => exact hq.elim
theorem SpecOK.f2D {α β : Type} {f g : FuncId} {fn : Func} {code : Code} {l : List ResultVar} {A : Kd α} {B : Kd β} {dom : α → β → Prop} {out : α → β → AV} (hg : Idle P g) (hf : P.funcs[f]? = some fn) (hb : fn.body = some code) (hn : (fn.name == "runtime.NumGoroutine") = false) (hl : fn.results = l.toArray) {n : Nat} (ht : fn.ntmps = n) (hm : 2 ≤ n)
    (h : ∀ a b, dom a b → AW P code (retQD P g l (out a b)) (st0 n [A.enc a, B.enc b])) : SpecOK P f (Spec.f2 A B dom out) := by
  subst ht
  refine SpecOK.mkD hg hf hb hn hl fun args hp => ?_
  match args, hp with
  | [x, y], hp => exact ⟨hm, AW.le (st0_le (.cons hp.1 (.cons hp.2.1 .nil))) (h _ _ hp.2.2)⟩
end
end Go.Proofs.Ytainopabnnglgaa
