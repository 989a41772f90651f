/-
  A function that defers a closure which does nothing but recover.
-/
import Derived.Test.YtljgfacjefebaaaDoorAxe
import Derived.Recover
set_option linter.unusedSimpArgs false
namespace Go.Proofs.YtljgfacjefebaaaDoor
open Go

section
variable {P : Program}
/-- Called by a frame that returns, it leaves all as it is. -/
def Idle (P : Program) (g : FuncId) : Prop :=
  (∀ (args : Array Value) (w : World), (callFunc g args).run P w = .ok (.enter g args) w) ∧
  ∀ w : World, CallsD P g #[] .returning w fun e u' w' => u' = .returning ∧ (∃ v, e = .returned v) ∧ w' = w
theorem idle_recover {g : FuncId} {fn : Func} {id : Nat} {ty : TypeId} {pos : String} (hf : P.funcs[g]? = some fn) (hn : (fn.name == "runtime.NumGoroutine") = false) (hl : fn.results = #[])
    (hb : fn.body = some (.region id #[{ dst := some 0, op := .call { callee := .builtin .recover, args := #[], argTypes := #[] }, type := ty, pos := pos, after := #[], guard := none }] false)) : Idle P g := by
  refine ⟨enters hf hb hn, fun w => callsD_of_wpS hf hb fun c₀ cs hu => ?_⟩
  apply wpS_region
  have e : c₀ = { c₀ with mode := .returning } := by cases c₀; simp_all
  have : recoverD (c₀ :: cs) = none := by simp [recoverD, hu]
  have hx : ∀ ρ, (execOp ρ { dst := some 0, op := .call { callee := .builtin .recover, args := #[], argTypes := #[] }, type := ty, pos := pos, after := #[], guard := none }).run P w = .ok .recover w := fun _ => rfl
  simp [wpOpsS, Region.wanted, hx, this, bodyPostS, results, hl]
  exact ⟨rfl, e⟩

def retD (P : Program) (g : FuncId) (l : List ResultVar) (r : AV) (st : AS) : Prop :=
  st.df = [⟨.fn (.func g) #[], #[]⟩] ∧ retOK P l r ⟨st.fr, st.hp, st.sz, st.top, st.nx, []⟩
def retQD (P : Program) (g : FuncId) (l : List ResultVar) (r : AV) : Exit → AS → Prop
  | .normal, st => retD P g l r st
  | .ret, st => retD P g l r st
  | _, _ => False
@[go_sem] theorem retQD_normal {g : FuncId} {l : List ResultVar} {r : AV} {st : AS} : retQD P g l r .normal st = retD P g l r st := rfl
@[go_sem] theorem retQD_ret {g : FuncId} {l : List ResultVar} {r : AV} {st : AS} : retQD P g l r .ret st = retD P g l r st := rfl
attribute [go_sem] retD

theorem SR.undefer {c : Ctx} {st : AS} {η : Env} {a : Act} {w : World} (h : SR c st η a w) : SR c ⟨st.fr, st.hp, st.sz, st.top, st.nx, []⟩ η { a with defers := [] } w :=
  ⟨h.hs, h.dead, h.size, h.slots, rfl⟩
theorem SpecOK.mkD {f g : FuncId} {fn : Func} {code : Code} {s : Spec} {l : List ResultVar} (hg : Idle P g) (hf : P.funcs[f]? = some fn) (hb : fn.body = some code) (hn : (fn.name == "runtime.NumGoroutine") = false) (hl : fn.results = l.toArray)
    (h : ∀ args, s.pre args → args.length ≤ fn.ntmps ∧ AW P code (retQD P g l (s.res args)) (st0 fn.ntmps args)) : SpecOK P f s := by
  refine ⟨enters hf hb hn, fun args hpre w L vs hL hargs => ?_⟩
  obtain ⟨hlen, haw⟩ := h args hpre
  refine calls_of_wp_defers hf hb (wp_mono (haw _ _ _ _ (SR.begin hL hargs hlen)) ?_)
  rintro e a' w' ⟨st', η', hq, hsr'⟩
  have key : retD P g l (s.res args) st' → Leaves P fn a'.tmps (fun e w'' => ∃ v, e = .returned v ∧ Fr (fun _ => False) w w'' ∧ Rep w'' noEnv L (s.res args) v) a'.defers .returning w' := by
    rintro ⟨hd, hr⟩
    obtain ⟨_, v, hv, hrep⟩ := retOK_post hsr'.undefer hl hr
    rw [hsr'.defs, hd]
    refine leaves_cons (by simp) (f := g) (args := #[]) ?_ ?_
    · have := hg.1 #[] w'
      simp only [invoke] at this ⊢
      simpa using this
    · refine (hg.2 w').mono ?_
      rintro e u' w'' ⟨rfl, ⟨v', rfl⟩, rfl⟩
      exact ⟨v, hv, v, rfl, hsr'.hs.fr, hrep⟩
  cases e with
  | normal => exact key hq
  | ret => exact key hq
  | exit id => exact hq.elim
  | goto id => exact hq.elim
  | panic ch => exact hq.elim
  | outgrown => exact hq.elim
theorem SpecOK.f2D {α β : Type} {f g : FuncId} {fn : Func} {code : Code} {l : List ResultVar} {A : Kd α} {B : Kd β} {dom : α → β → Prop} {out : α → β → AV} (hg : Idle P g) (hf : P.funcs[f]? = some fn) (hb : fn.body = some code) (hn : (fn.name == "runtime.NumGoroutine") = false) (hl : fn.results = l.toArray) {n : Nat} (ht : fn.ntmps = n) (hm : 2 ≤ n)
    (h : ∀ a b, dom a b → AW P code (retQD P g l (out a b)) (st0 n [A.enc a, B.enc b])) : SpecOK P f (Spec.f2 A B dom out) := by
  subst ht
  refine SpecOK.mkD hg hf hb hn hl fun args hp => ?_
  match args, hp with
  | [x, y], hp => exact ⟨hm, AW.le (st0_le (.cons hp.1 (.cons hp.2.1 .nil))) (h _ _ hp.2.2)⟩

/-! ### functions that may write into rows at hand -/
def rM (P : Program) (st : AS) : ResultVar → Out
  | .tmp t => some (True, st.fr t)
  | .cell t ty => aLoad P st.hp ty (st.fr t)
def endM (P : Program) (l : List ResultVar) (K : AV → (Nat → Row) → Nat → Nat → Prop) (st : AS) : Prop :=
  st.df = [] ∧ match l with
  | [] => K (.val (.tuple #[])) st.hp st.top st.nx
  | [x] => match rM P st x with
    | some (p, r) => p ∧ K r st.hp st.top st.nx
    | none => False
  | [x, y] => match rM P st x, rM P st y with
    | some (p, r), some (q, s) => (p ∧ q) ∧ K (tu2 r s) st.hp st.top st.nx
    | _, _ => False
  | [x, y, z] => match rM P st x, rM P st y, rM P st z with
    | some (p, r), some (q, s), some (p', t) => (p ∧ q ∧ p') ∧ K (tu3 r s t) st.hp st.top st.nx
    | _, _, _ => False
  | _ => False
def retM (P : Program) (l : List ResultVar) (K : AV → (Nat → Row) → Nat → Nat → Prop) : Exit → AS → Prop
  | .normal, st => endM P l K st
  | .ret, st => endM P l K st
  | _, _ => False
@[go_sem] theorem retM_normal {l : List ResultVar} {K : AV → (Nat → Row) → Nat → Nat → Prop} {st : AS} : retM P l K .normal st = endM P l K st := rfl
@[go_sem] theorem retM_ret {l : List ResultVar} {K : AV → (Nat → Row) → Nat → Nat → Prop} {st : AS} : retM P l K .ret st = endM P l K st := rfl
attribute [go_sem] endM rM

theorem rM_run {c : Ctx} {st : AS} {η : Env} {a : Act} {w : World} (h : SR c st η a w) {x : ResultVar} {p : Prop} {r : AV} (hx : rM P st x = some (p, r)) (hp : p) :
    ∃ v, ((match x with | .tmp t => pure (a.tmps.getD t undef) | .cell t ty => do loadVar ty (← asAddr (a.tmps.getD t undef))) : Sem Value).run P w = .ok v w ∧ Rep w η (Lset c η st.hp) r v := by
  cases x with
  | tmp t =>
    simp only [rM, Option.some.injEq, Prod.mk.injEq] at hx
    obtain ⟨rfl, rfl⟩ := hx
    exact ⟨_, rfl, h.slots t⟩
  | cell t ty =>
    obtain ⟨v, hv, hr⟩ := run_aLoad h.hs.rows hx hp (h.slots t)
    refine ⟨v, ?_, hr⟩
    have hx' : aLoad P st.hp ty (st.fr t) = some (p, r) := hx
    have hpt : ∃ ad, a.tmps.getD t undef = .pointer (some ad) := by
      have hs := h.slots t
      unfold aLoad at hx'
      split at hx' <;> first
        | (rename_i heq; rw [heq] at hs; first | (obtain ⟨b, o, e, _⟩ := hs; exact ⟨_, e⟩) | (obtain ⟨g, cap, _, e⟩ := hs; exact ⟨_, e⟩))
        | cases hx'
    obtain ⟨ad, e⟩ := hpt
    simp only
    rw [e] at hv ⊢
    simpa [Instr.loadAt, Instr.sureAddr, asAddr] using hv
theorem endM_post {c : Ctx} {st : AS} {η : Env} {a : Act} {w : World} (h : SR c st η a w) {fn : Func} {l : List ResultVar} (hl : fn.results = l.toArray) {K : AV → (Nat → Row) → Nat → Nat → Prop} (hr : endM P l K st) :
    a.defers = [] ∧ ∃ v r, (results fn a.tmps).run P w = .ok v w ∧ K r st.hp st.top st.nx ∧ Rep w η (Lset c η st.hp) r v := by
  obtain ⟨hd, hr⟩ := hr
  refine ⟨by rw [h.defs, hd], ?_⟩
  unfold results
  rw [hl]
  split at hr
  · exact ⟨_, _, by simp, hr, rfl⟩
  · split at hr
    · rename_i x _ p r hx
      obtain ⟨v, hv, hrep⟩ := rM_run h hx hr.1
      refine ⟨v, r, ?_, hr.2, hrep⟩
      rw [Array.mapM_eq_mapM_toList]
      simp only [List.mapM_cons, List.mapM_nil, Sem.run_bind, Sem.run_map]
      cases x <;> simp only at hv ⊢ <;> rw [hv] <;> simp
    · exact hr.elim
  · split at hr
    · rename_i x y _ _ p r q s hx hy
      obtain ⟨v1, hv1, hr1⟩ := rM_run h hx hr.1.1
      obtain ⟨v2, hv2, hr2⟩ := rM_run h hy hr.1.2
      refine ⟨.tuple #[v1, v2], _, ?_, hr.2, #[v1, v2], rfl, rfl, fun j hj => ?_⟩
      · rw [Array.mapM_eq_mapM_toList]
        simp only [List.mapM_cons, List.mapM_nil, Sem.run_bind, Sem.run_map]
        cases x <;> simp only at hv1 ⊢ <;> rw [hv1] <;> cases y <;> simp only [Result.andThen_ok] at hv2 ⊢ <;> rw [hv2] <;> simp
      · match j, hj with
        | 0, _ => exact ⟨v1, rfl, hr1⟩
        | 1, _ => exact ⟨v2, rfl, hr2⟩
    · exact hr.elim
  · split at hr
    · rename_i x y z _ _ _ p r q s p' t hx hy hz
      obtain ⟨v1, hv1, hr1⟩ := rM_run h hx hr.1.1
      obtain ⟨v2, hv2, hr2⟩ := rM_run h hy hr.1.2.1
      obtain ⟨v3, hv3, hr3⟩ := rM_run h hz hr.1.2.2
      refine ⟨.tuple #[v1, v2, v3], _, ?_, hr.2, #[v1, v2, v3], rfl, rfl, fun j hj => ?_⟩
      · rw [Array.mapM_eq_mapM_toList]
        simp only [List.mapM_cons, List.mapM_nil, Sem.run_bind, Sem.run_map]
        cases x <;> simp only at hv1 ⊢ <;> rw [hv1] <;> cases y <;> simp only [Result.andThen_ok] at hv2 ⊢ <;> rw [hv2] <;> cases z <;> simp only [Result.andThen_ok] at hv3 ⊢ <;> rw [hv3] <;> simp
      · match j, hj with
        | 0, _ => exact ⟨v1, rfl, hr1⟩
        | 1, _ => exact ⟨v2, rfl, hr2⟩
        | 2, _ => exact ⟨v3, rfl, hr3⟩
    · exact hr.elim
  · exact hr.elim
/-- The state in which such a call begins. -/
def stM (n : Nat) (args : List AV) (hp : Nat → Row) (top nx : Nat) : AS := ⟨fun t => args.getD t .any, hp, n, top, nx, []⟩
attribute [go_sem] stM
theorem MethOK.mk {f : FuncId} {fn : Func} {code : Code} {S : MSpec} {l : List ResultVar} (hf : P.funcs[f]? = some fn) (hb : fn.body = some code) (hn : (fn.name == "runtime.NumGoroutine") = false) (hl : fn.results = l.toArray) {n : Nat} (ht : fn.ntmps = n)
    (h : ∀ args hp top nx K, S args hp top nx K → args.length ≤ n ∧ AW P code (retM P l K) (stM n args hp top nx)) : MethOK P f S := by
  subst ht
  refine ⟨enters hf hb hn, fun args hp top nx K hS c η w vs hs hdead hargs => ?_⟩
  obtain ⟨hlen, haw⟩ := h args hp top nx K hS
  obtain ⟨hlen', hget⟩ := all2_get hargs
  have hsr : SR c (stM fn.ntmps args hp top nx) η { tmps := vs.toArray ++ Array.replicate (fn.ntmps - vs.toArray.size) undef, defers := [] } w := by
    refine ⟨hs, hdead, ?_, fun t => ?_, rfl⟩
    · simp [stM]; omega
    · simp only [stM, List.getD_eq_getElem?_getD]
      cases ht : args[t]? with
      | none => exact trivial
      | some x =>
        obtain ⟨y, hy, hr⟩ := hget t x ht
        have : (vs.toArray ++ Array.replicate (fn.ntmps - vs.toArray.size) undef).getD t undef = y := by
          have hlt : t < vs.length := by
            rcases Nat.lt_or_ge t vs.length with h | h
            · exact h
            · rw [List.getElem?_eq_none h] at hy; cases hy
          rw [Array.getD_eq_getD_getElem?, Array.getElem?_append_left (by simpa using hlt)]
          simp [hy]
        rw [this]
        exact hr
  refine calls_of_wp hf hb (wp_mono (haw c η _ w hsr) ?_)
  rintro e a' w' ⟨st', η', hq, hsr'⟩
  cases e with
  | normal =>
    obtain ⟨hd, v, r, hv, hK, hr⟩ := endM_post hsr' hl hq
    exact ⟨hd, v, hv, v, r, _, _, _, η', rfl, hK, hsr'.hs, hsr'.dead, hr⟩
  | ret =>
    obtain ⟨hd, v, r, hv, hK, hr⟩ := endM_post hsr' hl hq
    exact ⟨hd, v, hv, v, r, _, _, _, η', rfl, hK, hsr'.hs, hsr'.dead, hr⟩
  | exit id => exact hq.elim
  | goto id => exact hq.elim
  | panic ch => exact hq.elim
  | outgrown => exact hq.elim
end
end Go.Proofs.YtljgfacjefebaaaDoor
