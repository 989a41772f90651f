/-
  States; contracts of functions that are handed what is only read; operations that lay a new row or call such a function.
-/
import Derived.Test.YtljgfacjefebaaaDoorAx4
namespace Go.Proofs.YtljgfacjefebaaaDoor
open Go

/-- What the call began with: the world, the blocks that it may write, those that what it reads doesn't lie in. -/
structure Ctx where
  w0 : World
  η0 : Env
  O : Nat → Prop
  Lx : Nat → Prop
  n0 : Nat
/-- What lay lies as it did; what lay nowhere still does. -/
def EnvK (c : Ctx) (nx : Nat) (η : Env) : Prop := Env.le c.η0 η ∧ c.n0 ≤ nx ∧ ∀ k, k < c.n0 → c.η0 k = none → η k = none

def Lset (c : Ctx) (η : Env) (hp : Nat → Row) : Nat → Prop := fun b => c.Lx b ∨ ∃ p, (hp p).blk η = some b

/-- The rows at hand lie as they should. -/
structure HS (c : Ctx) (hp : Nat → Row) (nx : Nat) (η : Env) (w : World) : Prop where
  fr : Fr c.O c.w0 w
  lx : ∀ b, c.Lx b → b < c.w0.heap.size
  rows : ∀ p, RowOK w η (Lset c η hp) (hp p)
  vers : ∀ p q v, (hp p).ver = some v → (hp q).ver = some v → p = q
  bnd : ∀ p v, (hp p).ver = some v → v < nx
  disj : ∀ p q b, (hp p).blk η = some b → (hp q).blk η = some b → p = q
  own : ∀ p b, (hp p).blk η = some b → (c.O b ∨ c.w0.heap.size ≤ b) ∧ ¬ c.Lx b ∧ b < w.heap.size
  fresh : ∀ ver, nx ≤ ver → η ver = none
  env : EnvK c nx η

/-- A step that writes nothing that was there. -/
structure Stp (c : Ctx) (hp : Nat → Row) (η : Env) (w : World) (η' : Env) (w' : World) : Prop where
  fr : Fr (fun _ => False) w w'
  le : Env.le η η'
  L : ∀ b, b < w.heap.size → Lset c η' hp b → Lset c η hp b
theorem Stp.refl (c : Ctx) (hp : Nat → Row) (η : Env) (w : World) : Stp c hp η w η w := ⟨Fr.refl _ _, Env.le_refl _, fun _ _ h => h⟩
theorem Stp.rep {c : Ctx} {hp : Nat → Row} {η η' : Env} {w w' : World} (h : Stp c hp η w η' w') {x : AV} {v : Value} (hr : Rep w η (Lset c η hp) x v) : Rep w' η' (Lset c η' hp) x v :=
  Rep.keep h.fr (fun _ _ h => h.elim) h.L x η η' v h.le hr

theorem RowOK.keep {w w' : World} {η η' : Env} {L L' O : Nat → Prop} (hf : Fr O w w') (hη : Env.le η η') (hO : ∀ k, k < w.heap.size → O k → L k) (hL : ∀ k, k < w.heap.size → L' k → L k) {r : Row}
    (hv : ∀ v, r.ver = some v → η' v = η v) (hb : ∀ b, r.blk η = some b → w'.heap[b]? = w.heap[b]?) (h : RowOK w η L r) : RowOK w' η' L' r := by
  cases r with
  | dead => trivial
  | box ver ety m c =>
    intro g cap he
    rw [hv ver rfl] at he
    obtain ⟨b, cur, rfl, hh, hs, hc⟩ := h g cap he
    refine ⟨b, cur, rfl, by rw [hb b (by simp [Row.blk, Row.ver, he])]; exact hh, hs, fun j hj => ?_⟩
    obtain ⟨u, hu, h1, hr⟩ := hc j hj
    exact ⟨u, hu, h1, Rep.keep hf hO hL _ _ _ _ hη hr⟩
  | sl ver ety sz n c =>
    intro g cap he
    rw [hv ver rfl] at he
    have := h g cap he
    cases g with
    | none => exact this
    | some b =>
      obtain ⟨cur, hh, hs, hn, hm, hc⟩ := this
      refine ⟨cur, by rw [hb b (by simp [Row.blk, Row.ver, he])]; exact hh, hs, hn, hm, fun i hi j hj => ?_⟩
      obtain ⟨u, hu, h1, hr⟩ := hc i hi j hj
      exact ⟨u, hu, h1, Rep.keep hf hO hL _ _ _ _ hη hr⟩
  | mp ver str n f =>
    intro g cap he
    rw [hv ver rfl] at he
    obtain ⟨b, es, clock, rfl, hh, r⟩ := h g cap he
    exact ⟨b, es, clock, rfl, by rw [hb b (by simp [Row.blk, Row.ver, he])]; exact hh, r⟩

/-- A world in which nothing that was there is another one, no new row: all stands. -/
theorem HS.world {c : Ctx} {hp : Nat → Row} {nx : Nat} {η : Env} {w w' : World} (h : HS c hp nx η w) (hf : Fr (fun _ => False) w w') : HS c hp nx η w' where
  fr := h.fr.trans (hf.mono fun _ _ h => h.elim)
  lx := h.lx
  rows := fun p => RowOK.keep hf (Env.le_refl _) (fun _ _ h => h.elim) (fun _ _ h => h) (fun _ _ => rfl) (fun b hb => hf.block b (h.own p b hb).2.2 not_false) (h.rows p)
  vers := h.vers
  bnd := h.bnd
  disj := h.disj
  own := fun p b hb => ⟨(h.own p b hb).1, (h.own p b hb).2.1, Nat.lt_of_lt_of_le (h.own p b hb).2.2 hf.size⟩
  fresh := h.fresh
  env := h.env

def layAt (η : Env) (ver : Nat) (r : Option Nat × Nat) : Env := fun k => if k = ver then some r else η k
theorem layAt_le {η : Env} {ver : Nat} {r : Option Nat × Nat} (h : η ver = none) : Env.le η (layAt η ver r) := fun k s hk => by
  unfold layAt
  by_cases e : k = ver
  · subst e; rw [h] at hk; cases hk
  · rw [if_neg e]; exact hk
theorem layAt_ne {η : Env} {ver k : Nat} {r : Option Nat × Nat} (h : k ≠ ver) : layAt η ver r k = η k := if_neg h
theorem layAt_at (η : Env) (ver : Nat) (r : Option Nat × Nat) : layAt η ver r ver = some r := if_pos rfl

/-- A row that is known of, but doesn't lie anywhere yet, is laid into a new block. -/
theorem HS.lay {c : Ctx} {hp : Nat → Row} {nx : Nat} {η : Env} {w : World} (h : HS c hp nx η w) {p ver cap : Nat} (hv : (hp p).ver = some ver) (hn : η ver = none) (hn0 : c.n0 ≤ ver) (o : Obj)
    (hrow : RowOK (w.alloc o) (layAt η ver (some w.heap.size, cap)) (Lset c (layAt η ver (some w.heap.size, cap)) hp) (hp p)) :
    HS c hp nx (layAt η ver (some w.heap.size, cap)) (w.alloc o) ∧ Stp c hp η w (layAt η ver (some w.heap.size, cap)) (w.alloc o) := by
  have hf : Fr (fun _ => False) w (w.alloc o) := Fr.alloc _ w o
  have hle : Env.le η (layAt η ver (some w.heap.size, cap)) := layAt_le hn
  have hbk : ∀ q b, (hp q).blk (layAt η ver (some w.heap.size, cap)) = some b → (q = p ∧ b = w.heap.size) ∨ (q ≠ p ∧ (hp q).blk η = some b) := by
    intro q b hb
    by_cases e : q = p
    · subst e
      simp only [Row.blk, hv, Option.bind_some, layAt_at, Option.some.injEq] at hb
      exact .inl ⟨rfl, hb.symm⟩
    · refine .inr ⟨e, ?_⟩
      unfold Row.blk at hb ⊢
      cases hq : (hp q).ver with
      | none => rw [hq] at hb; cases hb
      | some v =>
        rw [hq] at hb
        simp only [Option.bind_some] at hb ⊢
        rwa [layAt_ne (fun e' => e (h.vers q p ver (by rw [hq, e']) hv))] at hb
  have hL : ∀ b, b < w.heap.size → Lset c (layAt η ver (some w.heap.size, cap)) hp b → Lset c η hp b := by
    rintro b hb (hl | ⟨q, hq⟩)
    · exact .inl hl
    · rcases hbk q b hq with ⟨_, rfl⟩ | ⟨_, hq'⟩
      · omega
      · exact .inr ⟨q, hq'⟩
  refine ⟨⟨h.fr.trans (hf.mono fun _ _ h => h.elim), h.lx, fun q => ?_, h.vers, h.bnd, fun q r b hq hr => ?_, fun q b hq => ?_, fun k hk => ?_, Env.le_trans h.env.1 hle, h.env.2.1, fun k hk h0 => by rw [layAt_ne (by omega)]; exact h.env.2.2 k hk h0⟩, hf, hle, hL⟩
  · by_cases e : q = p
    · subst e; exact hrow
    · exact RowOK.keep hf hle (fun _ _ h => h.elim) hL (fun v hq => layAt_ne fun e' => e (h.vers q p ver (by rw [hq, e']) hv)) (fun b hb => hf.block b (h.own q b hb).2.2 not_false) (h.rows q)
  · rcases hbk q b hq with ⟨rfl, rfl⟩ | ⟨e1, hq'⟩ <;> rcases hbk r _ hr with ⟨rfl, _⟩ | ⟨e2, hr'⟩
    · rfl
    · have := (h.own r _ hr').2.2; omega
    · have := (h.own q b hq').2.2; omega
    · exact h.disj q r b hq' hr'
  · rcases hbk q b hq with ⟨rfl, rfl⟩ | ⟨e1, hq'⟩
    · exact ⟨.inr h.fr.size, fun hl => by have := h.lx _ hl; have := h.fr.size; omega, by simp⟩
    · exact ⟨(h.own q b hq').1, (h.own q b hq').2.1, by have := (h.own q b hq').2.2; simp; omega⟩
  · rw [layAt_ne (fun e => by subst e; have := h.bnd p k hv; omega)]
    exact h.fresh k hk

/-! ### contracts -/
/-- A contract: what is asked of what is handed in, and what is handed back. -/
structure Spec where
  pre : List AV → Prop
  res : List AV → AV

def SpecOK (P : Program) (f : FuncId) (s : Spec) : Prop :=
  (∀ (args : Array Value) (w : World), (callFunc f args).run P w = .ok (.enter f args) w) ∧
  ∀ args, s.pre args → ∀ (w : World) (L : Nat → Prop) (vs : List Value), (∀ b, L b → b < w.heap.size) → All2 (Rep w noEnv L) args vs →
    Calls P f vs.toArray w fun e w' => ∃ v, e = .returned v ∧ Fr (fun _ => False) w w' ∧ Rep w' noEnv L (s.res args) v

/-- A contract of a function that may write into rows at hand: what is to hold behind it, asked ahead of it. -/
abbrev MSpec := List AV → (Nat → Row) → Nat → Nat → (AV → (Nat → Row) → Nat → Nat → Prop) → Prop
def MethOK (P : Program) (f : FuncId) (S : MSpec) : Prop :=
  (∀ (args : Array Value) (w : World), (callFunc f args).run P w = .ok (.enter f args) w) ∧
  ∀ args hp top nx K, S args hp top nx K → ∀ (c : Ctx) (η : Env) (w : World) (vs : List Value), HS c hp nx η w → (∀ p, top ≤ p → hp p = .dead) → All2 (Rep w η (Lset c η hp)) args vs →
    Calls P f vs.toArray w fun e w' => ∃ v r hp' top' nx' η', e = .returned v ∧ K r hp' top' nx' ∧ HS c hp' nx' η' w' ∧ (∀ p, top' ≤ p → hp' p = .dead) ∧ Rep w' η' (Lset c η' hp') r v

inductive Con where
  | spec (s : Spec)
  | meth (S : MSpec)
def ConOK (P : Program) (f : FuncId) : Con → Prop
  | .spec s => SpecOK P f s
  | .meth S => MethOK P f S
abbrev Gam := FuncId → Option Con
def GOK (P : Program) (Γ : Gam) : Prop := ∀ f s, Γ f = some s → ConOK P f s

/-- Nothing of a row at hand is in it. -/
def AV.flat : AV → Bool
  | .any => true
  | .val _ => true
  | .st _ => true
  | .em => true
  | .sn _ _ _ => true
  | .ps _ _ => true
  | _ => false
def flatP : AV → Prop
  | .ag m c => ∀ j, j < m → (c j).flat = true
  | x => x.flat = true
theorem flat_rep {w : World} {η : Env} {L : Nat → Prop} {x : AV} {v : Value} (h : x.flat = true) (hr : Rep w η L x v) : Rep w noEnv L x v := by
  cases x <;> first | (simp [AV.flat] at h; done) | exact hr
theorem flatP_rep {w : World} {η : Env} {L : Nat → Prop} {x : AV} {v : Value} (h : flatP x) (hr : Rep w η L x v) : Rep w noEnv L x v := by
  cases x with
  | ag m c =>
    obtain ⟨cs, rfl, hm, hc⟩ := hr
    exact ⟨cs, rfl, hm, fun j hj => by obtain ⟨u, hu, h1, hr⟩ := hc j hj; exact ⟨u, hu, h1, flat_rep (h j hj) hr⟩⟩
  | _ => exact flat_rep h hr

/-- A row at hand, as something that is only read for a while. -/
def vw0 (hp : Nat → Row) : AV → AV
  | .ow p _ n => match hp p with
    | .sl _ _ sz _ c => .sn n sz c
    | _ => .any
  | .pt p _ j => match hp p with
    | .box _ _ m c => .ps (m - j) fun i => c (j + i)
    | _ => .any
  | .pe p _ sz i j => match hp p with
    | .sl _ _ _ _ c => .ps (sz - j) fun k => c i (j + k)
    | _ => .any
  | x => x
def vwP0 (hp : Nat → Row) : AV → Prop
  | .ow p ver n => match hp p with
    | .sl v _ sz n' c => v = ver ∧ n ≤ n' ∧ ∀ i, i < n → ∀ j, j < sz → (c i j).flat = true
    | _ => False
  | .pt p ver j => match hp p with
    | .box v _ m c => v = ver ∧ j ≤ m ∧ ∀ i, i < m → (c i).flat = true
    | _ => False
  | .pe p ver sz i j => match hp p with
    | .sl v _ sz' n c => v = ver ∧ sz' = sz ∧ i < n ∧ j ≤ sz ∧ ∀ k, k < sz → (c i k).flat = true
    | _ => False
  | x => flatP x
def vwO0 : AV → Bool
  | .ow _ _ _ => true
  | .pt _ _ _ => true
  | .pe _ _ _ _ _ => true
  | _ => false
theorem vw0_flat {hp : Nat → Row} {x : AV} (h : vwO0 x = false) : vw0 hp x = x ∧ (vwP0 hp x → flatP x) := by
  cases x <;> first | (simp [vwO0] at h; done) | exact ⟨rfl, fun h => h⟩
theorem vw0_rep {w : World} {η : Env} {L : Nat → Prop} {hp : Nat → Row} (hrows : ∀ p, RowOK w η L (hp p)) {x : AV} {v : Value} (h : vwP0 hp x) (hr : Rep w η L x v) :
    Rep w noEnv (fun _ => False) (vw0 hp x) v := by
  have less : ∀ {x v}, Rep w noEnv L x v → Rep w noEnv (fun _ => False) x v := fun h => Rep.less (fun _ _ h => h.elim) h
  cases x with
  | ow p ver n =>
    simp only [vwP0] at h
    have hrow := hrows p
    split at h
    · rename_i vv ety sz n' c heq
      obtain ⟨rfl, hn, hfl⟩ := h
      obtain ⟨g, cap, hη, hv⟩ := hr
      rw [heq] at hrow
      have hrow := hrow g cap hη
      have hvw : vw0 hp (.ow p vv n) = .sn n sz c := by simp only [vw0, heq]
      rw [hvw]
      cases g with
      | none =>
        obtain ⟨rfl, a, rfl⟩ := hv
        exact ⟨a, 0, rfl, Nat.le_refl _, fun h => absurd h (by omega)⟩
      | some g =>
        obtain ⟨rfl, hcap⟩ := hv
        obtain ⟨cur, hh, hsz, hnc, hm, hc⟩ := hrow
        refine ⟨_, cap, rfl, hcap, fun h0 hs => ⟨g, 0, rfl, not_false, fun i hi j hj => ?_⟩⟩
        obtain ⟨u, hu, h1, hrep⟩ := hc i (by omega) j hj
        exact ⟨u, by rw [cell_heap hh, Nat.zero_add]; exact hu, h1, less (flat_rep (hfl i hi j hj) hrep)⟩
    · exact h.elim
  | pt p ver k =>
    simp only [vwP0] at h
    have hrow := hrows p
    split at h
    · rename_i vv ety m c heq
      obtain ⟨rfl, hk, hfl⟩ := h
      obtain ⟨g, cap, hη, rfl⟩ := hr
      rw [heq] at hrow
      obtain ⟨b, cur, hb, hh, hsz, hc⟩ := hrow _ cap hη
      obtain rfl : g = b := by simpa using hb
      have hvw : vw0 hp (.pt p vv k) = .ps (m - k) fun i => c (k + i) := by simp only [vw0, heq]
      rw [hvw]
      refine ⟨g, k, rfl, fun _ => not_false, fun j hj => ?_⟩
      obtain ⟨u, hu, h1, hrep⟩ := hc (k + j) (by omega)
      exact ⟨u, by rw [cell_heap hh]; exact hu, h1, less (flat_rep (hfl (k + j) (by omega)) hrep)⟩
    · exact h.elim
  | pe p ver sz i k =>
    simp only [vwP0] at h
    have hrow := hrows p
    split at h
    · rename_i vv ety sz' n c heq
      obtain ⟨rfl, rfl, hi, hk, hfl⟩ := h
      obtain ⟨g, cap, hη, rfl⟩ := hr
      rw [heq] at hrow
      obtain ⟨cur, hh, hsz, hnc, hm, hc⟩ := hrow _ cap hη
      have hvw : vw0 hp (.pe p vv sz' i k) = .ps (sz' - k) fun x => c i (k + x) := by simp only [vw0, heq]
      rw [hvw]
      refine ⟨g, i * sz' + k, rfl, fun _ => not_false, fun j hj => ?_⟩
      obtain ⟨u, hu, h1, hrep⟩ := hc i hi (k + j) (by omega)
      exact ⟨u, by rw [cell_heap hh, Nat.add_assoc]; exact hu, h1, less (flat_rep (hfl (k + j) (by omega)) hrep)⟩
    · exact h.elim
  | _ => exact less (flatP_rep h hr)

/-- Likewise what is in something that is made of more than one. -/
def vw (hp : Nat → Row) : AV → AV
  | .ag m c => .ag m fun j => if j < m then vw0 hp (c j) else .any
  | x => vw0 hp x
def vwQ (hp : Nat → Row) (x : AV) : Prop := vwP0 hp x ∧ (x.flat = true ∨ vwO0 x = true)
def vwP (hp : Nat → Row) : AV → Prop
  | .ag m c => ∀ j, j < m → vwQ hp (c j)
  | x => vwP0 hp x
def vwO : AV → Bool
  | .ag m c => (List.range m).any fun j => vwO0 (c j)
  | x => vwO0 x
theorem vw_cases (x : AV) : (∃ m c, x = .ag m c) ∨ ((∀ hp, vw hp x = vw0 hp x ∧ vwP hp x = vwP0 hp x) ∧ vwO x = vwO0 x) := by
  cases x with
  | ag m c => exact .inl ⟨m, c, rfl⟩
  | _ => exact .inr ⟨fun hp => ⟨rfl, rfl⟩, rfl⟩
theorem vw1_flat {w : World} {η : Env} {L : Nat → Prop} {hp : Nat → Row} {x : AV} {v : Value} (hr : Rep w η L x v) (h : vwO0 x = false) (hP : vwP0 hp x) : Rep w noEnv L (vw0 hp x) v := by
  obtain ⟨e1, e2⟩ := vw0_flat (hp := hp) h
  rw [e1]
  exact flatP_rep (e2 hP) hr
theorem vw_flat {w : World} {η : Env} {L : Nat → Prop} {hp : Nat → Row} {x : AV} {v : Value} (h : vwO x = false) (hP : vwP hp x) (hr : Rep w η L x v) : Rep w noEnv L (vw hp x) v := by
  rcases vw_cases x with ⟨m, c, rfl⟩ | ⟨e, e3⟩
  · obtain ⟨cs, rfl, hm, hc⟩ := hr
    refine ⟨cs, rfl, hm, fun j hj => ?_⟩
    obtain ⟨u, hu, h1, hr⟩ := hc j hj
    have ho : vwO0 (c j) = false := by
      have := List.any_eq_false.1 h j (List.mem_range.2 hj)
      simpa using this
    have hf : (c j).flat = true := ((hP j hj).2).resolve_right (by rw [ho]; simp)
    refine ⟨u, hu, h1, ?_⟩
    dsimp only
    rw [if_pos hj, (vw0_flat (hp := hp) ho).1]
    exact flat_rep hf hr
  · rw [(e hp).1]
    rw [(e hp).2] at hP
    rw [e3] at h
    exact vw1_flat hr h hP
theorem vw_rep {w : World} {η : Env} {L : Nat → Prop} {hp : Nat → Row} (hrows : ∀ p, RowOK w η L (hp p)) {x : AV} {v : Value} (h : vwP hp x) (hr : Rep w η L x v) :
    Rep w noEnv (fun _ => False) (vw hp x) v := by
  rcases vw_cases x with ⟨m, c, rfl⟩ | ⟨e, _⟩
  · obtain ⟨cs, rfl, hm, hc⟩ := hr
    refine ⟨cs, rfl, hm, fun j hj => ?_⟩
    obtain ⟨u, hu, h1, hr⟩ := hc j hj
    exact ⟨u, hu, h1, by dsimp only; rw [if_pos hj]; exact vw0_rep hrows (h j hj).1 hr⟩
  · rw [(e hp).1]
    rw [(e hp).2] at h
    exact vw0_rep hrows h hr

/-- What is told without any memory. -/
def sc : AV → Bool
  | .any => true
  | .val _ => true
  | .st _ => true
  | .em => true
  | _ => false
def scal : AV → Prop
  | .tu m c => ∀ j, j < m → sc (c j) = true
  | .ag m c => ∀ j, j < m → sc (c j) = true
  | x => sc x = true
theorem sc_rep {w w' : World} {η η' : Env} {L L' : Nat → Prop} {x : AV} {v : Value} (h : sc x = true) (hr : Rep w η L x v) : Rep w' η' L' x v := by
  cases x <;> first | (simp [sc] at h; done) | exact hr
theorem scal_rep {w w' : World} {η η' : Env} {L L' : Nat → Prop} {x : AV} {v : Value} (h : scal x) (hr : Rep w η L x v) : Rep w' η' L' x v := by
  cases x with
  | tu m c =>
    obtain ⟨cs, rfl, hm, hc⟩ := hr
    exact ⟨cs, rfl, hm, fun j hj => by obtain ⟨u, hu, hr⟩ := hc j hj; exact ⟨u, hu, sc_rep (h j hj) hr⟩⟩
  | ag m c =>
    obtain ⟨cs, rfl, hm, hc⟩ := hr
    exact ⟨cs, rfl, hm, fun j hj => by obtain ⟨u, hu, h1, hr⟩ := hc j hj; exact ⟨u, hu, h1, sc_rep (h j hj) hr⟩⟩
  | _ => exact sc_rep h hr

/-- A condition, what it comes to, a new row. -/
abbrev AOut := Option (Prop × AV × Row)
def aCall (Γ : Gam) (hp : Nat → Row) (f : FuncId) (args : List AV) : AOut :=
  match Γ f with
  | some (.spec s) => some ((∀ x ∈ args, vwP hp x) ∧ s.pre (args.map (vw hp)) ∧ (args.any vwO = true → scal (s.res (args.map (vw hp)))), s.res (args.map (vw hp)), .dead)
  | _ => none
def aBuildRow (P : Program) (t : TypeId) (n : Nat) (parts : List (Nat × AV)) : AOut :=
  match P.underlying t with
  | some (.slice e) => match n, zeroC P e with
    | 0, some _ => some (parts = [] ∧ 0 < P.cellsOf e, .em, .dead)
    | n + 1, some z => match aFill (fun i => some (i * P.cellsOf e, P.cellsOf e)) ((n + 1) * P.cellsOf e) (fun k => kCell (z.getD (k % z.length) undef)) parts with
      | some c => some ((∀ x ∈ parts, flatP x.2) ∧ z.length = P.cellsOf e ∧ 0 < P.cellsOf e ∧ (n + 1) * P.cellsOf e ≤ 16777216, .sn (n + 1) (P.cellsOf e) (fun i j => c (i * P.cellsOf e + j)), .dead)
      | none => none
    | _, none => none
  | _ => none
/-- The parts, where they are told one behind the other. -/
def onesOf (sz : Nat) : Nat → List (Nat × AV) → Option (List (Nat → AV))
  | _, [] => some []
  | k, (i, x) :: r => match cellsAV x with
    | some (m, c) => if i = k ∧ m = sz then (onesOf sz (k + 1) r).map (c :: ·) else none
    | none => none
def tidyRow (parts : List (Nat × AV)) : AV → AV
  | .sn n sz c => match onesOf sz 0 parts with
    | some l => if l.length = n then .sn n sz fun i => l.getD i fun _ => .any else .sn n sz c
    | none => .sn n sz c
  | z => z
def aBuildSlice (P : Program) (t : TypeId) (n : Nat) (parts : List (Nat × AV)) : AOut :=
  if (parts.any fun x => vwO x.2) = true then none else (aBuildRow P t n parts).map fun x => (x.1, tidyRow parts x.2.1, x.2.2)
theorem aBuildSlice_row {P : Program} {t : TypeId} {n : Nat} {parts : List (Nat × AV)} {pre : Prop} {z : AV} {row : Row} (h : aBuildSlice P t n parts = some (pre, z, row)) :
    ∃ z0, aBuildRow P t n parts = some (pre, z0, row) ∧ z = tidyRow parts z0 := by
  unfold aBuildSlice at h
  split at h
  · cases h
  cases h0 : aBuildRow P t n parts with
  | none => rw [h0] at h; cases h
  | some x =>
    rw [h0] at h
    simp only [Option.map_some, Option.some.injEq, Prod.mk.injEq] at h
    obtain ⟨rfl, rfl, rfl⟩ := h
    exact ⟨_, rfl, rfl⟩
theorem fill_keep {sz m : Nat} : ∀ (parts : List (Nat × AV)) (k : Nat) (c c' : Nat → AV) (l : List (Nat → AV)), aFill (fun i => some (i * sz, sz)) m c parts = some c' → onesOf sz k parts = some l → ∀ q, q < k * sz → c' q = c q
  | [], _, _, _, _, h, _, _, _ => by simp only [aFill, Option.some.injEq] at h; rw [h]
  | (i, x) :: r, k, c, c', l, h, ho, q, hq => by
    unfold aFill at h
    unfold onesOf at ho
    cases hx : cellsAV x with
    | none => rw [hx] at ho; cases ho
    | some y =>
      obtain ⟨k', d⟩ := y
      simp only [hx] at h ho
      split at ho
      · rename_i e
        obtain ⟨rfl, rfl⟩ := e
        split at h
        · cases hr : onesOf k' (i + 1) r with
          | none => rw [hr] at ho; cases ho
          | some l' =>
            rw [fill_keep r (i + 1) _ c' l' h hr q (by rw [Nat.add_mul]; omega)]
            rw [if_neg (by omega)]
        · cases h
      · cases ho
theorem fill_ones {sz m : Nat} : ∀ (parts : List (Nat × AV)) (k : Nat) (c c' : Nat → AV) (l : List (Nat → AV)), aFill (fun i => some (i * sz, sz)) m c parts = some c' → onesOf sz k parts = some l →
    ∀ i, k ≤ i → i < k + l.length → ∀ j, j < sz → c' (i * sz + j) = l.getD (i - k) (fun _ => .any) j
  | [], _, _, _, _, _, ho, _, h1, h2, _, _ => by simp only [onesOf, Option.some.injEq] at ho; subst ho; simp only [List.length_nil] at h2; omega
  | (i0, x) :: r, k, c, c', l, h, ho, i, h1, h2, j, hj => by
    unfold aFill at h
    unfold onesOf at ho
    cases hx : cellsAV x with
    | none => rw [hx] at ho; cases ho
    | some y =>
      obtain ⟨k', d⟩ := y
      simp only [hx] at h ho
      split at ho
      · rename_i e
        obtain ⟨rfl, rfl⟩ := e
        split at h
        · cases hr : onesOf k' (i0 + 1) r with
          | none => rw [hr] at ho; cases ho
          | some l' =>
            rw [hr] at ho
            simp only [Option.map_some, Option.some.injEq] at ho
            subst ho
            simp only [List.length_cons] at h2
            by_cases e : i = i0
            · subst e
              rw [fill_keep r (i + 1) _ c' l' h hr _ (by rw [Nat.add_mul]; omega), if_pos (by omega), show i * k' + j - i * k' = j by omega, Nat.sub_self]
              rfl
            · rw [fill_ones r (i0 + 1) _ c' l' h hr i (by omega) (by omega) j hj, show i - i0 = (i - (i0 + 1)) + 1 by omega]
              rfl
        · cases h
      · cases ho
theorem tidy_le {P : Program} {t : TypeId} {n : Nat} {parts : List (Nat × AV)} {pre : Prop} {z : AV} {row : Row} (h : aBuildRow P t n parts = some (pre, z, row))
    {w : World} {η : Env} {L : Nat → Prop} {v : Value} (hr : Rep w η L z v) : Rep w η L (tidyRow parts z) v := by
  unfold aBuildRow at h
  split at h
  · split at h
    · simp only [Option.some.injEq, Prod.mk.injEq] at h
      obtain ⟨_, rfl, _⟩ := h
      exact hr
    · split at h
      · rename_i e _ _ n zl _ c hfill
        simp only [Option.some.injEq, Prod.mk.injEq] at h
        obtain ⟨_, rfl, _⟩ := h
        simp only [tidyRow]
        split
        · rename_i l hl
          split
          · rename_i hlen
            obtain ⟨a, cap, hv, hn, hc⟩ := hr
            refine ⟨a, cap, hv, hn, fun h0 hs => ?_⟩
            obtain ⟨b, off, ha, hLb, hc⟩ := hc h0 hs
            refine ⟨b, off, ha, hLb, fun i hi j hj => ?_⟩
            obtain ⟨u, hu, h1, hrep⟩ := hc i hi j hj
            refine ⟨u, hu, h1, ?_⟩
            have := fill_ones parts 0 _ _ l hfill hl i (Nat.zero_le _) (by omega) j hj
            simp only [this] at hrep
            exact hrep
          · exact hr
        · exact hr
      · cases h
    · cases h
  · cases h
def aMake (P : Program) (p ver : Nat) (t : TypeId) (l c : AV) : AOut :=
  match P.underlying t, l, c with
  | some (.slice e), .val (.int .i64 n), .val (.int .i64 m) => match zeroC P e with
    | some z => some (0 ≤ n ∧ n ≤ m ∧ m * P.bytesOf e ≤ 281474976710656 ∧ 0 < P.bytesOf e ∧ z.length = P.cellsOf e ∧ 0 < P.cellsOf e, .ow p ver n.toNat, .sl ver e (P.cellsOf e) n.toNat fun _ => zC z)
    | none => none
  | _, _, _ => none
/-- What a map is made with: nothing, or a number. -/
def hintOK : Option AV → Bool
  | none => true
  | some (.val (.int _ _)) => true
  | _ => false
def aMakeMap (P : Program) (p ver : Nat) (t : TypeId) (r : Option AV) : AOut :=
  match P.underlying t with
  | some (.map kt _) => if hintOK r then match P.underlying kt with
    | some .string => some (True, .mp p ver, .mp ver true 0 fun _ => none)
    | some (.int .i64) => some (True, .mp p ver, .mp ver false 0 fun _ => none)
    | _ => none
    else none
  | _ => none
def aop (P : Program) (Γ : Gam) (hp : Nat → Row) (p ver : Nat) (ev : Operand → AV) : Op → AOut
  | .alloc e => match zeroC P e with
    | some z => some (True, .pt p ver 0, .box ver e z.length (zC z))
    | none => none
  | .box e x => match cellsAV (ev x) with
    | some (m, c) => some (True, .pt p ver 0, .box ver e m c)
    | none => none
  | .buildSlice t n parts => aBuildSlice P t n (parts.toList.map fun a => (a.1, ev a.2))
  | .makeSlice t l c => aMake P p ver t (ev l) (ev c)
  | .makeMap t r => aMakeMap P p ver t (r.map ev)
  | .call ⟨.value (.func f), ⟨xs⟩, _⟩ => aCall Γ hp f (xs.map ev)
  | op => match apure P hp ev op with
    | some (pre, z) => some (pre, z, .dead)
    | none => none
end Go.Proofs.YtljgfacjefebaaaDoor
