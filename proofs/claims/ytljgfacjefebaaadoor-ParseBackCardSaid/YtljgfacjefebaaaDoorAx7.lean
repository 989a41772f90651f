/-
  The state of a call; operations that write into rows at hand; a region, operation by operation.
-/
import Derived.Test.YtljgfacjefebaaaDoorAx6
namespace Go.Proofs.YtljgfacjefebaaaDoor
open Go

/-- The state of a call: its slots, its rows, how many slots, the next row's place and its number, what is deferred. -/
structure AS where
  fr : Nat → AV
  hp : Nat → Row
  sz : Nat
  top : Nat
  nx : Nat
  df : List Deferred

def updA (f : Nat → AV) (d : Nat) (v : AV) : Nat → AV := fun t => if t = d then v else f t
def updR (f : Nat → Row) (d : Nat) (v : Row) : Nat → Row := fun t => if t = d then v else f t
def updO (f : Nat → AV) (d : Option Tmp) (v : AV) : Nat → AV := match d with
  | some d => updA f d v
  | none => f
def dstOK (sz : Nat) : Option Tmp → Prop
  | some d => d < sz
  | none => True

structure SR (c : Ctx) (st : AS) (η : Env) (a : Act) (w : World) : Prop where
  hs : HS c st.hp st.nx η w
  dead : ∀ p, st.top ≤ p → st.hp p = .dead
  size : a.tmps.size = st.sz
  slots : ∀ t, Rep w η (Lset c η st.hp) (st.fr t) (a.tmps.getD t undef)
  defs : a.defers = st.df

section
variable {c : Ctx} {st : AS} {η η' : Env} {a : Act} {w w' : World}

theorem put_getD (a : Act) (d : Option Tmp) (v : Value) (t : Nat) (h : dstOK a.tmps.size d) : (a.put d v).tmps.getD t undef = if d = some t then v else a.tmps.getD t undef := by
  cases d with
  | none => rfl
  | some d =>
    simp only [dstOK] at h
    simp only [Act.put, Option.some.injEq, Array.getD_eq_getD_getElem?]
    by_cases e : d = t
    · subst e; simp [h]
    · rw [if_neg e, Array.getElem?_setIfInBounds_ne e]
theorem put_size (a : Act) (d : Option Tmp) (v : Value) : (a.put d v).tmps.size = a.tmps.size := by cases d <;> simp [Act.put]
theorem put_defers (a : Act) (d : Option Tmp) (v : Value) : (a.put d v).defers = a.defers := by cases d <;> rfl
theorem updO_at (f : Nat → AV) (d : Option Tmp) (v : AV) (t : Nat) : updO f d v t = if d = some t then v else f t := by
  cases d with
  | none => rfl
  | some d =>
    simp only [updO, updA, Option.some.injEq]
    by_cases e : t = d
    · subst e; simp
    · rw [if_neg e, if_neg (Ne.symm e)]

/-- A value into a slot, nothing else another one. -/
theorem SR.put (h : SR c st η a w) {d : Option Tmp} {z : AV} {v : Value} (hd : dstOK st.sz d) {hp' : Nat → Row} {nx' top' : Nat} (hs : HS c hp' nx' η' w') (hdead : ∀ p, top' ≤ p → hp' p = .dead)
    (hk : ∀ x u, Rep w η (Lset c η st.hp) x u → Rep w' η' (Lset c η' hp') x u) (hr : Rep w' η' (Lset c η' hp') z v) : SR c ⟨updO st.fr d z, hp', st.sz, top', nx', st.df⟩ η' (a.put d v) w' where
  hs := hs
  dead := hdead
  size := (put_size _ _ _).trans h.size
  slots := fun t => by
    rw [put_getD a d v t (by rw [h.size]; exact hd)]
    simp only [updO_at]
    by_cases e : d = some t
    · rw [if_pos e, if_pos e]; exact hr
    · rw [if_neg e, if_neg e]; exact hk _ _ (h.slots t)
  defs := (put_defers _ _ _).trans h.defs

/-- A row is made known of, that doesn't lie anywhere yet. -/
theorem HS.declare {hp : Nat → Row} {nx : Nat} (h : HS c hp nx η w) {p : Nat} {row : Row} (hv : row.ver = some nx) : HS c (updR hp p row) (nx + 1) η w ∧ ∀ b, Lset c η (updR hp p row) b → Lset c η hp b := by
  have hn : η nx = none := h.fresh nx (Nat.le_refl _)
  have hbk : ∀ q b, (updR hp p row q).blk η = some b → q ≠ p ∧ (hp q).blk η = some b := by
    intro q b hb
    unfold updR at hb
    split at hb
    · simp [Row.blk, hv, hn] at hb
    · rename_i e; exact ⟨e, hb⟩
  have hL : ∀ b, Lset c η (updR hp p row) b → Lset c η hp b := by
    rintro b (hl | ⟨q, hq⟩)
    · exact .inl hl
    · exact .inr ⟨q, (hbk q b hq).2⟩
  refine ⟨⟨h.fr, h.lx, fun q => ?_, fun q r v hq hr => ?_, fun q v hq => ?_, fun q r b hq hr => h.disj q r b (hbk q b hq).2 (hbk r b hr).2, fun q b hq => h.own q b (hbk q b hq).2, fun k hk => h.fresh k (by omega), h.env.1, Nat.le_succ_of_le h.env.2.1, h.env.2.2⟩, hL⟩
  · unfold updR
    split
    · cases row with
      | dead => trivial
      | box v ety m cc => intro g cap he; simp only [Row.ver, Option.some.injEq] at hv; subst hv; rw [hn] at he; cases he
      | sl v ety sz n cc => intro g cap he; simp only [Row.ver, Option.some.injEq] at hv; subst hv; rw [hn] at he; cases he
      | mp v str n f => intro g cap he; simp only [Row.ver, Option.some.injEq] at hv; subst hv; rw [hn] at he; cases he
    · exact RowOK.keep (Fr.refl (fun _ => False) w) (Env.le_refl _) (fun _ _ h => h.elim) (fun b _ hb => hL b hb) (fun _ _ => rfl) (fun _ _ => rfl) (h.rows q)
  · unfold updR at hq hr
    split at hq <;> split at hr
    · rename_i e1 e2; rw [e1, e2]
    · rw [hv] at hq
      obtain rfl : nx = v := by simpa using hq
      have := h.bnd r nx hr; omega
    · rw [hv] at hr
      obtain rfl : nx = v := by simpa using hr
      have := h.bnd q nx hq; omega
    · exact h.vers q r v hq hr
  · unfold updR at hq
    split at hq
    · rw [hv] at hq
      obtain rfl : nx = v := by simpa using hq
      omega
    · have := h.bnd q v hq; omega

/-! ### guards -/
def guardVal (x : AV) (want : Bool) : Option Bool :=
  match x with
  | .val (.bool b) => some (if want then b else !b)
  | .gd g (.val (.bool b)) => some (g && if want then b else !b)
  | _ => none
def stripG (g : Bool) : AV → AV
  | .gd b x => if (!g || b) = true then x else .any
  | x => x
theorem stripG_rep {L : Nat → Prop} {g : Bool} (hg : g = true) {x : AV} {v : Value} (h : Rep w η L x v) : Rep w η L (stripG g x) v := by
  cases x with
  | gd b y =>
    subst hg
    unfold stripG
    cases b with
    | true => simpa using h.1 rfl
    | false => simp [Rep]
  | _ => exact h

/-- What an operand that is picked reads as, under a guard: told by its own guard, where that isn't the same. -/
def relG (g : Bool) : AV → AV
  | .gd b x => .gd (!g || b) x
  | x => x
theorem relG_rep {L : Nat → Prop} {g : Bool} (hg : g = true) {x : AV} {v : Value} (h : Rep w η L x v) : Rep w η L (relG g x) v := by
  subst hg
  cases x with
  | gd b x => exact h
  | _ => exact h
def evG (g : Bool) (op : Op) (ev : Operand → AV) (o : Operand) : AV :=
  match op, o with
  | .pick (.tmp t) _ _, .tmp u => if u = t then stripG g (ev (.tmp u)) else relG g (ev (.tmp u))
  | _, o => stripG g (ev o)
theorem evG_rep {L : Nat → Prop} {g : Bool} (hg : g = true) {op : Op} {ev : Operand → AV} {o : Operand} {v : Value} (h : Rep w η L (ev o) v) : Rep w η L (evG g op ev o) v := by
  unfold evG
  split
  · split
    · exact stripG_rep hg h
    · exact relG_rep hg h
  · exact stripG_rep hg h
theorem evG_congr {g : Bool} {op : Op} {ev ev' : Operand → AV} {o : Operand} (h : ev' o = ev o) : evG g op ev' o = evG g op ev o := by
  unfold evG
  split <;> simp only [h]
def AS.ev (st : AS) (x : Operand) : AV := evAV st.fr x
def gop (P : Program) (Γ : Gam) (ops : Array Oper) (st : AS) (o : Oper) : AOut :=
  match o.guard with
  | none => aop P Γ st.hp st.top st.nx st.ev o.op
  | some (j, want) => match (ops[j]?).bind (·.dst) with
    | some d => match guardVal (st.fr d) want with
      | some g => match aop P Γ st.hp st.top st.nx (evG g o.op st.ev) o.op with
        | some (pre, z, row) => some (g = true → pre, .gd g z, row)
        | none => none
      | none => none
    | none => none

/-- Behind an operation. -/
def AS.put (st : AS) (d : Option Tmp) (z : AV) (row : Row) : AS :=
  match row with
  | .dead => ⟨updO st.fr d z, st.hp, st.sz, st.top, st.nx, st.df⟩
  | row => ⟨updO st.fr d z, updR st.hp st.top row, st.sz, st.top + 1, st.nx + 1, st.df⟩

/-- What an operation that isn't among those told is to do. -/
def OpW (P : Program) (o : Oper) (st : AS) (K : AS → Prop) : Prop :=
  ∀ (c : Ctx) (η : Env) (a : Act) (w : World) (next : Act → World → Prop) (Q : Exit → Act → World → Prop), SR c st η a w →
    (∀ st' η' a' w', SR c st' η' a' w' → K st' → next a' w') → o.wp P a w next Q

theorem aop_row {P : Program} {Γ : Gam} {hp : Nat → Row} {p ver : Nat} {ev : Operand → AV} {op : Op} {pre : Prop} {z : AV} {row : Row} (h : aop P Γ hp p ver ev op = some (pre, z, row)) : row = .dead ∨ row.ver = some ver := by
  unfold aop at h
  split at h
  · split at h
    · simp only [Option.some.injEq, Prod.mk.injEq] at h
      obtain ⟨_, _, rfl⟩ := h
      exact .inr rfl
    · cases h
  · split at h
    · simp only [Option.some.injEq, Prod.mk.injEq] at h
      obtain ⟨_, _, rfl⟩ := h
      exact .inr rfl
    · cases h
  · obtain ⟨z0, h, _⟩ := aBuildSlice_row h
    unfold aBuildRow at h
    split at h
    · split at h
      · simp only [Option.some.injEq, Prod.mk.injEq] at h
        exact .inl h.2.2.symm
      · split at h
        · simp only [Option.some.injEq, Prod.mk.injEq] at h
          exact .inl h.2.2.symm
        · cases h
      · cases h
    · cases h
  · unfold aMake at h
    split at h
    · split at h
      · simp only [Option.some.injEq, Prod.mk.injEq] at h
        obtain ⟨_, _, rfl⟩ := h
        exact .inr rfl
      · cases h
    · cases h
  · unfold aMakeMap at h
    split at h
    · split at h
      · split at h
        · simp only [Option.some.injEq, Prod.mk.injEq] at h
          obtain ⟨_, _, rfl⟩ := h
          exact .inr rfl
        · simp only [Option.some.injEq, Prod.mk.injEq] at h
          obtain ⟨_, _, rfl⟩ := h
          exact .inr rfl
        · cases h
      · cases h
    · cases h
  · obtain ⟨_, _, _, _, h⟩ := call_none h
    exact .inl h
  · split at h
    · simp only [Option.some.injEq, Prod.mk.injEq] at h
      exact .inl h.2.2.symm
    · cases h

/-- What lays a row doesn't look at the rows. -/
theorem aop_declare {P : Program} {Γ : Gam} {hp : Nat → Row} {top ver : Nat} {ev : Operand → AV} {op : Op} {pre : Prop} {z : AV} {row : Row}
    (h : aop P Γ hp top ver ev op = some (pre, z, row)) (hr : row ≠ .dead) (hp' : Nat → Row) : aop P Γ hp' top ver ev op = some (pre, z, row) := by
  unfold aop at h ⊢
  split at h
  · exact h
  · exact h
  · unfold aBuildSlice at h ⊢; exact h
  · exact h
  · exact h
  · obtain ⟨_, _, _, _, h⟩ := call_none h
    exact absurd h hr
  · split at h
    · simp only [Option.some.injEq, Prod.mk.injEq] at h
      exact absurd h.2.2.symm hr
    · cases h

/-- An operation that is wanted, unguarded or its guard holding. -/
theorem aop_SR {P : Program} {Γ : Gam} (hΓ : GOK P Γ) (h : SR c st η a w) {o : Oper} {ev : Operand → AV} (hev : ∀ x, Rep w η (Lset c η st.hp) (ev x) (a.eval x)) {pre : Prop} {z z' : AV} {row : Row}
    (ho : aop P Γ st.hp st.top st.nx ev o.op = some (pre, z, row)) (hpre : pre) (hd : dstOK st.sz o.dst) (hz : ∀ w η L v, Rep w η L z v → Rep w η L z' v) {K : Act → World → Prop} {Q : Exit → Act → World → Prop}
    (hK : ∀ η' a' w', SR c (st.put o.dst z' row) η' a' w' → K a' w') : o.wp P a w K Q := by
  by_cases hr : row = .dead
  · subst hr
    refine aop_wp hΓ h.hs hev ho hpre (.inl rfl) fun v η' w' hs hst _ hrep => hK η' _ w' ?_
    exact h.put hd hs h.dead (fun x u hx => hst.rep hx) (hz _ _ _ _ hrep)
  · have hv : row.ver = some st.nx := (aop_row ho).resolve_left hr
    obtain ⟨hs', hL⟩ := h.hs.declare (p := st.top) hv
    refine aop_wp hΓ hs' (fun x => Rep.less (fun b _ hb => hL b hb) (hev x)) (aop_declare ho hr _) hpre (.inr ⟨by simp [updR], h.hs.fresh _ (Nat.le_refl _), h.hs.env.2.1⟩) fun v η' w' hs hst _ hrep => hK η' _ w' ?_
    have e : st.put o.dst z' row = ⟨updO st.fr o.dst z', updR st.hp st.top row, st.sz, st.top + 1, st.nx + 1, st.df⟩ := by
      cases row with
      | dead => exact absurd rfl hr
      | _ => rfl
    rw [e]
    refine h.put hd hs (fun p hp => ?_) (fun x u hx => hst.rep (Rep.less (fun b _ hb => hL b hb) hx)) (hz _ _ _ _ hrep)
    simp only [updR]
    rw [if_neg (by omega)]
    exact h.dead p (by omega)

theorem SR.skip (h : SR c st η a w) {d : Option Tmp} {z : AV} {row : Row} (hd : dstOK st.sz d) (hr : row = .dead ∨ row.ver = some st.nx) : SR c (st.put d (.gd false z) row) η (a.put d undef) w := by
  have hz : ∀ w η L, Rep w η L (.gd false z) undef := fun _ _ _ => ⟨fun h => (by cases h), fun _ => rfl⟩
  by_cases he : row = .dead
  · subst he
    exact h.put hd h.hs h.dead (fun _ _ hx => hx) (hz _ _ _)
  · have hv := hr.resolve_left he
    obtain ⟨hs', hL⟩ := h.hs.declare (p := st.top) hv
    have e : st.put d (.gd false z) row = ⟨updO st.fr d (.gd false z), updR st.hp st.top row, st.sz, st.top + 1, st.nx + 1, st.df⟩ := by
      cases row with
      | dead => exact absurd rfl he
      | _ => rfl
    rw [e]
    refine h.put hd hs' (fun p hp => ?_) (fun x u hx => Rep.less (fun b _ hb => hL b hb) hx) (hz _ _ _)
    simp only [updR]
    rw [if_neg (by omega)]
    exact h.dead p (by omega)

theorem yield_of {ops : Array Oper} {j : Nat} {d : Tmp} {want g : Bool} (hj : (ops[j]?).bind (·.dst) = some d) (h : SR c st η a w) (hg : guardVal (st.fr d) want = some g) :
    (yielded ops a.tmps j == some want) = g := by
  have hs := h.slots d
  have key : ∀ b, a.tmps.getD d undef = .bool b → yielded ops a.tmps j = some b := fun b hb => by
    unfold yielded
    rw [hj]
    simp only [Option.bind_some]
    rw [Array.getD_eq_getD_getElem?] at hb
    cases hd : a.tmps[d]? with
    | none => rw [hd] at hb; cases hb
    | some v => rw [hd] at hb; simp only [Option.getD_some] at hb; subst hb; rfl
  have key0 : a.tmps.getD d undef = undef → yielded ops a.tmps j = none := fun hb => by
    unfold yielded
    rw [hj]
    simp only [Option.bind_some]
    rw [Array.getD_eq_getD_getElem?] at hb
    cases hd : a.tmps[d]? with
    | none => rfl
    | some v => rw [hd] at hb; simp only [Option.getD_some] at hb; subst hb; rfl
  unfold guardVal at hg
  split at hg
  · rename_i b heq
    rw [heq] at hs
    simp only [Option.some.injEq] at hg
    rw [key b hs, ← hg]
    cases b <;> cases want <;> rfl
  · rename_i gg b heq
    rw [heq] at hs
    simp only [Option.some.injEq] at hg
    cases gg with
    | false => rw [key0 (hs.2 rfl), ← hg]; rfl
    | true =>
      rw [key b (hs.1 rfl), ← hg]
      cases b <;> cases want <;> rfl
  · cases hg

theorem gop_wp {P : Program} {Γ : Gam} (hΓ : GOK P Γ) {ops : Array Oper} (h : SR c st η a w) {o : Oper} {pre : Prop} {z : AV} {row : Row}
    (ho : gop P Γ ops st o = some (pre, z, row)) (hpre : pre) (hd : dstOK st.sz o.dst) {K : Act → World → Prop} {Q : Exit → Act → World → Prop}
    (hK : ∀ η' a' w', SR c (st.put o.dst z row) η' a' w' → K a' w') :
    if Region.wanted o (yielded ops a.tmps) then o.wp P a w K Q else K (a.put o.dst undef) w := by
  unfold gop at ho
  split at ho
  · rename_i hg
    rw [if_pos (by simp [Region.wanted, hg])]
    exact aop_SR hΓ h (rep_ev h.slots) ho hpre hd (fun _ _ _ _ h => h) hK
  · rename_i j want hg
    split at ho
    · rename_i d hj
      split at ho
      · rename_i g hgv
        split at ho
        · rename_i pre' z' row' ha
          simp only [Option.some.injEq, Prod.mk.injEq] at ho
          obtain ⟨rfl, rfl, rfl⟩ := ho
          have hy := yield_of hj h hgv
          have hw : Region.wanted o (yielded ops a.tmps) = g := by simp only [Region.wanted, hg]; exact hy
          rw [hw]
          cases g with
          | true =>
            simp only [if_true]
            exact aop_SR hΓ h (z' := .gd true z') (fun x => evG_rep rfl (rep_ev h.slots x)) ha (hpre rfl) hd (fun w η L v hv => ⟨fun _ => hv, fun h => (by cases h)⟩) hK
          | false =>
            simp only [Bool.false_eq_true, if_false]
            exact hK η _ w (h.skip hd (aop_row ha))
        · cases ho
      · cases ho
    · cases ho
end
end Go.Proofs.YtljgfacjefebaaaDoor
