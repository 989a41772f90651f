/-
  Less is known; a call begins and ends.
-/
import Derived.Test.YtljgfacjefebaaaDoorAx9
namespace Go.Proofs.YtljgfacjefebaaaDoor
open Go

/-- What reads as the one reads as the other, too. -/
def AVle (x y : AV) : Prop := ∀ (w : World) (η : Env) (L : Nat → Prop) (v : Value), Rep w η L x v → Rep w η L y v
theorem AVle.refl (x : AV) : AVle x x := fun _ _ _ _ h => h
theorem AVle.trans {x y z : AV} (h : AVle x y) (k : AVle y z) : AVle x z := fun w η L v r => k w η L v (h w η L v r)
theorem AVle.any (x : AV) : AVle x .any := fun _ _ _ _ _ => trivial
theorem AVle.of_eq {x y : AV} (h : x = y) : AVle x y := h ▸ AVle.refl x
theorem AVle.sn {n sz : Nat} {c d : Nat → Nat → AV} (h : ∀ i, i < n → ∀ j, j < sz → AVle (c i j) (d i j)) : AVle (.sn n sz c) (.sn n sz d) := by
  rintro w η L v ⟨a, cap, rfl, hn, hc⟩
  refine ⟨a, cap, rfl, hn, fun h0 h1 => ?_⟩
  obtain ⟨b, off, e, hL, hc⟩ := hc h0 h1
  refine ⟨b, off, e, hL, fun i hi j hj => ?_⟩
  obtain ⟨u, hu, h1, hr⟩ := hc i hi j hj
  exact ⟨u, hu, h1, h i hi j hj _ _ _ _ hr⟩
theorem AVle.sn0 {n sz sz' : Nat} {c d : Nat → Nat → AV} (h : n = 0) : AVle (.sn n sz c) (.sn n sz' d) := by
  subst h
  rintro w η L v ⟨a, cap, rfl, hn, _⟩
  exact ⟨a, cap, rfl, hn, fun h0 => absurd h0 (by omega)⟩
theorem AVle.em_sn {sz : Nat} {d : Nat → Nat → AV} : AVle .em (.sn 0 sz d) := by
  rintro w η L v ⟨a, rfl⟩
  exact ⟨a, 0, rfl, Nat.le_refl _, fun h => absurd h (by omega)⟩
theorem AVle.ag {m : Nat} {c d : Nat → AV} (h : ∀ j, j < m → AVle (c j) (d j)) : AVle (.ag m c) (.ag m d) := by
  rintro w η L v ⟨cs, rfl, hm, hc⟩
  refine ⟨cs, rfl, hm, fun j hj => ?_⟩
  obtain ⟨u, hu, h1, hr⟩ := hc j hj
  exact ⟨u, hu, h1, h j hj _ _ _ _ hr⟩
theorem AVle.tu {m : Nat} {c d : Nat → AV} (h : ∀ j, j < m → AVle (c j) (d j)) : AVle (.tu m c) (.tu m d) := by
  rintro w η L v ⟨cs, rfl, hm, hc⟩
  refine ⟨cs, rfl, hm, fun j hj => ?_⟩
  obtain ⟨u, hu, hr⟩ := hc j hj
  exact ⟨u, hu, h j hj _ _ _ _ hr⟩

def RowLe (r r' : Row) : Prop := r'.ver = r.ver ∧ ∀ (w : World) (η : Env) (L : Nat → Prop), RowOK w η L r → RowOK w η L r'
theorem RowLe.refl (r : Row) : RowLe r r := ⟨rfl, fun _ _ _ h => h⟩
theorem RowLe.sl {ver ety sz n n' : Nat} {c d : Nat → Nat → AV} (hn : n' = n) (h : ∀ i, i < n → ∀ j, j < sz → AVle (c i j) (d i j)) : RowLe (.sl ver ety sz n c) (.sl ver ety sz n' d) := by
  subst hn
  refine ⟨rfl, fun w η L hr g cap he => ?_⟩
  have := hr g cap he
  cases g with
  | none => exact this
  | some b =>
    obtain ⟨cur, hh, hs, hn, hm, hc⟩ := this
    refine ⟨cur, hh, hs, hn, hm, fun i hi j hj => ?_⟩
    obtain ⟨u, hu, h1, hrep⟩ := hc i hi j hj
    exact ⟨u, hu, h1, h i hi j hj _ _ _ _ hrep⟩
theorem RowLe.box {ver ety m : Nat} {c d : Nat → AV} (h : ∀ j, j < m → AVle (c j) (d j)) : RowLe (.box ver ety m c) (.box ver ety m d) := by
  refine ⟨rfl, fun w η L hr g cap he => ?_⟩
  obtain ⟨b, cur, hg, hh, hs, hc⟩ := hr g cap he
  refine ⟨b, cur, hg, hh, hs, fun j hj => ?_⟩
  obtain ⟨u, hu, h1, hrep⟩ := hc j hj
  exact ⟨u, hu, h1, h j hj _ _ _ _ hrep⟩

theorem RowOK.less {w : World} {η : Env} {L L' : Nat → Prop} {r : Row} (hL : ∀ b, L' b → L b) (h : RowOK w η L r) : RowOK w η L' r :=
  RowOK.keep (Fr.refl (fun _ => False) w) (Env.le_refl _) (fun _ _ h => h.elim) (fun b _ hb => hL b hb) (fun _ _ => rfl) (fun _ _ => rfl) h

theorem ASle.mk {st st' : AS} (hsz : st'.sz = st.sz) (hdf : st'.df = st.df) (hfr : ∀ t, AVle (st.fr t) (st'.fr t)) (hhp : ∀ p, st'.hp p = .dead ∨ RowLe (st.hp p) (st'.hp p))
    (htop : ∀ p, st'.top ≤ p → st'.hp p = .dead) (hnx : st.nx ≤ st'.nx) : ASle st st' := by
  intro c η a w h
  have hver : ∀ p v, (st'.hp p).ver = some v → (st.hp p).ver = some v := fun p v hv => by
    rcases hhp p with e | e
    · rw [e] at hv; cases hv
    · rw [← e.1]; exact hv
  have hblk : ∀ p b, (st'.hp p).blk η = some b → (st.hp p).blk η = some b := fun p b hb => by
    rcases hhp p with e | e
    · rw [e] at hb; cases hb
    · unfold Row.blk at hb ⊢; rw [e.1] at hb; exact hb
  have hL : ∀ b, Lset c η st'.hp b → Lset c η st.hp b := by
    rintro b (hl | ⟨p, hp⟩)
    · exact .inl hl
    · exact .inr ⟨p, hblk p b hp⟩
  refine ⟨η, ⟨⟨h.hs.fr, h.hs.lx, fun p => ?_, fun p q v hp hq => h.hs.vers p q v (hver p v hp) (hver q v hq), fun p v hp => Nat.lt_of_lt_of_le (h.hs.bnd p v (hver p v hp)) hnx,
    fun p q b hp hq => h.hs.disj p q b (hblk p b hp) (hblk q b hq), fun p b hp => h.hs.own p b (hblk p b hp), fun v hv => h.hs.fresh v (Nat.le_trans hnx hv), h.hs.env.1, Nat.le_trans h.hs.env.2.1 hnx, h.hs.env.2.2⟩, htop, by rw [hsz]; exact h.size,
    fun t => hfr t _ _ _ _ (Rep.less (fun b _ hb => hL b hb) (h.slots t)), by rw [hdf]; exact h.defs⟩⟩
  rcases hhp p with e | e
  · rw [e]; trivial
  · exact e.2 _ _ _ (RowOK.less hL (h.hs.rows p))

/-- Slots by a list; rows by a list. -/
def frm : List (Nat × AV) → Nat → AV
  | [], _ => .any
  | (d, x) :: r, t => if t = d then x else frm r t
def rws : List (Nat × Row) → Nat → Row
  | [], _ => .dead
  | (d, x) :: r, t => if t = d then x else rws r t
theorem frm_le {f : Nat → AV} : ∀ {l : List (Nat × AV)}, (∀ p ∈ l, AVle (f p.1) p.2) → ∀ t, AVle (f t) (frm l t)
  | [], _, _ => AVle.any _
  | (d, x) :: r, h, t => by
    unfold frm
    split
    · rename_i e; subst e; exact h (t, x) (List.mem_cons_self ..)
    · exact frm_le (fun p hp => h p (List.mem_cons_of_mem _ hp)) t
theorem rws_le {f : Nat → Row} : ∀ {l : List (Nat × Row)}, (∀ p ∈ l, RowLe (f p.1) p.2) → ∀ t, rws l t = .dead ∨ RowLe (f t) (rws l t)
  | [], _, _ => .inl rfl
  | (d, x) :: r, h, t => by
    unfold rws
    split
    · rename_i e; subst e; exact .inr (h (t, x) (List.mem_cons_self ..))
    · exact rws_le (fun p hp => h p (List.mem_cons_of_mem _ hp)) t
theorem rws_top {top : Nat} : ∀ {l : List (Nat × Row)}, (∀ p ∈ l, p.1 < top) → ∀ t, top ≤ t → rws l t = .dead
  | [], _, _, _ => rfl
  | (d, x) :: r, h, t, ht => by
    unfold rws
    rw [if_neg (by have := h (d, x) (List.mem_cons_self ..); simp only at this; omega)]
    exact rws_top (fun p hp => h p (List.mem_cons_of_mem _ hp)) t ht
theorem ASle.of {st : AS} {l : List (Nat × AV)} {r : List (Nat × Row)} {sz top nx : Nat} {df : List Deferred} (hsz : sz = st.sz) (hdf : df = st.df) (hl : ∀ p ∈ l, AVle (st.fr p.1) p.2)
    (hr : ∀ p ∈ r, RowLe (st.hp p.1) p.2) (ht : ∀ p ∈ r, p.1 < top) (hnx : st.nx ≤ nx) : ASle st ⟨frm l, rws r, sz, top, nx, df⟩ :=
  ASle.mk hsz hdf (frm_le hl) (rws_le hr) (rws_top ht) hnx

/-- An empty slice that nobody holds: a row at hand, of no elements. -/
theorem ASle.adopt {st : AS} {s : Nat} (e : TypeId) (sz : Nat) (cc : Nat → Nat → AV) (h : st.fr s = .em) :
    ASle st ⟨updA st.fr s (.ow st.top st.nx 0), updR st.hp st.top (.sl st.nx e sz 0 cc), st.sz, st.top + 1, st.nx + 1, st.df⟩ := by
  intro c η a w hsr
  obtain ⟨hs', hkeep⟩ := hsr.hs.swap (p := st.top) (row := .sl st.nx e sz 0 cc) (r := (none, 0)) rfl (Fr.refl (fun _ => False) w) (fun _ _ h => h.elim) (fun g hg => by cases hg) (fun _ => by
    intro g cap he
    rw [layAt_at] at he
    simp only [Option.some.injEq, Prod.mk.injEq] at he
    obtain ⟨rfl, rfl⟩ := he
    rfl)
  refine ⟨layAt η st.nx (none, 0), hs', fun p hp => ?_, hsr.size, fun t => ?_, hsr.defs⟩
  · simp only at hp ⊢
    rw [updR_ne _ _ (by omega)]
    exact hsr.dead p (by omega)
  · simp only [updA]
    split
    · rename_i e'
      subst e'
      have := hsr.slots t
      rw [h] at this
      exact ⟨none, 0, layAt_at _ _ _, rfl, this⟩
    · exact hkeep _ _ (hsr.slots t)

/-! ### a call ends, and begins -/
/-- A row at hand is given away: what reads as it is only read from then on. -/
theorem vw0_less {c : Ctx} {hp : Nat → Row} {nx : Nat} {η : Env} {w : World} (hs : HS c hp nx η w) {x : AV} {v : Value} (h : vwP0 hp x) (hr : Rep w η (Lset c η hp) x v) : Rep w noEnv c.Lx (vw0 hp x) v := by
  have less : ∀ {x v}, Rep w noEnv (Lset c η hp) x v → Rep w noEnv c.Lx x v := fun h => Rep.less (fun _ _ h => .inl h) h
  have notL : ∀ p b, (hp p).blk η = some b → ¬ c.Lx b := fun p b hb => (hs.own p b hb).2.1
  cases x with
  | ow p ver n =>
    simp only [vwP0] at h
    have hrow := hs.rows p
    split at h
    · rename_i vv ety sz n' cc heq
      obtain ⟨rfl, hn, hfl⟩ := h
      obtain ⟨g, cap, hη, hv⟩ := hr
      rw [heq] at hrow
      have hrow := hrow g cap hη
      have hvw : vw0 hp (.ow p vv n) = .sn n sz cc := by simp only [vw0, heq]
      rw [hvw]
      cases g with
      | none =>
        obtain ⟨rfl, a, rfl⟩ := hv
        exact ⟨a, 0, rfl, Nat.le_refl _, fun h => absurd h (by omega)⟩
      | some g =>
        obtain ⟨rfl, hcap⟩ := hv
        obtain ⟨cur, hh, hsz, hnc, hm, hc⟩ := hrow
        refine ⟨_, cap, rfl, hcap, fun h0 hs => ⟨g, 0, rfl, notL p g (by rw [heq]; simp [Row.blk, Row.ver, hη]), fun i hi j hj => ?_⟩⟩
        obtain ⟨u, hu, h1, hrep⟩ := hc i (by omega) j hj
        exact ⟨u, by rw [cell_heap hh, Nat.zero_add]; exact hu, h1, less (flat_rep (hfl i hi j hj) hrep)⟩
    · exact h.elim
  | pt p ver k =>
    simp only [vwP0] at h
    have hrow := hs.rows p
    split at h
    · rename_i vv ety m cc heq
      obtain ⟨rfl, hk, hfl⟩ := h
      obtain ⟨g, cap, hη, rfl⟩ := hr
      rw [heq] at hrow
      obtain ⟨b, cur, hb, hh, hsz, hc⟩ := hrow _ cap hη
      obtain rfl : g = b := by simpa using hb
      have hvw : vw0 hp (.pt p vv k) = .ps (m - k) fun i => cc (k + i) := by simp only [vw0, heq]
      rw [hvw]
      refine ⟨g, k, rfl, fun _ => notL p g (by rw [heq]; simp [Row.blk, Row.ver, hη]), fun j hj => ?_⟩
      obtain ⟨u, hu, h1, hrep⟩ := hc (k + j) (by omega)
      exact ⟨u, by rw [cell_heap hh]; exact hu, h1, less (flat_rep (hfl (k + j) (by omega)) hrep)⟩
    · exact h.elim
  | pe p ver sz i k =>
    simp only [vwP0] at h
    have hrow := hs.rows p
    split at h
    · rename_i vv ety sz' n cc heq
      obtain ⟨rfl, rfl, hi, hk, hfl⟩ := h
      obtain ⟨g, cap, hη, rfl⟩ := hr
      rw [heq] at hrow
      obtain ⟨cur, hh, hsz, hnc, hm, hc⟩ := hrow _ cap hη
      have hvw : vw0 hp (.pe p vv sz' i k) = .ps (sz' - k) fun x => cc i (k + x) := by simp only [vw0, heq]
      rw [hvw]
      refine ⟨g, i * sz' + k, rfl, fun _ => notL p g (by rw [heq]; simp [Row.blk, Row.ver, hη]), fun j hj => ?_⟩
      obtain ⟨u, hu, h1, hrep⟩ := hc i hi (k + j) (by omega)
      exact ⟨u, by rw [cell_heap hh, Nat.add_assoc]; exact hu, h1, less (flat_rep (hfl (k + j) (by omega)) hrep)⟩
    · exact h.elim
  | _ => exact less (flatP_rep h hr)

/-- A result: what its slot, or its variable, reads as. -/
theorem vw_less {c : Ctx} {hp : Nat → Row} {nx : Nat} {η : Env} {w : World} (hs : HS c hp nx η w) {x : AV} {v : Value} (h : vwP hp x) (hr : Rep w η (Lset c η hp) x v) : Rep w noEnv c.Lx (vw hp x) v := by
  rcases vw_cases x with ⟨m, cc, rfl⟩ | ⟨e, _⟩
  · obtain ⟨cs, rfl, hm, hc⟩ := hr
    refine ⟨cs, rfl, hm, fun j hj => ?_⟩
    obtain ⟨u, hu, h1, hr⟩ := hc j hj
    exact ⟨u, hu, h1, by dsimp only; rw [if_pos hj]; exact vw0_less hs (h j hj).1 hr⟩
  · rw [(e hp).1]
    rw [(e hp).2] at h
    exact vw0_less hs h hr
def rOK (P : Program) (st : AS) (x : ResultVar) (r : AV) : Prop :=
  match x with
  | .tmp t => vwP st.hp (st.fr t) ∧ AVle (vw st.hp (st.fr t)) r
  | .cell t ty => match aLoad P st.hp ty (st.fr t) with
    | some (pre, z) => pre ∧ vwP st.hp z ∧ AVle (vw st.hp z) r
    | none => False
def retOK (P : Program) (l : List ResultVar) (r : AV) (st : AS) : Prop :=
  st.df = [] ∧ match l with
  | [] => r = .val (.tuple #[])
  | [x] => rOK P st x r
  | [x, y] => ∃ c, r = .tu 2 c ∧ rOK P st x (c 0) ∧ rOK P st y (c 1)
  | [x, y, z] => ∃ c, r = .tu 3 c ∧ rOK P st x (c 0) ∧ rOK P st y (c 1) ∧ rOK P st z (c 2)
  | _ => False
def retQ (P : Program) (l : List ResultVar) (r : AV) : Exit → AS → Prop
  | .normal, st => retOK P l r st
  | .ret, st => retOK P l r st
  | _, _ => False

theorem rOK_run {P : Program} {c : Ctx} {st : AS} {η : Env} {a : Act} {w : World} (h : SR c st η a w) {x : ResultVar} {r : AV} (hx : rOK P st x r) :
    ∃ v, ((match x with | .tmp t => pure (a.tmps.getD t undef) | .cell t ty => do loadVar ty (← asAddr (a.tmps.getD t undef))) : Sem Value).run P w = .ok v w ∧ Rep w noEnv c.Lx r v := by
  cases x with
  | tmp t =>
    obtain ⟨h1, h2⟩ := hx
    exact ⟨_, rfl, h2 _ _ _ _ (vw_less h.hs h1 (h.slots t))⟩
  | cell t ty =>
    simp only [rOK] at hx
    split at hx
    · rename_i pre z hl
      obtain ⟨hpre, h1, h2⟩ := hx
      obtain ⟨v, hv, hr⟩ := run_aLoad h.hs.rows hl hpre (h.slots t)
      refine ⟨v, ?_, h2 _ _ _ _ (vw_less h.hs h1 hr)⟩
      have hp : ∃ ad, a.tmps.getD t undef = .pointer (some ad) := by
        have hs := h.slots t
        unfold aLoad at hl
        split at hl <;> first
          | (rename_i heq; rw [heq] at hs; first | (obtain ⟨b, o, e, _⟩ := hs; exact ⟨_, e⟩) | (obtain ⟨g, cap, _, e⟩ := hs; exact ⟨_, e⟩))
          | cases hl
      obtain ⟨ad, e⟩ := hp
      simp only
      rw [e] at hv ⊢
      simpa [Instr.loadAt, Instr.sureAddr, asAddr] using hv
    · exact hx.elim

theorem retOK_post {P : Program} {c : Ctx} {st : AS} {η : Env} {a : Act} {w : World} (h : SR c st η a w) {fn : Func} {l : List ResultVar} (hl : fn.results = l.toArray) {r : AV} (hr : retOK P l r st) :
    a.defers = [] ∧ ∃ v, (results fn a.tmps).run P w = .ok v w ∧ Rep w noEnv c.Lx r v := by
  obtain ⟨hd, hr⟩ := hr
  refine ⟨by rw [h.defs, hd], ?_⟩
  unfold results
  rw [hl]
  split at hr
  · subst hr
    exact ⟨_, by simp, rfl⟩
  · obtain ⟨v, hv, hrep⟩ := rOK_run h hr
    refine ⟨v, ?_, hrep⟩
    rw [Array.mapM_eq_mapM_toList]
    simp only [List.mapM_cons, List.mapM_nil, Sem.run_bind, Sem.run_map]
    rename_i x
    cases x <;> simp only at hv ⊢ <;> rw [hv] <;> simp
  · obtain ⟨cc, rfl, h1, h2⟩ := hr
    obtain ⟨v1, hv1, hr1⟩ := rOK_run h h1
    obtain ⟨v2, hv2, hr2⟩ := rOK_run h h2
    refine ⟨.tuple #[v1, v2], ?_, #[v1, v2], rfl, rfl, fun j hj => ?_⟩
    · rw [Array.mapM_eq_mapM_toList]
      simp only [List.mapM_cons, List.mapM_nil, Sem.run_bind, Sem.run_map]
      rename_i x y
      cases x <;> simp only at hv1 ⊢ <;> rw [hv1] <;> cases y <;> simp only [Result.andThen_ok] at hv2 ⊢ <;> rw [hv2] <;> simp
    · match j, hj with
      | 0, _ => exact ⟨v1, rfl, hr1⟩
      | 1, _ => exact ⟨v2, rfl, hr2⟩
  · obtain ⟨cc, rfl, h1, h2, h3⟩ := hr
    obtain ⟨v1, hv1, hr1⟩ := rOK_run h h1
    obtain ⟨v2, hv2, hr2⟩ := rOK_run h h2
    obtain ⟨v3, hv3, hr3⟩ := rOK_run h h3
    refine ⟨.tuple #[v1, v2, v3], ?_, #[v1, v2, v3], rfl, rfl, fun j hj => ?_⟩
    · rw [Array.mapM_eq_mapM_toList]
      simp only [List.mapM_cons, List.mapM_nil, Sem.run_bind, Sem.run_map]
      rename_i x y z
      cases x <;> simp only at hv1 ⊢ <;> rw [hv1] <;> cases y <;> simp only [Result.andThen_ok] at hv2 ⊢ <;> rw [hv2] <;> cases z <;> simp only [Result.andThen_ok] at hv3 ⊢ <;> rw [hv3] <;> simp
    · match j, hj with
      | 0, _ => exact ⟨v1, rfl, hr1⟩
      | 1, _ => exact ⟨v2, rfl, hr2⟩
      | 2, _ => exact ⟨v3, rfl, hr3⟩
  · exact hr.elim

/-- The state in which a call begins. -/
def st0 (n : Nat) (args : List AV) : AS := ⟨fun t => args.getD t .any, fun _ => .dead, n, 0, 0, []⟩

theorem all2_get {α β : Type} {R : α → β → Prop} : ∀ {l : List α} {m : List β}, All2 R l m → l.length = m.length ∧ ∀ (t : Nat) (x : α), l[t]? = some x → ∃ y, m[t]? = some y ∧ R x y
  | [], [], .nil => ⟨rfl, fun t x h => by simp at h⟩
  | a :: l, b :: m, .cons h hf => by
    obtain ⟨h1, h2⟩ := all2_get hf
    refine ⟨by simp [h1], fun t x ht => ?_⟩
    cases t with
    | zero => simp only [List.getElem?_cons_zero, Option.some.injEq] at ht; subst ht; exact ⟨b, rfl, h⟩
    | succ t => simpa using h2 t x (by simpa using ht)

theorem SR.begin {w : World} {L : Nat → Prop} (hL : ∀ b, L b → b < w.heap.size) {args : List AV} {vs : List Value} (hf : All2 (Rep w noEnv L) args vs) {n : Nat} (hn : args.length ≤ n) :
    SR ⟨w, noEnv, fun _ => False, L, 0⟩ (st0 n args) noEnv { tmps := vs.toArray ++ Array.replicate (n - vs.toArray.size) undef, defers := [] } w := by
  obtain ⟨hlen, hget⟩ := all2_get hf
  refine ⟨⟨Fr.refl _ _, hL, fun _ => trivial, fun p q v h => (by cases h), fun p v h => (by cases h), fun p q b h => (by cases h), fun p b h => (by cases h), fun _ _ => rfl, Env.le_refl _, Nat.le_refl _, fun _ _ h => h⟩, fun _ _ => rfl, ?_, fun t => ?_, rfl⟩
  · simp [st0]; omega
  · have hLs : ∀ {x v}, Rep w noEnv L x v → Rep w noEnv (Lset ⟨w, noEnv, fun _ => False, L, 0⟩ noEnv (fun _ => .dead)) x v := fun h => Rep.less (fun b _ hb => by
      rcases hb with hb | ⟨p, hb⟩
      · exact hb
      · cases hb) h
    simp only [st0, List.getD_eq_getElem?_getD]
    cases ht : args[t]? with
    | none => exact trivial
    | some x =>
      obtain ⟨y, hy, hr⟩ := hget t x ht
      have : (vs.toArray ++ Array.replicate (n - vs.toArray.size) undef).getD t undef = y := by
        have hlt : t < vs.length := by
          rcases Nat.lt_or_ge t vs.length with h | h
          · exact h
          · rw [List.getElem?_eq_none h] at hy; cases hy
        rw [Array.getD_eq_getD_getElem?, Array.getElem?_append_left (by simpa using hlt)]
        simp [hy]
      rw [this]
      exact hLs hr

theorem enters {P : Program} {f : FuncId} {fn : Func} {code : Code} (hf : P.funcs[f]? = some fn) (hb : fn.body = some code) (hn : (fn.name == "runtime.NumGoroutine") = false) (args : Array Value) (w : World) :
    (callFunc f args).run P w = .ok (.enter f args) w := by
  have hn' : ¬ fn.name = "runtime.NumGoroutine" := by simpa using hn
  simp [callFunc, hf, hb, hn']

/-- A contract, by its code from the state in which the call begins. -/
theorem SpecOK.mk {P : Program} {f : FuncId} {fn : Func} {code : Code} {s : Spec} {l : List ResultVar} (hf : P.funcs[f]? = some fn) (hb : fn.body = some code) (hn : (fn.name == "runtime.NumGoroutine") = false) (hl : fn.results = l.toArray)
    (h : ∀ args, s.pre args → args.length ≤ fn.ntmps ∧ AW P code (retQ P l (s.res args)) (st0 fn.ntmps args)) : SpecOK P f s := by
  refine ⟨enters hf hb hn, fun args hpre w L vs hL hargs => ?_⟩
  obtain ⟨hlen, haw⟩ := h args hpre
  refine calls_of_wp hf hb (wp_mono (haw _ _ _ _ (SR.begin hL hargs hlen)) ?_)
  rintro e a' w' ⟨st', η', hq, hsr'⟩
  cases e with
  | normal =>
    obtain ⟨hd, v, hv, hr⟩ := retOK_post hsr' hl hq
    exact ⟨hd, v, hv, v, rfl, hsr'.hs.fr, hr⟩
  | ret =>
    obtain ⟨hd, v, hv, hr⟩ := retOK_post hsr' hl hq
    exact ⟨hd, v, hv, v, rfl, hsr'.hs.fr, hr⟩
  | exit id => exact hq.elim
  | goto id => exact hq.elim
  | panic ch => exact hq.elim
  | outgrown => exact hq.elim
end Go.Proofs.YtljgfacjefebaaaDoor
