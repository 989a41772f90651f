/-
  An empty slice in a variable's cell becomes a row at hand.
-/
import Derived.Test.YtljgfacjefebaaaDoorAxm
namespace Go.Proofs.YtljgfacjefebaaaDoor
open Go
@[go_sem high] theorem aIsNil_sL {α : Type} (E : El α) (l : List α) {P : Program} {t : TypeId} : aIsNil P t (sL E l) = match P.underlying t with
    | some (.slice _) => some (0 < E.sz, .mb (l.length = 0))
    | _ => none := by
  unfold aIsNil sL
  generalize P.underlying t = u
  cases u with
  | none => rfl
  | some d => cases d <;> rfl
attribute [go_sem low] aIsNil.eq_def
@[go_sem high] theorem sApp_sL {α : Type} (E : El α) (l : List α) {P : Program} {st : AS} {t : TypeId} {x : AV} {d : Option Tmp} {K : AS → Prop} : sApp P st t x (sL E l) d K = sApp P st t x (.sn l.length E.sz fun i => E.enc (l.getD i E.dflt)) d K := rfl
@[go_sem] theorem apK_sL {α : Type} (E : El α) (l : List α) {P : Program} {st : AS} {t : TypeId} {x y : AV} {d : Option Tmp} {K : AS → Prop} {u : Option TypeDesc} : apK P st t y d K u x (sL E l) = apK P st t y d K u x (.sn l.length E.sz fun i => E.enc (l.getD i E.dflt)) := rfl
theorem stE_le {α : Type} {E : El α} {f : Nat → Nat → AV} {k s n : Nat} {c : Nat → AV} {x d : α} {l : List α} (hk : k < l.length) (h : ∀ i, i < n → ∀ j, j < s → AVle (f i j) (E.enc (l.getD i d) j)) (hc : ∀ j, j < s → AVle (c j) (E.enc x j)) :
    ∀ i, i < n → ∀ j, j < s → AVle (stE f k 0 s c i j) (E.enc ((l.set k x).getD i d) j) := fun i hi j hj => by
  simp only [stE]
  by_cases e : i = k
  · subst e
    rw [if_pos ⟨rfl, by omega, by omega⟩, Nat.sub_zero]
    have e : (l.set i x).getD i d = x := by simp [List.getD, hk]
    rw [e]
    exact hc j hj
  · rw [if_neg (fun hh => e hh.1)]
    have e : (l.set k x).getD i d = l.getD i d := by simp [List.getD, List.getElem?_set_ne (Ne.symm e)]
    rw [e]
    exact h i hi j hj
theorem stM_le {n : Nat} {args args' : List AV} {hp : Nat → Row} {top nx : Nat} (h : All2 AVle args args') : ASle (stM n args hp top nx) (stM n args' hp top nx) := by
  refine fun c η a w hs => ⟨η, hs.hs, hs.dead, hs.size, fun t => ?_, hs.defs⟩
  refine (?_ : AVle (args.getD t .any) (args'.getD t .any)) _ _ _ _ (hs.slots t)
  clear hs
  induction h generalizing t with
  | nil => exact AVle.refl _
  | cons h _ ih =>
    cases t with
    | zero => simpa using h
    | succ t => simpa using ih t
/-- Rows may be told by other numbers. -/
theorem ASle.perm {st st' : AS} (σ : Nat → Nat) (hsz : st'.sz = st.sz) (hdf : st'.df = st.df) (hfr : ∀ t, AVle (st.fr t) (st'.fr t)) (hhp : ∀ p, st'.hp p = .dead ∨ RowLe (st.hp (σ p)) (st'.hp p))
    (hinj : ∀ p q, st'.hp p ≠ .dead → st'.hp q ≠ .dead → σ p = σ q → p = q) (htop : ∀ p, st'.top ≤ p → st'.hp p = .dead) (hnx : st.nx ≤ st'.nx) : ASle st st' := by
  intro c η a w h
  have hver : ∀ p v, (st'.hp p).ver = some v → (st.hp (σ p)).ver = some v ∧ st'.hp p ≠ .dead := fun p v hv => by
    rcases hhp p with e | e
    · rw [e] at hv; cases hv
    · exact ⟨by rw [← e.1]; exact hv, fun e => by rw [e] at hv; cases hv⟩
  have hblk : ∀ p b, (st'.hp p).blk η = some b → (st.hp (σ p)).blk η = some b ∧ st'.hp p ≠ .dead := fun p b hb => by
    rcases hhp p with e | e
    · rw [e] at hb; cases hb
    · refine ⟨?_, fun e => by rw [e] at hb; cases hb⟩
      unfold Row.blk at hb ⊢
      rw [e.1] at hb
      exact hb
  have hL : ∀ b, Lset c η st'.hp b → Lset c η st.hp b := by
    rintro b (hl | ⟨p, hp⟩)
    · exact .inl hl
    · exact .inr ⟨σ p, (hblk p b hp).1⟩
  refine ⟨η, ⟨⟨h.hs.fr, h.hs.lx, fun p => ?_, fun p q v hp hq => hinj p q (hver p v hp).2 (hver q v hq).2 (h.hs.vers _ _ v (hver p v hp).1 (hver q v hq).1), fun p v hp => Nat.lt_of_lt_of_le (h.hs.bnd _ v (hver p v hp).1) hnx,
    fun p q b hp hq => hinj p q (hblk p b hp).2 (hblk q b hq).2 (h.hs.disj _ _ b (hblk p b hp).1 (hblk q b hq).1), fun p b hp => h.hs.own _ b (hblk p b hp).1, fun v hv => h.hs.fresh v (Nat.le_trans hnx hv), h.hs.env.1, Nat.le_trans h.hs.env.2.1 hnx, h.hs.env.2.2⟩, htop, by rw [hsz]; exact h.size,
    fun t => hfr t _ _ _ _ (Rep.less (fun b _ hb => hL b hb) (h.slots t)), by rw [hdf]; exact h.defs⟩⟩
  rcases hhp p with e | e
  · rw [e]; trivial
  · exact e.2 _ _ _ (RowOK.less hL (h.hs.rows _))
def Sh.fitsV (σ : Nat → Nat) (s : Sh) (st : AS) : Prop :=
  ((s.sz = st.sz ∧ s.df = st.df) ∧ st.nx ≤ s.nx) ∧ (∀ p ∈ s.fr, AVle (st.fr p.1) p.2) ∧ (∀ p ∈ s.hp, RowLe (st.hp (σ p.1)) p.2) ∧ (∀ p ∈ s.hp, p.1 < s.top) ∧ ∀ p ∈ s.hp, ∀ q ∈ s.hp, σ p.1 = σ q.1 → p.1 = q.1
theorem rws_mem : ∀ {l : List (Nat × Row)} {t : Nat}, rws l t ≠ .dead → ∃ p ∈ l, p.1 = t ∧ rws l t = p.2
  | [], _, h => absurd rfl h
  | (d, x) :: r, t, h => by
    by_cases e : t = d
    · exact ⟨(d, x), List.mem_cons_self .., e.symm, if_pos e⟩
    · have h' : rws r t ≠ .dead := fun hh => h ((if_neg e).trans hh)
      obtain ⟨p, h1, h2, h3⟩ := rws_mem h'
      exact ⟨p, List.mem_cons_of_mem _ h1, h2, (if_neg e).trans h3⟩
theorem Sh.fitsV.le {s : Sh} {st : AS} {σ : Nat → Nat} (h : s.fitsV σ st) : ASle st ⟨frm s.fr, rws s.hp, s.sz, s.top, s.nx, s.df⟩ := by
  obtain ⟨⟨⟨h1, h2⟩, h3⟩, h4, h5, h6, h7⟩ := h
  refine ASle.perm σ h1 h2 (frm_le h4) (fun p => ?_) (fun p q hp hq e => ?_) (rws_top h6) h3
  · by_cases hd : rws s.hp p = .dead
    · exact .inl hd
    · obtain ⟨x, hx, e1, e2⟩ := rws_mem hd
      subst e1
      refine .inr (?_ : RowLe (st.hp (σ x.1)) (rws s.hp x.1))
      rw [e2]
      exact h5 x hx
  · obtain ⟨x, hx, e1, _⟩ := rws_mem hp
    obtain ⟨y, hy, e2, _⟩ := rws_mem hq
    subst e1 e2
    exact h7 x hx y hy e
theorem toFitsV {st : AS} (σ : Nat → Nat) {l : List (Nat × AV)} {r : List (Nat × Row)} {sz top nx : Nat} {df : List Deferred} (h : (Sh.mk l r sz top nx df).fitsV σ st) : ASle st ⟨frm l, rws r, sz, top, nx, df⟩ := h.le
theorem AW.cutV {P : Program} {x : Code} {Q : Exit → AS → Prop} {st : AS} (σ : Nat → Nat) (s : Sh) (h : s.fitsV σ st) (k : AW P x Q s.st) : AW P x Q st := AW.le h.le k
attribute [go_sem] Sh.fitsV
/-- A loop whose rounds end in states of which less is known, in whatever way. -/
def againL {α : Type} (I : α → AS) (μ : α → Nat) (i : α) (Q : Exit → AS → Prop) : Exit → AS → Prop
  | .normal, st => ∃ j, ASle st (I j) ∧ μ j < μ i
  | e, st => Q e st
section
variable {P : Program} {x : Code} {Q : Exit → AS → Prop} {st : AS} {α : Type} {I : α → AS} {μ : α → Nat} {i : α} {id : Nat}
@[go_sem] theorem againL_normal : againL I μ i Q .normal st = ∃ j, ASle st (I j) ∧ μ j < μ i := rflN rfl
@[go_sem] theorem againL_exit : againL I μ i Q (.exit id) st = Q (.exit id) st := rflN rfl
@[go_sem] theorem againL_ret : againL I μ i Q .ret st = Q .ret st := rflN rfl
theorem AW.roundL (I : α → AS) (μ : α → Nat) (i₀ : α) (h₀ : ASle st (I i₀)) (h : ∀ i, AW P x (againL I μ i Q) (I i)) : AW P (.loop x) Q st := by
  refine AW.loop I μ i₀ h₀ fun i c η a w hsr => ?_
  refine wp_mono (h i c η a w hsr) ?_
  rintro e a' w' ⟨st', η', hq, hs'⟩
  cases e with
  | normal =>
    obtain ⟨j, hf, hm⟩ := hq
    exact ⟨st', η', ⟨j, hf, hm⟩, hs'⟩
  | _ => exact ⟨st', η', hq, hs'⟩
end
theorem HS.same {c : Ctx} {hp : Nat → Row} {nx : Nat} {η : Env} {w : World} (h : HS c hp nx η w) {p : Nat} {row : Row} (hv : row.ver = (hp p).ver) (hrow : RowOK w η (Lset c η hp) row) :
    HS c (updR hp p row) nx η w ∧ Lset c η (updR hp p row) = Lset c η hp := by
  have hver : ∀ q, (updR hp p row q).ver = (hp q).ver := fun q => by
    by_cases e : q = p
    · subst e; rw [updR_at, hv]
    · rw [updR_ne _ _ e]
  have hbk : ∀ q, (updR hp p row q).blk η = (hp q).blk η := fun q => by
    unfold Row.blk
    rw [hver]
  have hL : Lset c η (updR hp p row) = Lset c η hp := by
    funext b
    simp only [Lset, hbk]
  refine ⟨⟨h.fr, h.lx, fun q => ?_, fun q r v hq hr => ?_, fun q v hq => ?_, fun q r b hq hr => ?_, fun q b hq => ?_, h.fresh, h.env⟩, hL⟩
  · rw [hL]
    by_cases e : q = p
    · subst e; rw [updR_at]; exact hrow
    · rw [updR_ne _ _ e]; exact h.rows q
  · rw [hver] at hq hr; exact h.vers q r v hq hr
  · rw [hver] at hq; exact h.bnd q v hq
  · rw [hbk] at hq hr; exact h.disj q r b hq hr
  · rw [hbk] at hq; exact h.own q b hq
theorem ASle.adoptB {st : AS} {q v m : Nat} {ety : TypeId} {cs : Nat → AV} (j : Nat) (e : TypeId) (sz : Nat) (cc : Nat → Nat → AV) (h : st.hp q = .box v ety m cs) (hj : cs j = .em) :
    ASle st ⟨st.fr, updR (updR st.hp st.top (.sl st.nx e sz 0 cc)) q (.box v ety m fun i => if i = j then .ow st.top st.nx 0 else cs i), st.sz, st.top + 1, st.nx + 1, st.df⟩ := by
  intro c η a w hsr
  have hqt : q ≠ st.top := fun e => by
    have := hsr.dead q (by omega)
    rw [h] at this
    cases this
  obtain ⟨hs', hkeep⟩ := hsr.hs.swap (p := st.top) (row := .sl st.nx e sz 0 cc) (r := (none, 0)) rfl (Fr.refl (fun _ => False) w) (fun _ _ h => h.elim) (fun g hg => by cases hg) (fun _ => by
    intro g cap he
    rw [layAt_at] at he
    simp only [Option.some.injEq, Prod.mk.injEq] at he
    obtain ⟨rfl, rfl⟩ := he
    rfl)
  have hrow := hs'.rows q
  rw [updR_ne _ _ hqt, h] at hrow
  have hrow0 := hsr.hs.rows q
  rw [h] at hrow0
  have hvn : v ≠ st.nx := fun e => by
    have := hsr.hs.bnd q v (by rw [h]; rfl)
    omega
  obtain ⟨hs2, hL⟩ := hs'.same (p := q) (row := .box v ety m fun i => if i = j then .ow st.top st.nx 0 else cs i) (by rw [updR_ne _ _ hqt, h]; rfl) (by
    intro g cap he
    obtain ⟨b, cur, h1, h2, h3, h4⟩ := hrow g cap he
    refine ⟨b, cur, h1, h2, h3, fun i hi => ?_⟩
    obtain ⟨u, hu, ho, hr⟩ := h4 i hi
    refine ⟨u, hu, ho, ?_⟩
    by_cases e' : i = j
    · subst e'
      rw [hj] at hr
      simp only [if_true]
      obtain ⟨x, hr⟩ := hr
      exact ⟨none, 0, layAt_at _ _ _, rfl, x, hr⟩
    · simp only [if_neg e']
      exact hr)
  refine ⟨layAt η st.nx (none, 0), hs2, fun p hp => ?_, hsr.size, fun t => ?_, hsr.defs⟩
  · simp only at hp ⊢
    rw [updR_ne _ _ (fun e => by
      subst e
      have := hsr.dead p (by omega)
      rw [h] at this
      cases this), updR_ne _ _ (by omega)]
    exact hsr.dead p (by omega)
  · simp only
    rw [hL]
    exact hkeep _ _ (hsr.slots t)
theorem AW.adoptB {P : Program} {x : Code} {Q : Exit → AS → Prop} {st : AS} {q v m : Nat} {ety : TypeId} {cs : Nat → AV} (j : Nat) (e : TypeId) (sz : Nat) (cc : Nat → Nat → AV) (h : st.hp q = .box v ety m cs) (hj : cs j = .em)
    (k : AW P x Q ⟨st.fr, updR (updR st.hp st.top (.sl st.nx e sz 0 cc)) q (.box v ety m fun i => if i = j then .ow st.top st.nx 0 else cs i), st.sz, st.top + 1, st.nx + 1, st.df⟩) : AW P x Q st := AW.le (ASle.adoptB j e sz cc h hj) k
end Go.Proofs.YtljgfacjefebaaaDoor
