/-
  A row at hand is given away in the midst of a call: what reads as it is only read from then on. A contract out of one that is told by values.
-/
import Derived.Test.YtljgfacjefebaaaDoorAxf
set_option linter.unusedSimpArgs false
namespace Go.Proofs.YtljgfacjefebaaaDoor
open Go

/-- What read as the row 'q', as something that is only read. -/
def fz (q v n sz : Nat) (cc : Nat → Nat → AV) : AV → AV
  | .ow p u m => if p = q ∧ u = v ∧ m ≤ n then .sn m sz cc else .ow p u m
  | x => x
def fzR (q v n sz : Nat) (cc : Nat → Nat → AV) : Row → Row
  | .dead => .dead
  | .box u e m c => .box u e m fun j => fz q v n sz cc (c j)
  | .sl u e s k c => .sl u e s k fun i j => fz q v n sz cc (c i j)
  | .mp u s k f => .mp u s k f
theorem fzR_ver (q v n sz : Nat) (cc : Nat → Nat → AV) (r : Row) : (fzR q v n sz cc r).ver = r.ver := by cases r <;> rfl
def AS.freeze (st : AS) (q v n sz : Nat) (cc : Nat → Nat → AV) : AS :=
  ⟨fun t => fz q v n sz cc (st.fr t), updR (fun p => fzR q v n sz cc (st.hp p)) q .dead, st.sz, st.top, st.nx, st.df⟩
theorem ASle.freeze {st : AS} (q v ety sz n : Nat) (cc : Nat → Nat → AV) (hrow : st.hp q = .sl v ety sz n cc) (hfl : ∀ i, i < n → ∀ j, j < sz → (cc i j).flat = true) :
    ASle st (st.freeze q v n sz cc) := by
  intro c η a w h
  have hver : ∀ p u, ((st.freeze q v n sz cc).hp p).ver = some u → (st.hp p).ver = some u ∧ p ≠ q := fun p u hv => by
    simp only [AS.freeze, updR] at hv
    split at hv
    · cases hv
    · rename_i hne
      rw [fzR_ver] at hv
      exact ⟨hv, hne⟩
  have hblk : ∀ p b, ((st.freeze q v n sz cc).hp p).blk η = some b → (st.hp p).blk η = some b ∧ p ≠ q := fun p b hb => by
    unfold Row.blk at hb
    cases hv : ((st.freeze q v n sz cc).hp p).ver with
    | none => rw [hv] at hb; cases hb
    | some u =>
      rw [hv] at hb
      obtain ⟨h1, h2⟩ := hver p u hv
      unfold Row.blk
      rw [h1]
      exact ⟨hb, h2⟩
  have hL : ∀ b, Lset c η (st.freeze q v n sz cc).hp b → Lset c η st.hp b := by
    rintro b (hl | ⟨p, hp⟩)
    · exact .inl hl
    · exact .inr ⟨p, (hblk p b hp).1⟩
  have less : ∀ {x u}, Rep w η (Lset c η st.hp) x u → Rep w η (Lset c η (st.freeze q v n sz cc).hp) x u := fun h => Rep.less (fun b _ hb => hL b hb) h
  have lessN : ∀ {x u}, Rep w noEnv (Lset c η st.hp) x u → Rep w noEnv (Lset c η (st.freeze q v n sz cc).hp) x u := fun h => Rep.less (fun b _ hb => hL b hb) h
  have key : ∀ x u, Rep w η (Lset c η st.hp) x u → Rep w η (Lset c η (st.freeze q v n sz cc).hp) (fz q v n sz cc x) u := fun x u hr => by
    cases x with
    | ow p ver m =>
      simp only [fz]
      split
      · rename_i hc
        obtain ⟨rfl, rfl, hm⟩ := hc
        have hrr := h.hs.rows p
        rw [hrow] at hrr
        obtain ⟨g, cap, hη, hv⟩ := hr
        have hrr := hrr g cap hη
        cases g with
        | none =>
          obtain ⟨rfl, a, rfl⟩ := hv
          exact ⟨a, 0, rfl, Nat.le_refl _, fun h => absurd h (by omega)⟩
        | some g =>
          obtain ⟨rfl, hcap⟩ := hv
          obtain ⟨cur, hh, hsz, hnc, hmx, hc⟩ := hrr
          have hbk : (st.hp p).blk η = some g := by rw [hrow]; simp [Row.blk, Row.ver, hη]
          refine ⟨_, cap, rfl, hcap, fun h0 hs => ⟨g, 0, rfl, ?_, fun i hi j hj => ?_⟩⟩
          · rintro (hl | ⟨p', hp'⟩)
            · exact (h.hs.own p g hbk).2.1 hl
            · obtain ⟨h1, h2⟩ := hblk p' g hp'
              exact h2 (h.hs.disj p' p g h1 hbk)
          · obtain ⟨u, hu, h1, hrep⟩ := hc i (by omega) j hj
            exact ⟨u, by rw [cell_heap hh, Nat.zero_add]; exact hu, h1, lessN (flat_rep (hfl i (by omega) j hj) hrep)⟩
      · exact less hr
    | _ => exact less hr
  refine ⟨η, ⟨⟨h.hs.fr, h.hs.lx, fun p => ?_, fun p p' u hp hq => h.hs.vers p p' u (hver p u hp).1 (hver p' u hq).1, fun p u hp => h.hs.bnd p u (hver p u hp).1,
    fun p p' b hp hq => h.hs.disj p p' b (hblk p b hp).1 (hblk p' b hq).1, fun p b hp => h.hs.own p b (hblk p b hp).1, h.hs.fresh, h.hs.env⟩, fun p hp => ?_, h.size,
    fun t => key _ _ (h.slots t), h.defs⟩⟩
  · have hr := h.hs.rows p
    show RowOK w η (Lset c η (st.freeze q v n sz cc).hp) (if p = q then .dead else fzR q v n sz cc (st.hp p))
    split
    · trivial
    · cases hrw : st.hp p with
      | dead => trivial
      | box u e m cells =>
        rw [hrw] at hr
        intro g cap he
        obtain ⟨b, cur, h1, h2, h3, h4⟩ := hr g cap he
        refine ⟨b, cur, h1, h2, h3, fun j hj => ?_⟩
        obtain ⟨x, hx, ho, hrep⟩ := h4 j hj
        exact ⟨x, hx, ho, key _ _ hrep⟩
      | sl u e s k cells =>
        rw [hrw] at hr
        intro g cap he
        have hr := hr g cap he
        cases g with
        | none => exact hr
        | some g =>
          obtain ⟨cur, h1, h2, h3, h4, h5⟩ := hr
          refine ⟨cur, h1, h2, h3, h4, fun i hi j hj => ?_⟩
          obtain ⟨x, hx, ho, hrep⟩ := h5 i hi j hj
          exact ⟨x, hx, ho, key _ _ hrep⟩
      | mp u s k f => rw [hrw] at hr; exact hr
  · simp only [AS.freeze, updR] at hp ⊢
    split
    · rfl
    · rw [h.dead p hp]; rfl
section
variable {P : Program} {x y : Code} {Q : Exit → AS → Prop} {st : AS}
theorem AW.fork (h : AW P x (rest P y Q) st) : AW P (.seq x y) Q st := by
  refine AW.seq fun K hK c η a w hsr => ?_
  refine wp_mono (h c η a w hsr) ?_
  rintro e a' w' ⟨st', η', hq, hs'⟩
  refine ⟨st', η', ?_, hs'⟩
  cases e with
  | normal => exact hK _ hq
  | _ => exact hq
theorem AW.freeze (q v ety sz n : Nat) (cc : Nat → Nat → AV) (hrow : st.hp q = .sl v ety sz n cc) (hfl : ∀ i, i < n → ∀ j, j < sz → (cc i j).flat = true)
    (h : AW P x Q (st.freeze q v n sz cc)) : AW P x Q st := AW.le (ASle.freeze q v ety sz n cc hrow hfl) h
/-- An empty slice that nobody holds becomes a row at hand. -/
theorem AW.adopt (s : Nat) (e : TypeId) (sz : Nat) (cc : Nat → Nat → AV) (hs : st.fr s = .em)
    (h : AW P x Q ⟨updA st.fr s (.ow st.top st.nx 0), updR st.hp st.top (.sl st.nx e sz 0 cc), st.sz, st.top + 1, st.nx + 1, st.df⟩) : AW P x Q st := AW.le (ASle.adopt e sz cc hs) h
end
section
variable (q v n sz : Nat) (cc : Nat → Nat → AV)
@[go_sem] theorem fz_any : fz q v n sz cc .any = .any := rfl
@[go_sem] theorem fz_val (x : Value) : fz q v n sz cc (.val x) = .val x := rfl
@[go_sem] theorem fz_st (x : List UInt8) : fz q v n sz cc (.st x) = .st x := rfl
@[go_sem] theorem fz_gd (b : Bool) (x : AV) : fz q v n sz cc (.gd b x) = .gd b x := rfl
@[go_sem] theorem fz_em : fz q v n sz cc .em = .em := rfl
@[go_sem] theorem fz_sn (m s : Nat) (d : Nat → Nat → AV) : fz q v n sz cc (.sn m s d) = .sn m s d := rfl
@[go_sem] theorem fz_sL {α : Type} (E : El α) (l : List α) : fz q v n sz cc (sL E l) = sL E l := rfl
@[go_sem] theorem fz_ps (m : Nat) (d : Nat → AV) : fz q v n sz cc (.ps m d) = .ps m d := rfl
@[go_sem] theorem fz_ow (p u m : Nat) : fz q v n sz cc (.ow p u m) = if p = q ∧ u = v ∧ m ≤ n then .sn m sz cc else .ow p u m := rfl
@[go_sem] theorem fz_pt (p u m : Nat) : fz q v n sz cc (.pt p u m) = .pt p u m := rfl
@[go_sem] theorem fz_pe (p u s i m : Nat) : fz q v n sz cc (.pe p u s i m) = .pe p u s i m := rfl
@[go_sem] theorem fz_ag (m : Nat) (d : Nat → AV) : fz q v n sz cc (.ag m d) = .ag m d := rfl
@[go_sem] theorem fz_tu (m : Nat) (d : Nat → AV) : fz q v n sz cc (.tu m d) = .tu m d := rfl
@[go_sem] theorem fz_mp (p u : Nat) : fz q v n sz cc (.mp p u) = .mp p u := rfl
@[go_sem] theorem fzR_dead : fzR q v n sz cc .dead = .dead := rfl
@[go_sem] theorem fzR_box (u e m : Nat) (c : Nat → AV) : fzR q v n sz cc (.box u e m c) = .box u e m fun j => fz q v n sz cc (c j) := rfl
@[go_sem] theorem fzR_sl (u e s k : Nat) (c : Nat → Nat → AV) : fzR q v n sz cc (.sl u e s k c) = .sl u e s k fun i j => fz q v n sz cc (c i j) := rfl
@[go_sem] theorem fzR_mp (u : Nat) (s : Bool) (k : Nat) (f : Key → Option Value) : fzR q v n sz cc (.mp u s k f) = .mp u s k f := rfl
attribute [go_sem] AS.freeze
end

/-! ### contracts out of such as are told by values -/
section
variable {P : Program} {f : FuncId} {fn : Func} {code : Code}
theorem SpecOK.raw {s : Spec} (hf : P.funcs[f]? = some fn) (hb : fn.body = some code) (hn : (fn.name == "runtime.NumGoroutine") = false)
    (h : ∀ args, s.pre args → ∀ (w : World) (L : Nat → Prop) (vs : List Value), (∀ b, L b → b < w.heap.size) → All2 (Rep w noEnv L) args vs →
      Calls P f vs.toArray w fun e w' => ∃ v, e = .returned v ∧ Fr (fun _ => False) w w' ∧ Rep w' noEnv L (s.res args) v) : SpecOK P f s := ⟨enters hf hb hn, h⟩
theorem SpecOK.ss {dom : List UInt8 → List UInt8 → Prop} {out : List UInt8 → List UInt8 → AV} (hf : P.funcs[f]? = some fn) (hb : fn.body = some code) (hn : (fn.name == "runtime.NumGoroutine") = false)
    (h : ∀ a b, dom a b → ∀ w, Calls P f #[.string ⟨a.toArray⟩, .string ⟨b.toArray⟩] w fun e w' => ∃ v, e = .returned v ∧ Fr (fun _ => False) w w' ∧ ∀ L, Rep w' noEnv L (out a b) v) : SpecOK P f (Spec.f2 kS kS dom out) := by
  refine SpecOK.raw hf hb hn fun args hp w L vs hL ha => ?_
  match args, hp with
  | [x, y], hp =>
    obtain ⟨h1, h2, h3⟩ := hp
    cases ha with
    | cons hx hr => cases hr with
      | cons hy hr => cases hr with
        | nil =>
          have ex := h1 _ _ _ _ hx
          have ey := h2 _ _ _ _ hy
          simp only [kS, Rep] at ex ey
          subst ex ey
          exact (h _ _ h3 w).mono fun e w' ⟨v, he, hf, hr⟩ => ⟨v, he, hf, hr L⟩
end
end Go.Proofs.YtljgfacjefebaaaDoor
