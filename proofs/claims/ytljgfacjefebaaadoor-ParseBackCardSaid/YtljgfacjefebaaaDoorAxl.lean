/-
  A region whose order is drawn, further still: the law.
-/
import Derived.Test.YtljgfacjefebaaaDoorAxk
namespace Go.Proofs.YtljgfacjefebaaaDoor
open Go
section
variable {P : Program} {Γ : Gam}
/-- The state, no row at hand. -/
def deadS (st : AS) : AS := ⟨st.fr, fun _ => .dead, st.sz, st.top, st.nx, st.df⟩
def dkS (g : Bool) (st : AS) : AS := if g = true then deadS st else st
def xE (P : Program) (Γ : Gam) (ops : Array Oper) (E G : Nat → Bool) (m : Nat) : Nat → List Oper → AS → List (Nat × AV × Row) → (AS → List (Nat × AV × Row) → Prop) → Prop
  | _, [], st, kp, K => K st kp
  | j, o :: r, st, kp, K => if E j = true then (match gop P Γ ops (dkS (G j) st) o with
      | some (pre, z, row) => ((G j = true → o.guard = none ∧ row = .dead) ∧ dstOK st.sz o.dst ∧ pre) ∧ xE P Γ ops E G m (j + 1) r (st.put o.dst z row) (if m ≤ j then (j, z, row) :: kp else kp) K
      | none => False) else xE P Γ ops E G m (j + 1) r st kp K
def keep1 (j : Nat) (st : AS) (i p : Nat) : Row → Prop
  | .dead => True
  | .box v t m c => j < i → st.hp p = .box v t m c
  | .sl v t k n c => j < i → st.hp p = .sl v t k n c
  | .mp v b n f => j < i → st.hp p = .mp v b n f
theorem keep1_at {j : Nat} {st : AS} {i p : Nat} {row : Row} (h : keep1 j st i p row) (hr : row ≠ .dead) (hlt : j < i) : st.hp p = row := by
  cases row with
  | dead => exact absurd rfl hr
  | _ => exact h hlt
def keeps (j : Nat) : List (Nat × AV × Row) → AS → Prop
  | [], _ => True
  | (i, .pt p _ _, row) :: r, st => keep1 j st i p row ∧ keeps j r st
  | _ :: r, st => keeps j r st
def xT (P : Program) (Γ : Gam) (ops : Array Oper) (E Z : Nat → Bool) : Nat → List Oper → AS → List (Nat × AV × Row) → (AS → Prop) → Prop
  | _, [], st, _, K => K st
  | j, o :: r, st, kp, K => if E j = true then xT P Γ ops E Z (j + 1) r st kp K else (match gop P Γ ops st o with
      | some (pre, z, row) => (o.guard = none ∧ dstOK st.sz o.dst ∧ pre) ∧ xT P Γ ops E Z (j + 1) r (st.put o.dst z row) kp K
      | none => o.guard = none ∧ bopT P Γ (Z j) st o fun st' => keeps j kp st' ∧ xT P Γ ops E Z (j + 1) r st' kp K)
theorem keeps_at {j : Nat} {st : AS} {i p ver k : Nat} {row : Row} : ∀ {kp : List (Nat × AV × Row)}, keeps j kp st → (i, AV.pt p ver k, row) ∈ kp → row ≠ .dead → j < i → st.hp p = row
  | [], _, h, _, _ => nomatch h
  | e :: r, hk, h, hr, hlt => by
    rcases List.mem_cons.1 h with h | h
    · subst h; exact keep1_at hk.1 hr hlt
    · refine keeps_at (kp := r) ?_ h hr hlt
      obtain ⟨i', z', row'⟩ := e
      cases z' <;> first | exact hk.2 | exact hk
theorem xT_skip {ops : Array Oper} {E Z : Nat → Bool} {K : AS → Prop} {kp : List (Nat × AV × Row)} {st : AS} {l : List Oper} : ∀ (n k : Nat), k + n ≤ l.length → (∀ i, k ≤ i → i < k + n → E i = true) → xT P Γ ops E Z k (l.drop k) st kp K → xT P Γ ops E Z (k + n) (l.drop (k + n)) st kp K
  | 0, k, _, _, h => h
  | n + 1, k, hk, hE, h => by
    have hd : l.drop k = l[k] :: l.drop (k + 1) := List.drop_eq_getElem_cons (by omega)
    rw [hd, xT, if_pos (hE k (Nat.le_refl _) (by omega))] at h
    rw [show k + (n + 1) = k + 1 + n by omega]
    exact xT_skip n (k + 1) (by omega) (fun i h1 h2 => hE i (by omega) (by omega)) h
theorem nop_gop {ops : Array Oper} {st : AS} {o : Oper} : gop P Γ ops st (nopO o) = some (True, .val undef, .dead) := rfl
theorem frS_lt (i : Nat) : ∀ (l : List (Option Tmp × AV)) (i' : Nat) (f : Nat → AV), i ≤ i' → frS (fun k => decide (k < i)) i' l f = f
  | [], _, _, _ => rfl
  | (d, z) :: l, i', f, h => by
    unfold frS
    rw [if_neg (by simp; omega)]
    exact frS_lt i l (i' + 1) f (by omega)
theorem gop_dead {ops : Array Oper} {st : AS} {o : Oper} {pre : Prop} {z : AV} {row : Row} (hgd : o.guard = none) (hg : gop P Γ ops (deadS st) o = some (pre, z, row)) (hp : pre) : ∃ pre', gop P Γ ops st o = some (pre', z, row) ∧ pre' := by
  unfold gop at hg ⊢
  rw [hgd] at hg ⊢
  exact aop_ext (fun _ => .inl rfl) (fun _ _ => rfl) hg hp
/-- What is known of such as look at no row. -/
def DeadAt (P : Program) (Γ : Gam) (ops : Array Oper) (fr : Nat → AV) (o : Oper) (z : AV) : Prop := o.guard = none ∧ ∃ pre p ver, gopF P Γ ops fr (fun _ => .dead) p ver o = some (pre, z, .dead) ∧ pre
theorem xE_TR {ops : Array Oper} {E G : Nat → Bool} {m : Nat} {K : AS → List (Nat × AV × Row) → Prop} : ∀ (l : List Oper) (j : Nat) (st : AS) (kp : List (Nat × AV × Row)), xE P Γ ops E G m j l st kp K →
    ∃ vs st' kp', TR P Γ ops (strip E j l) st vs st' ∧ K st' kp' ∧ (∀ e ∈ kp, e ∈ kp') ∧ (∀ i z row, vs[i]? = some (z, row) → E (j + i) = true → m ≤ j + i → (j + i, z, row) ∈ kp') ∧
      ∀ i o, l[i]? = some o → E (j + i) = true → G (j + i) = true → ∃ z, vs[i]? = some (z, .dead) ∧ DeadAt P Γ ops (frS (fun k => decide (k < j + i)) j (puts (strip E j l) vs) st.fr) o z
  | [], j, st, kp, h => ⟨[], st, kp, .nil st, h, fun _ h => h, fun i z row hv => by simp at hv, fun i o hi => by simp at hi⟩
  | o :: r, j, st, kp, h => by
    unfold xE at h
    split at h
    · rename_i hE
      split at h
      · rename_i pre z row hg
        obtain ⟨⟨hG, hd, hp⟩, hx⟩ := h
        have hgl : ∃ pre', gop P Γ ops st o = some (pre', z, row) ∧ pre' := by
          cases hGj : G j with
          | false => rw [hGj] at hg; exact ⟨pre, hg, hp⟩
          | true => rw [hGj] at hg; exact gop_dead (hG hGj).1 hg hp
        obtain ⟨pre', hgl, hpl⟩ := hgl
        obtain ⟨vs, st', kp', h1, h2, h3, h4, h5⟩ := xE_TR r (j + 1) _ _ hx
        have hs : strip E j (o :: r) = o :: strip E (j + 1) r := by rw [strip, if_pos hE]
        refine ⟨(z, row) :: vs, st', kp', by rw [hs]; exact TR.cons hgl hd hpl h1, h2, fun e he => h3 e (by split <;> simp [he]), fun i z' row' hv hEi hm => ?_, fun i oi hi hEi hGi => ?_⟩
        · cases i with
          | zero =>
            simp only [List.getElem?_cons_zero, Option.some.injEq, Prod.mk.injEq] at hv
            obtain ⟨rfl, rfl⟩ := hv
            rw [Nat.add_zero] at hm ⊢
            exact h3 _ (by rw [if_pos hm]; exact List.mem_cons_self ..)
          | succ i =>
            have := h4 i z' row' (by simpa using hv) (by rw [show j + 1 + i = j + (i + 1) by omega]; exact hEi) (by omega)
            rwa [show j + 1 + i = j + (i + 1) by omega] at this
        · cases i with
          | zero =>
            simp only [List.getElem?_cons_zero, Option.some.injEq] at hi
            subst hi
            rw [Nat.add_zero] at hGi ⊢
            obtain ⟨hgd, rfl⟩ := hG hGi
            rw [hGi] at hg
            refine ⟨z, rfl, hgd, pre, st.top, st.nx, ?_, hp⟩
            rw [frS_lt j _ _ _ (Nat.le_refl _)]
            exact hg
          | succ i =>
            obtain ⟨z', h6, h7⟩ := h5 i oi (by simpa using hi) (by rw [show j + 1 + i = j + (i + 1) by omega]; exact hEi) (by rw [show j + 1 + i = j + (i + 1) by omega]; exact hGi)
            refine ⟨z', by simpa using h6, ?_⟩
            rw [hs, puts, frS, if_pos (by simp), ← (put_sz st o.dst z row).2.2, show j + (i + 1) = j + 1 + i by omega]
            exact h7
      · exact h.elim
    · rename_i hE
      obtain ⟨vs, st', kp', h1, h2, h3, h4, h5⟩ := xE_TR r (j + 1) st kp h
      have hs : strip E j (o :: r) = nopO o :: strip E (j + 1) r := by rw [strip, if_neg hE]
      refine ⟨(.val undef, .dead) :: vs, st', kp', ?_, h2, h3, fun i z' row' hv hEi hm => ?_, fun i oi hi hEi hGi => ?_⟩
      · rw [hs]
        exact TR.cons nop_gop trivial trivial (by exact h1)
      · cases i with
        | zero => rw [Nat.add_zero] at hEi; exact absurd hEi hE
        | succ i =>
          have := h4 i z' row' (by simpa using hv) (by rw [show j + 1 + i = j + (i + 1) by omega]; exact hEi) (by omega)
          rwa [show j + 1 + i = j + (i + 1) by omega] at this
      · cases i with
        | zero => rw [Nat.add_zero] at hEi; exact absurd hEi hE
        | succ i =>
          obtain ⟨z', h6, h7⟩ := h5 i oi (by simpa using hi) (by rw [show j + 1 + i = j + (i + 1) by omega]; exact hEi) (by rw [show j + 1 + i = j + (i + 1) by omega]; exact hGi)
          refine ⟨z', by simpa using h6, ?_⟩
          rw [hs, puts, frS, if_pos (by simp), show j + (i + 1) = j + 1 + i by omega]
          exact h7
/-! ### the same, seen from here on -/
def Ctx.here (c : Ctx) (hp : Nat → Row) (nx : Nat) (η : Env) (w : World) : Ctx := ⟨w, η, fun b => ∃ p, (hp p).blk η = some b, c.Lx, nx⟩
theorem SR.here {c : Ctx} {st : AS} {η : Env} {a : Act} {w : World} (h : SR c st η a w) : SR (c.here st.hp st.nx η w) st η a w where
  hs := ⟨Fr.refl _ _, fun b hb => Nat.lt_of_lt_of_le (h.hs.lx b hb) h.hs.fr.size, h.hs.rows, h.hs.vers, h.hs.bnd, h.hs.disj,
    fun p b hb => ⟨.inl ⟨p, hb⟩, (h.hs.own p b hb).2.1, (h.hs.own p b hb).2.2⟩, h.hs.fresh, Env.le_refl _, Nat.le_refl _, fun _ _ h => h⟩
  dead := h.dead
  size := h.size
  slots := h.slots
  defs := h.defs
theorem SR.back {c : Ctx} {st st' : AS} {η η' : Env} {a a' : Act} {w w' : World} (h : SR c st η a w) (h' : SR (c.here st.hp st.nx η w) st' η' a' w') :
    SR c st' η' a' w' ∧ st.nx ≤ st'.nx ∧ ∀ k, k < st.nx → η k = none → η' k = none := by
  have hs' := h'.hs
  refine ⟨⟨⟨h.hs.fr.trans' hs'.fr ?_, h.hs.lx, hs'.rows, hs'.vers, hs'.bnd, hs'.disj, fun p b hb => ⟨?_, (hs'.own p b hb).2.1, (hs'.own p b hb).2.2⟩, hs'.fresh, Env.le_trans h.hs.env.1 hs'.env.1, Nat.le_trans h.hs.env.2.1 hs'.env.2.1, fun k hk h0 => hs'.env.2.2 k (Nat.lt_of_lt_of_le hk h.hs.env.2.1) (h.hs.env.2.2 k hk h0)⟩, h'.dead, h'.size, h'.slots, h'.defs⟩, hs'.env.2.1, hs'.env.2.2⟩
  · rintro k hk ⟨p, hp⟩
    exact (h.hs.own p k hp).1.resolve_right (by omega)
  · rcases (hs'.own p b hb).1 with ⟨q, hq⟩ | hge
    · exact (h.hs.own q b hq).1
    · exact .inr (Nat.le_trans h.hs.fr.size hge)
theorem st_free {ops : Array Oper} {fr : Nat → AV} {hp hp' : Nat → Row} {p ver : Nat} {o : Oper} (h : isSt o = true) : gopF P Γ ops fr hp p ver o = gopF P Γ ops fr hp' p ver o := by
  unfold isSt at h
  split at h
  · rename_i x ho
    have hg : o.guard = none := by simpa using h
    unfold gopF
    rw [hg, ho]
    rfl
  · rename_i x ho
    have hg : o.guard = none := by simpa using h
    unfold gopF
    rw [hg, ho]
    rfl
  · cases h
theorem st_row {ops : Array Oper} {st : AS} {o : Oper} {pre : Prop} {z : AV} {row : Row} (h : isSt o = true) (hg : gop P Γ ops st o = some (pre, z, row)) (hr : row ≠ .dead) : isMv o = false ∧ z = .pt st.top st.nx 0 := by
  unfold isSt at h
  split at h
  · rename_i x ho
    have hgd : o.guard = none := by simpa using h
    unfold gop at hg
    rw [hgd, ho] at hg
    simp only [aop, apure, Option.some.injEq, Prod.mk.injEq] at hg
    exact absurd hg.2.2.symm hr
  · rename_i x ho
    have hgd : o.guard = none := by simpa using h
    unfold gop at hg
    rw [hgd, ho] at hg
    simp only [aop] at hg
    split at hg
    · simp only [Option.some.injEq, Prod.mk.injEq] at hg
      exact ⟨by simp [isMv, ho], hg.2.1.symm⟩
    · cases hg
  · cases h
theorem mv_row {ops : Array Oper} {st : AS} {o : Oper} {pre : Prop} {z : AV} {row : Row} (h : isMv o = true) (hg : gop P Γ ops st o = some (pre, z, row)) : row = .dead ∧ isSt o = true := by
  unfold isMv at h
  split at h
  · rename_i x ho
    have hgd : o.guard = none := by simpa using h
    unfold gop at hg
    rw [hgd, ho] at hg
    simp only [aop, apure, Option.some.injEq, Prod.mk.injEq] at hg
    exact ⟨hg.2.2.symm, by simp [isSt, ho, hgd]⟩
  · cases h
theorem gopF_congr {ops : Array Oper} {fr fr' : Nat → AV} {hp : Nat → Row} {p ver : Nat} {o : Oper} (hgd : o.guard = none) (h : ∀ t ∈ looks ops o, fr' t = fr t) {pre : Prop} {z : AV} {row : Row} (hg : gopF P Γ ops fr hp p ver o = some (pre, z, row)) (hp' : pre) :
    ∃ pre', gopF P Γ ops fr' hp p ver o = some (pre', z, row) ∧ pre' := by
  have hev := ev_looks h
  unfold gopF at hg ⊢
  rw [hgd] at hg ⊢
  exact aop_ext (Ext.refl _) hev hg hp'

/-- The slots into which such have laid, up to here. -/
def tdst (l : List Oper) (E : Nat → Bool) (k : Nat) (t : Nat) : Prop := ∃ j o, j < k ∧ E j = false ∧ l[j]? = some o ∧ o.dst = some t
open Classical in
noncomputable def frG (l : List Oper) (E : Nat → Bool) (k : Nat) (f g : Nat → AV) : Nat → AV := fun t => if tdst l E k t then f t else g t
open Classical in
theorem frG_in {l : List Oper} {E : Nat → Bool} {k : Nat} {f g : Nat → AV} {t : Nat} (h : tdst l E k t) : frG l E k f g t = f t := if_pos h
open Classical in
theorem frG_out {l : List Oper} {E : Nat → Bool} {k : Nat} {f g : Nat → AV} {t : Nat} (h : ¬ tdst l E k t) : frG l E k f g t = g t := if_neg h

theorem AW.drawG (hΓ : GOK P Γ) (hm : P.follows .mixedOrders = true) {Q : Exit → AS → Prop} {st : AS} {id : Nat} {l : List Oper} (m : Nat) (F G Z : List Nat) (hchk : okG l m F G = true)
    (h : xE P Γ l.toArray (eb m F) (gb G) m 0 l st [] fun st1 kp => xT P Γ l.toArray (eb m F) (gb Z) 0 l st1 kp (Q .normal)) : AW P (.region id l.toArray true) Q st := by
  intro c η0 a0 w0 hsr0
  have hD := DrawnG.of hchk
  generalize eb m F = E at hD h
  generalize gb G = G' at hD h
  generalize gb Z = Z' at h
  obtain ⟨vs, stm, kp, htr, hrest, _, hkp, hG⟩ := xE_TR l 0 st [] h
  simp only [Nat.zero_add] at hkp
  obtain ⟨x1, x2, x3, x4, x5, x6, x7, x8⟩ := htr.ext hsr0.dead
  obtain ⟨sts, hat, hnx, hfr⟩ := htr.at hsr0.dead 0 st.fr rfl
  have hdrew : HS c st.hp st.nx η0 w0.drew := hsr0.hs.world (Fr.refl _ _).drew
  obtain ⟨hsm, hLm⟩ := htr.declare hdrew
  refine wp_region_any hm ?_
  have hsl : ∀ j, (strip E 0 l)[j]? = (l[j]?).map fun o => if E j then o else nopO o := fun j => by rw [strip_at, Nat.zero_add]
  have hput : ∀ k d z', (puts (strip E 0 l) vs)[k]? = some (d, z') → ∃ ok, l[k]? = some ok ∧ ((E k = true ∧ d = ok.dst) ∨ (E k = false ∧ d = none)) := fun k d z' hk => by
    have hkl : k < (strip E 0 l).length := puts_len hk
    rw [strip_len] at hkl
    have hlk : l[k]? = some l[k] := List.getElem?_eq_getElem hkl
    obtain ⟨z1, row1, _, hpu1, _⟩ := hat k (if E k then l[k] else nopO l[k]) (by rw [hsl, hlk]; rfl)
    rw [hk] at hpu1
    simp only [Option.some.injEq, Prod.mk.injEq] at hpu1
    refine ⟨l[k], hlk, ?_⟩
    cases hE : E k with
    | true => exact .inl ⟨rfl, by rw [hpu1.1, hE]; rfl⟩
    | false => exact .inr ⟨rfl, by rw [hpu1.1, hE]; rfl⟩
  have main : ∀ (fuel k : Nat) (listed : Array Bool) (stk : AS) (η : Env) (a : Act) (w : World), listed.size = l.length → left listed l.length = fuel → k ≤ l.length →
      HS c stk.hp stk.nx η w → (∀ p, stk.top ≤ p → stk.hp p = .dead) → a.tmps.size = st.sz → stk.sz = st.sz → a.defers = stk.df →
      (∀ t, Rep w η (Lset c η stk.hp) (frG l E k stk.fr (frS (fun i => listed.getD i false) 0 (puts (strip E 0 l) vs) st.fr) t) (a.tmps.getD t undef)) →
      (∀ t, ¬ tdst l E k t → stk.fr t = stm.fr t) →
      (∀ j z row, vs[j]? = some (z, row) → listed.getD j false = false → E j = true → row ≠ .dead → η (sts j).nx = none ∧ (sts j).nx < stk.nx ∧ stk.hp (sts j).top = row) →
      Closed l (fun i => listed.getD i false) → (∀ j, j < l.length → E j = false → listed.getD j false = decide (j < k)) →
      (∀ i j oi oj, l[i]? = some oi → l[j]? = some oj → E i = true → listed.getD i false = false → E j = false → j < k → (isSt oi = true ∨ G' i = true) ∧ (∀ t, oj.dst = some t → oi.dst ≠ some t ∧ ¬ t ∈ looks l.toArray oi)) →
      ((∃ j oj, l[j]? = some oj ∧ E j = false ∧ j < k) ∨ stk = stm) →
      xT P Γ l.toArray E Z' k (l.drop k) stk kp (Q .normal) →
      wpAny P .any l.toArray (fun e a' w' => ∃ st' η', Q e st' ∧ SR c st' η' a' w') fuel listed a w := by
    intro fuel
    induction fuel with
    | zero =>
      intro k listed stk η a w hs hleft hkl hhs hdead hsz hksz hdf hslots hkeep hpend hcl hT hfree hext hx
      have hall : ∀ j, j < l.length → listed.getD j false = true := fun j hj => by
        cases hv : listed.getD j false with
        | true => rfl
        | false =>
          have : 0 < (List.range l.length).countP fun i => !listed.getD i false := List.countP_pos_iff.2 ⟨j, by simpa using hj, by simpa using hv⟩
          unfold left at hleft
          omega
      refine ⟨?_, ?_⟩
      · rw [List.eq_nil_iff_forall_not_mem]
        intro j hj
        obtain ⟨h1, _, h2, _⟩ := ready_spec hs hj
        rw [hall j h1] at h2
        cases h2
      · have hx2 := xT_skip (l.length - k) k (by omega) (fun i h1 h2 => by
          cases hE : E i with
          | true => rfl
          | false =>
            have h3 := hT i (by omega) hE
            rw [hall i (by omega)] at h3
            have := of_decide_eq_true h3.symm
            omega) hx
        rw [show k + (l.length - k) = l.length by omega, List.drop_length] at hx2
        refine ⟨stk, η, hx2, hhs, hdead, by rw [hsz, hksz], fun t => ?_, hdf⟩
        have := hslots t
        by_cases ht : tdst l E k t
        · rwa [frG_in ht] at this
        · rw [frG_out ht] at this
          have e : frS (fun i => listed.getD i false) 0 (puts (strip E 0 l) vs) st.fr t = frS (fun _ => true) 0 (puts (strip E 0 l) vs) st.fr t := frS_congr _ 0 _ _ rfl fun k d z hk _ => by
            have hkl : k < (strip E 0 l).length := puts_len hk
            rw [strip_len] at hkl
            simp only [Nat.zero_add]
            exact hall k hkl
          rw [hkeep t ht, hfr, ← e]
          exact this
    | succ fuel ih =>
      intro k listed stk η a w hs hleft hkl hhs hdead hsz hksz hdf hslots hkeep hpend hcl hT hfree hext hx
      refine ⟨fun h0 => ?_, fun i hi => ?_⟩
      · obtain ⟨j, hj⟩ := some_readyG hD hs (by omega)
        rw [h0] at hj
        cases hj
      obtain ⟨hil, hit, hif, o, ho, hedges⟩ := ready_spec hs hi
      have hdone : ∀ j, ((masks [] l).getD i 0).testBit j = true → listed.getD j false = true := fun j hb => hD.anc hcl i i o (Nat.le_refl _) ho hedges j hb
      have hoo : l.toArray[i]? = some o := by simpa using ho
      have hleft' : left (listed.setIfInBounds i true) l.length = fuel := by
        have := countP_set listed hit l.length
        rw [if_pos hil] at this
        unfold left at hleft ⊢
        omega
      have hcl' : Closed l (fun j => (listed.setIfInBounds i true).getD j false) := fun j oj hj hSj e he hb => by
        simp only at hSj ⊢
        rw [set_getD hs hil] at hSj ⊢
        by_cases e1 : e.on = i
        · rw [if_pos e1]
        · rw [if_neg e1]
          by_cases e2 : j = i
          · subst e2
            rw [hj] at ho
            obtain rfl := Option.some.inj ho
            exact hedges e he hb
          · rw [if_neg e2] at hSj
            exact hcl j oj hj hSj e he hb
      cases hE : E i with
      | true =>
        obtain ⟨z, row, hv, hpu, hAt, hfrj⟩ := hat i o (by rw [hsl, ho]; simp [hE])
        obtain ⟨pre, hg, hp⟩ := hAt.pre
        have hord : ∀ k ok, l[k]? = some ok → E k = true → k ≠ i → touch l.toArray (if k < i then ok else o) (if k < i then o else ok) = true → listed.getD k false = decide (k < i) := by
          intro k ok hk hEk hne ht
          by_cases hlt : k < i
          · simp only [hlt, if_true] at ht
            rw [hdone k (hD.ee k i ok o hlt hk ho hEk hE ht)]; simp [hlt]
          · simp only [hlt, if_false] at ht
            have hb := hD.ee i k o ok (by omega) ho hk hE hEk ht
            cases hv : listed.getD k false with
            | false => simp [hlt]
            | true =>
              have := hD.anc hcl k k ok (Nat.le_refl _) hk (fun e he hbb => hcl k ok hk hv e he hbb) i hb
              rw [this] at hif
              cases hif
        have hnt : ∀ t, tdst l E k t → o.dst ≠ some t ∧ ¬ t ∈ looks l.toArray o := by
          rintro t ⟨j, oj, hjk, hEj, hj, hd⟩
          exact (hfree i j o oj ho hj hE hif hEj hjk).2 t hd
        have hlook : ∀ t ∈ looks l.toArray o, frG l E k stk.fr (frS (fun k => listed.getD k false) 0 (puts (strip E 0 l) vs) st.fr) t = (sts i).fr t := fun t ht => by
          rw [frG_out fun h => (hnt t h).2 ht, hfrj]
          refine frS_congr _ 0 _ _ rfl fun k d z' hk hd => ?_
          obtain ⟨ok, hlk, hdo⟩ := hput k d z' hk
          simp only [Nat.zero_add]
          by_cases e : k = i
          · subst e; rw [hif]; simp
          · rcases hdo with ⟨hEk, hdo⟩ | ⟨_, hdo⟩
            · refine hord k ok hlk hEk e ?_
              rw [hdo] at hd
              by_cases hlt : k < i
              · simp only [hlt, if_true, touch, hd, Bool.or_eq_true]
                exact .inl (.inr (by simpa using ht))
              · simp only [hlt, if_false, touch, hd, Bool.or_eq_true]
                exact .inr (by simpa using ht)
            · rw [hdo] at hd; cases hd
        unfold wpOp
        rw [hoo]
        simp only
        have hgen : ∃ hp0 pre0 p0 v0, Ext hp0 stk.hp ∧ gopF P Γ l.toArray (sts i).fr hp0 p0 v0 o = some (pre0, z, row) ∧ pre0 ∧ (row = .dead ∨ (p0 = (sts i).top ∧ v0 = (sts i).nx)) := by
          rcases hext with ⟨j, oj, hj, hEj, hjk⟩ | rfl
          · rcases (hfree i j o oj ho hj hE hif hEj hjk).1 with this | this
            · exact ⟨fun _ => .dead, pre, _, _, fun p => .inl rfl, by rw [st_free this (hp' := (sts i).hp)]; exact hg, hp, .inr ⟨rfl, rfl⟩⟩
            · obtain ⟨z', hz', _, pre', p', v', hg', hp'⟩ := hG i o ho (by rw [Nat.zero_add]; exact hE) (by rw [Nat.zero_add]; exact this)
              rw [hv] at hz'
              simp only [Option.some.injEq, Prod.mk.injEq] at hz'
              obtain ⟨rfl, rfl⟩ := hz'
              exact ⟨fun _ => .dead, pre', p', v', fun p => .inl rfl, by rw [hfrj]; exact hg', hp', .inl rfl⟩
          · exact ⟨(sts i).hp, pre, _, _, hAt.ext, hg, hp, .inr ⟨rfl, rfl⟩⟩
        obtain ⟨hp0, pre0, p0, v0, hx0, hg0, hpre0, hpv⟩ := hgen
        have := gopF_wp hΓ (Q := fun e a' w' => ∃ st' η', Q e st' ∧ SR c st' η' a' w') hx0 hhs hslots (fr := (sts i).fr) hlook hg0 hpre0 (by
            by_cases hr : row = .dead
            · exact .inl hr
            · have := hpend i z row hv hif hE hr
              obtain ⟨rfl, rfl⟩ := hpv.resolve_left hr
              exact .inr ⟨this.2.2, this.1, Nat.le_trans hsr0.hs.env.2.1 (hAt.nxAt hr).1⟩)
          (K := wpAny P .any l.toArray (fun e a' w' => ∃ st' η', Q e st' ∧ SR c st' η' a' w') fuel (listed.setIfInBounds i true)) (fun v η' w' hhs' hst hon hrep => by
            refine ih k _ stk η' _ w' (by simpa using hs) hleft' hkl hhs' hdead (by rw [put_size]; exact hsz) hksz (by rw [put_defers]; exact hdf) (fun t => ?_) hkeep (fun j z1 row1 hv1 hl1 hE1 hr1 => ?_) hcl' (fun j hj hEj => ?_) (fun i1 j1 oi oj h1 h2 h3 h4 h5 h6 => ?_) hext hx
            · have hG : frG l E k stk.fr (frS (fun k => (listed.setIfInBounds i true).getD k false) 0 (puts (strip E 0 l) vs) st.fr) t = updO (frG l E k stk.fr (frS (fun k => listed.getD k false) 0 (puts (strip E 0 l) vs) st.fr)) o.dst z t := by
                by_cases ht : tdst l E k t
                · rw [frG_in ht, updO_at, if_neg (hnt t ht).1, frG_in ht]
                · rw [frG_out ht]
                  have := frS_add (S := fun k => listed.getD k false) (puts (strip E 0 l) vs) 0 st.fr i o.dst z (by rw [hpu]) (by simpa using hif) (fun k d' z' hk hlt hSk t hd hd' => by
                    obtain ⟨ok, hlk, hdo⟩ := hput k d' z' hk
                    simp only [Nat.zero_add] at hSk
                    rcases hdo with ⟨hEk, hdo⟩ | ⟨_, hdo⟩
                    · have := hord k ok hlk hEk (by omega) (by
                        simp only [show ¬ k < i by omega, if_false, touch, hd, Bool.or_eq_true]
                        exact .inl (.inl (by rw [← hdo, hd']; simp)))
                      rw [hSk] at this
                      simp at this
                      omega
                    · rw [hdo] at hd'; cases hd')
                  rw [updO_at, frG_out ht, ← updO_at, ← this]
                  congr 1
                  funext k
                  rw [set_getD hs hil, Nat.zero_add]
              rw [hG, put_getD a o.dst v t (by rw [hsz]; exact hAt.dst), updO_at]
              by_cases ed : o.dst = some t
              · rw [if_pos ed, if_pos ed]; exact hrep
              · rw [if_neg ed, if_neg ed]; exact hst.rep (hslots t)
            · rw [set_getD hs hil] at hl1
              have hji : j ≠ i := fun e => by subst e; simp at hl1
              rw [if_neg hji] at hl1
              rw [hon (sts j).nx ?_]
              · exact hpend j z1 row1 hv1 hl1 hE1 hr1
              · by_cases hr : row = .dead
                · exact .inr hr
                · refine .inl fun e => ?_
                  obtain ⟨rfl, rfl⟩ := hpv.resolve_left hr
                  rcases Nat.lt_or_gt_of_ne hji with hlt | hlt
                  · have := hnx j i z1 row1 z row hlt hv1 hv hr1 hr; omega
                  · have := hnx i j z row z1 row1 hlt hv hv1 hr hr1; omega
            · rw [set_getD hs hil, if_neg (fun e => by subst e; rw [hE] at hEj; cases hEj)]
              exact hT j hj hEj
            · rw [set_getD hs hil] at h4
              split at h4
              · cases h4
              · exact hfree i1 j1 oi oj h1 h2 h3 h4 h5 h6)
        split
        · rename_i hw; rw [if_pos hw] at this; exact .inl this
        · rename_i hw; rw [if_neg hw] at this; exact this
      | false =>
        have hmi : m ≤ i := by
          rcases Nat.lt_or_ge i m with h1 | h1
          · rw [hD.early i h1] at hE; cases hE
          · exact h1
        have hki : k ≤ i := by
          have := hT i hil hE
          rw [hif] at this
          have := of_decide_eq_false this.symm
          omega
        have hbet : ∀ j, k ≤ j → j < i → E j = true := fun j h1 h2 => by
          cases hEj : E j with
          | true => rfl
          | false =>
            have h3 := hdone j (hD.tt j i l[j] o h2 (List.getElem?_eq_getElem (by omega)) ho hEj hE)
            rw [hT j (by omega) hEj] at h3
            have := of_decide_eq_true h3
            omega
        have hx1 := xT_skip (i - k) k (by omega) (fun j h1 h2 => hbet j h1 (by omega)) hx
        rw [show k + (i - k) = i by omega] at hx1
        have hdrop : l.drop i = o :: l.drop (i + 1) := by
          rw [List.drop_eq_getElem_cons hil]
          congr 1
          rw [List.getElem?_eq_getElem hil] at ho
          exact Option.some.inj ho
        rw [hdrop, xT, if_neg (by rw [hE]; simp)] at hx1
        have hnew : ∀ i1 oi, l[i1]? = some oi → E i1 = true → listed.getD i1 false = false → (isSt oi = true ∨ G' i1 = true) ∧ (i1 < i → isMv oi = true ∨ G' i1 = true) ∧ (∀ t, o.dst = some t → oi.dst ≠ some t ∧ ¬ t ∈ looks l.toArray oi) ∧ (∀ t, oi.dst = some t → ¬ t ∈ looks l.toArray o) := by
          intro i1 oi h1 hE1 hl1
          rcases Nat.lt_trichotomy i1 i with hlt | rfl | hgt
          · have hb : ((masks [] l).getD i 0).testBit i1 = false := by
              cases hb : ((masks [] l).getD i 0).testBit i1 with
              | false => rfl
              | true => rw [hdone i1 hb] at hl1; cases hl1
            obtain ⟨g2, g3⟩ := hD.et i1 i oi o hlt h1 ho hE1 hE hb
            obtain ⟨u1, u2⟩ := untouch g3
            obtain ⟨z1, row1, _, _, hA1, _⟩ := hat i1 oi (by rw [hsl, h1]; simp [hE1])
            obtain ⟨_, hg1, _⟩ := hA1.pre
            exact ⟨g2.imp (fun g2 => (mv_row g2 hg1).2) (fun h => h), fun _ => g2, u2, fun t ht => (u1 t ht).2⟩
          · rw [hE] at hE1; cases hE1
          · obtain ⟨u1, u2⟩ := untouch (hD.te i i1 o oi hgt ho h1 hE hE1)
            exact ⟨hD.still i1 oi h1 hE1 (by omega), fun h => by omega, u1, fun t ht => (u2 t ht).2⟩
        have hlook : ∀ t ∈ looks l.toArray o, frG l E k stk.fr (frS (fun k => listed.getD k false) 0 (puts (strip E 0 l) vs) st.fr) t = stk.fr t := fun t ht => by
          by_cases htd : tdst l E k t
          · rw [frG_in htd]
          · rw [frG_out htd, hkeep t htd, hfr]
            refine frS_congr _ 0 _ _ rfl fun j d z' hj hd => ?_
            obtain ⟨ok, hlk, hdo⟩ := hput j d z' hj
            simp only [Nat.zero_add]
            rcases hdo with ⟨hEk, hdo⟩ | ⟨_, hdo⟩
            · cases hv : listed.getD j false with
              | true => rfl
              | false => exact absurd ht ((hnew j ok hlk hEk hv).2.2.2 t (by rw [← hdo, hd]))
            · rw [hdo] at hd; cases hd
        have hsrM : SR c ⟨frG l E k stk.fr (frS (fun k => listed.getD k false) 0 (puts (strip E 0 l) vs) st.fr), stk.hp, stk.sz, stk.top, stk.nx, stk.df⟩ η a w := ⟨hhs, hdead, by rw [hsz, hksz], hslots, hdf⟩
        have htd : ∀ t, o.dst ≠ some t → (tdst l E (i + 1) t ↔ tdst l E k t) := fun t ht => by
          constructor
          · rintro ⟨j, oj, h1, h2, h3, h4⟩
            rcases Nat.lt_or_ge j k with g | g
            · exact ⟨j, oj, g, h2, h3, h4⟩
            · rcases Nat.lt_or_ge j i with g2 | g2
              · rw [hbet j g g2] at h2; cases h2
              · obtain rfl : j = i := by omega
                rw [ho] at h3
                obtain rfl := Option.some.inj h3
                exact absurd h4 ht
          · rintro ⟨j, oj, h1, h2, h3, h4⟩
            exact ⟨j, oj, by omega, h2, h3, h4⟩
        have next : ∀ (st' : AS) (η' : Env) (a' : Act) (w' : World), SR (c.here stk.hp stk.nx η w) st' η' a' w' →
            (∃ v, st'.fr = updO (frG l E k stk.fr (frS (fun k => listed.getD k false) 0 (puts (strip E 0 l) vs) st.fr)) o.dst v ∧ st'.sz = stk.sz ∧
              (∀ j z row, vs[j]? = some (z, row) → listed.getD j false = false → E j = true → row ≠ .dead → st'.hp (sts j).top = row) ∧
              xT P Γ l.toArray E Z' (i + 1) (l.drop (i + 1)) ⟨updO stk.fr o.dst v, st'.hp, st'.sz, st'.top, st'.nx, st'.df⟩ kp (Q .normal)) →
            wpAny P .any l.toArray (fun e a' w' => ∃ st' η', Q e st' ∧ SR c st' η' a' w') fuel (listed.setIfInBounds i true) a' w' := by
          rintro st' η' a' w' hsr'' ⟨v, hfr', hsz', hrows, hx'⟩
          obtain ⟨hsr', hnxle, hnone⟩ := hsrM.back hsr''
          refine ih (i + 1) _ ⟨updO stk.fr o.dst v, st'.hp, st'.sz, st'.top, st'.nx, st'.df⟩ η' a' w' (by simpa using hs) hleft' (by omega) hsr'.hs hsr'.dead (by rw [hsr'.size, hsz', hksz]) (by rw [hsz', hksz]) hsr'.defs (fun t => ?_) (fun t ht => ?_) (fun j z1 row1 hv1 hl1 hE1 hr1 => ?_) hcl' (fun j hj hEj => ?_) (fun i1 j1 oi oj h1 h2 h3 h4 h5 h6 => ?_) (.inl ⟨i, o, ho, hE, by omega⟩) hx'
          · have := hsr'.slots t
            rw [hfr', updO_at] at this
            by_cases hd : o.dst = some t
            · rw [if_pos hd] at this
              rw [frG_in ⟨i, o, by omega, hE, ho, hd⟩]
              dsimp only
              rw [updO_at, if_pos hd]
              exact this
            · rw [if_neg hd] at this
              by_cases h1 : tdst l E k t
              · have e : frG l E (i + 1) (updO stk.fr o.dst v) (frS (fun k => (listed.setIfInBounds i true).getD k false) 0 (puts (strip E 0 l) vs) st.fr) t = stk.fr t := by
                  rw [frG_in ((htd t hd).2 h1), updO_at, if_neg hd]
                rw [frG_in h1] at this
                dsimp only
                rw [e]
                exact this
              · rw [frG_out fun h => h1 ((htd t hd).1 h)]
                rw [frG_out h1] at this
                have e : frS (fun k => (listed.setIfInBounds i true).getD k false) 0 (puts (strip E 0 l) vs) st.fr t = frS (fun k => listed.getD k false) 0 (puts (strip E 0 l) vs) st.fr t := frS_congr _ 0 _ _ rfl fun j d z' hj hd' => by
                  obtain ⟨ok, hlk, hdo⟩ := hput j d z' hj
                  simp only [Nat.zero_add]
                  rcases hdo with ⟨hEk, hdo⟩ | ⟨_, hdo⟩
                  · rw [set_getD hs hil, if_neg fun e => by subst e; rw [hE] at hEk; cases hEk]
                  · rw [hdo] at hd'; cases hd'
                rw [e]
                exact this
          · have hd : o.dst ≠ some t := fun hd => ht ⟨i, o, by omega, hE, ho, hd⟩
            show updO stk.fr o.dst v t = stm.fr t
            rw [updO_at, if_neg hd]
            exact hkeep t fun h => ht ((htd t hd).2 h)
          · rw [set_getD hs hil] at hl1
            have hji : j ≠ i := fun e => by subst e; simp at hl1
            rw [if_neg hji] at hl1
            obtain ⟨p1, p2, p3⟩ := hpend j z1 row1 hv1 hl1 hE1 hr1
            exact ⟨hnone _ p2 p1, Nat.lt_of_lt_of_le p2 hnxle, hrows j z1 row1 hv1 hl1 hE1 hr1⟩
          · rw [set_getD hs hil]
            by_cases e : j = i
            · subst e; simp
            · rw [if_neg e, hT j hj hEj]
              by_cases h1 : j < k
              · simp [h1]; omega
              · have : ¬ j < i + 1 := fun h2 => by
                  have := hbet j (by omega) (by omega)
                  rw [hEj] at this; cases this
                simp [h1, this]
          · rw [set_getD hs hil] at h4
            split at h4
            · cases h4
            · rcases Nat.lt_or_ge j1 k with g | g
              · exact hfree i1 j1 oi oj h1 h2 h3 h4 h5 g
              · rcases Nat.lt_or_ge j1 i with g2 | g2
                · rw [hbet j1 g g2] at h5; cases h5
                · obtain rfl : j1 = i := by omega
                  rw [ho] at h2
                  obtain rfl := Option.some.inj h2
                  have := hnew i1 oi h1 h3 h4
                  exact ⟨this.1, this.2.2.1⟩
        unfold wpOp
        rw [hoo]
        simp only
        split at hx1
        · rename_i pre z row hg
          obtain ⟨⟨hgd, hd, hp⟩, hxx⟩ := hx1
          obtain ⟨pre', hg', hp'⟩ := gopF_congr hgd hlook hg hp
          have := gop_wp hΓ hsrM.here (o := o) (pre := pre') (z := z) (row := row) hg' hp' hd (K := wpAny P .any l.toArray (fun e a' w' => ∃ st' η', Q e st' ∧ SR c st' η' a' w') fuel (listed.setIfInBounds i true)) (Q := fun e a' w' => ∃ st' η', Q e st' ∧ SR c st' η' a' w') (fun η' a' w' hsr' => next _ η' a' w' hsr' ⟨z, (put_sz _ _ _ _).2.2, (put_sz _ _ _ _).1, fun j z1 row1 hv1 hl1 hE1 hr1 => by
            have p3 := (hpend j z1 row1 hv1 hl1 hE1 hr1).2.2
            by_cases hr : row = .dead
            · subst hr; exact p3
            · rw [(put_live _ _ _ hr).1, updR_ne _ _ (fun e => by
                have := hdead (sts j).top (by rw [e]; exact Nat.le_refl _)
                rw [p3] at this
                exact hr1 this)]
              exact p3, by cases row <;> exact hxx⟩)
          split
          · rename_i hw; rw [if_pos hw] at this; exact .inl this
          · rename_i hw; rw [if_neg hw] at this; exact this
        · obtain ⟨hgd, hb⟩ := hx1
          rw [if_pos (by simp [Region.wanted, hgd])]
          refine .inl (bopT_mask hΓ (ev_looks hlook) hb (c.here stk.hp stk.nx η w) η a w _ _ hsrM.here fun st' η' a' w' hsr' hk => next st' η' a' w' hsr' ?_)
          obtain ⟨v, h1, h2, h3, h4⟩ := hk
          refine ⟨v, h1, h2, fun j z1 row1 hv1 hl1 hE1 hr1 => ?_, h4⟩
          have hjl : j < l.length := by
            have := (List.getElem?_eq_some_iff.1 hv1).1
            rw [x8, strip_len] at this
            exact this
          obtain ⟨z2, row2, hv2, _, hA2, _⟩ := hat j l[j] (by rw [hsl, List.getElem?_eq_getElem hjl]; simp [hE1])
          rw [hv1] at hv2
          simp only [Option.some.injEq, Prod.mk.injEq] at hv2
          obtain ⟨rfl, rfl⟩ := hv2
          obtain ⟨_, hg2, _⟩ := hA2.pre
          have hn := hnew j l[j] (List.getElem?_eq_getElem hjl) hE1 hl1
          have hnG : ¬ G' j = true := fun hGj => by
            obtain ⟨z', hz', _⟩ := hG j l[j] (List.getElem?_eq_getElem hjl) (by rw [Nat.zero_add]; exact hE1) (by rw [Nat.zero_add]; exact hGj)
            rw [hv1] at hz'
            simp only [Option.some.injEq, Prod.mk.injEq] at hz'
            exact hr1 hz'.2
          obtain ⟨n1, n2⟩ := st_row (hn.1.resolve_right hnG) hg2 hr1
          rcases Nat.lt_trichotomy j i with hlt | rfl | hgt
          · rw [(hn.2.1 hlt).resolve_right hnG] at n1; cases n1
          · rw [hE] at hE1; cases hE1
          · have hmem := hkp j z1 row1 hv1 hE1 (by omega)
            rw [n2] at hmem
            have := keeps_at h3 hmem hr1 hgt
            exact this
  have hsz : l.toArray.size = l.length := by simp
  rw [hsz]
  have hfalse : ∀ j, (Array.replicate l.length false).getD j false = false := fun j => by
    simp only [Array.getD_eq_getD_getElem?, Array.getElem?_replicate]
    split <;> rfl
  have htd0 : ∀ t, ¬ tdst l E 0 t := by rintro t ⟨j, _, h, _⟩; omega
  refine main l.length 0 (Array.replicate l.length false) stm η0 a0 w0.drew (by simp) ?_ (Nat.zero_le _) hsm x2 hsr0.size x5 (hsr0.defs.trans x6.symm) (fun t => ?_) (fun t _ => rfl) (fun j z row hv _ hE1 hr => ?_) (fun j o _ hS => ?_) (fun j _ _ => by rw [hfalse]; simp) (fun i j _ _ _ _ _ _ _ h => absurd h (Nat.not_lt_zero _)) (.inr rfl) (by simpa using hrest)
  · unfold left
    rw [List.countP_eq_length.2 (fun x _ => by rw [hfalse]; rfl), List.length_range]
  · rw [frG_out (htd0 t)]
    have e : frS (fun i => (Array.replicate l.length false).getD i false) 0 (puts (strip E 0 l) vs) st.fr t = st.fr t := by
      have hc := frS_congr (S := fun i => (Array.replicate l.length false).getD i false) (S' := fun _ => false) (t := t) (puts (strip E 0 l) vs) 0 st.fr st.fr rfl (fun k d z _ _ => hfalse _)
      rw [hc]
      exact frS_none _ _ _ t
    rw [e]
    exact Rep.keep (Fr.refl (fun _ => False) w0).drew (fun _ _ h => h.elim) (fun b _ hb => hLm b hb) _ _ _ _ (Env.le_refl _) (hsr0.slots t)
  · have hjl : j < l.length := by
      have := (List.getElem?_eq_some_iff.1 hv).1
      rw [x8, strip_len] at this
      exact this
    obtain ⟨z', row', hv', _, hA, _⟩ := hat j l[j] (by rw [hsl, List.getElem?_eq_getElem hjl]; simp [hE1])
    rw [hv] at hv'
    simp only [Option.some.injEq, Prod.mk.injEq] at hv'
    obtain ⟨rfl, rfl⟩ := hv'
    exact ⟨hsr0.hs.fresh _ (hA.nxAt hr).1, (hA.nxAt hr).2, hA.rowAt hr⟩
  · simp only [hfalse] at hS
    cases hS
end
end Go.Proofs.YtljgfacjefebaaaDoor
