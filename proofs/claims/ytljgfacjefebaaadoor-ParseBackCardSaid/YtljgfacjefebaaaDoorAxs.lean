/-
  Operations with laws of their own; a text appended to bytes; a row given up where its block is written.
-/
import Derived.Test.YtljgfacjefebaaaDoorAxr
import Derived.Lib.AppendStr
set_option linter.unusedSimpArgs false
set_option linter.unusedVariables false
namespace Go.Proofs.YtljgfacjefebaaaDoor
open Go
section
variable {P : Program} {Γ : Gam} {ops : Array Oper} {st : AS} {K : AS → Prop}
/-- Operations one behind the other, of which some have laws of their own. -/
def xOpsO (P : Program) (Γ : Gam) (ops : Array Oper) : List Bool → List Oper → AS → (AS → Prop) → Prop
  | _, [], st, K => K st
  | true :: W, o :: r, st, K => o.guard = none ∧ OpW P o st fun st' => xOpsO P Γ ops W r st' K
  | false :: W, o :: r, st, K => match gop P Γ ops st o with
    | some (pre, z, row) => (dstOK st.sz o.dst ∧ pre) ∧ xOpsO P Γ ops W r (st.put o.dst z row) K
    | none => o.guard = none ∧ bop P Γ st o fun st' => xOpsO P Γ ops W r st' K
  | [], l, st, K => xOps P Γ ops l st K
theorem xOpsO_seq (hΓ : GOK P Γ) {ops : Array Oper} {Q : Exit → Act → World → Prop} : ∀ (W : List Bool) (l : List Oper) (c : Ctx) (st : AS) (K : AS → Prop) (η : Env) (a : Act) (w : World), SR c st η a w → xOpsO P Γ ops W l st K →
    (∀ st' η' a' w', SR c st' η' a' w' → K st' → Q .normal a' w') → wpList P ops Q l a w
  | [], [], _, _, _, η, a, w, hsr, h, hQ => hQ _ η a w hsr h
  | _ :: _, [], _, _, _, η, a, w, hsr, h, hQ => hQ _ η a w hsr (by unfold xOpsO at h; exact h)
  | [], o :: r, c, st, K, η, a, w, hsr, h, hQ => xOps_seq hΓ (o :: r) c st K η a w hsr h hQ
  | true :: W, o :: r, c, st, K, η, a, w, hsr, h, hQ => by
    unfold xOpsO at h
    refine wpList_step fun KK hKK => ?_
    rw [if_pos (wanted_none h.1)]
    exact h.2 c η a w KK Q hsr fun st' η' a' w' hsr' hx => hKK _ _ (xOpsO_seq hΓ W r c st' K η' a' w' hsr' hx hQ)
  | false :: W, o :: r, c, st, K, η, a, w, hsr, h, hQ => by
    unfold xOpsO at h
    split at h
    · rename_i pre z row hg
      refine wpList_step fun KK hKK => gop_wp hΓ hsr hg h.1.2 h.1.1 fun η' a' w' hsr' => hKK _ _ (xOpsO_seq hΓ W r c _ K η' a' w' hsr' h.2 hQ)
    · refine wpList_step fun KK hKK => ?_
      rw [if_pos (wanted_none h.1)]
      exact bop_wp hΓ h.2 c η a w KK Q hsr fun st' η' a' w' hsr' hx => hKK _ _ (xOpsO_seq hΓ W r c st' K η' a' w' hsr' hx hQ)
/-- What follows. -/
def contO (P : Program) (Γ : Gam) (ops : Array Oper) (W : List Bool) (r : List Oper) (K : AS → Prop) : AS → Prop := fun st => xOpsO P Γ ops W r st K
theorem contO_app {W : List Bool} {r : List Oper} : contO P Γ ops W r K st = xOpsO P Γ ops W r st K := rflN rfl
def goO (P : Program) (Γ : Gam) (ops : Array Oper) (W : List Bool) (o : Oper) (r : List Oper) (K : AS → Prop) (st : AS) : AOut → Prop
  | some (pre, z, row) => (dstOK st.sz o.dst ∧ pre) ∧ xOpsO P Γ ops W r (st.put o.dst z row) K
  | none => o.guard = none ∧ bop P Γ st o (contO P Γ ops W r K)
theorem goO_some {W : List Bool} {o : Oper} {r : List Oper} {pre : Prop} {z : AV} {row : Row} : goO P Γ ops W o r K st (some (pre, z, row)) = ((dstOK st.sz o.dst ∧ pre) ∧ xOpsO P Γ ops W r (st.put o.dst z row) K) := rflN rfl
theorem goO_none {W : List Bool} {o : Oper} {r : List Oper} : goO P Γ ops W o r K st none = (o.guard = none ∧ bop P Γ st o (contO P Γ ops W r K)) := rflN rfl
theorem xOpsO_nil {W : List Bool} : xOpsO P Γ ops W [] st K = K st := rflN (by cases W with
  | nil => rfl
  | cons b W => cases b <;> rfl)
theorem xOpsO_out {o : Oper} {r : List Oper} : xOpsO P Γ ops [] (o :: r) st K = xOps P Γ ops (o :: r) st K := rflN rfl
theorem xOpsO_f {W : List Bool} {o : Oper} {r : List Oper} : xOpsO P Γ ops (false :: W) (o :: r) st K = goO P Γ ops W o r K st (gop P Γ ops st o) := rflN rfl
theorem xOpsO_t {W : List Bool} {o : Oper} {r : List Oper} : xOpsO P Γ ops (true :: W) (o :: r) st K = (o.guard = none ∧ OpW P o st (contO P Γ ops W r K)) := rflN rfl
theorem AW.regionO (hΓ : GOK P Γ) {Q : Exit → AS → Prop} {id : Nat} {l : List Oper} (W : List Bool) (h : xOpsO P Γ l.toArray W l st (Q .normal)) : AW P (.region id l.toArray false) Q st := by
  intro c η a w hsr
  exact wp_region_lit (xOpsO_seq hΓ W l c st _ η a w hsr h fun st' η' a' w' hsr' hq => ⟨st', η', hq, hsr'⟩)
end
attribute [go_sem high] xOpsO_f xOpsO_t
attribute [go_sem] contO_app goO_some goO_none xOpsO_nil xOpsO_out
/-! ### a text appended to bytes -/
section
variable {w : World}
theorem run_append_empty {P : Program} {t t' e ty : TypeId} (ht : P.underlying t = some (.slice e)) (hu : P.underlying t' = some .string) {k : Nat} (hk : P.cellsOf e = k) (h0 : 0 < k) {a : Option Addr} {n cap : Nat} (hn : n ≤ cap) :
    (Builtin.append_ #[t, t'] ty #[.slice a n cap, .string ⟨#[]⟩]).run P w = .ok (.slice a n cap) w := by
  have e0 : ByteArray.size ⟨#[]⟩ = 0 := rfl
  have hf := Lib.run_firstCells_string (P := P) w k ⟨#[]⟩
  rw [e0] at hf
  have e1 : Lib.strCells ⟨#[]⟩ = [] := rfl
  rw [e1] at hf
  cases a <;> simp [Builtin.append_, run_underlying ht, run_underlying hu, run_sizeOf' (P := P) (w := w) hk h0, Builtin.lenOf, e0, hn, hf, storeCells]
def byteC (s : List UInt8) : Nat → Nat → AV := fun i _ => .val (.int .u8 (s.getD i 0).toNat)
theorem strCells_at (s : List UInt8) {η : Env} {L : Nat → Prop} (i : Nat) (hi : i < s.length) (j : Nat) (hj : j < 1) :
    ∃ u, (Lib.strCells ⟨s.toArray⟩)[i * 1 + j]? = some u ∧ u.oneCell' = true ∧ Rep w η L (byteC s i j) u := by
  obtain rfl : j = 0 := by omega
  refine ⟨.int .u8 (s.getD i 0).toNat, ?_, rfl, rfl⟩
  simp [Lib.strCells, List.getD, hi]
theorem strCells_len (s : List UInt8) : (Lib.strCells ⟨s.toArray⟩).length = s.length := by
  rw [Lib.strCells_length]
  simp [ByteArray.size]
theorem appS_wp {P : Program} {st : AS} {o : Oper} {t t' e : TypeId} {x y : Operand} {K : AS → Prop} {p v n : Nat} {cc : Nat → Nat → AV} {s : List UInt8} (ho : o.op = .call ⟨.builtin .append, ⟨[x, y]⟩, ⟨[t, t']⟩⟩) (hu : P.underlying t = some (.slice e)) (hu' : P.underlying t' = some .string)
    (hxe : st.ev x = .ow p v n) (hye : st.ev y = .st s) (hrow : st.hp p = .sl v e 1 n cc) (hd : dstOK st.sz o.dst) (hok : appOK P e 1 (n + s.length))
    (hK : K ⟨updO st.fr o.dst (.ow p st.nx (n + s.length)), updR st.hp p (.sl st.nx e 1 (n + s.length) (apC n cc (byteC s))), st.sz, st.top, st.nx + 1, st.df⟩) : OpW P o st K := by
  intro c η a w next Q hsr hnext
  have hev : ∀ x, Rep w η (Lset c η st.hp) (st.ev x) (a.eval x) := rep_ev hsr.slots
  have fin : ∀ v w', (Builtin.append_ #[t, t'] o.type #[a.eval x, a.eval y]).run P w = .ok v w' → next (a.put o.dst v) w' → o.wp P a w next Q := fun v w' hr hn => by
    unfold Oper.wp
    have : (execOp a.eval o).run P w = .ok (.value v) w' := by
      unfold execOp
      rw [ho]
      simp [resolve, invoke, builtin, hr]
    rw [this]
    exact hn
  have hx := hev x
  have hyv : a.eval y = .string ⟨s.toArray⟩ := by
    have hy := hev y
    rw [hye] at hy
    exact hy
  rw [hxe] at hx
  obtain ⟨hsz, h0, hb0, hbytes, zl, hz, hzl⟩ := hok
  obtain ⟨i, zv, hi, hiz, hzc, his, hib⟩ := info_of hz
  have hisz : i.size = 1 := by rw [his, hsz]
  have hss : (⟨s.toArray⟩ : ByteArray).size = s.length := by simp [ByteArray.size]
  obtain ⟨g, cap, hη, hv⟩ := hx
  have hr := hsr.hs.rows p
  rw [hrow] at hr
  have hr := hr g cap hη
  have hdead : ∀ q row, st.top ≤ q → updR st.hp p row q = .dead ∨ q = p := fun q row hq => by
    by_cases e : q = p
    · exact .inr e
    · rw [updR_ne _ _ e]; exact .inl (hsr.dead q hq)
  have hpt : p < st.top := by
    rcases Nat.lt_or_ge p st.top with h | h
    · exact h
    · rw [hsr.dead p h] at hrow; cases hrow
  have finish : ∀ (v' : Value) (w' : World) (r : Option Nat × Nat) (O : Nat → Prop), (Builtin.append_ #[t, t'] o.type #[a.eval x, a.eval y]).run P w = .ok v' w' → Fr O w w' →
      (∀ k, k < w.heap.size → O k → (st.hp p).blk η = some k) → (∀ g, r.1 = some g → (st.hp p).blk η = some g ∨ (w.heap.size ≤ g ∧ g < w'.heap.size)) →
      ((∀ x u, Rep w η (Lset c η st.hp) x u → Rep w' (layAt η st.nx r) (Lset c (layAt η st.nx r) (updR st.hp p (.sl st.nx e 1 (n + s.length) (apC n cc (byteC s))))) x u) →
        RowOK w' (layAt η st.nx r) (Lset c (layAt η st.nx r) (updR st.hp p (.sl st.nx e 1 (n + s.length) (apC n cc (byteC s))))) (.sl st.nx e 1 (n + s.length) (apC n cc (byteC s)))) →
      (match r.1 with | none => n + s.length = 0 ∧ ∃ a, v' = .slice a 0 0 | some g => v' = .slice (some ⟨g, 0, none⟩) (n + s.length) r.2 ∧ n + s.length ≤ r.2) → o.wp P a w next Q := by
    intro v' w' r O hrun hf hO hrb hrok hval
    obtain ⟨hs', hkeep⟩ := hsr.hs.swap (p := p) (row := .sl st.nx e 1 (n + s.length) (apC n cc (byteC s))) (r := r) rfl hf hO hrb hrok
    refine fin v' w' hrun (hnext _ (layAt η st.nx r) _ _ (hsr.put hd hs' (fun q hq => (hdead q _ hq).resolve_right (by omega)) hkeep ?_) hK)
    exact ⟨r.1, r.2, layAt_at _ _ _, hval⟩
  have hmb : (n + s.length) * 1 ≤ (n + s.length) * P.bytesOf e := Nat.mul_le_mul_left _ hb0
  by_cases hk0 : s.length = 0
  · -- nothing is added
    obtain rfl := List.length_eq_zero_iff.1 hk0
    have hcapn : ∃ av nn cp, a.eval x = .slice av nn cp ∧ nn ≤ cp := by
      cases g with
      | none => obtain ⟨_, av, e⟩ := hv; exact ⟨av, 0, 0, e, Nat.le_refl _⟩
      | some g => obtain ⟨e, hc⟩ := hv; exact ⟨_, _, _, e, hc⟩
    obtain ⟨av, nn, cp, hxv, hcp⟩ := hcapn
    refine finish (a.eval x) w (g, cap) (fun _ => False) (by rw [hxv, hyv]; exact run_append_empty hu hu' hsz h0 hcp) (Fr.refl _ _) (fun _ _ h => h.elim) (fun g' hg' => .inl ?_) (fun hkeep => ?_) ?_
    · simp only at hg'
      rw [hrow]; simp [Row.blk, Row.ver, hη, hg']
    · intro g' cap' he
      rw [layAt_at] at he
      simp only [Option.some.injEq, Prod.mk.injEq] at he
      obtain ⟨rfl, rfl⟩ := he
      cases g with
      | none => simpa using hr
      | some g =>
        obtain ⟨cur, hh, hcs, hnc, hcm, hc⟩ := hr
        refine ⟨cur, hh, hcs, by simp; omega, hcm, fun i hi j hj => ?_⟩
        have hi : i < n := by simpa using hi
        obtain ⟨u, hu', h1, hrep⟩ := hc i hi j hj
        exact ⟨u, hu', h1, by unfold apC; rw [if_pos hi]; exact hkeep _ _ hrep⟩
    · cases g with
      | none => simpa using hv
      | some g => simpa using hv
  · have hnl := strCells_len s
    have hmx : n + s.length ≤ maxLen := by simp only [maxLen]; omega
    cases g with
    | none =>
      obtain ⟨rfl, av, hxv⟩ := hv
      have hgrow : ∃ cap', (Builtin.append_ #[t, t'] o.type #[a.eval x, a.eval y]).run P w = .ok (.slice (some ⟨w.heap.size, 0, none⟩) s.length cap')
          (w.drew.alloc (.cells ((Lib.strCells ⟨s.toArray⟩).toArray ++ Builtin.zeroCells zv.cells (cap' - s.length)) e)) ∧ s.length ≤ cap' ∧ cap' ≤ maxLen := by
        refine ⟨grownCap w s.length 0 e, ?_, grownCap_ge _ _ _ _, grownCap_le_maxLen _ _ _ _ (by omega)⟩
        rw [hxv, hyv]
        cases av with
        | none =>
          have hr := run_append_nil_string (P := P) w t t' o.type e i zv hu hu' hi hiz ⟨s.toArray⟩ (by rw [hss]; omega) (by rw [hss]; omega) (by rw [hss, hib]; simp only [Nat.zero_add] at hbytes; omega)
          have e1 : ((⟨s.toArray⟩ : ByteArray).data.map fun b => Value.int .u8 b.toNat) = (Lib.strCells ⟨s.toArray⟩).toArray := by
            apply Array.ext'
            simp [Lib.strCells]
          rw [hss] at hr
          rw [← e1]
          exact hr
        | some ad =>
          have := Lib.run_append_grow_string (P := P) w t t' o.type e i zv hu hu' hi hiz ad 0 0 [] (by simp) (by simp) ⟨s.toArray⟩ (by rw [hss]; omega) (by rw [hss]; omega) (growslice_fits (by rw [hss]; omega) (by rw [hss, hib]; exact hbytes))
          rw [hss] at this
          simpa using this
      obtain ⟨cap', hrun, hge, hle⟩ := hgrow
      have hf : Fr (fun _ => False) w (w.drew.alloc (.cells ((Lib.strCells ⟨s.toArray⟩).toArray ++ Builtin.zeroCells zv.cells (cap' - s.length)) e)) := (Fr.refl _ w).drew.trans (Fr.alloc _ _ _)
      refine finish _ _ (some w.heap.size, cap') (fun _ => False) hrun hf (fun _ _ h => h.elim) (fun g' hg' => .inr ?_) (fun hkeep => ?_) ⟨by rw [Nat.zero_add], by omega⟩
      · simp only [Option.some.injEq] at hg'
        subst hg'
        simp
      · intro g' cap'' he
        rw [layAt_at] at he
        simp only [Option.some.injEq, Prod.mk.injEq] at he
        obtain ⟨rfl, rfl⟩ := he
        refine ⟨_, heap_alloc_new w.drew _, ?_, by omega, hle, ?_⟩
        · simp only [Array.size_append, List.size_toArray, size_zeroCells, hzc, hzl, hnl]
          omega
        · refine apC_cells (olds := []) (news := Lib.strCells ⟨s.toArray⟩) (by simp) (fun q hq => ?_) (fun i hi => absurd hi (by omega)) (fun i hi j hj => strCells_at s i hi j hj)
          rw [Nat.zero_add] at hq
          rw [List.nil_append, Array.getElem?_append_left (by simp only [List.size_toArray]; omega), List.getElem?_toArray]
    | some g =>
      obtain ⟨hxv, hcap⟩ := hv
      obtain ⟨cur, hh, hcs, hncap, hcm, hc⟩ := hr
      have hblk : (st.hp p).blk η = some g := by rw [hrow]; simp [Row.blk, Row.ver, hη]
      have hold : (cur.toList.take (n * 1)).length = n * 1 := by
        simp; omega
      have holdr : ∀ (w' : World) (η' : Env) (L' : Nat → Prop), (∀ x u, Rep w η (Lset c η st.hp) x u → Rep w' η' L' x u) → ∀ i, i < n → ∀ j, j < 1 → ∃ u, (cur.toList.take (n * 1))[i * 1 + j]? = some u ∧ u.oneCell' = true ∧ Rep w' η' L' (cc i j) u := by
        intro w' η' L' hkeep i hi j hj
        obtain ⟨u, hu', h1, hrep⟩ := hc i hi j hj
        exact ⟨u, by rw [List.getElem?_take, if_pos (by omega), Array.getElem?_toList]; exact hu', h1, hkeep _ _ hrep⟩
      by_cases hroom : n + s.length ≤ cap
      · have hrun := Lib.run_append_room_string (P := P) w t t' o.type e i hu hu' hi hisz g n cap cur hh ⟨s.toArray⟩ (by rw [hss]; exact hroom) (by rw [hss]; omega)
        rw [hss] at hrun
        refine finish _ _ (some g, cap) (fun b => b = g) (by rw [hxv, hyv]; exact hrun) (fr_setRow w g _) (fun k _ e => by rw [e]; exact hblk) (fun g' hg' => .inl (by simp only [Option.some.injEq] at hg'; rw [← hg']; exact hblk)) (fun hkeep => ?_) ⟨rfl, hroom⟩
        intro g' cap'' he
        rw [layAt_at] at he
        simp only [Option.some.injEq, Prod.mk.injEq] at he
        obtain ⟨rfl, rfl⟩ := he
        refine ⟨_, setRow_heap w g cur _ e (0, 0) hh, ?_, hroom, hcm, ?_⟩
        · simp only [List.size_toArray, List.length_append, List.length_take, List.length_drop, Array.length_toList, hnl]
          omega
        · refine apC_cells (olds := cur.toList.take (n * 1)) (news := Lib.strCells ⟨s.toArray⟩) hold (fun q hq => ?_) (holdr _ _ _ hkeep) (fun i hi j hj => strCells_at s i hi j hj)
          rw [List.getElem?_toArray]
          have e1 : cur.toList.take n = cur.toList.take (n * 1) := by rw [Nat.mul_one]
          rw [e1, List.getElem?_append_left (by rw [List.length_append, hold, hnl]; omega)]
      · have hrun := Lib.run_append_grow_string (P := P) w t t' o.type e i zv hu hu' hi hiz ⟨g, 0, none⟩ n cap (cur.toList.take (n * 1)) (by rw [hisz]; exact hold) (fun j v hj => by
            rw [add_off, Nat.zero_add, cell_heap hh, ← Array.getElem?_toList]
            rw [List.getElem?_take] at hj
            split at hj
            · exact hj
            · cases hj) ⟨s.toArray⟩ (by rw [hss]; omega) (by rw [hss]; omega) (growslice_fits (by rw [hss]; omega) (by rw [hss, hib]; exact hbytes))
        rw [hss] at hrun
        have hge := grownCap_ge w (n + s.length) cap e
        have hle := grownCap_le_maxLen w (n + s.length) cap e hmx
        generalize grownCap w (n + s.length) cap e = cap' at hrun hge hle
        have hf : Fr (fun _ => False) w (w.drew.alloc (.cells ((cur.toList.take (n * 1)).toArray ++ (Lib.strCells ⟨s.toArray⟩).toArray ++ Builtin.zeroCells zv.cells (cap' - (n + s.length))) e)) := (Fr.refl _ w).drew.trans (Fr.alloc _ _ _)
        refine finish _ _ (some w.heap.size, cap') (fun _ => False) (by rw [hxv, hyv]; exact hrun) hf (fun _ _ h => h.elim) (fun g' hg' => .inr ?_) (fun hkeep => ?_) ⟨rfl, hge⟩
        · simp only [Option.some.injEq] at hg'
          subst hg'
          simp
        · intro g' cap'' he
          rw [layAt_at] at he
          simp only [Option.some.injEq, Prod.mk.injEq] at he
          obtain ⟨rfl, rfl⟩ := he
          refine ⟨_, heap_alloc_new w.drew _, ?_, hge, hle, ?_⟩
          · simp only [Array.size_append, List.size_toArray, size_zeroCells, hzc, hzl, hnl, hold]
            omega
          · refine apC_cells (olds := cur.toList.take (n * 1)) (news := Lib.strCells ⟨s.toArray⟩) hold (fun q hq => ?_) (holdr _ _ _ hkeep) (fun i hi j hj => strCells_at s i hi j hj)
            rw [Array.getElem?_append_left (by simp only [Array.size_append, List.size_toArray, hold, hnl]; omega)]
            simp only [List.append_toArray, List.getElem?_toArray]
end
/-! ### a row is given up -/
section
variable {c : Ctx} {hp : Nat → Row} {nx : Nat} {η : Env} {w w' : World}
theorem HS.sink (h : HS c hp nx η w) {p g : Nat} (hb : (hp p).blk η = some g) (hf : Fr (fun b => b = g) w w') :
    HS c (updR hp p .dead) nx η w' ∧ ∀ x u, Rep w η (Lset c η hp) x u → Rep w' η (Lset c η (updR hp p .dead)) x u := by
  have hbk : ∀ q b, (updR hp p .dead q).blk η = some b → q ≠ p ∧ (hp q).blk η = some b := fun q b hq => by
    by_cases e : q = p
    · subst e; rw [updR_at] at hq; cases hq
    · rw [updR_ne _ _ e] at hq; exact ⟨e, hq⟩
  have hver : ∀ q v, (updR hp p .dead q).ver = some v → (hp q).ver = some v := fun q v hq => by
    by_cases e : q = p
    · subst e; rw [updR_at] at hq; cases hq
    · rw [updR_ne _ _ e] at hq; exact hq
  have hL : ∀ b, Lset c η (updR hp p .dead) b → Lset c η hp b := by
    rintro b (hl | ⟨q, hq⟩)
    · exact .inl hl
    · exact .inr ⟨q, (hbk q b hq).2⟩
  have hO : ∀ k, k < w.heap.size → k = g → Lset c η hp k := fun k _ e => .inr ⟨p, by rw [e]; exact hb⟩
  refine ⟨⟨h.fr.trans' hf ?_, h.lx, fun q => ?_, fun q r v hq hr => h.vers q r v (hver q v hq) (hver r v hr), fun q v hq => h.bnd q v (hver q v hq), fun q r b hq hr => h.disj q r b (hbk q b hq).2 (hbk r b hr).2, fun q b hq => ?_, h.fresh, h.env⟩,
    fun x u hx => Rep.keep hf hO (fun k _ hl => hL k hl) x η η u (Env.le_refl _) hx⟩
  · intro k hk e
    subst e
    exact (h.own p k hb).1.resolve_right (by omega)
  · by_cases e : q = p
    · subst e; rw [updR_at]; trivial
    · rw [updR_ne _ _ e]
      exact RowOK.keep hf (Env.le_refl _) hO (fun k _ hl => hL k hl) (fun _ _ => rfl) (fun b hq => by
        refine hf.block b (h.own q b hq).2.2 fun e' => e ?_
        subst e'
        exact h.disj q p b hq hb) (h.rows q)
  · have := h.own q b (hbk q b hq).2
    exact ⟨this.1, this.2.1, Nat.lt_of_lt_of_le this.2.2 hf.size⟩
end
end Go.Proofs.YtljgfacjefebaaaDoor
