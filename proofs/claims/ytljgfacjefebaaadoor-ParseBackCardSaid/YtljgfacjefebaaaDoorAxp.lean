/-
  Sums that may wrap.
-/
import Derived.Test.YtljgfacjefebaaaDoorAxo
set_option linter.unusedSimpArgs false
set_option linter.unusedVariables false
namespace Go.Proofs.YtljgfacjefebaaaDoor
open Go
section
variable {P : Program} {Γ : Gam} {ops : Array Oper} {st : AS} {K : AS → Prop} {d : Tmp}
/-- A sum as the machine has it. -/
def wrapK (d : Tmp) (st : AS) (K : AS → Prop) : AV → AV → Prop
  | .val (.int .i64 a), .val (.int .i64 b) => d < st.sz ∧ K ⟨updO st.fr (some d) (.val (.int .i64 (IntKind.i64.wrap (a + b)))), st.hp, st.sz, st.top, st.nx, st.df⟩
  | _, _ => False
theorem wrapK_val {a b : Int} : wrapK d st K (.val (.int .i64 a)) (.val (.int .i64 b)) = (d < st.sz ∧ K ⟨updO st.fr (some d) (.val (.int .i64 (IntKind.i64.wrap (a + b)))), st.hp, st.sz, st.top, st.nx, st.df⟩) := rflN rfl
theorem add_wp {o : Oper} {t t' : TypeId} {x y : Operand} (ho : o.op = .binOp .add t x y t') (hd : o.dst = some d) (h : wrapK d st K (st.ev x) (st.ev y)) : OpW P o st K := by
  intro c η a w next Q hsr hnext
  have hx := rep_ev hsr.slots x
  have hy := rep_ev hsr.slots y
  unfold AS.ev at h
  generalize evAV st.fr x = u at *
  generalize evAV st.fr y = v at *
  unfold wrapK at h
  split at h
  · rename_i p q
    obtain ⟨h1, h2⟩ := h
    have hx : a.eval x = .int .i64 p := hx
    have hy : a.eval y = .int .i64 q := hy
    have e : (execOp a.eval o).run P w = .ok (.value (.int .i64 (IntKind.i64.wrap (p + q)))) w := by
      simp [execOp, ho, hx, hy, binOp, Op.intArith, eqGuard]
    unfold Oper.wp
    rw [e]
    refine hnext _ η _ w ?_ h2
    have := hsr.put (d := o.dst) (z := .val (.int .i64 (IntKind.i64.wrap (p + q)))) (v := .int .i64 (IntKind.i64.wrap (p + q))) (by rw [hd]; exact h1) hsr.hs hsr.dead (fun _ _ h => h) rfl
    rw [hd] at this ⊢
    exact this
  · exact h.elim
/-- Operations one behind the other, of which some sums may wrap. -/
def xOpsW (P : Program) (Γ : Gam) (ops : Array Oper) : List Bool → List Oper → AS → (AS → Prop) → Prop
  | _, [], st, K => K st
  | true :: W, o :: r, st, K => match o with
    | ⟨some d, .binOp .add _ x y _, _, _, _, none⟩ => wrapK d st (fun st' => xOpsW P Γ ops W r st' K) (st.ev x) (st.ev y)
    | _ => False
  | false :: W, o :: r, st, K => match gop P Γ ops st o with
    | some (pre, z, row) => (dstOK st.sz o.dst ∧ pre) ∧ xOpsW P Γ ops W r (st.put o.dst z row) K
    | none => o.guard = none ∧ bop P Γ st o fun st' => xOpsW P Γ ops W r st' K
  | [], l, st, K => xOps P Γ ops l st K
theorem wanted_none {o : Oper} {f : Nat → Option Bool} (h : o.guard = none) : Region.wanted o f = true := by simp [Region.wanted, h]
theorem xOpsW_seq (hΓ : GOK P Γ) {ops : Array Oper} {Q : Exit → Act → World → Prop} : ∀ (W : List Bool) (l : List Oper) (c : Ctx) (st : AS) (K : AS → Prop) (η : Env) (a : Act) (w : World), SR c st η a w → xOpsW P Γ ops W l st K →
    (∀ st' η' a' w', SR c st' η' a' w' → K st' → Q .normal a' w') → wpList P ops Q l a w
  | [], [], _, _, _, η, a, w, hsr, h, hQ => hQ _ η a w hsr h
  | _ :: _, [], _, _, _, η, a, w, hsr, h, hQ => hQ _ η a w hsr (by unfold xOpsW at h; exact h)
  | [], o :: r, c, st, K, η, a, w, hsr, h, hQ => xOps_seq hΓ (o :: r) c st K η a w hsr h hQ
  | true :: W, o :: r, c, st, K, η, a, w, hsr, h, hQ => by
    unfold xOpsW at h
    split at h
    · refine wpList_step fun KK hKK => ?_
      rw [if_pos (wanted_none rfl)]
      exact add_wp rfl rfl h c η a w KK Q hsr fun st' η' a' w' hsr' hx => hKK _ _ (xOpsW_seq hΓ W r c st' K η' a' w' hsr' hx hQ)
    · exact h.elim
  | false :: W, o :: r, c, st, K, η, a, w, hsr, h, hQ => by
    unfold xOpsW at h
    split at h
    · rename_i pre z row hg
      refine wpList_step fun KK hKK => gop_wp hΓ hsr hg h.1.2 h.1.1 fun η' a' w' hsr' => hKK _ _ (xOpsW_seq hΓ W r c _ K η' a' w' hsr' h.2 hQ)
    · refine wpList_step fun KK hKK => ?_
      rw [if_pos (by simp [Region.wanted, h.1])]
      exact bop_wp hΓ h.2 c η a w KK Q hsr fun st' η' a' w' hsr' hx => hKK _ _ (xOpsW_seq hΓ W r c st' K η' a' w' hsr' hx hQ)
/-- What follows. -/
def contW (P : Program) (Γ : Gam) (ops : Array Oper) (W : List Bool) (r : List Oper) (K : AS → Prop) : AS → Prop := fun st => xOpsW P Γ ops W r st K
theorem contW_app {W : List Bool} {r : List Oper} : contW P Γ ops W r K st = xOpsW P Γ ops W r st K := rflN rfl
def goW (P : Program) (Γ : Gam) (ops : Array Oper) (W : List Bool) (o : Oper) (r : List Oper) (K : AS → Prop) (st : AS) : AOut → Prop
  | some (pre, z, row) => (dstOK st.sz o.dst ∧ pre) ∧ xOpsW P Γ ops W r (st.put o.dst z row) K
  | none => o.guard = none ∧ bop P Γ st o (contW P Γ ops W r K)
theorem goW_some {W : List Bool} {o : Oper} {r : List Oper} {pre : Prop} {z : AV} {row : Row} : goW P Γ ops W o r K st (some (pre, z, row)) = ((dstOK st.sz o.dst ∧ pre) ∧ xOpsW P Γ ops W r (st.put o.dst z row) K) := rflN rfl
theorem goW_none {W : List Bool} {o : Oper} {r : List Oper} : goW P Γ ops W o r K st none = (o.guard = none ∧ bop P Γ st o (contW P Γ ops W r K)) := rflN rfl
theorem xOpsW_nil {W : List Bool} : xOpsW P Γ ops W [] st K = K st := rflN (by cases W with
  | nil => rfl
  | cons b W => cases b <;> rfl)
theorem xOpsW_out {o : Oper} {r : List Oper} : xOpsW P Γ ops [] (o :: r) st K = xOps P Γ ops (o :: r) st K := rflN rfl
theorem xOpsW_f {W : List Bool} {o : Oper} {r : List Oper} : xOpsW P Γ ops (false :: W) (o :: r) st K = goW P Γ ops W o r K st (gop P Γ ops st o) := rflN rfl
theorem xOpsW_t {W : List Bool} {r : List Oper} {t t' ty : TypeId} {x y : Operand} {pos : String} {af : Array Edge} : xOpsW P Γ ops (true :: W) (⟨some d, .binOp .add t x y t', ty, pos, af, none⟩ :: r) st K = wrapK d st (contW P Γ ops W r K) (st.ev x) (st.ev y) := rflN rfl
theorem AW.regionW (hΓ : GOK P Γ) {Q : Exit → AS → Prop} {id : Nat} {l : List Oper} (W : List Bool) (h : xOpsW P Γ l.toArray W l st (Q .normal)) : AW P (.region id l.toArray false) Q st := by
  intro c η a w hsr
  exact wp_region_lit (xOpsW_seq hΓ W l c st _ η a w hsr h fun st' η' a' w' hsr' hq => ⟨st', η', hq, hsr'⟩)
end
attribute [go_sem high] xOpsW_f xOpsW_t
attribute [go_sem] wrapK_val contW_app goW_some goW_none xOpsW_nil xOpsW_out
end Go.Proofs.YtljgfacjefebaaaDoor
