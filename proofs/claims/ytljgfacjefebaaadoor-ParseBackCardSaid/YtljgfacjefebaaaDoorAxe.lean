/-
  The rules by which a state is reckoned.
-/
import Derived.Test.YtljgfacjefebaaaDoorAxd
set_option linter.unusedSimpArgs false
namespace Go.Proofs.YtljgfacjefebaaaDoor
open Go

/-! ### what follows stays closed until it is reached -/
theorem rflN {α : Sort _} {a b : α} (h : a = b) : a = b := h
section
variable {P : Program} {Γ : Gam} {ops : Array Oper} {st : AS} {o : Oper} {r : List Oper} {K : AS → Prop}
/-- The operations that follow. -/
def contX (P : Program) (Γ : Gam) (ops : Array Oper) (r : List Oper) (K : AS → Prop) : AS → Prop := fun st => xOps P Γ ops r st K
theorem contX_app : contX P Γ ops r K st = xOps P Γ ops r st K := rflN rfl
/-- What follows a call. -/
def methK (st : AS) (d : Option Tmp) (K : AS → Prop) : AV → (Nat → Row) → Nat → Nat → Prop := fun r hp' top' nx' => K ⟨updO st.fr d r, hp', st.sz, top', nx', st.df⟩
theorem methK_app {d : Option Tmp} {x : AV} {hp : Nat → Row} {top nx : Nat} : methK st d K x hp top nx = K ⟨updO st.fr d x, hp, st.sz, top, nx, st.df⟩ := rflN rfl
def goK (P : Program) (Γ : Gam) (ops : Array Oper) (o : Oper) (r : List Oper) (K : AS → Prop) (st : AS) : AOut → Prop
  | some (pre, z, row) => (dstOK st.sz o.dst ∧ pre) ∧ xOps P Γ ops r (st.put o.dst z row) K
  | none => o.guard = none ∧ bop P Γ st o (contX P Γ ops r K)
theorem goK_some {pre : Prop} {z : AV} {row : Row} : goK P Γ ops o r K st (some (pre, z, row)) = ((dstOK st.sz o.dst ∧ pre) ∧ xOps P Γ ops r (st.put o.dst z row) K) := rflN rfl
theorem goK_none : goK P Γ ops o r K st none = (o.guard = none ∧ bop P Γ st o (contX P Γ ops r K)) := rflN rfl
theorem xOps_nil : xOps P Γ ops [] st K = K st := rflN rfl
theorem xOps_cons : xOps P Γ ops (o :: r) st K = goK P Γ ops o r K st (gop P Γ ops st o) := rflN rfl
def goA (P : Program) (Γ : Gam) (ops : Array Oper) (m : Nat) (o : Oper) (r : List Oper) (K : AS → Prop) (st : AS) : AOut → Prop
  | some (pre, z, row) => (dstOK st.sz o.dst ∧ pre) ∧ xOpsA P Γ ops m r (st.put o.dst z row) K
  | none => False
theorem goA_some {m : Nat} {pre : Prop} {z : AV} {row : Row} : goA P Γ ops m o r K st (some (pre, z, row)) = ((dstOK st.sz o.dst ∧ pre) ∧ xOpsA P Γ ops m r (st.put o.dst z row) K) := rflN rfl
theorem goA_none {m : Nat} : goA P Γ ops m o r K st none = False := rflN rfl
theorem xOpsA_cons {m : Nat} : xOpsA P Γ ops (m + 1) (o :: r) st K = goA P Γ ops m o r K st (gop P Γ ops st o) := rflN rfl
theorem xOpsA_zero {l : List Oper} : xOpsA P Γ ops 0 l st K = xOps P Γ ops l st K := by cases l <;> rfl
def gdR (g : Bool) : AOut → AOut
  | some (pre, z, row) => some (g = true → pre, .gd g z, row)
  | none => none
def gdK (P : Program) (Γ : Gam) (st : AS) (o : Oper) : Option Bool → AOut
  | some g => gdR g (aop P Γ st.hp st.top st.nx (evG g o.op st.ev) o.op)
  | none => none
theorem gdR_some {g : Bool} {pre : Prop} {z : AV} {row : Row} : gdR g (some (pre, z, row)) = some (g = true → pre, .gd g z, row) := rflN rfl
theorem gdR_none {g : Bool} : gdR g none = none := rflN rfl
theorem gdK_some {g : Bool} : gdK P Γ st o (some g) = gdR g (aop P Γ st.hp st.top st.nx (evG g o.op st.ev) o.op) := rflN rfl
theorem gdK_none : gdK P Γ st o none = none := rflN rfl
theorem gop_new : gop P Γ ops st o = match o.guard with
    | none => aop P Γ st.hp st.top st.nx st.ev o.op
    | some (j, want) => match (ops[j]?).bind (·.dst) with
      | some d => gdK P Γ st o (guardVal (st.fr d) want)
      | none => none := by
  unfold gop gdK gdR
  cases o.guard with
  | none => rfl
  | some w =>
    obtain ⟨j, want⟩ := w
    simp only
    cases (ops[j]?).bind (·.dst) with
    | none => rfl
    | some d =>
      simp only
      cases guardVal (st.fr d) want with
      | none => rfl
      | some g =>
        simp only
        cases aop P Γ st.hp st.top st.nx (evG g o.op st.ev) o.op with
        | none => rfl
        | some t => obtain ⟨pre, z, row⟩ := t; rfl
theorem bop_new : bop P Γ st o K = match o.op with
  | .mapUpdate t m k x => sMapSet P st t (st.ev m) (st.ev k) (st.ev x) o.dst K
  | .call ⟨.value (.func f), ⟨xs⟩, _⟩ => match Γ f with
    | some (.meth S) => dstOK st.sz o.dst ∧ S (xs.map st.ev) st.hp st.top st.nx (methK st o.dst K)
    | _ => OpW P o st K
  | .store t x y => sStore P st t (st.ev x) (st.ev y) o.dst K
  | .call ⟨.builtin .append, ⟨[x, y]⟩, ⟨[t, t']⟩⟩ => t' = t ∧ sApp P st t (st.ev x) (st.ev y) o.dst K
  | .buildSlice t n parts => sBuild P st t n (parts.toList.map fun a => (a.1, st.ev a.2)) o.dst K
  | .defer ⟨.value (.func f), ⟨[]⟩, _⟩ => o.dst = none ∧ K ⟨st.fr, st.hp, st.sz, st.top, st.nx, ⟨.fn (.func f) #[], #[]⟩ :: st.df⟩
  | _ => OpW P o st K := rflN rfl
/-! stores, appends, maps -/
variable {t : TypeId} {x y : AV} {d : Option Tmp}
def stPt (P : Program) (st : AS) (t : TypeId) (d : Option Tmp) (K : AS → Prop) (p ver j : Nat) : Row → Option (Nat × (Nat → AV)) → Prop
  | .box v ety m cc, some (k, e) => (v = ver ∧ P.cellsOf t = k ∧ 0 < k ∧ j + k ≤ m ∧ dstOK st.sz d) ∧ K ⟨updO st.fr d .any, updR st.hp p (.box v ety m (stC cc j k e)), st.sz, st.top, st.nx, st.df⟩
  | _, _ => False
theorem stPt_box {p ver j v m k : Nat} {ety : TypeId} {cc e : Nat → AV} : stPt P st t d K p ver j (.box v ety m cc) (some (k, e)) =
    ((v = ver ∧ P.cellsOf t = k ∧ 0 < k ∧ j + k ≤ m ∧ dstOK st.sz d) ∧ K ⟨updO st.fr d .any, updR st.hp p (.box v ety m (stC cc j k e)), st.sz, st.top, st.nx, st.df⟩) := rflN rfl
theorem sStore_pt {p ver j : Nat} : sStore P st t (.pt p ver j) y d K = stPt P st t d K p ver j (st.hp p) (cellsAV y) := by
  unfold sStore
  cases cellsAV y with
  | none => cases st.hp p <;> rfl
  | some w => obtain ⟨k, e⟩ := w; cases h : st.hp p <;> simp only [h, stPt]
def stPe (P : Program) (st : AS) (t : TypeId) (d : Option Tmp) (K : AS → Prop) (p ver sz i j : Nat) : Row → Option (Nat × (Nat → AV)) → Prop
  | .sl v ety sz' n cc, some (k, e) => (v = ver ∧ sz' = sz ∧ i < n ∧ P.cellsOf t = k ∧ 0 < k ∧ j + k ≤ sz ∧ dstOK st.sz d) ∧ K ⟨updO st.fr d .any, updR st.hp p (.sl v ety sz n (stE cc i j k e)), st.sz, st.top, st.nx, st.df⟩
  | _, _ => False
theorem stPe_sl {p ver sz i j v n k sz' : Nat} {ety : TypeId} {cc : Nat → Nat → AV} {e : Nat → AV} : stPe P st t d K p ver sz i j (.sl v ety sz' n cc) (some (k, e)) =
    ((v = ver ∧ sz' = sz ∧ i < n ∧ P.cellsOf t = k ∧ 0 < k ∧ j + k ≤ sz ∧ dstOK st.sz d) ∧ K ⟨updO st.fr d .any, updR st.hp p (.sl v ety sz n (stE cc i j k e)), st.sz, st.top, st.nx, st.df⟩) := rflN rfl
theorem sStore_pe {p ver sz i j : Nat} : sStore P st t (.pe p ver sz i j) y d K = stPe P st t d K p ver sz i j (st.hp p) (cellsAV y) := by
  unfold sStore
  cases cellsAV y with
  | none => cases st.hp p <;> rfl
  | some w => obtain ⟨k, e⟩ := w; cases h : st.hp p <;> simp only [h, stPe]
def apR (P : Program) (st : AS) (e : TypeId) (y : AV) (d : Option Tmp) (K : AS → Prop) (p ver n k sz' : Nat) (dd : Nat → Nat → AV) : Row → Prop
  | .sl v ety sz n' cc => (vwA st.hp y ∧ v = ver ∧ n' = n ∧ ety = e ∧ sz' = sz ∧ dstOK st.sz d ∧ appOK P e sz (n + k)) ∧ K ⟨updO st.fr d (.ow p st.nx (n + k)), updR st.hp p (.sl st.nx e sz (n + k) (apC n cc dd)), st.sz, st.top, st.nx + 1, st.df⟩
  | _ => False
theorem apR_sl {e ety : TypeId} {p ver n k sz' v sz n' : Nat} {dd cc : Nat → Nat → AV} : apR P st e y d K p ver n k sz' dd (.sl v ety sz n' cc) =
    ((vwA st.hp y ∧ v = ver ∧ n' = n ∧ ety = e ∧ sz' = sz ∧ dstOK st.sz d ∧ appOK P e sz (n + k)) ∧ K ⟨updO st.fr d (.ow p st.nx (n + k)), updR st.hp p (.sl st.nx e sz (n + k) (apC n cc dd)), st.sz, st.top, st.nx + 1, st.df⟩) := rflN rfl
def apK (P : Program) (st : AS) (t : TypeId) (y : AV) (d : Option Tmp) (K : AS → Prop) : Option TypeDesc → AV → AV → Prop
  | some (.slice e), .ow p ver n, .sn k sz' dd => apR P st e y d K p ver n k sz' dd (st.hp p)
  | some (.slice e), .em, .sn k sz dd => (vwA st.hp y ∧ dstOK st.sz d ∧ appOK P e sz k) ∧ K ⟨updO st.fr d (.ow st.top st.nx k), updR st.hp st.top (.sl st.nx e sz k dd), st.sz, st.top + 1, st.nx + 1, st.df⟩
  | some (.slice e), x, .em => dstOK st.sz d ∧ (∃ b, aLen P t x = some b) ∧ 0 < P.cellsOf e ∧ (∀ w η L v, Rep w η L x v → ∃ a n cap, v = .slice a n cap ∧ n ≤ cap) ∧ K ⟨updO st.fr d x, st.hp, st.sz, st.top, st.nx, st.df⟩
  | _, _, _ => False
theorem apK_ow {e : TypeId} {p ver n k sz' : Nat} {dd : Nat → Nat → AV} : apK P st t y d K (some (.slice e)) (.ow p ver n) (.sn k sz' dd) = apR P st e y d K p ver n k sz' dd (st.hp p) := rflN rfl
theorem apK_em {e : TypeId} {k sz : Nat} {dd : Nat → Nat → AV} : apK P st t y d K (some (.slice e)) .em (.sn k sz dd) =
    ((vwA st.hp y ∧ dstOK st.sz d ∧ appOK P e sz k) ∧ K ⟨updO st.fr d (.ow st.top st.nx k), updR st.hp st.top (.sl st.nx e sz k dd), st.sz, st.top + 1, st.nx + 1, st.df⟩) := rflN rfl
theorem apK_no {e : TypeId} : apK P st t y d K (some (.slice e)) x .em =
    (dstOK st.sz d ∧ (∃ b, aLen P t x = some b) ∧ 0 < P.cellsOf e ∧ (∀ w η L v, Rep w η L x v → ∃ a n cap, v = .slice a n cap ∧ n ≤ cap) ∧ K ⟨updO st.fr d x, st.hp, st.sz, st.top, st.nx, st.df⟩) := by cases x <;> rfl
theorem sApp_new : sApp P st t x y d K = apK P st t y d K (P.underlying t) x (vw st.hp y) := by
  unfold sApp
  split
  · rename_i h1 h2; rw [h1, h2]; rfl
  · rename_i h1 h2; rw [h1, h2]; rfl
  · rename_i h1 h2; rw [h1, h2, apK_no]
  · rename_i h3 h1 h2
    unfold apK
    split
    · rename_i g1 g2; exact (h1 _ _ _ _ _ _ _ g1 rfl g2).elim
    · rename_i g1 g2; exact (h2 _ _ _ _ g1 rfl g2).elim
    · rename_i g1 g2; exact (h3 _ g1 g2).elim
    · rfl
def sbR (P : Program) (st : AS) (n : Nat) (d : Option Tmp) (K : AS → Prop) (e : TypeId) : Option (List Value) → Option (List (Nat → AV)) → Prop
  | some z, some l => (l.length = n ∧ 0 < n ∧ z.length = P.cellsOf e ∧ 0 < P.cellsOf e ∧ n * P.cellsOf e ≤ 16777216 ∧ dstOK st.sz d) ∧
        K ⟨updO st.fr d (.ow st.top st.nx n), updR st.hp st.top (.sl st.nx e (P.cellsOf e) n fun i => l.getD i fun _ => .any), st.sz, st.top + 1, st.nx + 1, st.df⟩
  | _, _ => False
theorem sbR_some {n : Nat} {e : TypeId} {z : List Value} {l : List (Nat → AV)} : sbR P st n d K e (some z) (some l) = ((l.length = n ∧ 0 < n ∧ z.length = P.cellsOf e ∧ 0 < P.cellsOf e ∧ n * P.cellsOf e ≤ 16777216 ∧ dstOK st.sz d) ∧
        K ⟨updO st.fr d (.ow st.top st.nx n), updR st.hp st.top (.sl st.nx e (P.cellsOf e) n fun i => l.getD i fun _ => .any), st.sz, st.top + 1, st.nx + 1, st.df⟩) := rflN rfl
def sbK (P : Program) (st : AS) (n : Nat) (parts : List (Nat × AV)) (d : Option Tmp) (K : AS → Prop) : Option TypeDesc → Prop
  | some (.slice e) => sbR P st n d K e (zeroC P e) (onesOf (P.cellsOf e) 0 parts)
  | _ => False
theorem sbK_slice {n : Nat} {e : TypeId} {parts : List (Nat × AV)} : sbK P st n parts d K (some (.slice e)) = sbR P st n d K e (zeroC P e) (onesOf (P.cellsOf e) 0 parts) := rflN rfl
theorem sBuild_new {n : Nat} {parts : List (Nat × AV)} : sBuild P st t n parts d K = sbK P st n parts d K (P.underlying t) := by
  unfold sBuild sbK
  generalize P.underlying t = u
  cases u with
  | none => rfl
  | some w => cases w <;> rfl
variable {m k : AV}
def mpR (P : Program) (st : AS) (d : Option Tmp) (K : AS → Prop) (p ver : Nat) (kt : TypeId) (key : Key) (u : Value) : Row → Prop
  | .mp v str n f => (v = ver ∧ key.isStr = str ∧ P.underlying kt = some (kindOf str) ∧ dstOK st.sz d) ∧
        K ⟨updO st.fr d .any, updR st.hp p (.mp v str (if (f key).isSome then n else n + 1) (setKey f key u)), st.sz, st.top, st.nx, st.df⟩
  | _ => False
theorem mpR_mp {p ver v n : Nat} {kt : TypeId} {key : Key} {u : Value} {str : Bool} {f : Key → Option Value} : mpR P st d K p ver kt key u (.mp v str n f) =
    ((v = ver ∧ key.isStr = str ∧ P.underlying kt = some (kindOf str) ∧ dstOK st.sz d) ∧
        K ⟨updO st.fr d .any, updR st.hp p (.mp v str (if (f key).isSome then n else n + 1) (setKey f key u)), st.sz, st.top, st.nx, st.df⟩) := rflN rfl
def mpK (P : Program) (st : AS) (d : Option Tmp) (K : AS → Prop) : Option TypeDesc → AV → Option Key → Option Value → Prop
  | some (.map kt _), .mp p ver, some key, some u => mpR P st d K p ver kt key u (st.hp p)
  | _, _, _, _ => False
theorem mpK_mp {kt vt : TypeId} {p ver : Nat} {key : Key} {u : Value} : mpK P st d K (some (.map kt vt)) (.mp p ver) (some key) (some u) = mpR P st d K p ver kt key u (st.hp p) := rflN rfl
theorem sMapSet_new : sMapSet P st t m k x d K = mpK P st d K (P.underlying t) m (keyAV k) (valAV x) := by
  unfold sMapSet
  split
  · rename_i h1 h2 h3; rw [h1, h2, h3]; rfl
  · rename_i h1
    unfold mpK
    split
    · rename_i g1 g2 g3; exact (h1 _ _ _ _ _ _ g1 rfl g2 g3).elim
    · rfl
/-! conditions -/
variable {S : List Nat} {a b : Code} {Q : Exit → AS → Prop}
def condK (P : Program) (Γ : Gam) (S : List Nat) (a b : Code) (Q : Exit → AS → Prop) (st : AS) : AV → Prop
  | .val (.bool c) => (c = true → xCode P Γ S a Q st) ∧ (c = false → xCode P Γ S b Q st)
  | .mb q => (q → xCode P Γ S a Q st) ∧ xCode P Γ S b Q st
  | _ => False
theorem condK_val {c : Bool} : condK P Γ S a b Q st (.val (.bool c)) = ((c = true → xCode P Γ S a Q st) ∧ (c = false → xCode P Γ S b Q st)) := rflN rfl
theorem condK_mb {q : Prop} : condK P Γ S a b Q st (.mb q) = ((q → xCode P Γ S a Q st) ∧ xCode P Γ S b Q st) := rflN rfl
theorem xCode_cond_new (o : Operand) : xCode P Γ S (.cond o a b) Q st = condK P Γ S a b Q st (st.ev o) := rflN rfl
end
attribute [go_sem high] xOps_cons xOpsA_cons xOpsA_zero gop_new bop_new xCode_cond_new
attribute [go_sem] xOps_nil contX_app methK_app goK_some goK_none goA_some goA_none gdR_some gdR_none gdK_some gdK_none condK_val condK_mb
attribute [go_sem] sBuild_new sbK_slice sbR_some sStore_pt sStore_pe sApp_new sMapSet_new stPt_box stPe_sl apR_sl apK_ow apK_em apK_no mpR_mp mpK_mp
section
variable {P : Program} {Γ : Gam} {K : AS → Prop} {Q : Exit → AS → Prop} {st : AS} {y : Code} {id : Nat}
@[go_sem] theorem rest_normal : rest P y Q .normal st = AW P y Q st := rfl
@[go_sem] theorem rest_exit : rest P y Q (.exit id) st = Q (.exit id) st := rfl
@[go_sem] theorem rest_ret : rest P y Q .ret st = Q .ret st := rfl
/-- Behind it this code. -/
def later (P : Program) (Γ : Gam) (S : List Nat) (y : Code) (Q : Exit → AS → Prop) : Exit → AS → Prop := thenX (xCode P Γ S y) Q
variable {S : List Nat}
@[go_sem] theorem later_normal : later P Γ S y Q .normal st = xCode P Γ S y Q st := rfl
@[go_sem] theorem later_exit : later P Γ S y Q (.exit id) st = Q (.exit id) st := rfl
@[go_sem] theorem later_ret : later P Γ S y Q .ret st = Q .ret st := rfl
@[go_sem] theorem xCode_seq (x : Code) : xCode P Γ S (.seq x y) Q st = if ends x ≤ 1 then (if stops S x = true then xCode P Γ S x (rest P y Q) st else xCode P Γ S x (later P Γ S y Q) st) else if S.contains 99999 = true then xCode P Γ S x (later P Γ S y Q) st else AW P (.seq x y) Q st := rfl
@[go_sem] theorem xCode_region (l : List Oper) : xCode P Γ S (.region id ⟨l⟩ false) Q st = xOps P Γ l.toArray l st (Q .normal) := rfl
@[go_sem] theorem xCode_draw (l : List Oper) : xCode P Γ S (.region id ⟨l⟩ true) Q st = if S.contains (200000 + id) = true then AW P (.region id ⟨l⟩ true) Q st else xOpsA P Γ l.toArray (quiet Γ l) l st (Q .normal) := rfl
@[go_sem] theorem xCode_block : xCode P Γ S (.block id y) Q st = xCode P Γ S y (inA id Q) st := rfl
@[go_sem] theorem xCode_scope : xCode P Γ S (.scope y) Q st = xCode P Γ S y (unscoped Q) st := rfl
@[go_sem] theorem xCode_skip : xCode P Γ S .skip Q st = Q .normal st := rfl
@[go_sem] theorem xCode_exit : xCode P Γ S (.exit id) Q st = Q (.exit id) st := rfl
@[go_sem] theorem xCode_ret : xCode P Γ S .ret Q st = Q .ret st := rfl
@[go_sem] theorem xCode_loop : xCode P Γ S (.loop y) Q st = AW P (.loop y) Q st := rfl
@[go_sem] theorem lastOf_region (l : Array Oper) (b : Bool) : lastOf (.region id l b) = some id := rfl
@[go_sem] theorem lastOf_seq (x : Code) : lastOf (.seq x y) = lastOf y := rfl
@[go_sem] theorem lastOf_block : lastOf (.block id y) = none := rfl
@[go_sem] theorem lastOf_cond (o : Operand) (x : Code) : lastOf (.cond o x y) = none := rfl
@[go_sem] theorem lastOf_loop : lastOf (.loop y) = none := rfl
@[go_sem] theorem lastOf_ret : lastOf .ret = none := rfl
@[go_sem] theorem lastOf_skip : lastOf .skip = none := rfl
@[go_sem] theorem lastOf_exit : lastOf (.exit id) = none := rfl
@[go_sem] theorem lastOf_scope : lastOf (.scope y) = none := rfl
@[go_sem] theorem stops_nil : stops [] y = false := by unfold stops; split <;> rfl
theorem stops_def : stops S y = match lastOf y with
  | some id => S.contains id
  | none => false := rfl
@[go_sem] theorem unscoped_normal : unscoped Q .normal st = Q .normal st := rfl
@[go_sem] theorem unscoped_exit : unscoped Q (.exit id) st = Q (.exit id) st := rfl
@[go_sem] theorem unscoped_ret : unscoped Q .ret st = Q .ret st := rfl
@[go_sem] theorem inA_normal : inA id Q .normal st = Q .normal st := rfl
@[go_sem] theorem inA_exit {id' : Nat} : inA id Q (.exit id') st = if id' = id then Q .normal st else Q (.exit id') st := rfl
@[go_sem] theorem inA_ret : inA id Q .ret st = Q .ret st := rfl
@[go_sem] theorem thenA_normal : thenA K Q .normal st = K st := rfl
@[go_sem] theorem thenA_exit : thenA K Q (.exit id) st = Q (.exit id) st := rfl
@[go_sem] theorem thenA_ret : thenA K Q .ret st = Q .ret st := rfl
@[go_sem] theorem again_exit {α : Type} {I : α → Sh} {μ : α → Nat} {i : α} : again I μ i Q (.exit id) st = Q (.exit id) st := rfl
@[go_sem] theorem again_normal {α : Type} {I : α → Sh} {μ : α → Nat} {i : α} : again I μ i Q .normal st = ∃ j, (I j).fits st ∧ μ j < μ i := rfl
@[go_sem] theorem again_ret {α : Type} {I : α → Sh} {μ : α → Nat} {i : α} : again I μ i Q .ret st = Q .ret st := rfl
@[go_sem] theorem retQ_normal {l : List ResultVar} {r : AV} : retQ P l r .normal st = retOK P l r st := rfl
@[go_sem] theorem retQ_ret {l : List ResultVar} {r : AV} : retQ P l r .ret st = retOK P l r st := rfl

@[go_sem] theorem gam_nil (f : Nat) : gam [] f = none := rfl
@[go_sem] theorem gam_cons (f g : Nat) (s : Con) (r : List (Nat × Con)) : gam ((g, s) :: r) f = if f = g then some s else gam r f := rfl
@[go_sem] theorem meet_exit {s : Sh} : meet s Q (.exit id) st = Q (.exit id) st := rfl
@[go_sem] theorem meet_ret {s : Sh} : meet s Q .ret st = Q .ret st := rfl
@[go_sem] theorem meet_normal {s : Sh} : meet s Q .normal st = s.fits st := rfl
@[go_sem] theorem meets_exit {α : Type} {s : α → Sh} : meets s Q (.exit id) st = Q (.exit id) st := rfl
@[go_sem] theorem meets_ret {α : Type} {s : α → Sh} : meets s Q .ret st = Q .ret st := rfl
@[go_sem] theorem meets_normal {α : Type} {s : α → Sh} : meets s Q .normal st = ∃ i, (s i).fits st := rfl
@[go_sem] theorem frm_nil (t : Nat) : frm [] t = .any := rfl
@[go_sem] theorem frm_cons (d : Nat) (x : AV) (r : List (Nat × AV)) (t : Nat) : frm ((d, x) :: r) t = if t = d then x else frm r t := rfl
@[go_sem] theorem rws_nil (t : Nat) : rws [] t = .dead := rfl
@[go_sem] theorem rws_cons (d : Nat) (x : Row) (r : List (Nat × Row)) (t : Nat) : rws ((d, x) :: r) t = if t = d then x else rws r t := rfl
end

section
variable {P : Program} {st : AS} (x y z : AV) (r s t : ResultVar)
@[go_sem] theorem retOK_no : retOK P [] (.val (.tuple #[])) st = (st.df = []) := by simp [retOK]
@[go_sem] theorem retOK_one : retOK P [r] x st = (st.df = [] ∧ rOK P st r x) := rfl
@[go_sem] theorem retOK_two : retOK P [r, s] (tu2 x y) st = (st.df = [] ∧ rOK P st r x ∧ rOK P st s y) := by
  refine propext ⟨?_, fun h => ⟨h.1, _, rfl, h.2.1, h.2.2⟩⟩
  rintro ⟨h, c, hc, h1, h2⟩
  unfold tu2 at hc
  injection hc with _ hc
  subst hc
  exact ⟨h, h1, h2⟩
@[go_sem] theorem retOK_three : retOK P [r, s, t] (tu3 x y z) st = (st.df = [] ∧ rOK P st r x ∧ rOK P st s y ∧ rOK P st t z) := by
  refine propext ⟨?_, fun h => ⟨h.1, _, rfl, h.2.1, h.2.2.1, h.2.2.2⟩⟩
  rintro ⟨h, c, hc, h1, h2, h3⟩
  unfold tu3 at hc
  injection hc with _ hc
  subst hc
  exact ⟨h, h1, h2, h3⟩
@[go_sem high] theorem aExtract_tu2 (i : Nat) : aExtract (tu2 x y) i = some (i < 2, if i = 0 then x else y) := rfl
@[go_sem high] theorem aExtract_tu3 (i : Nat) : aExtract (tu3 x y z) i = some (i < 3, if i = 0 then x else if i = 1 then y else z) := rfl
@[go_sem] theorem scal_tu2 : scal (tu2 x y) = (sc x = true ∧ sc y = true) := by
  refine propext ⟨fun h => ⟨h 0 (by decide), h 1 (by decide)⟩, fun h j hj => ?_⟩
  match j, hj with
  | 0, _ => exact h.1
  | 1, _ => exact h.2
@[go_sem] theorem scal_tu3 : scal (tu3 x y z) = (sc x = true ∧ sc y = true ∧ sc z = true) := by
  refine propext ⟨fun h => ⟨h 0 (by decide), h 1 (by decide), h 2 (by decide)⟩, fun h j hj => ?_⟩
  match j, hj with
  | 0, _ => exact h.1
  | 1, _ => exact h.2.1
  | 2, _ => exact h.2.2
@[go_sem] theorem scal_val (v : Value) : scal (.val v) = True := eq_true rfl
@[go_sem] theorem scal_st (v : List UInt8) : scal (.st v) = True := eq_true rfl
@[go_sem] theorem scal_em : scal .em = True := eq_true rfl
@[go_sem] theorem sc_val (v : Value) : sc (.val v) = true := rfl
@[go_sem] theorem sc_st (v : List UInt8) : sc (.st v) = true := rfl
@[go_sem] theorem sc_em : sc .em = true := rfl
end

section
variable {g : Bool} {ev : Operand → AV} {c x y : Operand}
@[go_sem] theorem evG_pick (t u : Nat) : evG g (.pick (.tmp t) x y) ev (.tmp u) = if u = t then stripG g (ev (.tmp u)) else relG g (ev (.tmp u)) := rfl
@[go_sem] theorem evG_pick_const (t : Nat) (v : Value) : evG g (.pick (.tmp t) x y) ev (.const v) = stripG g (ev (.const v)) := rfl
@[go_sem low] theorem evG_other (op : Op) (o : Operand) (h : ∀ t x y, op ≠ .pick (.tmp t) x y) : evG g op ev o = stripG g (ev o) := by
  unfold evG
  split
  · exact absurd rfl (h _ _ _)
  · rfl
@[go_sem] theorem relG_gd (b : Bool) (z : AV) : relG g (.gd b z) = .gd (!g || b) z := rfl
@[go_sem] theorem relG_val (v : Value) : relG g (.val v) = .val v := rfl
end
attribute [go_sem] Bool.not_or_self ne_eq
section
variable (g : Bool) (x : AV)
@[go_sem] theorem stripG_self : stripG g (.gd g x) = x := by cases g <;> rfl
@[go_sem] theorem stripG_left (b : Bool) : stripG (g && b) (.gd g x) = x := by cases g <;> cases b <;> rfl
@[go_sem] theorem stripG_right (b : Bool) : stripG (b && g) (.gd g x) = x := by cases g <;> cases b <;> rfl
@[go_sem] theorem stripG_any : stripG g .any = .any := rfl
@[go_sem] theorem stripG_val (v : Value) : stripG g (.val v) = .val v := rfl
@[go_sem] theorem stripG_st (l : List UInt8) : stripG g (.st l) = .st l := rfl
@[go_sem] theorem stripG_em : stripG g .em = .em := rfl
@[go_sem] theorem stripG_sn (n sz : Nat) (c : Nat → Nat → AV) : stripG g (.sn n sz c) = .sn n sz c := rfl
@[go_sem] theorem stripG_ps (m : Nat) (c : Nat → AV) : stripG g (.ps m c) = .ps m c := rfl
@[go_sem] theorem stripG_ow (p v n : Nat) : stripG g (.ow p v n) = .ow p v n := rfl
@[go_sem] theorem stripG_pt (p v j : Nat) : stripG g (.pt p v j) = .pt p v j := rfl
@[go_sem] theorem stripG_pe (p v s i j : Nat) : stripG g (.pe p v s i j) = .pe p v s i j := rfl
@[go_sem] theorem stripG_ag (m : Nat) (c : Nat → AV) : stripG g (.ag m c) = .ag m c := rfl
@[go_sem] theorem stripG_tu (m : Nat) (c : Nat → AV) : stripG g (.tu m c) = .tu m c := rfl
@[go_sem] theorem stripG_sL {α : Type} (E : El α) (l : List α) : stripG g (sL E l) = sL E l := rfl
@[go_sem] theorem guard_tt (b : Bool) : guardVal (.val (.bool b)) true = some b := rfl
@[go_sem] theorem guard_tf (b : Bool) : guardVal (.val (.bool b)) false = some (!b) := rfl
@[go_sem] theorem guard_gt (h b : Bool) : guardVal (.gd h (.val (.bool b))) true = some (h && b) := rfl
@[go_sem] theorem guard_gf (h b : Bool) : guardVal (.gd h (.val (.bool b))) false = some (h && !b) := rfl

@[go_sem] theorem updO_some (f : Nat → AV) (d : Nat) (v : AV) : updO f (some d) v = updA f d v := rfl
@[go_sem] theorem updO_none (f : Nat → AV) (v : AV) : updO f none v = f := rfl
@[go_sem] theorem updA_eq (f : Nat → AV) (d : Nat) (v : AV) (t : Nat) : updA f d v t = if t = d then v else f t := rfl
@[go_sem] theorem updR_eq (f : Nat → Row) (d : Nat) (v : Row) (t : Nat) : updR f d v t = if t = d then v else f t := rfl
@[go_sem] theorem dst_some (n d : Nat) : dstOK n (some d) = (d < n) := rfl
@[go_sem] theorem dst_none (n : Nat) : dstOK n none = True := rfl
@[go_sem] theorem put_row_dead (st : AS) (d : Option Tmp) (z : AV) : st.put d z .dead = ⟨updO st.fr d z, st.hp, st.sz, st.top, st.nx, st.df⟩ := rfl
@[go_sem] theorem put_row_box (st : AS) (d : Option Tmp) (z : AV) (v e m : Nat) (c : Nat → AV) : st.put d z (.box v e m c) = ⟨updO st.fr d z, updR st.hp st.top (.box v e m c), st.sz, st.top + 1, st.nx + 1, st.df⟩ := rfl
@[go_sem] theorem put_row_sl (st : AS) (d : Option Tmp) (z : AV) (v e s n : Nat) (c : Nat → Nat → AV) : st.put d z (.sl v e s n c) = ⟨updO st.fr d z, updR st.hp st.top (.sl v e s n c), st.sz, st.top + 1, st.nx + 1, st.df⟩ := rfl
@[go_sem] theorem ev_tmp (st : AS) (t : Nat) : st.ev (.tmp t) = st.fr t := rfl
@[go_sem] theorem ev_const (st : AS) (v : Value) : st.ev (.const v) = kAV v := rfl
@[go_sem] theorem ev_func (st : AS) (f : Nat) : st.ev (.func f) = .val (.func (.func f) #[] #[]) := rfl
@[go_sem] theorem ev_global (st : AS) (f : Nat) : st.ev (.global f) = .val (.pointer (some ⟨f, 0, none⟩)) := rfl
@[go_sem] theorem kAV_int (k : IntKind) (n : Int) : kAV (.int k n) = .val (.int k n) := rfl
@[go_sem] theorem kAV_bool (b : Bool) : kAV (.bool b) = .val (.bool b) := rfl
@[go_sem] theorem kAV_string (s : ByteArray) : kAV (.string s) = .st s.data.toList := rfl
@[go_sem] theorem kAV_nil : kAV (.slice none 0 0) = .em := rfl
end
section
variable {P : Program} {ev : Operand → AV} {op : BinOp} {t : TypeId} {x : Operand}
@[go_sem] theorem aBinO_tmp (y : Nat) : aBinO P ev op t x (.tmp y) = aBin P op t (ev x) (ev (.tmp y)) := by cases op <;> rfl
@[go_sem] theorem aBinO_int (k : IntKind) (n : Int) : aBinO P ev op t x (.const (.int k n)) = aBin P op t (ev x) (ev (.const (.int k n))) := by cases op <;> rfl
@[go_sem] theorem aBinO_bool (n : Bool) : aBinO P ev op t x (.const (.bool n)) = aBin P op t (ev x) (ev (.const (.bool n))) := by cases op <;> rfl
@[go_sem] theorem aBinO_string (n : ByteArray) : aBinO P ev op t x (.const (.string n)) = aBin P op t (ev x) (ev (.const (.string n))) := by cases op <;> rfl
@[go_sem] theorem aBinO_nil : aBinO P ev .eql t x (.const (.slice none 0 0)) = aIsNil P t (ev x) := rfl
@[go_sem] theorem aBinO_agg (n : Array Value) : aBinO P ev op t x (.const (.agg n)) = aBin P op t (ev x) (ev (.const (.agg n))) := by cases op <;> rfl
end
attribute [go_sem] ends exits quiet aI64 aInt aStr isG aop apure bd aCall
attribute [go_sem low] stops_def aBin.eq_def aPick.eq_def aUn.eq_def aLen.eq_def aLookup.eq_def aSlice3.eq_def aLoad.eq_def aFieldAddr.eq_def aIndexAddr.eq_def aIndex.eq_def aExtract.eq_def aField.eq_def aSlice.eq_def aConv.eq_def aMin.eq_def aMax.eq_def aNil.eq_def
attribute [go_sem] rOK st0 Sh.st Sh.fits List.contains_cons List.contains_nil
attribute [go_sem] Spec.f0 Spec.f1 Spec.f2 Spec.f3 Spec.f4
/-- Trivial: -/
@[go_sem] theorem kI_enc (n : Int) : kI.enc n = .val (.int .i64 n) := rfl
@[go_sem] theorem kB_enc (n : Bool) : kB.enc n = .val (.bool n) := rfl
@[go_sem] theorem kS_enc (n : List UInt8) : kS.enc n = .st n := rfl
@[go_sem] theorem kL_enc {α : Type} (E : El α) (l : List α) : (kL E).enc l = sL E l := rfl
@[go_sem] theorem kI_dec (n : Int) : kI.dec (.val (.int .i64 n)) = n := rfl
@[go_sem] theorem kB_dec (n : Bool) : kB.dec (.val (.bool n)) = n := rfl
@[go_sem] theorem kS_dec (n : List UInt8) : kS.dec (.st n) = n := rfl
@[go_sem] theorem kL_dec {α : Type} (E : El α) (l : List α) : (kL E).dec (sL E l) = l := gL_sL E l
@[go_sem] theorem kI_ok (n : Int) : kI.ok (.val (.int .i64 n)) = True := eq_true (kI.ok_enc n)
@[go_sem] theorem kB_ok (n : Bool) : kB.ok (.val (.bool n)) = True := eq_true (kB.ok_enc n)
@[go_sem] theorem kS_ok (n : List UInt8) : kS.ok (.st n) = True := eq_true (kS.ok_enc n)
@[go_sem] theorem kL_ok {α : Type} (E : El α) (l : List α) : (kL E).ok (sL E l) = True := eq_true ((kL E).ok_enc l)
@[go_sem] theorem kL_ok_em {α : Type} (E : El α) : (kL E).ok .em = True := eq_true (em_sL E)
@[go_sem] theorem kL_dec_em {α : Type} (E : El α) : (kL E).dec .em = [] := rfl

/-! ### lists -/
section
variable {α : Type} (E : El α) (l : List α)
@[go_sem high] theorem aLen_sL {P : Program} {t : TypeId} : aLen P t (sL E l) = match P.underlying t with
    | some (.slice _) => some (True, .val (.int .i64 l.length))
    | _ => none := by
  unfold aLen sL
  generalize P.underlying t = u
  cases u with
  | none => rfl
  | some d => cases d <;> rfl
@[go_sem] theorem aLenM_sL {P : Program} {hp : Nat → Row} {t : TypeId} : aLenM P hp t (sL E l) = aLen P t (sL E l) := rfl
@[go_sem high] theorem aSlice_sL {P : Program} {t : TypeId} (lo hi : Option AV) : aSlice P t (sL E l) lo hi = match P.underlying t with
    | some (.slice e) => match bd 0 lo, bd l.length hi with
      | some a, some b => some (P.cellsOf e = E.sz ∧ 0 < E.sz ∧ 0 ≤ a ∧ a ≤ b ∧ b ≤ l.length, .sn (b.toNat - a.toNat) E.sz fun i => E.enc (l.getD (a.toNat + i) E.dflt))
      | _, _ => none
    | _ => none := by
  unfold aSlice sL
  generalize P.underlying t = u
  cases u with
  | none => rfl
  | some d => cases d <;> rfl
@[go_sem] theorem kL_dec_sn (n s : Nat) (f : Nat → α) : (kL E).dec (.sn n s fun i => E.enc (f i)) = (List.range n).map f := by
  simp [kL, gL, E.law]
theorem sn_le (n : Nat) (f : Nat → α) (g : List α) (h : g = (List.range n).map f) : AVle (.sn n E.sz fun i => E.enc (f i)) (sL E g) := by
  subst h
  unfold sL
  rw [show ((List.range n).map f).length = n by simp]
  refine AVle.sn fun i hi j _ => AVle.of_eq ?_
  simp [List.getD, hi]
@[go_sem] theorem kL_ok_sn (n s : Nat) (f : Nat → α) (h : E.sz = s) : (kL E).ok (.sn n s fun i => E.enc (f i)) = True := by
  subst h
  refine eq_true ?_
  show AVle _ _
  rw [kL_dec_sn]
  exact sn_le E n f _ rfl
@[go_sem high] theorem aIndexAddr_sL {P : Program} {hp : Nat → Row} {t : TypeId} (k : Int) :
    aIndexAddr P hp t (sL E l) (.val (.int .i64 k)) = match P.underlying t with
    | some (.slice e) => some (P.cellsOf e = E.sz ∧ 0 < E.sz ∧ 0 ≤ k ∧ k < l.length, .ps E.sz (E.enc (l.getD k.toNat E.dflt)))
    | _ => none := by
  unfold aIndexAddr sL
  generalize P.underlying t = u
  cases u with
  | none => rfl
  | some d => cases d <;> rfl
@[go_sem] theorem vw_sL (hp : Nat → Row) : vw hp (sL E l) = sL E l := rfl
@[go_sem] theorem vwP_sL (hp : Nat → Row) : vwP hp (sL E l) = True := eq_true rfl
@[go_sem] theorem vwO_sL : vwO (sL E l) = false := rfl
end
@[go_sem] theorem eI_sz : eI.sz = 1 := (rfl)
@[go_sem] theorem eB_sz : eB.sz = 1 := (rfl)
@[go_sem] theorem eS_sz : eS.sz = 1 := (rfl)
@[go_sem] theorem eL_sz {α : Type} (E : El α) : (eL E).sz = 1 := (rfl)
@[go_sem] theorem eI_enc (n : Int) (j : Nat) : eI.enc n j = .val (.int .i64 n) := rfl
@[go_sem] theorem eB_enc (n : Bool) (j : Nat) : eB.enc n j = .val (.bool n) := rfl
@[go_sem] theorem eS_enc (n : List UInt8) (j : Nat) : eS.enc n j = .st n := rfl
@[go_sem] theorem eL_enc {α : Type} (E : El α) (n : List α) (j : Nat) : (eL E).enc n j = sL E n := rfl
@[go_sem] theorem eI_d : eI.dflt = 0 := rfl
@[go_sem] theorem eB_d : eB.dflt = false := rfl
@[go_sem] theorem eS_d : eS.dflt = [] := rfl
@[go_sem] theorem eL_d {α : Type} (E : El α) : (eL E).dflt = [] := rfl

section
variable {P : Program} {hp : Nat → Row} {t : TypeId}
@[go_sem] theorem aLenM_sn (n s : Nat) (c : Nat → Nat → AV) : aLenM P hp t (.sn n s c) = aLen P t (.sn n s c) := rfl
@[go_sem] theorem aLenM_st (l : List UInt8) : aLenM P hp t (.st l) = aLen P t (.st l) := rfl
@[go_sem] theorem aLenM_em : aLenM P hp t .em = aLen P t .em := rfl
@[go_sem] theorem aLenM_ow (p v n : Nat) : aLenM P hp t (.ow p v n) = aLen P t (.ow p v n) := rfl
@[go_sem] theorem aLenM_mp (p ver : Nat) : aLenM P hp t (.mp p ver) = match P.underlying t, hp p with
    | some (.map _ _), .mp v _ n _ => some (v = ver, .val (.int .i64 n))
    | _, _ => none := rfl
end
/-- Is there one below? -/
def anyLt (n : Nat) (f : Nat → Bool) : Bool := (List.range n).any f
section
variable (hp : Nat → Row)
@[go_sem] theorem vwA_sn (n s : Nat) (c : Nat → Nat → AV) : vwA hp (.sn n s c) = True := rfl
@[go_sem] theorem vwA_sL {α : Type} {E : El α} {l : List α} : vwA hp (sL E l) = True := rfl
@[go_sem] theorem vwA_em : vwA hp .em = True := rfl
@[go_sem] theorem vwA_ow (p v n : Nat) : vwA hp (.ow p v n) = match hp p with
    | .sl v' _ _ n' _ => v' = v ∧ n ≤ n'
    | _ => False := rfl
@[go_sem] theorem vw_val (v : Value) : vw hp (.val v) = .val v := rfl
@[go_sem] theorem vw_st (l : List UInt8) : vw hp (.st l) = .st l := rfl
@[go_sem] theorem vw_em : vw hp .em = .em := rfl
@[go_sem] theorem vw_sn (n s : Nat) (c : Nat → Nat → AV) : vw hp (.sn n s c) = .sn n s c := rfl
@[go_sem] theorem vw_ps (n : Nat) (c : Nat → AV) : vw hp (.ps n c) = .ps n c := rfl
@[go_sem] theorem vw_ag (n : Nat) (c : Nat → AV) : vw hp (.ag n c) = .ag n fun j => if j < n then vw0 hp (c j) else .any := rfl
@[go_sem] theorem vw0_val (v : Value) : vw0 hp (.val v) = .val v := rfl
@[go_sem] theorem vw0_st (l : List UInt8) : vw0 hp (.st l) = .st l := rfl
@[go_sem] theorem vw0_em : vw0 hp .em = .em := rfl
@[go_sem] theorem vw0_sn (n s : Nat) (c : Nat → Nat → AV) : vw0 hp (.sn n s c) = .sn n s c := rfl
@[go_sem] theorem vw0_sL {α : Type} {E : El α} {l : List α} : vw0 hp (sL E l) = sL E l := rfl
@[go_sem] theorem vwQ_val (v : Value) : vwQ hp (.val v) = True := eq_true ⟨rfl, .inl rfl⟩
@[go_sem] theorem vwQ_st (l : List UInt8) : vwQ hp (.st l) = True := eq_true ⟨rfl, .inl rfl⟩
@[go_sem] theorem vwQ_em : vwQ hp .em = True := eq_true ⟨rfl, .inl rfl⟩
@[go_sem] theorem vwQ_sn (n s : Nat) (c : Nat → Nat → AV) : vwQ hp (.sn n s c) = True := eq_true ⟨rfl, .inl rfl⟩
@[go_sem] theorem vwQ_sL {α : Type} {E : El α} {l : List α} : vwQ hp (sL E l) = True := eq_true ⟨rfl, .inl rfl⟩
@[go_sem] theorem vwO0_val (v : Value) : vwO0 (.val v) = false := rfl
@[go_sem] theorem vwO0_st (l : List UInt8) : vwO0 (.st l) = false := rfl
@[go_sem] theorem vwO0_em : vwO0 .em = false := rfl
@[go_sem] theorem vwO0_sn (n s : Nat) (c : Nat → Nat → AV) : vwO0 (.sn n s c) = false := rfl
@[go_sem] theorem vwO0_sL {α : Type} {E : El α} {l : List α} : vwO0 (sL E l) = false := rfl
@[go_sem] theorem vwO0_ow (p v n : Nat) : vwO0 (.ow p v n) = true := rfl
@[go_sem] theorem vwP_val (v : Value) : vwP hp (.val v) = True := eq_true rfl
@[go_sem] theorem vwP_st (l : List UInt8) : vwP hp (.st l) = True := eq_true rfl
@[go_sem] theorem vwP_em : vwP hp .em = True := eq_true rfl
@[go_sem] theorem vwP_sn (n s : Nat) (c : Nat → Nat → AV) : vwP hp (.sn n s c) = True := eq_true rfl
@[go_sem] theorem vwP_ps (n : Nat) (c : Nat → AV) : vwP hp (.ps n c) = True := eq_true rfl
@[go_sem] theorem vwP_ag (n : Nat) (c : Nat → AV) : vwP hp (.ag n c) = ∀ j, j < n → vwQ hp (c j) := rfl
@[go_sem] theorem vwO_val (v : Value) : vwO (.val v) = false := rfl
@[go_sem] theorem vwO_st (l : List UInt8) : vwO (.st l) = false := rfl
@[go_sem] theorem vwO_em : vwO .em = false := rfl
@[go_sem] theorem vwO_sn (n s : Nat) (c : Nat → Nat → AV) : vwO (.sn n s c) = false := rfl
@[go_sem] theorem vwO_ps (n : Nat) (c : Nat → AV) : vwO (.ps n c) = false := rfl
@[go_sem] theorem vwO_ag (n : Nat) (c : Nat → AV) : vwO (.ag n c) = anyLt n fun j => vwO0 (c j) := rfl
@[go_sem] theorem all_lt_0 (f : Nat → Prop) : (∀ j, j < 0 → f j) = True := eq_true fun j h => absurd h (Nat.not_lt_zero j)
@[go_sem] theorem all_lt_1 (f : Nat → Prop) : (∀ j, j < 1 → f j) = f 0 := propext ⟨fun h => h 0 (by omega), fun h j hj => by
  match j, hj with
  | 0, _ => exact h⟩
@[go_sem] theorem all_lt_2 (f : Nat → Prop) : (∀ j, j < 2 → f j) = (f 0 ∧ f 1) := propext ⟨fun h => ⟨h 0 (by omega), h 1 (by omega)⟩, fun h j hj => by
  match j, hj with
  | 0, _ => exact h.1
  | 1, _ => exact h.2⟩
@[go_sem] theorem all_lt_3 (f : Nat → Prop) : (∀ j, j < 3 → f j) = (f 0 ∧ f 1 ∧ f 2) := propext ⟨fun h => ⟨h 0 (by omega), h 1 (by omega), h 2 (by omega)⟩, fun h j hj => by
  match j, hj with
  | 0, _ => exact h.1
  | 1, _ => exact h.2.1
  | 2, _ => exact h.2.2⟩
@[go_sem] theorem all_lt_4 (f : Nat → Prop) : (∀ j, j < 4 → f j) = (f 0 ∧ f 1 ∧ f 2 ∧ f 3) := propext ⟨fun h => ⟨h 0 (by omega), h 1 (by omega), h 2 (by omega), h 3 (by omega)⟩, fun h j hj => by
  match j, hj with
  | 0, _ => exact h.1
  | 1, _ => exact h.2.1
  | 2, _ => exact h.2.2.1
  | 3, _ => exact h.2.2.2⟩
@[go_sem] theorem all_lt_5 (f : Nat → Prop) : (∀ j, j < 5 → f j) = (f 0 ∧ f 1 ∧ f 2 ∧ f 3 ∧ f 4) := propext ⟨fun h => ⟨h 0 (by omega), h 1 (by omega), h 2 (by omega), h 3 (by omega), h 4 (by omega)⟩, fun h j hj => by
  match j, hj with
  | 0, _ => exact h.1
  | 1, _ => exact h.2.1
  | 2, _ => exact h.2.2.1
  | 3, _ => exact h.2.2.2.1
  | 4, _ => exact h.2.2.2.2⟩
@[go_sem] theorem all_lt_6 (f : Nat → Prop) : (∀ j, j < 6 → f j) = (f 0 ∧ f 1 ∧ f 2 ∧ f 3 ∧ f 4 ∧ f 5) := propext ⟨fun h => ⟨h 0 (by omega), h 1 (by omega), h 2 (by omega), h 3 (by omega), h 4 (by omega), h 5 (by omega)⟩, fun h j hj => by
  match j, hj with
  | 0, _ => exact h.1
  | 1, _ => exact h.2.1
  | 2, _ => exact h.2.2.1
  | 3, _ => exact h.2.2.2.1
  | 4, _ => exact h.2.2.2.2.1
  | 5, _ => exact h.2.2.2.2.2⟩
@[go_sem] theorem all_lt_7 (f : Nat → Prop) : (∀ j, j < 7 → f j) = (f 0 ∧ f 1 ∧ f 2 ∧ f 3 ∧ f 4 ∧ f 5 ∧ f 6) := propext ⟨fun h => ⟨h 0 (by omega), h 1 (by omega), h 2 (by omega), h 3 (by omega), h 4 (by omega), h 5 (by omega), h 6 (by omega)⟩, fun h j hj => by
  match j, hj with
  | 0, _ => exact h.1
  | 1, _ => exact h.2.1
  | 2, _ => exact h.2.2.1
  | 3, _ => exact h.2.2.2.1
  | 4, _ => exact h.2.2.2.2.1
  | 5, _ => exact h.2.2.2.2.2.1
  | 6, _ => exact h.2.2.2.2.2.2⟩
@[go_sem] theorem all_lt_8 (f : Nat → Prop) : (∀ j, j < 8 → f j) = (f 0 ∧ f 1 ∧ f 2 ∧ f 3 ∧ f 4 ∧ f 5 ∧ f 6 ∧ f 7) := propext ⟨fun h => ⟨h 0 (by omega), h 1 (by omega), h 2 (by omega), h 3 (by omega), h 4 (by omega), h 5 (by omega), h 6 (by omega), h 7 (by omega)⟩, fun h j hj => by
  match j, hj with
  | 0, _ => exact h.1
  | 1, _ => exact h.2.1
  | 2, _ => exact h.2.2.1
  | 3, _ => exact h.2.2.2.1
  | 4, _ => exact h.2.2.2.2.1
  | 5, _ => exact h.2.2.2.2.2.1
  | 6, _ => exact h.2.2.2.2.2.2.1
  | 7, _ => exact h.2.2.2.2.2.2.2⟩
@[go_sem] theorem all_lt_9 (f : Nat → Prop) : (∀ j, j < 9 → f j) = (f 0 ∧ f 1 ∧ f 2 ∧ f 3 ∧ f 4 ∧ f 5 ∧ f 6 ∧ f 7 ∧ f 8) := propext ⟨fun h => ⟨h 0 (by omega), h 1 (by omega), h 2 (by omega), h 3 (by omega), h 4 (by omega), h 5 (by omega), h 6 (by omega), h 7 (by omega), h 8 (by omega)⟩, fun h j hj => by
  match j, hj with
  | 0, _ => exact h.1
  | 1, _ => exact h.2.1
  | 2, _ => exact h.2.2.1
  | 3, _ => exact h.2.2.2.1
  | 4, _ => exact h.2.2.2.2.1
  | 5, _ => exact h.2.2.2.2.2.1
  | 6, _ => exact h.2.2.2.2.2.2.1
  | 7, _ => exact h.2.2.2.2.2.2.2.1
  | 8, _ => exact h.2.2.2.2.2.2.2.2⟩
@[go_sem] theorem all_lt_10 (f : Nat → Prop) : (∀ j, j < 10 → f j) = (f 0 ∧ f 1 ∧ f 2 ∧ f 3 ∧ f 4 ∧ f 5 ∧ f 6 ∧ f 7 ∧ f 8 ∧ f 9) := propext ⟨fun h => ⟨h 0 (by omega), h 1 (by omega), h 2 (by omega), h 3 (by omega), h 4 (by omega), h 5 (by omega), h 6 (by omega), h 7 (by omega), h 8 (by omega), h 9 (by omega)⟩, fun h j hj => by
  match j, hj with
  | 0, _ => exact h.1
  | 1, _ => exact h.2.1
  | 2, _ => exact h.2.2.1
  | 3, _ => exact h.2.2.2.1
  | 4, _ => exact h.2.2.2.2.1
  | 5, _ => exact h.2.2.2.2.2.1
  | 6, _ => exact h.2.2.2.2.2.2.1
  | 7, _ => exact h.2.2.2.2.2.2.2.1
  | 8, _ => exact h.2.2.2.2.2.2.2.2.1
  | 9, _ => exact h.2.2.2.2.2.2.2.2.2⟩
@[go_sem] theorem all_lt_11 (f : Nat → Prop) : (∀ j, j < 11 → f j) = (f 0 ∧ f 1 ∧ f 2 ∧ f 3 ∧ f 4 ∧ f 5 ∧ f 6 ∧ f 7 ∧ f 8 ∧ f 9 ∧ f 10) := propext ⟨fun h => ⟨h 0 (by omega), h 1 (by omega), h 2 (by omega), h 3 (by omega), h 4 (by omega), h 5 (by omega), h 6 (by omega), h 7 (by omega), h 8 (by omega), h 9 (by omega), h 10 (by omega)⟩, fun h j hj => by
  match j, hj with
  | 0, _ => exact h.1
  | 1, _ => exact h.2.1
  | 2, _ => exact h.2.2.1
  | 3, _ => exact h.2.2.2.1
  | 4, _ => exact h.2.2.2.2.1
  | 5, _ => exact h.2.2.2.2.2.1
  | 6, _ => exact h.2.2.2.2.2.2.1
  | 7, _ => exact h.2.2.2.2.2.2.2.1
  | 8, _ => exact h.2.2.2.2.2.2.2.2.1
  | 9, _ => exact h.2.2.2.2.2.2.2.2.2.1
  | 10, _ => exact h.2.2.2.2.2.2.2.2.2.2⟩
@[go_sem] theorem all_lt_12 (f : Nat → Prop) : (∀ j, j < 12 → f j) = (f 0 ∧ f 1 ∧ f 2 ∧ f 3 ∧ f 4 ∧ f 5 ∧ f 6 ∧ f 7 ∧ f 8 ∧ f 9 ∧ f 10 ∧ f 11) := propext ⟨fun h => ⟨h 0 (by omega), h 1 (by omega), h 2 (by omega), h 3 (by omega), h 4 (by omega), h 5 (by omega), h 6 (by omega), h 7 (by omega), h 8 (by omega), h 9 (by omega), h 10 (by omega), h 11 (by omega)⟩, fun h j hj => by
  match j, hj with
  | 0, _ => exact h.1
  | 1, _ => exact h.2.1
  | 2, _ => exact h.2.2.1
  | 3, _ => exact h.2.2.2.1
  | 4, _ => exact h.2.2.2.2.1
  | 5, _ => exact h.2.2.2.2.2.1
  | 6, _ => exact h.2.2.2.2.2.2.1
  | 7, _ => exact h.2.2.2.2.2.2.2.1
  | 8, _ => exact h.2.2.2.2.2.2.2.2.1
  | 9, _ => exact h.2.2.2.2.2.2.2.2.2.1
  | 10, _ => exact h.2.2.2.2.2.2.2.2.2.2.1
  | 11, _ => exact h.2.2.2.2.2.2.2.2.2.2.2⟩
@[go_sem] theorem any_lt_1 (f : Nat → Bool) : anyLt 1 f = (f 0) := by simp [anyLt, List.range, List.range.loop, Bool.or_assoc]
@[go_sem] theorem any_lt_2 (f : Nat → Bool) : anyLt 2 f = (f 0 || f 1) := by simp [anyLt, List.range, List.range.loop, Bool.or_assoc]
@[go_sem] theorem any_lt_3 (f : Nat → Bool) : anyLt 3 f = (f 0 || f 1 || f 2) := by simp [anyLt, List.range, List.range.loop, Bool.or_assoc]
@[go_sem] theorem any_lt_4 (f : Nat → Bool) : anyLt 4 f = (f 0 || f 1 || f 2 || f 3) := by simp [anyLt, List.range, List.range.loop, Bool.or_assoc]
@[go_sem] theorem any_lt_5 (f : Nat → Bool) : anyLt 5 f = (f 0 || f 1 || f 2 || f 3 || f 4) := by simp [anyLt, List.range, List.range.loop, Bool.or_assoc]
@[go_sem] theorem any_lt_6 (f : Nat → Bool) : anyLt 6 f = (f 0 || f 1 || f 2 || f 3 || f 4 || f 5) := by simp [anyLt, List.range, List.range.loop, Bool.or_assoc]
@[go_sem] theorem any_lt_7 (f : Nat → Bool) : anyLt 7 f = (f 0 || f 1 || f 2 || f 3 || f 4 || f 5 || f 6) := by simp [anyLt, List.range, List.range.loop, Bool.or_assoc]
@[go_sem] theorem any_lt_8 (f : Nat → Bool) : anyLt 8 f = (f 0 || f 1 || f 2 || f 3 || f 4 || f 5 || f 6 || f 7) := by simp [anyLt, List.range, List.range.loop, Bool.or_assoc]
@[go_sem] theorem any_lt_9 (f : Nat → Bool) : anyLt 9 f = (f 0 || f 1 || f 2 || f 3 || f 4 || f 5 || f 6 || f 7 || f 8) := by simp [anyLt, List.range, List.range.loop, Bool.or_assoc]
@[go_sem] theorem any_lt_10 (f : Nat → Bool) : anyLt 10 f = (f 0 || f 1 || f 2 || f 3 || f 4 || f 5 || f 6 || f 7 || f 8 || f 9) := by simp [anyLt, List.range, List.range.loop, Bool.or_assoc]
@[go_sem] theorem any_lt_11 (f : Nat → Bool) : anyLt 11 f = (f 0 || f 1 || f 2 || f 3 || f 4 || f 5 || f 6 || f 7 || f 8 || f 9 || f 10) := by simp [anyLt, List.range, List.range.loop, Bool.or_assoc]
@[go_sem] theorem any_lt_12 (f : Nat → Bool) : anyLt 12 f = (f 0 || f 1 || f 2 || f 3 || f 4 || f 5 || f 6 || f 7 || f 8 || f 9 || f 10 || f 11) := by simp [anyLt, List.range, List.range.loop, Bool.or_assoc]
@[go_sem] theorem flat_val (v : Value) : (AV.val v).flat = true := rfl
@[go_sem] theorem flat_st (l : List UInt8) : (AV.st l).flat = true := rfl
@[go_sem] theorem flat_em : AV.em.flat = true := rfl
@[go_sem] theorem flat_sn (n s : Nat) (c : Nat → Nat → AV) : (AV.sn n s c).flat = true := rfl
@[go_sem] theorem flat_sL {α : Type} (E : El α) (l : List α) : (sL E l).flat = true := rfl
@[go_sem] theorem flat_ps (n : Nat) (c : Nat → AV) : (AV.ps n c).flat = true := rfl
@[go_sem] theorem AVle_refl (x : AV) : AVle x x = True := eq_true (AVle.refl x)
@[go_sem] theorem AVle_any (x : AV) : AVle x .any = True := eq_true (AVle.any x)
@[go_sem] theorem AVle_val (u v : Value) : AVle (.val u) (.val v) = (u = v) := by
  refine propext ⟨fun h => ?_, fun h => h ▸ AVle.refl _⟩
  exact h default noEnv (fun _ => False) u rfl
@[go_sem] theorem AVle_st (u v : List UInt8) : AVle (.st u) (.st v) = (u = v) := by
  refine propext ⟨fun h => ?_, fun h => h ▸ AVle.refl _⟩
  have := h default noEnv (fun _ => False) _ rfl
  simpa [Rep] using this
end
/-! ### slices that are written out -/
theorem fill_some {sz m : Nat} : ∀ (parts : List (Nat × AV)) (k : Nat) (c : Nat → AV) (l : List (Nat → AV)), onesOf sz k parts = some l → (k + l.length) * sz ≤ m →
    ∃ c', aFill (fun i => some (i * sz, sz)) m c parts = some c'
  | [], _, c, _, _, _ => ⟨c, rfl⟩
  | (i, x) :: r, k, c, l, ho, hm => by
    unfold onesOf at ho
    cases hx : cellsAV x with
    | none => rw [hx] at ho; cases ho
    | some y =>
      obtain ⟨k', d⟩ := y
      simp only [hx] at ho
      split at ho
      · rename_i e
        obtain ⟨rfl, rfl⟩ := e
        cases hr : onesOf k' (i + 1) r with
        | none => rw [hr] at ho; cases ho
        | some l' =>
          rw [hr] at ho
          simp only [Option.map_some, Option.some.injEq] at ho
          subst ho
          simp only [List.length_cons] at hm
          unfold aFill
          simp only [hx]
          have h1 : (i + 1) * k' ≤ (i + (l'.length + 1)) * k' := Nat.mul_le_mul_right _ (by omega)
          rw [Nat.add_mul] at h1
          rw [if_pos ⟨trivial, by omega⟩]
          exact fill_some r (i + 1) _ l' hr (by rw [show i + 1 + l'.length = i + (l'.length + 1) by omega]; exact hm)
      · cases ho
theorem aBuildSlice_eq {P : Program} {t : TypeId} {n : Nat} {parts : List (Nat × AV)} : aBuildSlice P t (n + 1) parts = if (parts.any fun x => vwO x.2) = true then none else match P.underlying t with
    | some (.slice e) => match zeroC P e with
      | some z => match onesOf (P.cellsOf e) 0 parts with
        | some l => if l.length = n + 1 then some ((∀ x ∈ parts, flatP x.2) ∧ z.length = P.cellsOf e ∧ 0 < P.cellsOf e ∧ (n + 1) * P.cellsOf e ≤ 16777216, .sn (n + 1) (P.cellsOf e) fun i => l.getD i fun _ => .any, .dead)
          else (aBuildRow P t (n + 1) parts).map fun x => (x.1, tidyRow parts x.2.1, x.2.2)
        | none => (aBuildRow P t (n + 1) parts).map fun x => (x.1, tidyRow parts x.2.1, x.2.2)
      | none => none
    | _ => none := by
  unfold aBuildSlice aBuildRow
  split
  · rfl
  generalize P.underlying t = u
  cases u with
  | none => rfl
  | some d =>
    cases d with
    | slice e =>
      simp only
      cases hz : zeroC P e with
      | none => rfl
      | some z =>
        simp only
        cases ho : onesOf (P.cellsOf e) 0 parts with
        | none => rfl
        | some l =>
          simp only
          by_cases hl : l.length = n + 1
          · rw [if_pos hl]
            obtain ⟨c', hc⟩ := fill_some (m := (n + 1) * P.cellsOf e) parts 0 (fun k => kCell (z.getD (k % z.length) undef)) l ho (by rw [Nat.zero_add, hl]; exact Nat.le_refl _)
            rw [hc]
            simp [tidyRow, ho, hl]
          · rw [if_neg hl]
    | _ => rfl
@[go_sem] theorem aBuildSlice_zero {P : Program} {t : TypeId} {parts : List (Nat × AV)} : aBuildSlice P t 0 parts = if (parts.any fun x => vwO x.2) = true then none else match P.underlying t with
    | some (.slice e) => match zeroC P e with
      | some _ => some (parts = [] ∧ 0 < P.cellsOf e, .em, .dead)
      | none => none
    | _ => none := by
  unfold aBuildSlice aBuildRow
  split
  · rfl
  generalize P.underlying t = u
  cases u with
  | none => rfl
  | some d =>
    cases d with
    | slice e =>
      simp only
      cases hz : zeroC P e <;> rfl
    | _ => rfl
attribute [go_sem] aBuildSlice_eq
@[go_sem] theorem onesOf_nil (sz k : Nat) : onesOf sz k [] = some [] := rfl
@[go_sem] theorem onesOf_cons (sz k i : Nat) (x : AV) (r : List (Nat × AV)) : onesOf sz k ((i, x) :: r) = match cellsAV x with
    | some (m, c) => if i = k ∧ m = sz then (onesOf sz (k + 1) r).map (c :: ·) else none
    | none => none := rfl
@[go_sem] theorem cellsAV_int (k : IntKind) (n : Int) : cellsAV (.val (.int k n)) = some (1, fun _ => .val (.int k n)) := rfl
@[go_sem] theorem cellsAV_bool (n : Bool) : cellsAV (.val (.bool n)) = some (1, fun _ => .val (.bool n)) := rfl
@[go_sem] theorem cellsAV_st (l : List UInt8) : cellsAV (.st l) = some (1, fun _ => .st l) := rfl
@[go_sem] theorem cellsAV_em : cellsAV .em = some (1, fun _ => .em) := rfl
@[go_sem] theorem cellsAV_sn (n s : Nat) (c : Nat → Nat → AV) : cellsAV (.sn n s c) = some (1, fun _ => .sn n s c) := rfl
@[go_sem] theorem cellsAV_sL {α : Type} (E : El α) (l : List α) : cellsAV (sL E l) = some (1, fun _ => sL E l) := rfl
@[go_sem] theorem cellsAV_ps (n : Nat) (c : Nat → AV) : cellsAV (.ps n c) = some (1, fun _ => .ps n c) := rfl
@[go_sem] theorem cellsAV_ow (p v n : Nat) : cellsAV (.ow p v n) = some (1, fun _ => .ow p v n) := rfl
@[go_sem] theorem cellsAV_pt (p v n : Nat) : cellsAV (.pt p v n) = some (1, fun _ => .pt p v n) := rfl
@[go_sem] theorem cellsAV_ag (n : Nat) (c : Nat → AV) : cellsAV (.ag n c) = some (n, c) := rfl
@[go_sem] theorem flatP_val (v : Value) : flatP (.val v) = True := eq_true rfl
@[go_sem] theorem flatP_st (l : List UInt8) : flatP (.st l) = True := eq_true rfl
@[go_sem] theorem flatP_em : flatP .em = True := eq_true rfl
@[go_sem] theorem flatP_sn (n s : Nat) (c : Nat → Nat → AV) : flatP (.sn n s c) = True := eq_true rfl
@[go_sem] theorem flatP_sL {α : Type} (E : El α) (l : List α) : flatP (sL E l) = True := eq_true rfl
@[go_sem] theorem flatP_ps (n : Nat) (c : Nat → AV) : flatP (.ps n c) = True := eq_true rfl
@[go_sem] theorem flatP_ag (n : Nat) (c : Nat → AV) : flatP (.ag n c) = ∀ j, j < n → (c j).flat = true := rfl
/-- Cells that are an element. -/
def El.okc {α : Type} (E : El α) (c : Nat → AV) : Prop := ∀ j, j < E.sz → AVle (c j) (E.enc (E.dec c) j)
@[go_sem] theorem okc_I (n : Int) : eI.okc (fun _ => .val (.int .i64 n)) = True := eq_true fun _ _ => AVle.refl _
@[go_sem] theorem okc_B (n : Bool) : eB.okc (fun _ => .val (.bool n)) = True := eq_true fun _ _ => AVle.refl _
@[go_sem] theorem okc_S (n : List UInt8) : eS.okc (fun _ => .st n) = True := eq_true fun _ _ => AVle.refl _
@[go_sem] theorem okc_L {α : Type} (E : El α) (l : List α) : (eL E).okc (fun _ => sL E l) = True := eq_true fun _ _ => by
  show AVle (sL E l) (sL E (gL E (sL E l)))
  rw [gL_sL]
  exact AVle.refl _
@[go_sem] theorem okc_L_em {α : Type} (E : El α) : (eL E).okc (fun _ => .em) = True := eq_true fun _ _ => em_sL E
@[go_sem] theorem dec_I (n : Int) : eI.dec (fun _ => .val (.int .i64 n)) = n := rfl
@[go_sem] theorem dec_B (n : Bool) : eB.dec (fun _ => .val (.bool n)) = n := rfl
@[go_sem] theorem dec_S (n : List UInt8) : eS.dec (fun _ => .st n) = n := rfl
@[go_sem] theorem dec_L {α : Type} (E : El α) (l : List α) : (eL E).dec (fun _ => sL E l) = l := gL_sL E l
@[go_sem] theorem dec_L_em {α : Type} (E : El α) : (eL E).dec (fun _ => .em) = [] := rfl
@[go_sem] theorem len_nil (α : Type) : ([] : List α).length = 0 := (rfl)
@[go_sem] theorem len_cons {α : Type} (x : α) (l : List α) : (x :: l).length = l.length + 1 := (rfl)
section
variable {α : Type} (E : El α) (n s : Nat) (l : List (Nat → AV))
@[go_sem] theorem kL_dec_list : (kL E).dec (.sn n s fun i => l.getD i fun _ => .any) = if l.length = n then l.map E.dec else (List.range n).map fun i => E.dec (l.getD i fun _ => .any) := by
  split
  · rename_i h
    subst h
    simp only [kL, gL]
    apply List.ext_getElem
    · simp
    · intro i h1 h2
      simp at h1
      simp [List.getD, h1]
  · rfl
@[go_sem] theorem kL_ok_list (h : E.sz = s) (h1 : l.length = n) (h2 : ∀ c ∈ l, E.okc c) : (kL E).ok (.sn n s fun i => l.getD i fun _ => .any) = True := by
  refine eq_true ?_
  show AVle _ _
  rw [kL_dec_list, if_pos h1]
  show AVle _ (sL E _)
  subst h h1
  unfold sL
  rw [List.length_map]
  refine AVle.sn fun i hi j hj => ?_
  simp only [List.getD, List.getElem?_eq_getElem hi, List.getElem?_map, Option.map_some, Option.getD_some]
  exact h2 _ (List.getElem_mem hi) j hj
end
/-! ### what is decided -/
attribute [go_sem ↓] reduceIte
attribute [go_sem] Value.int.injEq Value.bool.injEq
@[go_sem] theorem false_eq_dec (p : Prop) [Decidable p] : (false = decide p) = ¬ p := by simp
@[go_sem] theorem true_eq_dec (p : Prop) [Decidable p] : (true = decide p) = p := by simp
attribute [go_sem] List.getElem?_toArray List.getElem?_cons_zero List.getElem?_cons_succ Option.bind_some List.map_cons List.map_nil List.any_cons List.any_nil List.mem_cons forall_eq_or_imp List.not_mem_nil
attribute [go_sem] if_true if_false true_and and_true not_true_eq_false not_false_eq_true implies_true decide_eq_true_eq decide_eq_false_iff_not Bool.and_eq_true Bool.and_eq_false_imp forall_const Nat.add_zero
attribute [go_sem] imp_self Option.map_some Option.map_none Bool.cond_false_right Bool.cond_true_left Bool.cond_false_left Bool.cond_true_right Int.toNat_natCast Bool.or_false Bool.false_or reduceCtorEq
attribute [go_sem] Bool.false_eq_true Bool.true_eq_false false_implies true_implies ite_true ite_false and_self false_and and_false List.getD_cons_zero List.getD_cons_succ List.getD_nil Nat.reduceEqDiff Nat.reduceBEq beq_self_eq_true Bool.true_or Bool.or_true Nat.reduceLT Nat.reduceLeDiff Nat.reduceAdd Nat.reduceSub Nat.reduceMul Nat.le_refl Nat.zero_add Int.reduceAdd Int.reduceSub Int.reduceMul Int.reduceNeg Int.reduceLT Int.reduceLE Int.reduceEq Int.reduceToNat decide_true decide_false Bool.not_true Bool.not_false Bool.and_true Bool.true_and Bool.false_and Bool.and_false
/-- A part of a list. -/
theorem part_eq {α : Type} (l : List α) (d : α) {a n : Nat} (h : a + n ≤ l.length) : (List.range n).map (fun i => l.getD (a + i) d) = (l.drop a).take n := by
  apply List.ext_getElem
  · simp; omega
  · intro i h1 h2
    simp at h1
    have : a + i < l.length := by omega
    simp [List.getD, this]
theorem sn_part {α : Type} (E : El α) (l : List α) {a n : Nat} (h : a + n ≤ l.length) : AVle (.sn n E.sz fun i => E.enc (l.getD (a + i) E.dflt)) (sL E ((l.drop a).take n)) :=
  sn_le E n _ _ (part_eq l E.dflt h).symm
/-- The beginning of a list. -/
theorem take_le {α : Type} (E : El α) (l : List α) {n s m : Nat} {d : α} (hd : d = E.dflt) (hs : s = E.sz) (h : n = min m l.length) : AVle (.sn n s fun i => E.enc (l.getD i d)) (sL E (l.take m)) := by
  subst hd hs h
  refine sn_le E _ _ _ ?_
  apply List.ext_getElem
  · simp
  · intro i h1 h2
    simp only [List.length_take] at h1
    have : i < l.length := by omega
    simp [List.getD, this]
end Go.Proofs.YtljgfacjefebaaaDoor
