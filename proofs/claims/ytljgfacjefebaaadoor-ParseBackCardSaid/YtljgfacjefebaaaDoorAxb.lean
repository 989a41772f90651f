/-
  A region whose order is drawn: whatever order its edges allow, it comes to what the order of the text comes to.
-/
import Derived.Test.YtljgfacjefebaaaDoorAxa
namespace Go.Proofs.YtljgfacjefebaaaDoor
open Go

section
variable {P : Program} {Γ : Gam} {ops : Array Oper}

/-! ### what an operation hangs on -/
def Ext (hp hp' : Nat → Row) : Prop := ∀ p, hp p = .dead ∨ hp' p = hp p
theorem Ext.refl (hp : Nat → Row) : Ext hp hp := fun _ => .inr rfl
theorem Ext.trans {a b d : Nat → Row} (h : Ext a b) (k : Ext b d) : Ext a d := fun p => by
  rcases h p with e | e
  · exact .inl e
  · rcases k p with e' | e'
    · exact .inl (e ▸ e')
    · exact .inr (e'.trans e)

theorem aLoad_ext {hp hp' : Nat → Row} (hx : Ext hp hp') {t : TypeId} {x : AV} {r : Prop × AV} (h : aLoad P hp t x = some r) : aLoad P hp' t x = some r := by
  unfold aLoad at h ⊢
  split at h
  · exact h
  · exact h
  · rename_i p _ _ _
    rcases hx p with e | e
    · rw [e] at h; cases h
    · simp only [e]; exact h
  · rename_i p _ _ _
    rcases hx p with e | e
    · rw [e] at h; cases h
    · simp only [e]; exact h
  · rename_i p _ _ _ _ _
    rcases hx p with e | e
    · rw [e] at h; cases h
    · simp only [e]; exact h
  · rename_i p _ _ _ _ _
    rcases hx p with e | e
    · rw [e] at h; cases h
    · simp only [e]; exact h
  · cases h
theorem aIndexAddr_ext {hp hp' : Nat → Row} (hx : Ext hp hp') {t : TypeId} {x i : AV} {r : Prop × AV} (h : aIndexAddr P hp t x i = some r) : aIndexAddr P hp' t x i = some r := by
  unfold aIndexAddr at h ⊢
  split at h
  · exact h
  · rename_i p _ _ _ _
    rcases hx p with e | e
    · rw [e] at h; cases h
    · simp only [e]; exact h
  · exact h
  · exact h
  · exact h
  · cases h
theorem aLookup_ext {hp hp' : Nat → Row} (hx : Ext hp hp') {t : TypeId} {m k : AV} {ok : Bool} {r : Prop × AV} (h : aLookup P hp t m k ok = some r) : aLookup P hp' t m k ok = some r := by
  unfold aLookup at h ⊢
  split at h
  · rename_i p _ _
    rcases hx p with e | e
    · rw [e] at h; cases h
    · simp only [e]; exact h
  · cases h
theorem aLenM_ext {hp hp' : Nat → Row} (hx : Ext hp hp') {t : TypeId} {x : AV} {r : Prop × AV} (h : aLenM P hp t x = some r) : aLenM P hp' t x = some r := by
  cases x with
  | mp p ver =>
    unfold aLenM at h ⊢
    simp only at h ⊢
    rcases hx p with e | e
    · rw [e] at h
      split at h
      · rename_i h1; cases h1
      · cases h
    · simp only [e]; exact h
  | _ => exact h
theorem vw0_ext {hp hp' : Nat → Row} (hx : Ext hp hp') {x : AV} (h : vwP0 hp x) : vw0 hp' x = vw0 hp x ∧ vwP0 hp' x := by
  cases x with
  | ow p ver n =>
    simp only [vwP0] at h ⊢
    rcases hx p with e | e
    · rw [e] at h; exact h.elim
    · simp only [vw0, e]; exact ⟨trivial, h⟩
  | pt p ver j =>
    simp only [vwP0] at h ⊢
    rcases hx p with e | e
    · rw [e] at h; exact h.elim
    · simp only [vw0, e]; exact ⟨trivial, h⟩
  | pe p ver sz i j =>
    simp only [vwP0] at h ⊢
    rcases hx p with e | e
    · rw [e] at h; exact h.elim
    · simp only [vw0, e]; exact ⟨trivial, h⟩
  | _ => exact ⟨rfl, h⟩

theorem vw_ext {hp hp' : Nat → Row} (hx : Ext hp hp') {x : AV} (h : vwP hp x) : vw hp' x = vw hp x ∧ vwP hp' x := by
  rcases vw_cases x with ⟨m, c, rfl⟩ | ⟨e, _⟩
  · refine ⟨?_, fun j hj => ⟨(vw0_ext hx (h j hj).1).2, (h j hj).2⟩⟩
    simp only [vw]
    congr 1
    funext j
    split
    · rename_i hj; exact (vw0_ext hx (h j hj).1).1
    · rfl
  · rw [(e hp).2] at h
    rw [(e hp).1, (e hp').1, (e hp').2]
    exact vw0_ext hx h

theorem map_ev {α : Type} {ev ev' : Operand → AV} (f : α → Operand) (g : α → AV → Nat × AV) : ∀ (l : List α), (∀ x ∈ l, ev' (f x) = ev (f x)) → (l.map fun a => g a (ev' (f a))) = l.map fun a => g a (ev (f a))
  | [], _ => rfl
  | a :: l, h => by
    simp only [List.map_cons]
    rw [h a (List.mem_cons_self ..), map_ev f g l fun x hx => h x (List.mem_cons_of_mem _ hx)]
theorem map_ev' {ev ev' : Operand → AV} (l : List Operand) (h : ∀ x ∈ l, ev' x = ev x) : l.map ev' = l.map ev := List.map_congr_left h
theorem omap_ev {ev ev' : Operand → AV} (o : Option Operand) (h : ∀ x ∈ o.toArray, ev' x = ev x) : o.map ev' = o.map ev := by
  cases o with
  | none => rfl
  | some x => simp only [Option.map_some, h x (by simp)]

theorem apure_ext {hp hp' : Nat → Row} (hx : Ext hp hp') {ev ev' : Operand → AV} {op : Op} (he : ∀ x ∈ op.operands, ev' x = ev x) {r : Prop × AV} (h : apure P hp ev op = some r) : apure P hp' ev' op = some r := by
  unfold apure at h
  split at h <;> simp only [Op.operands, Call.operands] at he
  · rename_i x; simp only [apure, he x (by simp)]; exact h
  · rename_i x; simp only [apure, he x (by simp)]; exact h
  · rename_i c x y; simp only [apure, he c (by simp), he x (by simp), he y (by simp)]; exact h
  · rename_i t parts
    have e := map_ev (ev := ev) (ev' := ev') (fun a : Nat × Operand => a.2) (fun a z => (a.1, z)) parts.toList (fun x hx => he x.2 (by simp; exact ⟨x.1, by simpa using hx⟩))
    simp only [apure, e]; exact h
  · rename_i x; simp only [apure, he x (by simp)]; exact aLoad_ext hx h
  · rename_i x; simp only [apure, he x (by simp)]; exact h
  · rename_i op t x y _
    simp only [apure]
    have e : aBinO P ev' op t x y = aBinO P ev op t x y := by
      unfold aBinO
      split
      · rw [he x (by simp)]
      · rw [he x (by simp), he y (by simp)]
    rw [e]; exact h
  · rename_i x; simp only [apure, he x (by simp)]; exact h
  · rename_i x; simp only [apure, he x (by simp)]; exact h
  · rename_i t x lo hi
    simp only [apure, he x (by simp), omap_ev lo (fun y hy => he y (by simp at hy ⊢; exact .inr (.inl hy))), omap_ev hi (fun y hy => he y (by simp at hy ⊢; exact .inr (.inr hy)))]
    exact h
  · rename_i t x lo hi m
    simp only [apure, he x (by simp), he m (by simp), omap_ev lo (fun y hy => he y (by simp at hy ⊢; exact .inr (.inl hy))), omap_ev hi (fun y hy => he y (by simp at hy ⊢; exact .inr (.inr (.inl hy))))]
    exact h
  · rename_i t m k ok; simp only [apure, he m (by simp), he k (by simp)]; exact aLookup_ext hx h
  · rename_i x f; simp only [apure, he x (by simp)]; exact h
  · rename_i x f; simp only [apure, he x (by simp)]; exact h
  · rename_i t x i; simp only [apure, he x (by simp), he i (by simp)]; exact aIndexAddr_ext hx h
  · rename_i t x i; simp only [apure, he x (by simp), he i (by simp)]; exact h
  · rename_i x i; simp only [apure, he x (by simp)]; exact h
  · exact h
  · rename_i x t; simp only [apure, he x (by simp)]; exact aLenM_ext hx h
  · rename_i xs ts
    simp only [apure, map_ev' xs (fun x hx => he x (by simp; exact hx))]; exact h
  · rename_i xs ts
    simp only [apure, map_ev' xs (fun x hx => he x (by simp; exact hx))]; exact h
  · cases h

theorem aop_ext {hp hp' : Nat → Row} (hx : Ext hp hp') {p ver : Nat} {ev ev' : Operand → AV} {op : Op} (he : ∀ x ∈ op.operands, ev' x = ev x) {pre : Prop} {z : AV} {row : Row}
    (h : aop P Γ hp p ver ev op = some (pre, z, row)) (hpre : pre) : ∃ pre', aop P Γ hp' p ver ev' op = some (pre', z, row) ∧ pre' := by
  unfold aop at h
  split at h
  · exact ⟨pre, by simp only [aop]; exact h, hpre⟩
  · rename_i e x
    refine ⟨pre, ?_, hpre⟩
    simp only [Op.operands] at he
    simp only [aop, he x (by simp)]; exact h
  · rename_i t n parts
    refine ⟨pre, ?_, hpre⟩
    simp only [Op.operands] at he
    have e := map_ev (ev := ev) (ev' := ev') (fun a : Nat × Operand => a.2) (fun a z => (a.1, z)) parts.toList (fun x hx => he x.2 (by simp; exact ⟨x.1, by simpa using hx⟩))
    simp only [aop, e]; exact h
  · rename_i t l c
    refine ⟨pre, ?_, hpre⟩
    simp only [Op.operands] at he
    simp only [aop, he l (by simp), he c (by simp)]; exact h
  · rename_i t r
    refine ⟨pre, ?_, hpre⟩
    simp only [Op.operands] at he
    simp only [aop, omap_ev r he]; exact h
  · rename_i f xs ts
    simp only [Op.operands, Call.operands] at he
    have e := map_ev' xs (fun x hx => he x (by simp; exact .inr hx))
    obtain ⟨s, hs, rfl, rfl, rfl⟩ := call_none h
    obtain ⟨h1, h2, h3⟩ := hpre
    have hvw : (xs.map ev).map (vw hp') = (xs.map ev).map (vw hp) := List.map_congr_left fun x hx' => (vw_ext hx (h1 x hx')).1
    refine ⟨(∀ x ∈ xs.map ev, vwP hp' x) ∧ s.pre ((xs.map ev).map (vw hp)) ∧ ((xs.map ev).any vwO = true → scal (s.res ((xs.map ev).map (vw hp)))), by simp only [aop, aCall, hs, e, hvw], fun x hx' => (vw_ext hx (h1 x hx')).2, h2, h3⟩
  · rename_i op _ _ _ _ _ _
    split at h
    · rename_i pre' z' hp1
      have := apure_ext hx he hp1
      refine ⟨pre, ?_, hpre⟩
      unfold aop
      split
      · rename_i heq _ _ _ _ _; exact absurd rfl (heq _)
      · rename_i heq _ _ _ _; exact absurd rfl (heq _ _)
      · rename_i heq _ _ _; exact absurd rfl (heq _ _ _)
      · rename_i heq _ _; exact absurd rfl (heq _ _ _)
      · rename_i heq _; exact absurd rfl (heq _ _)
      · rename_i heq; exact absurd rfl (heq _ _ _)
      · rw [this]; exact h
    · cases h

/-! ### an operation, guarded or not, by frames and rows that are told apart -/
def gopF (P : Program) (Γ : Gam) (ops : Array Oper) (fr : Nat → AV) (hp : Nat → Row) (p ver : Nat) (o : Oper) : AOut :=
  match o.guard with
  | none => aop P Γ hp p ver (evAV fr) o.op
  | some (j, want) => match (ops[j]?).bind (·.dst) with
    | some d => match guardVal (fr d) want with
      | some g => match aop P Γ hp p ver (evG g o.op (evAV fr)) o.op with
        | some (pre, z, row) => some (g = true → pre, .gd g z, row)
        | none => none
      | none => none
    | none => none
theorem gopF_eq (st : AS) (o : Oper) : gop P Γ ops st o = gopF P Γ ops st.fr st.hp st.top st.nx o := rfl

/-- The slots that an operation looks at. -/
def looks (ops : Array Oper) (o : Oper) : List Tmp :=
  (match o.guard with | some (j, _) => ((ops[j]?).bind (·.dst)).toList | none => []) ++ o.op.operands.toList.filterMap fun | .tmp t => some t | _ => none
theorem ev_looks {fr fr' : Nat → AV} {o : Oper} (h : ∀ t ∈ looks ops o, fr' t = fr t) : ∀ x ∈ o.op.operands, evAV fr' x = evAV fr x := by
  intro x hx
  cases x with
  | tmp t =>
    refine h t (List.mem_append.2 (.inr (List.mem_filterMap.2 ⟨.tmp t, by simpa using hx, rfl⟩)))
  | _ => rfl
theorem yield_of' {c : Ctx} {hp : Nat → Row} {η : Env} {w : World} {fr : Nat → AV} {a : Act} {j : Nat} {d : Tmp} {want g : Bool} (hj : (ops[j]?).bind (·.dst) = some d) (hs : Rep w η (Lset c η hp) (fr d) (a.tmps.getD d undef)) (hg : guardVal (fr d) want = some g) :
    (yielded ops a.tmps j == some want) = g := by
  have key : ∀ v, a.tmps.getD d undef = v → (yielded ops a.tmps j = match v with | .bool b => some b | _ => none) := fun v hb => by
    unfold yielded
    rw [hj]
    simp only [Option.bind_some]
    rw [Array.getD_eq_getD_getElem?] at hb
    cases hd : a.tmps[d]? with
    | none => rw [hd] at hb; simp only [Option.getD_none] at hb; subst hb; rfl
    | some u => rw [hd] at hb; simp only [Option.getD_some] at hb; subst hb; cases u <;> rfl
  unfold guardVal at hg
  split at hg
  · rename_i b heq
    rw [heq] at hs
    simp only [Option.some.injEq] at hg
    rw [key _ hs, ← hg]
    cases b <;> cases want <;> rfl
  · rename_i gg b heq
    rw [heq] at hs
    simp only [Option.some.injEq] at hg
    cases gg with
    | false => rw [key _ (hs.2 rfl), ← hg]; rfl
    | true =>
      rw [key _ (hs.1 rfl), ← hg]
      cases b <;> cases want <;> rfl
  · cases hg

theorem gopF_wp (hΓ : GOK P Γ) {c : Ctx} {hp hp' : Nat → Row} {nx : Nat} {η : Env} {w : World} (hx : Ext hp hp') (hs : HS c hp' nx η w) {fr fr' : Nat → AV} {a : Act} (hsl : ∀ t, Rep w η (Lset c η hp') (fr' t) (a.tmps.getD t undef))
    {p ver : Nat} {o : Oper} (h : ∀ t ∈ looks ops o, fr' t = fr t) {pre : Prop} {z : AV} {row : Row} (ho : gopF P Γ ops fr hp p ver o = some (pre, z, row)) (hpre : pre) (hrow : row = .dead ∨ (hp' p = row ∧ η ver = none ∧ c.n0 ≤ ver))
    {K : Act → World → Prop} {Q : Exit → Act → World → Prop}
    (hK : ∀ v η' w', HS c hp' nx η' w' → Stp c hp' η w η' w' → (∀ k, k ≠ ver ∨ row = .dead → η' k = η k) → Rep w' η' (Lset c η' hp') z v → K (a.put o.dst v) w') :
    if Region.wanted o (yielded ops a.tmps) then o.wp P a w K Q else K (a.put o.dst undef) w := by
  have hev := ev_looks h
  unfold gopF at ho
  split at ho
  · rename_i hg
    rw [if_pos (by simp [Region.wanted, hg])]
    obtain ⟨pre', h1, h2⟩ := aop_ext hx hev ho hpre
    exact aop_wp hΓ hs (rep_ev hsl) h1 h2 hrow hK
  · rename_i j want hg
    split at ho
    · rename_i d hj
      have hfd : fr' d = fr d := h d (List.mem_append.2 (.inl (by simp [hg, hj])))
      split at ho
      · rename_i g hgv
        split at ho
        · rename_i pre1 z1 row1 ha
          simp only [Option.some.injEq, Prod.mk.injEq] at ho
          obtain ⟨rfl, rfl, rfl⟩ := ho
          have hy := yield_of' (c := c) (hp := hp') (η := η) (w := w) (fr := fr') hj (hsl d) (by rw [hfd]; exact hgv)
          have hw : Region.wanted o (yielded ops a.tmps) = g := by simp only [Region.wanted, hg]; exact hy
          rw [hw]
          cases g with
          | true =>
            simp only [if_true]
            obtain ⟨pre2, h2, hp2⟩ := aop_ext (Γ := Γ) hx (ev := evG true o.op (evAV fr)) (ev' := evG true o.op (evAV fr')) (fun x hx' => evG_congr (hev x hx')) ha (hpre rfl)
            exact aop_wp hΓ hs (fun x => evG_rep rfl (rep_ev hsl x)) h2 hp2 hrow fun v η' w' h1 h2 h3 h4 => hK v η' w' h1 h2 h3 ⟨fun _ => h4, fun h => (by cases h)⟩
          | false =>
            simp only [Bool.false_eq_true, if_false]
            exact hK undef η w hs (Stp.refl _ _ _ _) (fun _ _ => rfl) ⟨fun h => (by cases h), fun _ => rfl⟩
        · cases ho
      · cases ho
    · cases ho

/-! ### slots behind some of the operations -/
def frS (S : Nat → Bool) : Nat → List (Option Tmp × AV) → (Nat → AV) → (Nat → AV)
  | _, [], f => f
  | i, (d, z) :: r, f => frS S (i + 1) r (if S i then updO f d z else f)
theorem frS_congr {S S' : Nat → Bool} {t : Nat} : ∀ (l : List (Option Tmp × AV)) (i : Nat) (f f' : Nat → AV), f t = f' t → (∀ k d z, l[k]? = some (d, z) → d = some t → S (i + k) = S' (i + k)) → frS S i l f t = frS S' i l f' t
  | [], _, _, _, h, _ => h
  | (d, z) :: r, i, f, f', h, hS => by
    unfold frS
    refine frS_congr r (i + 1) _ _ ?_ (fun k d' z' hk hd => by have := hS (k + 1) d' z' (by simpa using hk) hd; rwa [show i + (k + 1) = i + 1 + k by omega] at this)
    by_cases e : d = some t
    · have := hS 0 d z rfl e
      simp only [Nat.add_zero] at this
      rw [this]
      cases S' i <;> simp [updO_at, e, h]
    · cases S i <;> cases S' i <;> simp [updO_at, e, h]
/-- One more of them is carried out. -/
theorem frS_add {S : Nat → Bool} : ∀ (l : List (Option Tmp × AV)) (i : Nat) (f : Nat → AV) (j : Nat) (d : Option Tmp) (z : AV), l[j]? = some (d, z) → S (i + j) = false →
    (∀ k d' z', l[k]? = some (d', z') → j < k → S (i + k) = true → ∀ t, d = some t → d' ≠ some t) →
    frS (fun k => if k = i + j then true else S k) i l f = updO (frS S i l f) d z
  | [], _, _, j, _, _, h, _, _ => by simp at h
  | (d0, z0) :: r, i, f, j, d, z, h, hS, hlast => by
    funext t
    unfold frS
    cases j with
    | zero =>
      simp only [List.getElem?_cons_zero, Option.some.injEq, Prod.mk.injEq] at h
      obtain ⟨rfl, rfl⟩ := h
      simp only [Nat.add_zero] at hS
      simp only [Nat.add_zero, if_true, hS, Bool.false_eq_true, if_false]
      have e1 : frS (fun k => if k = i then true else S k) (i + 1) r (updO f d0 z0) t = frS S (i + 1) r (updO f d0 z0) t :=
        frS_congr r (i + 1) _ _ rfl (fun k d' z' _ _ => by rw [if_neg (by omega)])
      rw [e1, updO_at]
      by_cases e : d0 = some t
      · rw [if_pos e]
        have : frS S (i + 1) r (updO f d0 z0) t = frS (fun _ => false) (i + 1) r (updO f d0 z0) t := frS_congr r (i + 1) _ _ rfl fun k d' z' hk hd => by
          cases hs : S (i + 1 + k) with
          | false => rfl
          | true => exact absurd hd (hlast (k + 1) d' z' (by simpa using hk) (by omega) (by rw [show i + (k + 1) = i + 1 + k by omega]; exact hs) t e)
        rw [this]
        have none_ : ∀ (r : List (Option Tmp × AV)) (i : Nat) (f : Nat → AV), frS (fun _ => false) i r f = f := by
          intro r
          induction r with
          | nil => intro _ _; rfl
          | cons x r ih =>
            intro i f
            obtain ⟨d1, z1⟩ := x
            unfold frS
            simp only [Bool.false_eq_true, if_false]
            exact ih (i + 1) f
        rw [none_, updO_at, if_pos e]
      · rw [if_neg e]
        exact frS_congr r (i + 1) _ _ (by rw [updO_at, if_neg e]) fun _ _ _ _ _ => rfl
    | succ j =>
      have h' : r[j]? = some (d, z) := by simpa using h
      have hne : ¬ i = i + (j + 1) := by omega
      simp only [if_neg hne]
      have := frS_add (S := S) r (i + 1) (if S i = true then updO f d0 z0 else f) j d z h' (by rw [show i + 1 + j = i + (j + 1) by omega]; exact hS)
        (fun k d' z' hk hlt hs => hlast (k + 1) d' z' (by simpa using hk) (by omega) (by rw [show i + (k + 1) = i + 1 + k by omega]; exact hs))
      rw [show i + 1 + j = i + (j + 1) by omega] at this
      rw [this]

/-! ### the first operations, in the order of the text -/
inductive TR (P : Program) (Γ : Gam) (ops : Array Oper) : List Oper → AS → List (AV × Row) → AS → Prop where
  | nil (st : AS) : TR P Γ ops [] st [] st
  | cons {o : Oper} {r : List Oper} {st st' : AS} {pre : Prop} {z : AV} {row : Row} {vs : List (AV × Row)} : gop P Γ ops st o = some (pre, z, row) → dstOK st.sz o.dst → pre →
      TR P Γ ops r (st.put o.dst z row) vs st' → TR P Γ ops (o :: r) st ((z, row) :: vs) st'

theorem put_sz (st : AS) (d : Option Tmp) (z : AV) (row : Row) : (st.put d z row).sz = st.sz ∧ (st.put d z row).df = st.df ∧ (st.put d z row).fr = updO st.fr d z := by cases row <;> exact ⟨rfl, rfl, rfl⟩
theorem put_live (st : AS) (d : Option Tmp) (z : AV) {row : Row} (h : row ≠ .dead) : (st.put d z row).hp = updR st.hp st.top row ∧ (st.put d z row).top = st.top + 1 ∧ (st.put d z row).nx = st.nx + 1 := by
  cases row with
  | dead => exact absurd rfl h
  | _ => exact ⟨rfl, rfl, rfl⟩
theorem put_dead (st : AS) (d : Option Tmp) (z : AV) : (st.put d z .dead).hp = st.hp ∧ (st.put d z .dead).top = st.top ∧ (st.put d z .dead).nx = st.nx := ⟨rfl, rfl, rfl⟩
theorem gop_row {st : AS} {o : Oper} {pre : Prop} {z : AV} {row : Row} (h : gop P Γ ops st o = some (pre, z, row)) : row = .dead ∨ row.ver = some st.nx := by
  unfold gop at h
  split at h
  · exact aop_row h
  · split at h
    · split at h
      · split at h
        · rename_i ha
          simp only [Option.some.injEq, Prod.mk.injEq] at h
          obtain ⟨_, _, rfl⟩ := h
          exact aop_row ha
        · cases h
      · cases h
    · cases h

/-- What is known of each of the operations: the state ahead of it. -/
structure At (P : Program) (Γ : Gam) (ops : Array Oper) (st0 st' : AS) (o : Oper) (z : AV) (row : Row) (stj : AS) : Prop where
  pre : ∃ pre, gop P Γ ops stj o = some (pre, z, row) ∧ pre
  dst : dstOK st0.sz o.dst
  ext : Ext stj.hp st'.hp
  rowAt : row ≠ .dead → st'.hp stj.top = row
  nxAt : row ≠ .dead → st0.nx ≤ stj.nx ∧ stj.nx < st'.nx

theorem TR.ext {l : List Oper} {st st' : AS} {vs : List (AV × Row)} (h : TR P Γ ops l st vs st') : (∀ p, st.top ≤ p → st.hp p = .dead) →
    Ext st.hp st'.hp ∧ (∀ p, st'.top ≤ p → st'.hp p = .dead) ∧ st.top ≤ st'.top ∧ st.nx ≤ st'.nx ∧ st'.sz = st.sz ∧ st'.df = st.df ∧ (∀ p, p < st.top → st'.hp p = st.hp p) ∧ vs.length = l.length := by
  induction h with
  | nil st => exact fun hd => ⟨Ext.refl _, hd, Nat.le_refl _, Nat.le_refl _, rfl, rfl, fun _ _ => rfl, rfl⟩
  | @cons o r st st' pre z row vs hg hd hp _ ih =>
    intro hdead
    obtain ⟨e1, e2, _⟩ := put_sz st o.dst z row
    by_cases hr : row = .dead
    · subst hr
      obtain ⟨a1, a2, a3⟩ := put_dead st o.dst z
      rw [a1, a2, a3, e1, e2] at ih
      obtain ⟨i1, i2, i3, i4, i5, i6, i7, i8⟩ := ih hdead
      exact ⟨i1, i2, i3, i4, i5, i6, i7, by simp [i8]⟩
    · obtain ⟨a1, a2, a3⟩ := put_live st o.dst z hr
      rw [a1, a2, a3, e1, e2] at ih
      obtain ⟨i1, i2, i3, i4, i5, i6, i7, i8⟩ := ih fun p hp => by rw [updR_ne _ _ (by omega)]; exact hdead p (by omega)
      refine ⟨Ext.trans (fun p => ?_) i1, i2, by omega, by omega, i5, i6, fun p hp => by rw [i7 p (by omega), updR_ne _ _ (by omega)], by simp [i8]⟩
      by_cases e : p = st.top
      · exact .inl (e ▸ hdead _ (Nat.le_refl _))
      · exact .inr (updR_ne _ _ e)

/-- The slots behind the first operations, as a list of what they lay. -/
def puts : List Oper → List (AV × Row) → List (Option Tmp × AV)
  | o :: r, (z, _) :: vs => (o.dst, z) :: puts r vs
  | _, _ => []

theorem TR.at {l : List Oper} {st st' : AS} {vs : List (AV × Row)} (h : TR P Γ ops l st vs st') : (∀ p, st.top ≤ p → st.hp p = .dead) → ∀ (i : Nat) (f : Nat → AV), f = st.fr →
    ∃ sts : Nat → AS, (∀ j o, l[j]? = some o → ∃ z row, vs[j]? = some (z, row) ∧ (puts l vs)[j]? = some (o.dst, z) ∧ At P Γ ops st st' o z row (sts j) ∧ (sts j).fr = frS (fun k => decide (k < i + j)) i (puts l vs) f) ∧
      (∀ j k z row z' row', j < k → vs[j]? = some (z, row) → vs[k]? = some (z', row') → row ≠ .dead → row' ≠ .dead → (sts j).nx < (sts k).nx) ∧
      st'.fr = frS (fun _ => true) i (puts l vs) f := by
  induction h with
  | nil st => exact fun _ i f hf => ⟨fun _ => st, fun j o hj => by simp at hj, fun j k z row z' row' _ hj => by simp at hj, by simp [puts, frS, hf]⟩
  | @cons o r st st' pre z row vs hg hd hp htr ih =>
    intro hdead i f hf
    obtain ⟨e1, e2, e3⟩ := put_sz st o.dst z row
    have hdead' : ∀ p, (st.put o.dst z row).top ≤ p → (st.put o.dst z row).hp p = .dead := by
      by_cases hr : row = .dead
      · subst hr; exact hdead
      · obtain ⟨a1, a2, _⟩ := put_live st o.dst z hr
        rw [a1, a2]
        exact fun p hp => by rw [updR_ne _ _ (by omega)]; exact hdead p (by omega)
    obtain ⟨x1, x2, x3, x4, x5, x6, x7, x8⟩ := htr.ext hdead'
    have hE : Ext st.hp st'.hp := ((TR.cons hg hd hp htr).ext hdead).1
    obtain ⟨sts, h1, h2, h3⟩ := ih hdead' (i + 1) (updO f o.dst z) (by rw [e3, hf])
    have tail : ∀ (S : Nat → Bool), S i = true → frS S i (puts (o :: r) ((z, row) :: vs)) f = frS S (i + 1) (puts r vs) (updO f o.dst z) := fun S hS => by simp [puts, frS, hS]
    refine ⟨fun j => match j with | 0 => st | j + 1 => sts j, fun j o' hj => ?_, fun j k zj rj zk rk hlt hj hk hrj hrk => ?_, ?_⟩
    · cases j with
      | zero =>
        simp only [List.getElem?_cons_zero, Option.some.injEq] at hj
        subst hj
        refine ⟨z, row, rfl, rfl, ⟨⟨pre, hg, hp⟩, hd, hE, fun hr => ?_, fun hr => ?_⟩, ?_⟩
        · obtain ⟨a1, a2, _⟩ := put_live st o.dst z hr
          rw [x7 st.top (by rw [a2]; omega), a1, updR_at]
        · obtain ⟨_, _, a3⟩ := put_live st o.dst z hr
          exact ⟨Nat.le_refl _, by show st.nx < st'.nx; omega⟩
        · have : ∀ (l : List (Option Tmp × AV)) (i' : Nat) (f : Nat → AV), i ≤ i' → frS (fun k => decide (k < i + 0)) i' l f = f := by
            intro l
            induction l with
            | nil => intro _ _ _; rfl
            | cons x l ih => intro i' f hle; unfold frS; rw [if_neg (by simp; omega)]; exact ih (i' + 1) f (by omega)
          simp only
          rw [this _ i f (Nat.le_refl _), hf]
      | succ j =>
        obtain ⟨z', row', hv, hpu, hat, hfr⟩ := h1 j o' (by simpa using hj)
        refine ⟨z', row', by simpa using hv, by simpa [puts] using hpu, ⟨hat.pre, by rw [← e1]; exact hat.dst, hat.ext, hat.rowAt, fun hr => ?_⟩, ?_⟩
        · have := hat.nxAt hr
          have hle : st.nx ≤ (st.put o.dst z row).nx := by
            by_cases hr : row = .dead
            · subst hr; exact Nat.le_refl _
            · rw [(put_live st o.dst z hr).2.2]; omega
          exact ⟨by show st.nx ≤ (sts j).nx; omega, this.2⟩
        · simp only
          rw [hfr, tail _ (by simp), show i + 1 + j = i + (j + 1) by omega]
    · cases k with
      | zero => omega
      | succ k =>
        cases j with
        | zero =>
          simp only [List.getElem?_cons_zero, Option.some.injEq, Prod.mk.injEq] at hj
          obtain ⟨rfl, rfl⟩ := hj
          have hlen : k < r.length := by
            have : k < vs.length := (List.getElem?_eq_some_iff.1 (by simpa using hk)).1
            omega
          obtain ⟨z', row', hv, _, hat, _⟩ := h1 k r[k] (List.getElem?_eq_getElem hlen)
          have hk' : vs[k]? = some (zk, rk) := by simpa using hk
          rw [hk'] at hv
          simp only [Option.some.injEq, Prod.mk.injEq] at hv
          obtain ⟨rfl, rfl⟩ := hv
          have := (hat.nxAt hrk).1
          rw [(put_live st o.dst z hrj).2.2] at this
          simp only
          omega
        | succ j => exact h2 j k zj rj zk rk (by omega) (by simpa using hj) (by simpa using hk) hrj hrk
    · rw [h3, tail _ rfl]

/-- All rows of the first operations are known of ahead. -/
theorem TR.declare {c : Ctx} {η : Env} {w : World} {l : List Oper} {st st' : AS} {vs : List (AV × Row)} (h : TR P Γ ops l st vs st') : HS c st.hp st.nx η w →
    HS c st'.hp st'.nx η w ∧ ∀ b, Lset c η st'.hp b → Lset c η st.hp b := by
  induction h with
  | nil st => exact fun hs => ⟨hs, fun _ h => h⟩
  | @cons o r st st' pre z row vs hg hd hp _ ih =>
    intro hs
    by_cases hr : row = .dead
    · subst hr; exact ih hs
    · obtain ⟨a1, _, a3⟩ := put_live st o.dst z hr
      rw [a1, a3] at ih
      obtain ⟨h1, h2⟩ := hs.declare (p := st.top) ((gop_row hg).resolve_left hr)
      obtain ⟨h3, h4⟩ := ih h1
      exact ⟨h3, fun b hb => h2 b (h4 b hb)⟩
theorem puts_len {l : List Oper} {vs : List (AV × Row)} {k : Nat} {x : Option Tmp × AV} (h : (puts l vs)[k]? = some x) : k < l.length := by
  have : ∀ (l : List Oper) (vs : List (AV × Row)), (puts l vs).length ≤ l.length := by
    intro l
    induction l with
    | nil => intro vs; simp [puts]
    | cons o l ih =>
      intro vs
      cases vs with
      | nil => simp [puts]
      | cons v vs => obtain ⟨z, row⟩ := v; simp only [puts, List.length_cons]; have := ih vs; omega
  have h1 := (List.getElem?_eq_some_iff.1 h).1
  have := this l vs
  omega
theorem frS_none : ∀ (r : List (Option Tmp × AV)) (i : Nat) (f : Nat → AV) (t : Nat), frS (fun _ => false) i r f t = f t
  | [], _, _, _ => rfl
  | (d, z) :: r, i, f, t => by
    unfold frS
    simp only [Bool.false_eq_true, if_false]
    exact frS_none r (i + 1) f t
end
end Go.Proofs.YtljgfacjefebaaaDoor
