/-
  Part 2 of what the proof rests on: values that are told, code that is walked, what comes out.
-/
import Derived.Test.YthpjjjnbkfnghaaGreatDoorMq1
import Derived.Recover
import Derived.Test.YthpjjjnbkfnghaaGreatDoorChecked
import Derived.KernelRfl
namespace Go.Proofs.YthpjjjnbkfnghaaGreatDoor
open Go

section
variable {P : Program} {Γ : Gam} {ops : Array Oper}

def Ext (hp hp' : Nat → Row) : Prop := ∀ p, hp p = .dead ∨ hp' p = hp p
theorem Ext.refl (hp : Nat → Row) : Ext hp hp := fun _ => .inr rfl
theorem Ext.trans {a b d : Nat → Row} (h : Ext a b) (k : Ext b d) : Ext a d := fun p => by
  rcases h p with e | e
  · exact .inl e
  · rcases k p with e' | e'
    · exact .inl (e ▸ e')
    · exact .inr (e'.trans e)

theorem aLoad_ext {hp hp' : Nat → Row} (hx : Ext hp hp') {t : TypeId} {x : AV} {r : Prop × AV} (h : aLoad P hp t x = some r) : aLoad P hp' t x = some r := by
  unfold aLoad at h ⊢
  split at h
  · exact h
  · exact h
  · rename_i p _ _ _
    rcases hx p with e | e
    · rw [e] at h; cases h
    · simp only [e]; exact h
  · rename_i p _ _ _
    rcases hx p with e | e
    · rw [e] at h; cases h
    · simp only [e]; exact h
  · rename_i p _ _ _ _ _
    rcases hx p with e | e
    · rw [e] at h; cases h
    · simp only [e]; exact h
  · rename_i p _ _ _ _ _
    rcases hx p with e | e
    · rw [e] at h; cases h
    · simp only [e]; exact h
  · cases h
theorem aIndexAddr_ext {hp hp' : Nat → Row} (hx : Ext hp hp') {t : TypeId} {x i : AV} {r : Prop × AV} (h : aIndexAddr P hp t x i = some r) : aIndexAddr P hp' t x i = some r := by
  unfold aIndexAddr at h ⊢
  split at h
  · exact h
  · rename_i p _ _ _ _
    rcases hx p with e | e
    · rw [e] at h; cases h
    · simp only [e]; exact h
  · exact h
  · exact h
  · exact h
  · cases h
theorem aLookup_ext {hp hp' : Nat → Row} (hx : Ext hp hp') {t : TypeId} {m k : AV} {ok : Bool} {r : Prop × AV} (h : aLookup P hp t m k ok = some r) : aLookup P hp' t m k ok = some r := by
  unfold aLookup at h ⊢
  split at h
  · rename_i p _ _
    rcases hx p with e | e
    · rw [e] at h; cases h
    · simp only [e]; exact h
  · cases h
theorem aLenM_ext {hp hp' : Nat → Row} (hx : Ext hp hp') {t : TypeId} {x : AV} {r : Prop × AV} (h : aLenM P hp t x = some r) : aLenM P hp' t x = some r := by
  cases x with
  | mp p ver =>
    unfold aLenM at h ⊢
    simp only at h ⊢
    rcases hx p with e | e
    · rw [e] at h
      split at h
      · rename_i h1; cases h1
      · cases h
    · simp only [e]; exact h
  | _ => exact h
theorem aConvM_ext {hp hp' : Nat → Row} (hx : Ext hp hp') {s d : TypeId} {x : AV} {r : Prop × AV} (h : aConvM P hp s d x = some r) : aConvM P hp' s d x = some r := by
  cases x with
  | ow p ver n =>
    unfold aConvM at h ⊢
    simp only at h ⊢
    rcases hx p with e | e
    · rw [e] at h
      split at h
      · rename_i h1; cases h1
      · cases h
    · simp only [e]; exact h
  | _ => exact h
theorem vw0_ext {hp hp' : Nat → Row} (hx : Ext hp hp') {x : AV} (h : vwP0 hp x) : vw0 hp' x = vw0 hp x ∧ vwP0 hp' x := by
  cases x with
  | ow p ver n =>
    simp only [vwP0] at h ⊢
    rcases hx p with e | e
    · rw [e] at h; exact h.elim
    · simp only [vw0, e]; exact ⟨trivial, h⟩
  | pt p ver j =>
    simp only [vwP0] at h ⊢
    rcases hx p with e | e
    · rw [e] at h; exact h.elim
    · simp only [vw0, e]; exact ⟨trivial, h⟩
  | pe p ver sz i j =>
    simp only [vwP0] at h ⊢
    rcases hx p with e | e
    · rw [e] at h; exact h.elim
    · simp only [vw0, e]; exact ⟨trivial, h⟩
  | _ => exact ⟨rfl, h⟩

theorem vw_ext {hp hp' : Nat → Row} (hx : Ext hp hp') {x : AV} (h : vwP hp x) : vw hp' x = vw hp x ∧ vwP hp' x := by
  rcases vw_cases x with ⟨m, c, rfl⟩ | ⟨e, _⟩
  · refine ⟨?_, fun j hj => ⟨(vw0_ext hx (h j hj).1).2, (h j hj).2⟩⟩
    simp only [vw]
    congr 1
    funext j
    split
    · rename_i hj; exact (vw0_ext hx (h j hj).1).1
    · rfl
  · rw [(e hp).2] at h
    rw [(e hp).1, (e hp').1, (e hp').2]
    exact vw0_ext hx h

theorem map_ev {α : Type} {ev ev' : Operand → AV} (f : α → Operand) (g : α → AV → Nat × AV) : ∀ (l : List α), (∀ x ∈ l, ev' (f x) = ev (f x)) → (l.map fun a => g a (ev' (f a))) = l.map fun a => g a (ev (f a))
  | [], _ => rfl
  | a :: l, h => by
    simp only [List.map_cons]
    rw [h a (List.mem_cons_self ..), map_ev f g l fun x hx => h x (List.mem_cons_of_mem _ hx)]
theorem map_ev' {ev ev' : Operand → AV} (l : List Operand) (h : ∀ x ∈ l, ev' x = ev x) : l.map ev' = l.map ev := List.map_congr_left h
theorem omap_ev {ev ev' : Operand → AV} (o : Option Operand) (h : ∀ x ∈ o.toArray, ev' x = ev x) : o.map ev' = o.map ev := by
  cases o with
  | none => rfl
  | some x => simp only [Option.map_some, h x (by simp)]

theorem apure_ext {hp hp' : Nat → Row} (hx : Ext hp hp') {ev ev' : Operand → AV} {op : Op} (he : ∀ x ∈ op.operands, ev' x = ev x) {r : Prop × AV} (h : apure P hp ev op = some r) : apure P hp' ev' op = some r := by
  unfold apure at h
  split at h <;> simp only [Op.operands, Call.operands] at he
  · rename_i x; simp only [apure, he x (by simp)]; exact h
  · rename_i x; simp only [apure, he x (by simp)]; exact h
  · rename_i c x y; simp only [apure, he c (by simp), he x (by simp), he y (by simp)]; exact h
  · rename_i t parts
    have e := map_ev (ev := ev) (ev' := ev') (fun a : Nat × Operand => a.2) (fun a z => (a.1, z)) parts.toList (fun x hx => he x.2 (by simp; exact ⟨x.1, by simpa using hx⟩))
    simp only [apure, e]; exact h
  · rename_i x; simp only [apure, he x (by simp)]; exact aLoad_ext hx h
  · rename_i x; simp only [apure, he x (by simp)]; exact h
  · rename_i op t x y _
    simp only [apure]
    have e : aBinO P ev' op t x y = aBinO P ev op t x y := by
      unfold aBinO
      split
      · rw [he x (by simp)]
      · rw [he x (by simp)]
      · rw [he x (by simp)]
      · rw [he x (by simp)]
      · rw [he x (by simp), he y (by simp)]
    rw [e]; exact h
  · rename_i x; simp only [apure, he x (by simp)]; exact h
  · rename_i x; simp only [apure, he x (by simp)]; exact aConvM_ext hx h
  · rename_i t x lo hi
    simp only [apure, he x (by simp), omap_ev lo (fun y hy => he y (by simp at hy ⊢; exact .inr (.inl hy))), omap_ev hi (fun y hy => he y (by simp at hy ⊢; exact .inr (.inr hy)))]
    exact h
  · rename_i t x lo hi m
    simp only [apure, he x (by simp), he m (by simp), omap_ev lo (fun y hy => he y (by simp at hy ⊢; exact .inr (.inl hy))), omap_ev hi (fun y hy => he y (by simp at hy ⊢; exact .inr (.inr (.inl hy))))]
    exact h
  · rename_i t m k ok; simp only [apure, he m (by simp), he k (by simp)]; exact aLookup_ext hx h
  · rename_i x f; simp only [apure, he x (by simp)]; exact h
  · rename_i x f; simp only [apure, he x (by simp)]; exact h
  · rename_i t x i; simp only [apure, he x (by simp), he i (by simp)]; exact aIndexAddr_ext hx h
  · rename_i t x i; simp only [apure, he x (by simp), he i (by simp)]; exact h
  · rename_i x i; simp only [apure, he x (by simp)]; exact h
  · exact h
  · rename_i x t; simp only [apure, he x (by simp)]; exact aLenM_ext hx h
  · rename_i xs ts
    simp only [apure, map_ev' xs (fun x hx => he x (by simp; exact hx))]; exact h
  · rename_i xs ts
    simp only [apure, map_ev' xs (fun x hx => he x (by simp; exact hx))]; exact h
  · cases h

theorem aop_ext {hp hp' : Nat → Row} (hx : Ext hp hp') {p ver : Nat} {ev ev' : Operand → AV} {op : Op} (he : ∀ x ∈ op.operands, ev' x = ev x) {pre : Prop} {z : AV} {row : Row}
    (h : aop P Γ hp p ver ev op = some (pre, z, row)) (hpre : pre) : ∃ pre', aop P Γ hp' p ver ev' op = some (pre', z, row) ∧ pre' := by
  unfold aop at h
  split at h
  · exact ⟨pre, by simp only [aop]; exact h, hpre⟩
  · rename_i e x
    refine ⟨pre, ?_, hpre⟩
    simp only [Op.operands] at he
    simp only [aop, he x (by simp)]; exact h
  · rename_i t n parts
    refine ⟨pre, ?_, hpre⟩
    simp only [Op.operands] at he
    have e := map_ev (ev := ev) (ev' := ev') (fun a : Nat × Operand => a.2) (fun a z => (a.1, z)) parts.toList (fun x hx => he x.2 (by simp; exact ⟨x.1, by simpa using hx⟩))
    simp only [aop, e]; exact h
  · rename_i t l c
    refine ⟨pre, ?_, hpre⟩
    simp only [Op.operands] at he
    simp only [aop, he l (by simp), he c (by simp)]; exact h
  · rename_i t r
    refine ⟨pre, ?_, hpre⟩
    simp only [Op.operands] at he
    simp only [aop, omap_ev r he]; exact h
  · rename_i f xs ts
    simp only [Op.operands, Call.operands] at he
    have e := map_ev' xs (fun x hx => he x (by simp; exact .inr hx))
    obtain ⟨s, hs, rfl, rfl, rfl⟩ := call_none h
    obtain ⟨h1, h2, h3⟩ := hpre
    have hvw : (xs.map ev).map (vw hp') = (xs.map ev).map (vw hp) := List.map_congr_left fun x hx' => (vw_ext hx (h1 x hx')).1
    refine ⟨(∀ x ∈ xs.map ev, vwP hp' x) ∧ s.pre ((xs.map ev).map (vw hp)) ∧ ((xs.map ev).any vwO = true → scal (s.res ((xs.map ev).map (vw hp)))), by simp only [aop, aCall, hs, e, hvw], fun x hx' => (vw_ext hx (h1 x hx')).2, h2, h3⟩
  · rename_i op _ _ _ _ _ _
    split at h
    · rename_i pre' z' hp1
      have := apure_ext hx he hp1
      refine ⟨pre, ?_, hpre⟩
      unfold aop
      split
      · rename_i heq _ _ _ _ _; exact absurd rfl (heq _)
      · rename_i heq _ _ _ _; exact absurd rfl (heq _ _)
      · rename_i heq _ _ _; exact absurd rfl (heq _ _ _)
      · rename_i heq _ _; exact absurd rfl (heq _ _ _)
      · rename_i heq _; exact absurd rfl (heq _ _)
      · rename_i heq; exact absurd rfl (heq _ _ _)
      · rw [this]; exact h
    · cases h

def gopF (P : Program) (Γ : Gam) (ops : Array Oper) (fr : Nat → AV) (hp : Nat → Row) (p ver : Nat) (o : Oper) : AOut :=
  match o.guard with
  | none => aop P Γ hp p ver (evAV fr) o.op
  | some (j, want) => match (ops[j]?).bind (·.dst) with
    | some d => match guardVal (fr d) want with
      | some g => match aop P Γ hp p ver (evG g o.op (evAV fr)) o.op with
        | some (pre, z, row) => some (g = true → pre, .gd g z, row)
        | none => some (g = false, .gd g .any, .dead)
      | none => none
    | none => none
theorem gopF_eq (st : AS) (o : Oper) : gop P Γ ops st o = gopF P Γ ops st.fr st.hp st.top st.nx o := rfl

def looks (ops : Array Oper) (o : Oper) : List Tmp :=
  (match o.guard with | some (j, _) => ((ops[j]?).bind (·.dst)).toList | none => []) ++ o.op.operands.toList.filterMap fun | .tmp t => some t | _ => none
theorem ev_looks {fr fr' : Nat → AV} {o : Oper} (h : ∀ t ∈ looks ops o, fr' t = fr t) : ∀ x ∈ o.op.operands, evAV fr' x = evAV fr x := by
  intro x hx
  cases x with
  | tmp t =>
    refine h t (List.mem_append.2 (.inr (List.mem_filterMap.2 ⟨.tmp t, by simpa using hx, rfl⟩)))
  | _ => rfl
theorem yield_of' {c : Ctx} {hp : Nat → Row} {η : Env} {w : World} {fr : Nat → AV} {a : Act} {j : Nat} {d : Tmp} {want g : Bool} (hj : (ops[j]?).bind (·.dst) = some d) (hs : Rep w η (Lset c η hp) (fr d) (a.tmps.getD d undef)) (hg : guardVal (fr d) want = some g) :
    (yielded ops a.tmps j == some want) = g := by
  have key : ∀ v, a.tmps.getD d undef = v → (yielded ops a.tmps j = match v with | .bool b => some b | _ => none) := fun v hb => by
    unfold yielded
    rw [hj]
    simp only [Option.bind_some]
    rw [Array.getD_eq_getD_getElem?] at hb
    cases hd : a.tmps[d]? with
    | none => rw [hd] at hb; simp only [Option.getD_none] at hb; subst hb; rfl
    | some u => rw [hd] at hb; simp only [Option.getD_some] at hb; subst hb; cases u <;> rfl
  unfold guardVal at hg
  split at hg
  · rename_i b heq
    rw [heq] at hs
    simp only [Option.some.injEq] at hg
    rw [key _ hs, ← hg]
    cases b <;> cases want <;> rfl
  · rename_i gg b heq
    rw [heq] at hs
    simp only [Option.some.injEq] at hg
    cases gg with
    | false => rw [key _ (hs.2 rfl), ← hg]; rfl
    | true =>
      rw [key _ (hs.1 rfl), ← hg]
      cases b <;> cases want <;> rfl
  · cases hg

theorem gopF_wp (hΓ : GOK P Γ) {c : Ctx} {hp hp' : Nat → Row} {nx : Nat} {η : Env} {w : World} (hx : Ext hp hp') (hs : HS c hp' nx η w) {fr fr' : Nat → AV} {a : Act} (hsl : ∀ t, Rep w η (Lset c η hp') (fr' t) (a.tmps.getD t undef))
    {p ver : Nat} {o : Oper} (h : ∀ t ∈ looks ops o, fr' t = fr t) {pre : Prop} {z : AV} {row : Row} (ho : gopF P Γ ops fr hp p ver o = some (pre, z, row)) (hpre : pre) (hrow : row = .dead ∨ (hp' p = row ∧ η ver = none ∧ c.n0 ≤ ver))
    {K : Act → World → Prop} {Q : Exit → Act → World → Prop}
    (hK : ∀ v η' w', HS c hp' nx η' w' → Stp c hp' η w η' w' → (∀ k, k ≠ ver ∨ row = .dead → η' k = η k) → Rep w' η' (Lset c η' hp') z v → K (a.put o.dst v) w') :
    if Region.wanted o (yielded ops a.tmps) then o.wp P a w K Q else K (a.put o.dst undef) w := by
  have hev := ev_looks h
  unfold gopF at ho
  split at ho
  · rename_i hg
    rw [if_pos (by simp [Region.wanted, hg])]
    obtain ⟨pre', h1, h2⟩ := aop_ext hx hev ho hpre
    exact aop_wp hΓ hs (rep_ev hsl) h1 h2 hrow hK
  · rename_i j want hg
    split at ho
    · rename_i d hj
      have hfd : fr' d = fr d := h d (List.mem_append.2 (.inl (by simp [hg, hj])))
      split at ho
      · rename_i g hgv
        split at ho
        · rename_i pre1 z1 row1 ha
          simp only [Option.some.injEq, Prod.mk.injEq] at ho
          obtain ⟨rfl, rfl, rfl⟩ := ho
          have hy := yield_of' (c := c) (hp := hp') (η := η) (w := w) (fr := fr') hj (hsl d) (by rw [hfd]; exact hgv)
          have hw : Region.wanted o (yielded ops a.tmps) = g := by simp only [Region.wanted, hg]; exact hy
          rw [hw]
          cases g with
          | true =>
            simp only [if_true]
            obtain ⟨pre2, h2, hp2⟩ := aop_ext (Γ := Γ) hx (ev := evG true o.op (evAV fr)) (ev' := evG true o.op (evAV fr')) (fun x hx' => evG_congr (hev x hx')) ha (hpre rfl)
            exact aop_wp hΓ hs (fun x => evG_rep rfl (rep_ev hsl x)) h2 hp2 hrow fun v η' w' h1 h2 h3 h4 => hK v η' w' h1 h2 h3 ⟨fun _ => h4, fun h => (by cases h)⟩
          | false =>
            simp only [Bool.false_eq_true, if_false]
            exact hK undef η w hs (Stp.refl _ _ _ _) (fun _ _ => rfl) ⟨fun h => (by cases h), fun _ => rfl⟩
        · simp only [Option.some.injEq, Prod.mk.injEq] at ho
          obtain ⟨rfl, rfl, rfl⟩ := ho
          subst hpre
          have hy := yield_of' (c := c) (hp := hp') (η := η) (w := w) (fr := fr') hj (hsl d) (by rw [hfd]; exact hgv)
          have hw : Region.wanted o (yielded ops a.tmps) = false := by simp only [Region.wanted, hg]; exact hy
          rw [hw]
          simp only [Bool.false_eq_true, if_false]
          exact hK undef η w hs (Stp.refl _ _ _ _) (fun _ _ => rfl) ⟨fun h => (by cases h), fun _ => rfl⟩
      · cases ho
    · cases ho

def frS (S : Nat → Bool) : Nat → List (Option Tmp × AV) → (Nat → AV) → (Nat → AV)
  | _, [], f => f
  | i, (d, z) :: r, f => frS S (i + 1) r (if S i then updO f d z else f)
theorem frS_congr {S S' : Nat → Bool} {t : Nat} : ∀ (l : List (Option Tmp × AV)) (i : Nat) (f f' : Nat → AV), f t = f' t → (∀ k d z, l[k]? = some (d, z) → d = some t → S (i + k) = S' (i + k)) → frS S i l f t = frS S' i l f' t
  | [], _, _, _, h, _ => h
  | (d, z) :: r, i, f, f', h, hS => by
    unfold frS
    refine frS_congr r (i + 1) _ _ ?_ (fun k d' z' hk hd => by have := hS (k + 1) d' z' (by simpa using hk) hd; rwa [show i + (k + 1) = i + 1 + k by omega] at this)
    by_cases e : d = some t
    · have := hS 0 d z rfl e
      simp only [Nat.add_zero] at this
      rw [this]
      cases S' i <;> simp [updO_at, e, h]
    · cases S i <;> cases S' i <;> simp [updO_at, e, h]
theorem frS_add {S : Nat → Bool} : ∀ (l : List (Option Tmp × AV)) (i : Nat) (f : Nat → AV) (j : Nat) (d : Option Tmp) (z : AV), l[j]? = some (d, z) → S (i + j) = false →
    (∀ k d' z', l[k]? = some (d', z') → j < k → S (i + k) = true → ∀ t, d = some t → d' ≠ some t) →
    frS (fun k => if k = i + j then true else S k) i l f = updO (frS S i l f) d z
  | [], _, _, j, _, _, h, _, _ => by simp at h
  | (d0, z0) :: r, i, f, j, d, z, h, hS, hlast => by
    funext t
    unfold frS
    cases j with
    | zero =>
      simp only [List.getElem?_cons_zero, Option.some.injEq, Prod.mk.injEq] at h
      obtain ⟨rfl, rfl⟩ := h
      simp only [Nat.add_zero] at hS
      simp only [Nat.add_zero, if_true, hS, Bool.false_eq_true, if_false]
      have e1 : frS (fun k => if k = i then true else S k) (i + 1) r (updO f d0 z0) t = frS S (i + 1) r (updO f d0 z0) t :=
        frS_congr r (i + 1) _ _ rfl (fun k d' z' _ _ => by rw [if_neg (by omega)])
      rw [e1, updO_at]
      by_cases e : d0 = some t
      · rw [if_pos e]
        have : frS S (i + 1) r (updO f d0 z0) t = frS (fun _ => false) (i + 1) r (updO f d0 z0) t := frS_congr r (i + 1) _ _ rfl fun k d' z' hk hd => by
          cases hs : S (i + 1 + k) with
          | false => rfl
          | true => exact absurd hd (hlast (k + 1) d' z' (by simpa using hk) (by omega) (by rw [show i + (k + 1) = i + 1 + k by omega]; exact hs) t e)
        rw [this]
        have none_ : ∀ (r : List (Option Tmp × AV)) (i : Nat) (f : Nat → AV), frS (fun _ => false) i r f = f := by
          intro r
          induction r with
          | nil => intro _ _; rfl
          | cons x r ih =>
            intro i f
            obtain ⟨d1, z1⟩ := x
            unfold frS
            simp only [Bool.false_eq_true, if_false]
            exact ih (i + 1) f
        rw [none_, updO_at, if_pos e]
      · rw [if_neg e]
        exact frS_congr r (i + 1) _ _ (by rw [updO_at, if_neg e]) fun _ _ _ _ _ => rfl
    | succ j =>
      have h' : r[j]? = some (d, z) := by simpa using h
      have hne : ¬ i = i + (j + 1) := by omega
      simp only [if_neg hne]
      have := frS_add (S := S) r (i + 1) (if S i = true then updO f d0 z0 else f) j d z h' (by rw [show i + 1 + j = i + (j + 1) by omega]; exact hS)
        (fun k d' z' hk hlt hs => hlast (k + 1) d' z' (by simpa using hk) (by omega) (by rw [show i + (k + 1) = i + 1 + k by omega]; exact hs))
      rw [show i + 1 + j = i + (j + 1) by omega] at this
      rw [this]

inductive TR (P : Program) (Γ : Gam) (ops : Array Oper) : List Oper → AS → List (AV × Row) → AS → Prop where
  | nil (st : AS) : TR P Γ ops [] st [] st
  | cons {o : Oper} {r : List Oper} {st st' : AS} {pre : Prop} {z : AV} {row : Row} {vs : List (AV × Row)} : gop P Γ ops st o = some (pre, z, row) → dstOK st.sz o.dst → pre →
      TR P Γ ops r (st.put o.dst z row) vs st' → TR P Γ ops (o :: r) st ((z, row) :: vs) st'

theorem put_sz (st : AS) (d : Option Tmp) (z : AV) (row : Row) : (st.put d z row).sz = st.sz ∧ (st.put d z row).df = st.df ∧ (st.put d z row).fr = updO st.fr d z := by cases row <;> exact ⟨rfl, rfl, rfl⟩
theorem put_live (st : AS) (d : Option Tmp) (z : AV) {row : Row} (h : row ≠ .dead) : (st.put d z row).hp = updR st.hp st.top row ∧ (st.put d z row).top = st.top + 1 ∧ (st.put d z row).nx = st.nx + 1 := by
  cases row with
  | dead => exact absurd rfl h
  | _ => exact ⟨rfl, rfl, rfl⟩
theorem put_dead (st : AS) (d : Option Tmp) (z : AV) : (st.put d z .dead).hp = st.hp ∧ (st.put d z .dead).top = st.top ∧ (st.put d z .dead).nx = st.nx := ⟨rfl, rfl, rfl⟩
theorem gop_row {st : AS} {o : Oper} {pre : Prop} {z : AV} {row : Row} (h : gop P Γ ops st o = some (pre, z, row)) : row = .dead ∨ row.ver = some st.nx := by
  unfold gop at h
  split at h
  · exact aop_row h
  · split at h
    · split at h
      · split at h
        · rename_i ha
          simp only [Option.some.injEq, Prod.mk.injEq] at h
          obtain ⟨_, _, rfl⟩ := h
          exact aop_row ha
        · simp only [Option.some.injEq, Prod.mk.injEq] at h
          obtain ⟨_, _, rfl⟩ := h
          exact .inl rfl
      · cases h
    · cases h

structure At (P : Program) (Γ : Gam) (ops : Array Oper) (st0 st' : AS) (o : Oper) (z : AV) (row : Row) (stj : AS) : Prop where
  pre : ∃ pre, gop P Γ ops stj o = some (pre, z, row) ∧ pre
  dst : dstOK st0.sz o.dst
  ext : Ext stj.hp st'.hp
  rowAt : row ≠ .dead → st'.hp stj.top = row
  nxAt : row ≠ .dead → st0.nx ≤ stj.nx ∧ stj.nx < st'.nx

theorem TR.ext {l : List Oper} {st st' : AS} {vs : List (AV × Row)} (h : TR P Γ ops l st vs st') : (∀ p, st.top ≤ p → st.hp p = .dead) →
    Ext st.hp st'.hp ∧ (∀ p, st'.top ≤ p → st'.hp p = .dead) ∧ st.top ≤ st'.top ∧ st.nx ≤ st'.nx ∧ st'.sz = st.sz ∧ st'.df = st.df ∧ (∀ p, p < st.top → st'.hp p = st.hp p) ∧ vs.length = l.length := by
  induction h with
  | nil st => exact fun hd => ⟨Ext.refl _, hd, Nat.le_refl _, Nat.le_refl _, rfl, rfl, fun _ _ => rfl, rfl⟩
  | @cons o r st st' pre z row vs hg hd hp _ ih =>
    intro hdead
    obtain ⟨e1, e2, _⟩ := put_sz st o.dst z row
    by_cases hr : row = .dead
    · subst hr
      obtain ⟨a1, a2, a3⟩ := put_dead st o.dst z
      rw [a1, a2, a3, e1, e2] at ih
      obtain ⟨i1, i2, i3, i4, i5, i6, i7, i8⟩ := ih hdead
      exact ⟨i1, i2, i3, i4, i5, i6, i7, by simp [i8]⟩
    · obtain ⟨a1, a2, a3⟩ := put_live st o.dst z hr
      rw [a1, a2, a3, e1, e2] at ih
      obtain ⟨i1, i2, i3, i4, i5, i6, i7, i8⟩ := ih fun p hp => by rw [updR_ne _ _ (by omega)]; exact hdead p (by omega)
      refine ⟨Ext.trans (fun p => ?_) i1, i2, by omega, by omega, i5, i6, fun p hp => by rw [i7 p (by omega), updR_ne _ _ (by omega)], by simp [i8]⟩
      by_cases e : p = st.top
      · exact .inl (e ▸ hdead _ (Nat.le_refl _))
      · exact .inr (updR_ne _ _ e)

def puts : List Oper → List (AV × Row) → List (Option Tmp × AV)
  | o :: r, (z, _) :: vs => (o.dst, z) :: puts r vs
  | _, _ => []

theorem TR.at {l : List Oper} {st st' : AS} {vs : List (AV × Row)} (h : TR P Γ ops l st vs st') : (∀ p, st.top ≤ p → st.hp p = .dead) → ∀ (i : Nat) (f : Nat → AV), f = st.fr →
    ∃ sts : Nat → AS, (∀ j o, l[j]? = some o → ∃ z row, vs[j]? = some (z, row) ∧ (puts l vs)[j]? = some (o.dst, z) ∧ At P Γ ops st st' o z row (sts j) ∧ (sts j).fr = frS (fun k => decide (k < i + j)) i (puts l vs) f) ∧
      (∀ j k z row z' row', j < k → vs[j]? = some (z, row) → vs[k]? = some (z', row') → row ≠ .dead → row' ≠ .dead → (sts j).nx < (sts k).nx) ∧
      st'.fr = frS (fun _ => true) i (puts l vs) f := by
  induction h with
  | nil st => exact fun _ i f hf => ⟨fun _ => st, fun j o hj => by simp at hj, fun j k z row z' row' _ hj => by simp at hj, by simp [puts, frS, hf]⟩
  | @cons o r st st' pre z row vs hg hd hp htr ih =>
    intro hdead i f hf
    obtain ⟨e1, e2, e3⟩ := put_sz st o.dst z row
    have hdead' : ∀ p, (st.put o.dst z row).top ≤ p → (st.put o.dst z row).hp p = .dead := by
      by_cases hr : row = .dead
      · subst hr; exact hdead
      · obtain ⟨a1, a2, _⟩ := put_live st o.dst z hr
        rw [a1, a2]
        exact fun p hp => by rw [updR_ne _ _ (by omega)]; exact hdead p (by omega)
    obtain ⟨x1, x2, x3, x4, x5, x6, x7, x8⟩ := htr.ext hdead'
    have hE : Ext st.hp st'.hp := ((TR.cons hg hd hp htr).ext hdead).1
    obtain ⟨sts, h1, h2, h3⟩ := ih hdead' (i + 1) (updO f o.dst z) (by rw [e3, hf])
    have tail : ∀ (S : Nat → Bool), S i = true → frS S i (puts (o :: r) ((z, row) :: vs)) f = frS S (i + 1) (puts r vs) (updO f o.dst z) := fun S hS => by simp [puts, frS, hS]
    refine ⟨fun j => match j with | 0 => st | j + 1 => sts j, fun j o' hj => ?_, fun j k zj rj zk rk hlt hj hk hrj hrk => ?_, ?_⟩
    · cases j with
      | zero =>
        simp only [List.getElem?_cons_zero, Option.some.injEq] at hj
        subst hj
        refine ⟨z, row, rfl, rfl, ⟨⟨pre, hg, hp⟩, hd, hE, fun hr => ?_, fun hr => ?_⟩, ?_⟩
        · obtain ⟨a1, a2, _⟩ := put_live st o.dst z hr
          rw [x7 st.top (by rw [a2]; omega), a1, updR_at]
        · obtain ⟨_, _, a3⟩ := put_live st o.dst z hr
          exact ⟨Nat.le_refl _, by show st.nx < st'.nx; omega⟩
        · have : ∀ (l : List (Option Tmp × AV)) (i' : Nat) (f : Nat → AV), i ≤ i' → frS (fun k => decide (k < i + 0)) i' l f = f := by
            intro l
            induction l with
            | nil => intro _ _ _; rfl
            | cons x l ih => intro i' f hle; unfold frS; rw [if_neg (by simp; omega)]; exact ih (i' + 1) f (by omega)
          simp only
          rw [this _ i f (Nat.le_refl _), hf]
      | succ j =>
        obtain ⟨z', row', hv, hpu, hat, hfr⟩ := h1 j o' (by simpa using hj)
        refine ⟨z', row', by simpa using hv, by simpa [puts] using hpu, ⟨hat.pre, by rw [← e1]; exact hat.dst, hat.ext, hat.rowAt, fun hr => ?_⟩, ?_⟩
        · have := hat.nxAt hr
          have hle : st.nx ≤ (st.put o.dst z row).nx := by
            by_cases hr : row = .dead
            · subst hr; exact Nat.le_refl _
            · rw [(put_live st o.dst z hr).2.2]; omega
          exact ⟨by show st.nx ≤ (sts j).nx; omega, this.2⟩
        · simp only
          rw [hfr, tail _ (by simp), show i + 1 + j = i + (j + 1) by omega]
    · cases k with
      | zero => omega
      | succ k =>
        cases j with
        | zero =>
          simp only [List.getElem?_cons_zero, Option.some.injEq, Prod.mk.injEq] at hj
          obtain ⟨rfl, rfl⟩ := hj
          have hlen : k < r.length := by
            have : k < vs.length := (List.getElem?_eq_some_iff.1 (by simpa using hk)).1
            omega
          obtain ⟨z', row', hv, _, hat, _⟩ := h1 k r[k] (List.getElem?_eq_getElem hlen)
          have hk' : vs[k]? = some (zk, rk) := by simpa using hk
          rw [hk'] at hv
          simp only [Option.some.injEq, Prod.mk.injEq] at hv
          obtain ⟨rfl, rfl⟩ := hv
          have := (hat.nxAt hrk).1
          rw [(put_live st o.dst z hrj).2.2] at this
          simp only
          omega
        | succ j => exact h2 j k zj rj zk rk (by omega) (by simpa using hj) (by simpa using hk) hrj hrk
    · rw [h3, tail _ rfl]

theorem TR.declare {c : Ctx} {η : Env} {w : World} {l : List Oper} {st st' : AS} {vs : List (AV × Row)} (h : TR P Γ ops l st vs st') : HS c st.hp st.nx η w →
    HS c st'.hp st'.nx η w ∧ ∀ b, Lset c η st'.hp b → Lset c η st.hp b := by
  induction h with
  | nil st => exact fun hs => ⟨hs, fun _ h => h⟩
  | @cons o r st st' pre z row vs hg hd hp _ ih =>
    intro hs
    by_cases hr : row = .dead
    · subst hr; exact ih hs
    · obtain ⟨a1, _, a3⟩ := put_live st o.dst z hr
      rw [a1, a3] at ih
      obtain ⟨h1, h2⟩ := hs.declare (p := st.top) ((gop_row hg).resolve_left hr)
      obtain ⟨h3, h4⟩ := ih h1
      exact ⟨h3, fun b hb => h2 b (h4 b hb)⟩
theorem puts_len {l : List Oper} {vs : List (AV × Row)} {k : Nat} {x : Option Tmp × AV} (h : (puts l vs)[k]? = some x) : k < l.length := by
  have : ∀ (l : List Oper) (vs : List (AV × Row)), (puts l vs).length ≤ l.length := by
    intro l
    induction l with
    | nil => intro vs; simp [puts]
    | cons o l ih =>
      intro vs
      cases vs with
      | nil => simp [puts]
      | cons v vs => obtain ⟨z, row⟩ := v; simp only [puts, List.length_cons]; have := ih vs; omega
  have h1 := (List.getElem?_eq_some_iff.1 h).1
  have := this l vs
  omega
theorem frS_none : ∀ (r : List (Option Tmp × AV)) (i : Nat) (f : Nat → AV) (t : Nat), frS (fun _ => false) i r f t = f t
  | [], _, _, _ => rfl
  | (d, z) :: r, i, f, t => by
    unfold frS
    simp only [Bool.false_eq_true, if_false]
    exact frS_none r (i + 1) f t
end
end Go.Proofs.YthpjjjnbkfnghaaGreatDoor
namespace Go.Proofs.YthpjjjnbkfnghaaGreatDoor
open Go

def maskOf (M : List Nat) : List Edge → Nat
  | [] => 0
  | e :: es => if Region.binds .any e then maskOf M es ||| (2 ^ e.on ||| M.getD e.on 0) else maskOf M es
def masks : List Nat → List Oper → List Nat
  | acc, [] => acc
  | acc, o :: r => masks (acc ++ [maskOf acc o.after.toList]) r
def touch (ops : Array Oper) (a b : Oper) : Bool :=
  (match a.dst with | some t => b.dst == some t || (looks ops b).contains t | none => false) || (match b.dst with | some t => (looks ops a).contains t | none => false)
def chk (ops : Array Oper) (all : List Nat) (m : Nat) : Nat → List Nat → List (Nat × Oper) → List Oper → Bool
  | _, _, _, [] => true
  | _, [], _, _ :: _ => false
  | j, mj :: M, prev, o :: r => mj == maskOf all o.after.toList && o.after.toList.all (fun e => !Region.binds .any e || decide (e.on < j)) &&
      prev.all (fun p => (decide (j < m) && !touch ops p.2 o) || mj.testBit p.1) && chk ops all m (j + 1) M ((j, o) :: prev) r
def drawOK (l : List Oper) (m : Nat) : Bool := chk l.toArray (masks [] l) m 0 (masks [] l) [] l

theorem mask_bit {M : List Nat} {i : Nat} : ∀ {es : List Edge}, (maskOf M es).testBit i = true → ∃ e ∈ es, Region.binds .any e = true ∧ (e.on = i ∨ (M.getD e.on 0).testBit i = true)
  | [], h => by simp [maskOf] at h
  | e :: es, h => by
    unfold maskOf at h
    split at h
    · rename_i hb
      rw [Nat.testBit_or, Nat.testBit_or, Bool.or_eq_true, Bool.or_eq_true] at h
      rcases h with h | h | h
      · obtain ⟨e', he, r⟩ := mask_bit h
        exact ⟨e', List.mem_cons_of_mem _ he, r⟩
      · rw [Nat.testBit_two_pow] at h
        exact ⟨e, List.mem_cons_self .., hb, .inl (by simpa using h)⟩
      · exact ⟨e, List.mem_cons_self .., hb, .inr h⟩
    · obtain ⟨e', he, r⟩ := mask_bit h
      exact ⟨e', List.mem_cons_of_mem _ he, r⟩

theorem chk_spec {ops : Array Oper} {all : List Nat} {m : Nat} : ∀ (l : List Oper) (j0 : Nat) (M : List Nat) (prev : List (Nat × Oper)), chk ops all m j0 M prev l = true →
    ∀ (j : Nat) (o : Oper), l[j]? = some o → M.getD j 0 = maskOf all o.after.toList ∧ (∀ e ∈ o.after.toList, Region.binds .any e = true → e.on < j0 + j) ∧
      (∀ p ∈ prev, (j0 + j < m → touch ops p.2 o = true) → (M.getD j 0).testBit p.1 = true) ∧
      (∀ (i : Nat) (oi : Oper), i < j → l[i]? = some oi → (j0 + j < m → touch ops oi o = true) → (M.getD j 0).testBit (j0 + i) = true)
  | [], _, _, _, _, j, _, h => by simp at h
  | _ :: _, _, [], _, h, _, _, _ => by simp [chk] at h
  | o :: r, j0, mj :: M, prev, h, j, o', hj => by
    simp only [chk, Bool.and_eq_true] at h
    obtain ⟨⟨⟨h1, h2⟩, h3⟩, h4⟩ := h
    cases j with
    | zero =>
      simp only [List.getElem?_cons_zero, Option.some.injEq] at hj
      subst hj
      refine ⟨by simpa using h1, fun e he hb => ?_, fun p hp ht => ?_, fun i _ hi => absurd hi (by omega)⟩
      · have := List.all_eq_true.1 h2 e he
        simpa [hb] using this
      · have := List.all_eq_true.1 h3 p hp
        simp only [Bool.or_eq_true, Bool.and_eq_true, decide_eq_true_eq, Bool.not_eq_true'] at this
        rcases this with ⟨hlt, hn⟩ | hb
        · rw [ht (by omega)] at hn; cases hn
        · simpa using hb
    | succ j =>
      have := chk_spec r (j0 + 1) M ((j0, o) :: prev) h4 j o' (by simpa using hj)
      obtain ⟨g1, g2, g3, g4⟩ := this
      simp only [List.getD_cons_succ]
      refine ⟨g1, fun e he hb => by have := g2 e he hb; omega, fun p hp ht => g3 p (List.mem_cons_of_mem _ hp) (fun hlt => ht (by omega)), fun i oi hi hoi ht => ?_⟩
      cases i with
      | zero =>
        simp only [List.getElem?_cons_zero, Option.some.injEq] at hoi
        subst hoi
        exact g3 (j0, o) (List.mem_cons_self ..) (fun hlt => ht (by omega))
      | succ i =>
        have := g4 i oi (by omega) (by simpa using hoi) (fun hlt => ht (by omega))
        rwa [show j0 + 1 + i = j0 + (i + 1) by omega] at this

structure Drawn (l : List Oper) (m : Nat) : Prop where
  edge : ∀ (j : Nat) (o : Oper), l[j]? = some o → ∀ e ∈ o.after, Region.binds .any e = true → e.on < j
  bit : ∀ (j : Nat) (o : Oper), l[j]? = some o → ∀ i, ((masks [] l).getD j 0).testBit i = true → ∃ e ∈ o.after, Region.binds .any e = true ∧ (e.on = i ∨ ((masks [] l).getD e.on 0).testBit i = true)
  tch : ∀ (i j : Nat) (oi oj : Oper), i < j → l[i]? = some oi → l[j]? = some oj → (j < m → touch l.toArray oi oj = true) → ((masks [] l).getD j 0).testBit i = true
theorem Drawn.of {l : List Oper} {m : Nat} (h : drawOK l m = true) : Drawn l m where
  edge := fun j o hj e he hb => by have := (chk_spec l 0 _ [] h j o hj).2.1 e (by simpa using he) hb; omega
  bit := fun j o hj i hi => by
    have h1 := (chk_spec l 0 _ [] h j o hj).1
    rw [h1] at hi
    obtain ⟨e, he, r⟩ := mask_bit hi
    exact ⟨e, by simpa using he, r⟩
  tch := fun i j oi oj hij hi hj ht => by
    have := (chk_spec l 0 _ [] h j oj hj).2.2.2 i oi hij hi (fun hlt => ht (by omega))
    rwa [Nat.zero_add] at this

def Closed (l : List Oper) (S : Nat → Bool) : Prop := ∀ (j : Nat) (o : Oper), l[j]? = some o → S j = true → ∀ e ∈ o.after, Region.binds .any e = true → S e.on = true
theorem Drawn.anc {l : List Oper} {m : Nat} (h : Drawn l m) {S : Nat → Bool} (hc : Closed l S) : ∀ (n j : Nat) (o : Oper), j ≤ n → l[j]? = some o → (∀ e ∈ o.after, Region.binds .any e = true → S e.on = true) →
    ∀ i, ((masks [] l).getD j 0).testBit i = true → S i = true := by
  intro n
  induction n with
  | zero =>
    intro j o hjn hj hS i hi
    obtain ⟨e, he, hb, r⟩ := h.bit j o hj i hi
    have := h.edge j o hj e he hb
    omega
  | succ n ih =>
    intro j o hjn hj hS i hi
    obtain ⟨e, he, hb, r⟩ := h.bit j o hj i hi
    have hlt := h.edge j o hj e he hb
    rcases r with r | r
    · rw [← r]; exact hS e he hb
    · have hlen : e.on < l.length := by
        have := (List.getElem?_eq_some_iff.1 hj).1
        omega
      exact ih e.on l[e.on] (by omega) (List.getElem?_eq_getElem hlen) (fun e' he' hb' => hc e.on _ (List.getElem?_eq_getElem hlen) (hS e he hb) e' he' hb') i r

section
variable {P : Program} {Γ : Gam}

def xOpsA (P : Program) (Γ : Gam) (ops : Array Oper) : Nat → List Oper → AS → (AS → Prop) → Prop
  | 0, l, st, K => xOps P Γ ops l st K
  | _ + 1, [], st, K => K st
  | m + 1, o :: r, st, K => match gop P Γ ops st o with
    | some (pre, z, row) => (dstOK st.sz o.dst ∧ pre) ∧ xOpsA P Γ ops m r (st.put o.dst z row) K
    | none => False
theorem xOpsA_TR {ops : Array Oper} {K : AS → Prop} : ∀ (m : Nat) (l : List Oper) (st : AS), xOpsA P Γ ops m l st K → ∃ vs st', TR P Γ ops (l.take m) st vs st' ∧ xOps P Γ ops (l.drop m) st' K
  | 0, l, st, h => ⟨[], st, by simpa using TR.nil st, by unfold xOpsA at h; simpa using h⟩
  | m + 1, [], st, h => ⟨[], st, by simpa using TR.nil st, by unfold xOpsA at h; simpa [xOps] using h⟩
  | m + 1, o :: r, st, h => by
    unfold xOpsA at h
    split at h
    · rename_i pre z row hg
      obtain ⟨⟨hd, hp⟩, hx⟩ := h
      obtain ⟨vs, st', h1, h2⟩ := xOpsA_TR m r _ hx
      exact ⟨(z, row) :: vs, st', by simpa using TR.cons hg hd hp h1, by simpa using h2⟩
    · exact h.elim

def left (listed : Array Bool) (n : Nat) : Nat := (List.range n).countP fun i => !listed.getD i false
theorem countP_set (listed : Array Bool) {j : Nat} (hj : listed.getD j true = false) : ∀ n, (List.range n).countP (fun i => !(listed.setIfInBounds j true).getD i false) + (if j < n then 1 else 0) = (List.range n).countP fun i => !listed.getD i false
  | 0 => by simp
  | n + 1 => by
    have hjs : j < listed.size := by
      rcases Nat.lt_or_ge j listed.size with h | h
      · exact h
      · simp [h] at hj
    have ih := countP_set listed hj n
    rw [List.range_succ, List.countP_append, List.countP_append, List.countP_singleton, List.countP_singleton]
    by_cases e : j = n
    · subst e
      have h1 : (listed.setIfInBounds j true).getD j false = true := by simp [hjs]
      have h2 : listed.getD j false = false := by simpa [hjs] using hj
      rw [h1, h2]
      rw [if_neg (by omega)] at ih
      simp
      simpa using ih
    · have h1 : (listed.setIfInBounds j true).getD n false = listed.getD n false := by
        simp only [Array.getD_eq_getD_getElem?, Array.getElem?_setIfInBounds_ne e]
      rw [h1]
      by_cases hlt : j < n
      · have e2 : (if j < n + 1 then 1 else 0) = 1 := if_pos (by omega)
        rw [e2]; rw [if_pos hlt] at ih; omega
      · have e2 : (if j < n + 1 then 1 else 0) = 0 := if_neg (by omega)
        rw [e2]; rw [if_neg hlt] at ih; omega

theorem getD_listed {listed : Array Bool} {n j : Nat} (hs : listed.size = n) (hj : j < n) (d : Bool) : listed.getD j d = listed.getD j false := by
  subst hs
  simp [hj]

theorem some_ready {l : List Oper} {m : Nat} (hD : Drawn l m) {listed : Array Bool} (hs : listed.size = l.length) (h : left listed l.length ≠ 0) : ∃ j, j ∈ Region.ready .any l.toArray listed := by
  have hex : ∃ j, j < l.length ∧ listed.getD j false = false := by
    have : 0 < (List.range l.length).countP fun i => !listed.getD i false := Nat.pos_of_ne_zero h
    obtain ⟨j, hj, hn⟩ := List.countP_pos_iff.1 this
    exact ⟨j, by simpa using hj, by simpa using hn⟩
  have hmin : ∀ n, (∃ j, j ≤ n ∧ j < l.length ∧ listed.getD j false = false) → ∃ j, j < l.length ∧ listed.getD j false = false ∧ ∀ k, k < j → listed.getD k false = true := by
    intro n
    induction n with
    | zero =>
      rintro ⟨j, hj, h1, h2⟩
      exact ⟨j, h1, h2, fun k hk => by omega⟩
    | succ n ih =>
      rintro ⟨j, hj, h1, h2⟩
      by_cases hall : ∀ k, k < j → listed.getD k false = true
      · exact ⟨j, h1, h2, hall⟩
      · have : ∃ k, k < j ∧ listed.getD k false = false := by
          apply Classical.byContradiction
          intro hno
          apply hall
          intro k hk
          cases hv : listed.getD k false with
          | true => rfl
          | false => exact absurd ⟨k, hk, hv⟩ hno
        obtain ⟨k, hk, hv⟩ := this
        exact ih ⟨k, by omega, by omega, hv⟩
  obtain ⟨j0, h1, h2⟩ := hex
  obtain ⟨j, hj, hn, hall⟩ := hmin j0 ⟨j0, Nat.le_refl _, h1, h2⟩
  refine ⟨j, mem_ready.2 ⟨by rw [getD_listed hs hj]; exact hn, l[j], by simp [hj], fun e he hb => hall _ (hD.edge j l[j] (List.getElem?_eq_getElem hj) e he hb)⟩⟩

theorem ready_spec {l : List Oper} {listed : Array Bool} (hs : listed.size = l.length) {j : Nat} (h : j ∈ Region.ready .any l.toArray listed) :
    j < l.length ∧ listed.getD j true = false ∧ listed.getD j false = false ∧ ∃ o, l[j]? = some o ∧ ∀ e ∈ o.after, Region.binds .any e = true → listed.getD e.on false = true := by
  obtain ⟨h0, o, ho, hall⟩ := mem_ready.1 h
  have ho' : l[j]? = some o := by simpa using ho
  have hj := (List.getElem?_eq_some_iff.1 ho').1
  exact ⟨hj, h0, by rw [← getD_listed hs hj true]; exact h0, o, ho', hall⟩

theorem set_getD {listed : Array Bool} {n j : Nat} (hs : listed.size = n) (hj : j < n) (k : Nat) : (listed.setIfInBounds j true).getD k false = if k = j then true else listed.getD k false := by
  subst hs
  by_cases e : k = j
  · subst e; simp [hj]
  · rw [if_neg e, Array.getD_eq_getD_getElem?, Array.getElem?_setIfInBounds_ne (Ne.symm e), ← Array.getD_eq_getD_getElem?]

theorem draw_rest (hΓ : GOK P Γ) {l : List Oper} {m : Nat} (hD : Drawn l m) {c : Ctx} {K : AS → Prop} {Q : Exit → Act → World → Prop} (hQ : ∀ st' η' a' w', SR c st' η' a' w' → K st' → Q .normal a' w') :
    ∀ (fuel k : Nat) (listed : Array Bool) (st : AS) (η : Env) (a : Act) (w : World), m ≤ k → listed.size = l.length → (∀ j, j < l.length → listed.getD j false = decide (j < k)) → left listed l.length = fuel → SR c st η a w →
      xOps P Γ l.toArray (l.drop k) st K → wpAny P .any l.toArray Q fuel listed a w := by
  intro fuel
  induction fuel with
  | zero =>
    intro k listed st η a w hk hs hl hleft hsr hx
    have hall : ∀ j, j < l.length → listed.getD j false = true := fun j hj => by
      cases hv : listed.getD j false with
      | true => rfl
      | false =>
        have : 0 < (List.range l.length).countP fun i => !listed.getD i false := List.countP_pos_iff.2 ⟨j, by simpa using hj, by simpa using hv⟩
        unfold left at hleft
        omega
    have hkl : l.length ≤ k := by
      rcases Nat.lt_or_ge k l.length with h | h
      · have := hall k h
        rw [hl k h] at this
        simp at this
      · exact h
    refine ⟨?_, ?_⟩
    · rw [List.eq_nil_iff_forall_not_mem]
      intro j hj
      obtain ⟨h1, _, h2, _⟩ := ready_spec hs hj
      rw [hall j h1] at h2
      cases h2
    · rw [List.drop_eq_nil_of_le hkl] at hx
      exact hQ _ _ _ _ hsr hx
  | succ fuel ih =>
    intro k listed st η a w hk hs hl hleft hsr hx
    refine ⟨fun h0 => ?_, fun i hi => ?_⟩
    · obtain ⟨j, hj⟩ := some_ready hD hs (by omega)
      rw [h0] at hj
      cases hj
    · obtain ⟨hil, hit, hif, o, ho, hedges⟩ := ready_spec hs hi
      have hik : k ≤ i := by
        rw [hl i hil] at hif
        simpa using hif
      have hcl : Closed l (fun j => listed.getD j false) := fun j oj hj hSj e he hb => by
        have hjl := (List.getElem?_eq_some_iff.1 hj).1
        have h1 := hD.edge j oj hj e he hb
        simp only at hSj ⊢
        rw [hl j hjl] at hSj
        rw [hl e.on (by omega)]
        simp only [decide_eq_true_eq] at hSj ⊢
        omega
      have hei : i = k := by
        rcases Nat.lt_or_ge k i with hlt | hge
        · have hkl : k < l.length := by omega
          have hb := hD.tch k i l[k] o hlt (List.getElem?_eq_getElem hkl) ho (fun h => absurd h (by omega))
          have := hD.anc hcl i i o (Nat.le_refl _) ho hedges k hb
          rw [hl k hkl] at this
          simp at this
        · omega
      subst hei
      have hdrop : l.drop i = o :: l.drop (i + 1) := by
        rw [List.drop_eq_getElem_cons hil]
        congr 1
        rw [List.getElem?_eq_getElem hil] at ho
        exact Option.some.inj ho
      rw [hdrop] at hx
      have hnext : ∀ st' η' a' w', SR c st' η' a' w' → xOps P Γ l.toArray (l.drop (i + 1)) st' K → wpAny P .any l.toArray Q fuel (listed.setIfInBounds i true) a' w' := fun st' η' a' w' hsr' hx' => by
        refine ih (i + 1) _ st' η' a' w' (by omega) (by simpa using hs) (fun j hj => ?_) ?_ hsr' hx'
        · rw [set_getD hs hil, hl j hj]
          by_cases e : j = i
          · subst e; simp
          · rw [if_neg e]
            by_cases h1 : j < i
            · simp [h1]; omega
            · have : ¬ j < i + 1 := by omega
              simp [h1, this]
        · have := countP_set listed hit l.length
          rw [if_pos hil] at this
          unfold left at hleft ⊢
          omega
      unfold wpOp
      have hoo : l.toArray[i]? = some o := by simpa using ho
      rw [hoo]
      simp only
      unfold xOps at hx
      split at hx
      · rename_i pre z row hg
        have := gop_wp hΓ hsr hg hx.1.2 hx.1.1 (K := wpAny P .any l.toArray Q fuel (listed.setIfInBounds i true)) (Q := Q) (fun η' a' w' hsr' => hnext _ η' a' w' hsr' hx.2)
        split
        · rename_i hw; rw [if_pos hw] at this; exact .inl this
        · rename_i hw; rw [if_neg hw] at this; exact this
      · rw [if_pos (by simp [Region.wanted, hx.1])]
        exact .inl (bop_wp hΓ hx.2 c η a w _ Q hsr fun st' η' a' w' hsr' hx' => hnext st' η' a' w' hsr' hx')

theorem AW.draw (hΓ : GOK P Γ) (hm : P.follows .mixedOrders = true) {Q : Exit → AS → Prop} {st : AS} {id : Nat} {l : List Oper} (m : Nat) (hchk : drawOK l m = true) (h : xOpsA P Γ l.toArray m l st (Q .normal)) :
    AW P (.region id l.toArray true) Q st := by
  intro c η0 a0 w0 hsr0
  have hD := Drawn.of hchk
  obtain ⟨vs, stm, htr, hrest⟩ := xOpsA_TR m l st h
  obtain ⟨x1, x2, x3, x4, x5, x6, x7, x8⟩ := htr.ext hsr0.dead
  obtain ⟨sts, hat, hnx, hfr⟩ := htr.at hsr0.dead 0 st.fr rfl
  have hdrew : HS c st.hp st.nx η0 w0.drew := hsr0.hs.world (Fr.refl _ _).drew
  obtain ⟨hsm, hLm⟩ := htr.declare hdrew
  refine wp_region_any hm ?_
  have htake : ∀ j, j < m → (l.take m)[j]? = l[j]? := fun j hj => by rw [List.getElem?_take, if_pos hj]
  have main : ∀ (fuel : Nat) (listed : Array Bool) (η : Env) (a : Act) (w : World), listed.size = l.length → left listed l.length = fuel → HS c stm.hp stm.nx η w → a.tmps.size = st.sz → a.defers = st.df →
      (∀ t, Rep w η (Lset c η stm.hp) (frS (fun i => listed.getD i false) 0 (puts (l.take m) vs) st.fr t) (a.tmps.getD t undef)) →
      (∀ j z row, vs[j]? = some (z, row) → listed.getD j false = false → row ≠ .dead → η (sts j).nx = none) →
      Closed l (fun i => listed.getD i false) → (∀ j, m ≤ j → j < l.length → listed.getD j false = false) →
      wpAny P .any l.toArray (fun e a' w' => ∃ st' η', Q e st' ∧ SR c st' η' a' w') fuel listed a w := by
    intro fuel
    induction fuel with
    | zero =>
      intro listed η a w hs hleft hhs hsz hdf hsl hpend hcl hB
      have hall : ∀ j, j < l.length → listed.getD j false = true := fun j hj => by
        cases hv : listed.getD j false with
        | true => rfl
        | false =>
          have : 0 < (List.range l.length).countP fun i => !listed.getD i false := List.countP_pos_iff.2 ⟨j, by simpa using hj, by simpa using hv⟩
          unfold left at hleft
          omega
      have hml : l.length ≤ m := by
        rcases Nat.lt_or_ge m l.length with h | h
        · have := hall m h
          rw [hB m (Nat.le_refl _) h] at this
          cases this
        · exact h
      refine ⟨?_, ?_⟩
      · rw [List.eq_nil_iff_forall_not_mem]
        intro j hj
        obtain ⟨h1, _, h2, _⟩ := ready_spec hs hj
        rw [hall j h1] at h2
        cases h2
      · rw [List.drop_eq_nil_of_le hml] at hrest
        refine ⟨stm, η, hrest, hhs, x2, by rw [hsz, x5], fun t => ?_, by rw [hdf, x6]⟩
        have e : frS (fun i => listed.getD i false) 0 (puts (l.take m) vs) st.fr t = frS (fun _ => true) 0 (puts (l.take m) vs) st.fr t := frS_congr _ 0 _ _ rfl fun k d z hk _ => by
          have hkl : k < (l.take m).length := puts_len hk
          simp only [Nat.zero_add]
          exact hall k (by rw [List.length_take] at hkl; omega)
        rw [hfr, ← e]
        exact hsl t
    | succ fuel ih =>
      intro listed η a w hs hleft hhs hsz hdf hsl hpend hcl hB
      by_cases hfull : ∀ j, j < m → j < l.length → listed.getD j false = true
      · -- all of the first ones have come up
        have hl : ∀ j, j < l.length → listed.getD j false = decide (j < m) := fun j hj => by
          by_cases h1 : j < m
          · rw [hfull j h1 hj]; simp [h1]
          · rw [hB j (by omega) hj]; simp [h1]
        have hsr : SR c stm η a w := by
          refine ⟨hhs, x2, by rw [hsz, x5], fun t => ?_, by rw [hdf, x6]⟩
          have e : frS (fun i => listed.getD i false) 0 (puts (l.take m) vs) st.fr t = frS (fun _ => true) 0 (puts (l.take m) vs) st.fr t := frS_congr _ 0 _ _ rfl fun k d z hk _ => by
            have hkl : k < (l.take m).length := puts_len hk
            simp only [Nat.zero_add]
            rw [List.length_take] at hkl
            exact hfull k (by omega) (by omega)
          rw [hfr, ← e]
          exact hsl t
        exact draw_rest hΓ hD (fun st' η' a' w' hsr' hq => ⟨st', η', hq, hsr'⟩) (fuel + 1) m listed stm η a w (Nat.le_refl _) hs hl hleft hsr hrest
      · refine ⟨fun h0 => ?_, fun i hi => ?_⟩
        · obtain ⟨j, hj⟩ := some_ready hD hs (by omega)
          rw [h0] at hj
          cases hj
        · obtain ⟨hil, hit, hif, o, ho, hedges⟩ := ready_spec hs hi
          have him : i < m := by
            rcases Nat.lt_or_ge i m with h1 | h1
            · exact h1
            · exfalso
              apply hfull
              intro j hj hjl
              have hb := hD.tch j i l[j] o (by omega) (List.getElem?_eq_getElem hjl) ho (fun h => absurd h (by omega))
              exact hD.anc hcl i i o (Nat.le_refl _) ho hedges j hb
          obtain ⟨z, row, hv, hpu, hAt, hfrj⟩ := hat i o (by rw [htake i him]; exact ho)
          obtain ⟨pre, hg, hp⟩ := hAt.pre
          -- another one that lays into a slot that this one looks at, or lays into
          have hord : ∀ k ok, k < m → l[k]? = some ok → k ≠ i → touch l.toArray (if k < i then ok else o) (if k < i then o else ok) = true → listed.getD k false = decide (k < i) := by
            intro k ok hkm hk hne ht
            by_cases hlt : k < i
            · simp only [hlt, if_true] at ht
              have hb := hD.tch k i ok o hlt hk ho (fun _ => ht)
              have := hD.anc hcl i i o (Nat.le_refl _) ho hedges k hb
              rw [this]; simp [hlt]
            · simp only [hlt, if_false] at ht
              have hb := hD.tch i k o ok (by omega) ho hk (fun _ => ht)
              cases hv : listed.getD k false with
              | false => simp [hlt]
              | true =>
                have := hD.anc hcl k k ok (Nat.le_refl _) hk (fun e he hbb => hcl k ok hk hv e he hbb) i hb
                rw [this] at hif
                cases hif
          have hput : ∀ k d z', (puts (l.take m) vs)[k]? = some (d, z') → ∃ ok, k < m ∧ l[k]? = some ok ∧ d = ok.dst := fun k d z' hk => by
            have hkl : k < (l.take m).length := puts_len hk
            rw [List.length_take] at hkl
            have hkm : k < m := by omega
            obtain ⟨z1, row1, _, hpu1, _⟩ := hat k l[k] (by rw [htake k hkm, List.getElem?_eq_getElem (by omega)])
            rw [hk] at hpu1
            simp only [Option.some.injEq, Prod.mk.injEq] at hpu1
            exact ⟨l[k], hkm, List.getElem?_eq_getElem (by omega), hpu1.1⟩
          have hlook : ∀ t ∈ looks l.toArray o, frS (fun k => listed.getD k false) 0 (puts (l.take m) vs) st.fr t = (sts i).fr t := fun t ht => by
            rw [hfrj]
            refine frS_congr _ 0 _ _ rfl fun k d z' hk hd => ?_
            obtain ⟨ok, hkm, hlk, hdo⟩ := hput k d z' hk
            simp only [Nat.zero_add]
            by_cases e : k = i
            · subst e; rw [hif]; simp
            · refine hord k ok hkm hlk e ?_
              rw [hdo] at hd
              by_cases hlt : k < i
              · simp only [hlt, if_true, touch, hd, Bool.or_eq_true]
                exact .inl (.inr (by simpa using ht))
              · simp only [hlt, if_false, touch, hd, Bool.or_eq_true]
                exact .inr (by simpa using ht)
          unfold wpOp
          have hoo : l.toArray[i]? = some o := by simpa using ho
          rw [hoo]
          simp only
          have := gopF_wp hΓ (Q := fun e a' w' => ∃ st' η', Q e st' ∧ SR c st' η' a' w') hAt.ext hhs hsl (fr := (sts i).fr) hlook hg hp (by
              by_cases hr : row = .dead
              · exact .inl hr
              · exact .inr ⟨hAt.rowAt hr, hpend i z row hv hif hr, Nat.le_trans hsr0.hs.env.2.1 (hAt.nxAt hr).1⟩)
            (K := wpAny P .any l.toArray (fun e a' w' => ∃ st' η', Q e st' ∧ SR c st' η' a' w') fuel (listed.setIfInBounds i true)) (fun v η' w' hhs' hst hon hrep => by
              refine ih _ η' _ w' (by simpa using hs) ?_ hhs' (by rw [put_size]; exact hsz) (by rw [put_defers]; exact hdf) (fun t => ?_) (fun j z1 row1 hv1 hl1 hr1 => ?_) (fun j oj hj hSj e he hb => ?_) (fun j hj hjl => ?_)
              · have := countP_set listed hit l.length
                rw [if_pos hil] at this
                unfold left at hleft ⊢
                omega
              · have e : frS (fun k => (listed.setIfInBounds i true).getD k false) 0 (puts (l.take m) vs) st.fr = updO (frS (fun k => listed.getD k false) 0 (puts (l.take m) vs) st.fr) o.dst z := by
                  have := frS_add (S := fun k => listed.getD k false) (puts (l.take m) vs) 0 st.fr i o.dst z hpu (by simpa using hif) (fun k d' z' hk hlt hSk t hd hd' => by
                    obtain ⟨ok, hkm, hlk, hdo⟩ := hput k d' z' hk
                    simp only [Nat.zero_add] at hSk
                    have := hord k ok hkm hlk (by omega) (by
                      simp only [show ¬ k < i by omega, if_false, touch, hd, Bool.or_eq_true]
                      exact .inl (.inl (by rw [← hdo, hd']; simp)))
                    rw [hSk] at this
                    simp at this
                    omega)
                  rw [← this]
                  congr 1
                  funext k
                  rw [set_getD hs hil, Nat.zero_add]
                rw [e, put_getD a o.dst v t (by rw [hsz]; exact hAt.dst), updO_at]
                by_cases ed : o.dst = some t
                · rw [if_pos ed, if_pos ed]; exact hrep
                · rw [if_neg ed, if_neg ed]; exact hst.rep (hsl t)
              · rw [set_getD hs hil] at hl1
                have hji : j ≠ i := fun e => by subst e; simp at hl1
                rw [if_neg hji] at hl1
                rw [hon (sts j).nx ?_]
                · exact hpend j z1 row1 hv1 hl1 hr1
                · by_cases hr : row = .dead
                  · exact .inr hr
                  · refine .inl fun e => ?_
                    rcases Nat.lt_or_gt_of_ne hji with hlt | hlt
                    · have := hnx j i z1 row1 z row hlt hv1 hv hr1 hr; omega
                    · have := hnx i j z row z1 row1 hlt hv hv1 hr hr1; omega
              · simp only at hSj ⊢
                rw [set_getD hs hil] at hSj ⊢
                by_cases e1 : e.on = i
                · rw [if_pos e1]
                · rw [if_neg e1]
                  by_cases e2 : j = i
                  · subst e2
                    rw [hj] at ho
                    obtain rfl := Option.some.inj ho
                    exact hedges e he hb
                  · rw [if_neg e2] at hSj
                    exact hcl j oj hj hSj e he hb
              · rw [set_getD hs hil, if_neg (by omega)]
                exact hB j hj hjl)
          split
          · rename_i hw; rw [if_pos hw] at this; exact .inl this
          · rename_i hw; rw [if_neg hw] at this; exact this
  have hsz : l.toArray.size = l.length := by simp
  rw [hsz]
  have hfalse : ∀ j, (Array.replicate l.length false).getD j false = false := fun j => by
    simp only [Array.getD_eq_getD_getElem?, Array.getElem?_replicate]
    split <;> rfl
  refine main l.length (Array.replicate l.length false) η0 a0 w0.drew (by simp) ?_ hsm hsr0.size hsr0.defs (fun t => ?_) (fun j z row hv _ hr => ?_) (fun j o _ hS => ?_) (fun j _ _ => hfalse j)
  · unfold left
    rw [List.countP_eq_length.2 (fun x _ => by rw [hfalse]; rfl), List.length_range]
  · have e : frS (fun i => (Array.replicate l.length false).getD i false) 0 (puts (l.take m) vs) st.fr t = st.fr t := by
      have hc := frS_congr (S := fun i => (Array.replicate l.length false).getD i false) (S' := fun _ => false) (t := t) (puts (l.take m) vs) 0 st.fr st.fr rfl (fun k d z _ _ => hfalse _)
      rw [hc]
      exact frS_none _ _ _ t
    rw [e]
    exact Rep.keep (Fr.refl (fun _ => False) w0).drew (fun _ _ h => h.elim) (fun b _ hb => hLm b hb) _ _ _ _ (Env.le_refl _) (hsr0.slots t)
  · have hjl : j < (l.take m).length := by
      have := (List.getElem?_eq_some_iff.1 hv).1
      omega
    obtain ⟨z', row', hv', _, hA, _⟩ := hat j (l.take m)[j] (List.getElem?_eq_getElem hjl)
    rw [hv] at hv'
    simp only [Option.some.injEq, Prod.mk.injEq] at hv'
    obtain ⟨rfl, rfl⟩ := hv'
    exact hsr0.hs.fresh _ (hA.nxAt hr).1
  · simp only [hfalse] at hS
    cases hS
end
end Go.Proofs.YthpjjjnbkfnghaaGreatDoor
set_option linter.unusedSimpArgs false
namespace Go.Proofs.YthpjjjnbkfnghaaGreatDoor
open Go

structure Kd (α : Type) where
  enc : α → AV
  dec : AV → α
  law : ∀ a, dec (enc a) = a
structure El (α : Type) where
  sz : Nat
  enc : α → Nat → AV
  dec : (Nat → AV) → α
  dflt : α
  law : ∀ a, dec (enc a) = a
  loc : ∀ c c' : Nat → AV, (∀ j, j < sz → c j = c' j) → dec c = dec c'

def AV.int : AV → Int
  | .val (.int _ n) => n
  | _ => 0
def AV.bool : AV → Bool
  | .val (.bool b) => b
  | _ => false
def AV.str : AV → List UInt8
  | .st l => l
  | _ => []
def kI : Kd Int := ⟨fun n => .val (.int .i64 n), AV.int, fun _ => rfl⟩
def kB : Kd Bool := ⟨fun b => .val (.bool b), AV.bool, fun _ => rfl⟩
def kS : Kd (List UInt8) := ⟨.st, AV.str, fun _ => rfl⟩
def eI : El Int := ⟨1, fun n _ => .val (.int .i64 n), fun c => (c 0).int, 0, fun _ => rfl, fun _ _ h => by rw [h 0 Nat.one_pos]⟩
def eB : El Bool := ⟨1, fun n _ => .val (.bool n), fun c => (c 0).bool, false, fun _ => rfl, fun _ _ h => by rw [h 0 Nat.one_pos]⟩
def eS : El (List UInt8) := ⟨1, fun n _ => .st n, fun c => (c 0).str, [], fun _ => rfl, fun _ _ h => by rw [h 0 Nat.one_pos]⟩

section
variable {α : Type} (E : El α)
def sL (l : List α) : AV := .sn l.length E.sz fun i => E.enc (l.getD i E.dflt)
def gL : AV → List α
  | .sn n _ c => (List.range n).map fun i => E.dec (c i)
  | _ => []
theorem gL_sL (l : List α) : gL E (sL E l) = l := by
  unfold sL gL
  simp only [E.law]
  apply List.ext_getElem
  · simp
  · intro i h1 h2
    simp [List.getD, List.getElem?_eq_getElem h2]
def kL : Kd (List α) := ⟨sL E, gL E, gL_sL E⟩
def eL : El (List α) := ⟨1, fun l _ => sL E l, fun c => gL E (c 0), [], gL_sL E, fun _ _ h => by rw [h 0 Nat.one_pos]⟩

theorem em_sL : AVle .em (sL E []) := AVle.em_sn
def eP {β : Type} (A : El α) (B : El β) : El (α × β) where
  sz := A.sz + B.sz
  enc p j := if j < A.sz then A.enc p.1 j else B.enc p.2 (j - A.sz)
  dec c := (A.dec c, B.dec fun j => c (A.sz + j))
  dflt := (A.dflt, B.dflt)
  law := fun p => by
    have h1 : A.dec (fun j => if j < A.sz then A.enc p.1 j else B.enc p.2 (j - A.sz)) = p.1 := (A.loc _ _ fun j hj => if_pos hj).trans (A.law _)
    have h2 : B.dec (fun j => if A.sz + j < A.sz then A.enc p.1 (A.sz + j) else B.enc p.2 (A.sz + j - A.sz)) = p.2 :=
      (B.loc _ (B.enc p.2) fun j _ => by rw [if_neg (by omega), Nat.add_sub_cancel_left]).trans (B.law _)
    rw [h1, h2]
  loc := fun c c' h => by
    rw [A.loc c c' fun j hj => h j (by omega), B.loc (fun j => c (A.sz + j)) (fun j => c' (A.sz + j)) fun j hj => h _ (by omega)]
def kA (A : El α) : Kd α where
  enc a := .ag A.sz (A.enc a)
  dec | .ag _ c => A.dec c
      | _ => A.dflt
  law := A.law
def sLd (l : List α) (a n : Nat) : AV := .sn n E.sz fun i => E.enc (l.getD (a + i) E.dflt)
theorem sLd_le (l : List α) {a n : Nat} (h : a + n ≤ l.length) : AVle (sLd E l a n) (sL E ((l.drop a).take n)) := by
  unfold sLd sL
  have e : ((l.drop a).take n).length = n := by simp; omega
  rw [e]
  refine AVle.sn fun i hi j _ => AVle.of_eq ?_
  have e1 : a + i < l.length := by omega
  simp [List.getD, List.getElem?_take, hi, List.getElem?_drop]
end

instance : Coe Spec Con := ⟨.spec⟩
instance : Coe MSpec Con := ⟨.meth⟩
def gam : List (Nat × Con) → Gam
  | [], _ => none
  | (g, s) :: r, f => if f = g then some s else gam r f
theorem GOK.nil {P : Program} : GOK P (gam []) := fun _ _ h => by cases h
theorem GOK.cons {P : Program} {f : Nat} {s : Con} {r : List (Nat × Con)} (h : ConOK P f s) (k : GOK P (gam r)) : GOK P (gam ((f, s) :: r)) := by
  intro g t hg
  unfold gam at hg
  split at hg
  · rename_i e; subst e; cases hg; exact h
  · exact k g t hg

def Kd.ok {α : Type} (K : Kd α) (x : AV) : Prop := AVle x (K.enc (K.dec x))
theorem Kd.ok_enc {α : Type} (K : Kd α) (a : α) : K.ok (K.enc a) := by unfold Kd.ok; rw [K.law]; exact AVle.refl _

theorem st0_le {n : Nat} {args args' : List AV} (h : All2 AVle args args') : ASle (st0 n args) (st0 n args') := by
  refine ASle.mk rfl rfl (fun t => ?_) (fun _ => .inl rfl) (fun _ _ => rfl) (Nat.le_refl _)
  show AVle (args.getD t .any) (args'.getD t .any)
  induction h generalizing t with
  | nil => exact AVle.refl _
  | cons h _ ih =>
    cases t with
    | zero => simpa using h
    | succ t => simpa using ih t

section
variable {α β γ δ : Type}
def Spec.f0 (out : AV) : Spec := ⟨fun a => a = [], fun _ => out⟩
def Spec.f1 (A : Kd α) (dom : α → Prop) (out : α → AV) : Spec where
  pre | [x] => A.ok x ∧ dom (A.dec x)
      | _ => False
  res | [x] => out (A.dec x)
      | _ => .any
def Spec.f2 (A : Kd α) (B : Kd β) (dom : α → β → Prop) (out : α → β → AV) : Spec where
  pre | [x, y] => A.ok x ∧ B.ok y ∧ dom (A.dec x) (B.dec y)
      | _ => False
  res | [x, y] => out (A.dec x) (B.dec y)
      | _ => .any
def Spec.f3 (A : Kd α) (B : Kd β) (C : Kd γ) (dom : α → β → γ → Prop) (out : α → β → γ → AV) : Spec where
  pre | [x, y, z] => A.ok x ∧ B.ok y ∧ C.ok z ∧ dom (A.dec x) (B.dec y) (C.dec z)
      | _ => False
  res | [x, y, z] => out (A.dec x) (B.dec y) (C.dec z)
      | _ => .any
def Spec.f4 (A : Kd α) (B : Kd β) (C : Kd γ) (D : Kd δ) (dom : α → β → γ → δ → Prop) (out : α → β → γ → δ → AV) : Spec where
  pre | [x, y, z, u] => A.ok x ∧ B.ok y ∧ C.ok z ∧ D.ok u ∧ dom (A.dec x) (B.dec y) (C.dec z) (D.dec u)
      | _ => False
  res | [x, y, z, u] => out (A.dec x) (B.dec y) (C.dec z) (D.dec u)
      | _ => .any

variable {P : Program} {f : FuncId} {fn : Func} {code : Code} {l : List ResultVar}
theorem SpecOK.f0 {out : AV} (hf : P.funcs[f]? = some fn) (hb : fn.body = some code) (hn : (fn.name == "runtime.NumGoroutine") = false) (hl : fn.results = l.toArray) {n : Nat} (ht : fn.ntmps = n)
    (h : AW P code (retQ P l out) (st0 n [])) : SpecOK P f (Spec.f0 out) := by
  subst ht
  refine SpecOK.mk hf hb hn hl fun args hp => ?_
  obtain rfl : args = [] := hp
  exact ⟨Nat.zero_le _, h⟩
theorem SpecOK.f1 {A : Kd α} {dom : α → Prop} {out : α → AV} (hf : P.funcs[f]? = some fn) (hb : fn.body = some code) (hn : (fn.name == "runtime.NumGoroutine") = false) (hl : fn.results = l.toArray) {n : Nat} (ht : fn.ntmps = n) (hm : 1 ≤ n)
    (h : ∀ a, dom a → AW P code (retQ P l (out a)) (st0 n [A.enc a])) : SpecOK P f (Spec.f1 A dom out) := by
  subst ht
  refine SpecOK.mk hf hb hn hl fun args hp => ?_
  match args, hp with
  | [x], hp => exact ⟨hm, AW.le (st0_le (.cons hp.1 .nil)) (h _ hp.2)⟩
theorem SpecOK.f2 {A : Kd α} {B : Kd β} {dom : α → β → Prop} {out : α → β → AV} (hf : P.funcs[f]? = some fn) (hb : fn.body = some code) (hn : (fn.name == "runtime.NumGoroutine") = false) (hl : fn.results = l.toArray) {n : Nat} (ht : fn.ntmps = n) (hm : 2 ≤ n)
    (h : ∀ a b, dom a b → AW P code (retQ P l (out a b)) (st0 n [A.enc a, B.enc b])) : SpecOK P f (Spec.f2 A B dom out) := by
  subst ht
  refine SpecOK.mk hf hb hn hl fun args hp => ?_
  match args, hp with
  | [x, y], hp => exact ⟨hm, AW.le (st0_le (.cons hp.1 (.cons hp.2.1 .nil))) (h _ _ hp.2.2)⟩
theorem SpecOK.f3 {A : Kd α} {B : Kd β} {C : Kd γ} {dom : α → β → γ → Prop} {out : α → β → γ → AV} (hf : P.funcs[f]? = some fn) (hb : fn.body = some code) (hn : (fn.name == "runtime.NumGoroutine") = false) (hl : fn.results = l.toArray) {n : Nat} (ht : fn.ntmps = n) (hm : 3 ≤ n)
    (h : ∀ a b c, dom a b c → AW P code (retQ P l (out a b c)) (st0 n [A.enc a, B.enc b, C.enc c])) : SpecOK P f (Spec.f3 A B C dom out) := by
  subst ht
  refine SpecOK.mk hf hb hn hl fun args hp => ?_
  match args, hp with
  | [x, y, z], hp => exact ⟨hm, AW.le (st0_le (.cons hp.1 (.cons hp.2.1 (.cons hp.2.2.1 .nil)))) (h _ _ _ hp.2.2.2)⟩
theorem SpecOK.f4 {A : Kd α} {B : Kd β} {C : Kd γ} {D : Kd δ} {dom : α → β → γ → δ → Prop} {out : α → β → γ → δ → AV} (hf : P.funcs[f]? = some fn) (hb : fn.body = some code) (hn : (fn.name == "runtime.NumGoroutine") = false) (hl : fn.results = l.toArray) {n : Nat} (ht : fn.ntmps = n) (hm : 4 ≤ n)
    (h : ∀ a b c d, dom a b c d → AW P code (retQ P l (out a b c d)) (st0 n [A.enc a, B.enc b, C.enc c, D.enc d])) : SpecOK P f (Spec.f4 A B C D dom out) := by
  subst ht
  refine SpecOK.mk hf hb hn hl fun args hp => ?_
  match args, hp with
  | [x, y, z, u], hp => exact ⟨hm, AW.le (st0_le (.cons hp.1 (.cons hp.2.1 (.cons hp.2.2.1 (.cons hp.2.2.2.1 .nil))))) (h _ _ _ _ hp.2.2.2.2)⟩
end

def isG (Γ : Gam) (o : Oper) : Bool :=
  match o.op with
  | .store _ _ _ => false
  | .mapUpdate _ _ _ _ => false
  | .defer _ => false
  | .call ⟨.builtin .append, _, _⟩ => false
  | .call ⟨.builtin .copy, _, _⟩ => false
  | .call ⟨.value (.func f), _, _⟩ => match Γ f with
    | some (.meth _) => false
    | _ => true
  | _ => true
def quiet (Γ : Gam) : List Oper → Nat
  | [] => 0
  | o :: r => if isG Γ o then quiet Γ r + 1 else 0
def exits (id : Nat) : Code → Nat
  | .seq x y => exits id x + exits id y
  | .cond _ x y => exits id x + exits id y
  | .block _ x => exits id x
  | .loop x => exits id x
  | .scope x => exits id x
  | .exit i => if i = id then 1 else 0
  | _ => 0
def ends : Code → Nat
  | .region .. => 1
  | .skip => 1
  | .seq x y => if ends x = 0 then 0 else ends y
  | .cond _ x y => ends x + ends y
  | .block id x => ends x + exits id x
  | .loop _ => 0
  | .scope x => ends x
  | _ => 0
def draws (Γ : Gam) (S : List Nat) : Code → Bool
  | .region id ⟨l⟩ true => S.contains (200000 + id) || drawOK l (quiet Γ l)
  | .seq x y => draws Γ S x && draws Γ S y
  | .cond _ x y => draws Γ S x && draws Γ S y
  | .block _ x => draws Γ S x
  | .loop x => draws Γ S x
  | .scope x => draws Γ S x
  | _ => true

section
variable (P : Program) (Γ : Gam)
def rest (y : Code) (Q : Exit → AS → Prop) : Exit → AS → Prop
  | .normal, st => AW P y Q st
  | e, st => Q e st
def unscoped (Q : Exit → AS → Prop) : Exit → AS → Prop
  | .goto _, _ => False
  | e, st => Q e st
structure Sh where
  fr : List (Nat × AV)
  hp : List (Nat × Row)
  sz : Nat
  top : Nat
  nx : Nat
  df : List Deferred
def Sh.st (s : Sh) : AS := ⟨frm s.fr, rws s.hp, s.sz, s.top, s.nx, s.df⟩
def Sh.fits (s : Sh) (st : AS) : Prop :=
  ((s.sz = st.sz ∧ s.df = st.df) ∧ st.nx ≤ s.nx) ∧ (∀ p ∈ s.fr, AVle (st.fr p.1) p.2) ∧ (∀ p ∈ s.hp, RowLe (st.hp p.1) p.2) ∧ ∀ p ∈ s.hp, p.1 < s.top
theorem Sh.fits.le {s : Sh} {st : AS} (h : s.fits st) : ASle st s.st := ASle.of h.1.1.1 h.1.1.2 h.2.1 h.2.2.1 h.2.2.2 h.1.2
def again {α : Type} (I : α → Sh) (μ : α → Nat) (i : α) (Q : Exit → AS → Prop) : Exit → AS → Prop
  | .normal, st => ∃ j, (I j).fits st ∧ μ j < μ i
  | e, st => Q e st
def thenX (X : (Exit → AS → Prop) → AS → Prop) (Q : Exit → AS → Prop) : Exit → AS → Prop
  | .normal, st => X Q st
  | e, st => Q e st
def lastOf : Code → Option Nat
  | .region id _ _ => some id
  | .seq _ y => lastOf y
  | _ => none
def stops (S : List Nat) (x : Code) : Bool := match lastOf x with
  | some id => S.contains id
  | none => false
def xCode (S : List Nat) : Code → (Exit → AS → Prop) → AS → Prop
  | .region _ ⟨l⟩ false, Q, st => xOps P Γ l.toArray l st (Q .normal)
  | .region id ⟨l⟩ true, Q, st => if S.contains (200000 + id) = true then AW P (.region id ⟨l⟩ true) Q st else xOpsA P Γ l.toArray (quiet Γ l) l st (Q .normal)
  | .seq x y, Q, st => if ends x ≤ 1 then (if stops S x = true then xCode S x (rest P y Q) st else xCode S x (thenX (xCode S y) Q) st) else if S.contains 99999 = true then xCode S x (thenX (xCode S y) Q) st else AW P (.seq x y) Q st
  | .cond o x y, Q, st => match st.ev o with
    | .val (.bool b) => (b = true → xCode S x Q st) ∧ (b = false → xCode S y Q st)
    | .mb q => (q → xCode S x Q st) ∧ xCode S y Q st
    | _ => False
  | .block id x, Q, st => xCode S x (inA id Q) st
  | .scope x, Q, st => xCode S x (unscoped Q) st
  | .skip, Q, st => Q .normal st
  | .exit id, Q, st => Q (.exit id) st
  | .ret, Q, st => Q .ret st
  | code, Q, st => AW P code Q st
end
section
variable {P : Program} {Γ : Gam}
theorem AW.of (hΓ : GOK P Γ) (hm : P.follows .mixedOrders = true) (S : List Nat) : ∀ (code : Code) (Q : Exit → AS → Prop) (st : AS), draws Γ S code = true → xCode P Γ S code Q st → AW P code Q st := by
  intro code
  induction code with
  | region id ops dr =>
    intro Q st hd h
    cases ops with
    | mk l =>
    cases dr with
    | false => exact AW.region hΓ h
    | true =>
      simp only [xCode] at h
      simp only [draws, Bool.or_eq_true] at hd
      split at h
      · exact h
      · rename_i hn
        exact AW.draw hΓ hm (quiet Γ l) (hd.resolve_left hn) h
  | seq x y ihx ihy =>
    intro Q st hd h
    simp only [draws, Bool.and_eq_true] at hd
    simp only [xCode] at h
    split at h
    · refine AW.seq fun K hK => ?_
      split at h
      · have := ihx (rest P y Q) st hd.1 h
        intro c η a w hsr
        refine wp_mono (this c η a w hsr) ?_
        rintro e a' w' ⟨st', η', hq, hs'⟩
        refine ⟨st', η', ?_, hs'⟩
        cases e with
        | normal => exact hK _ hq
        | _ => exact hq
      · have := ihx (thenX (xCode P Γ S y) Q) st hd.1 h
        intro c η a w hsr
        refine wp_mono (this c η a w hsr) ?_
        rintro e a' w' ⟨st', η', hq, hs'⟩
        refine ⟨st', η', ?_, hs'⟩
        cases e with
        | normal => exact hK _ (ihy _ _ hd.2 hq)
        | _ => exact hq
    · split at h
      · refine AW.seq fun K hK => ?_
        have := ihx (thenX (xCode P Γ S y) Q) st hd.1 h
        intro c η a w hsr
        refine wp_mono (this c η a w hsr) ?_
        rintro e a' w' ⟨st', η', hq, hs'⟩
        refine ⟨st', η', ?_, hs'⟩
        cases e with
        | normal => exact hK _ (ihy _ _ hd.2 hq)
        | _ => exact hq
      · exact h
  | cond o x y ihx ihy =>
    intro Q st hd h
    simp only [draws, Bool.and_eq_true] at hd
    simp only [xCode] at h
    split at h
    · rename_i b he
      exact AW.cond he (fun hb => ihx Q st hd.1 (h.1 hb)) fun hb => ihy Q st hd.2 (h.2 hb)
    · rename_i q he
      exact AW.condM he (fun hb => ihx Q st hd.1 (h.1 hb)) (ihy Q st hd.2 h.2)
    · exact h.elim
  | block id x ih => exact fun Q st hd h => AW.block (ih _ st hd h)
  | scope x ih =>
    intro Q st hd h
    refine AW.scope ?_
    have := ih (unscoped Q) st hd h
    intro c η a w hsr
    refine wp_mono (this c η a w hsr) ?_
    rintro e a' w' ⟨st', η', hq, hs'⟩
    exact ⟨st', η', by cases e <;> exact hq, hs'⟩
  | skip => exact fun Q st _ h => AW.skip h
  | exit id => exact fun Q st _ h => AW.exit h
  | ret => exact fun Q st _ h => AW.ret h
  | _ => exact fun Q st _ h => h
theorem AW.round {Q : Exit → AS → Prop} {st : AS} {x : Code} {α : Type} (I : α → Sh) (μ : α → Nat) (i₀ : α) (h₀ : (I i₀).fits st)
    (h : ∀ i, AW P x (again I μ i Q) (I i).st) : AW P (.loop x) Q st := by
  refine AW.loop (fun i => (I i).st) μ i₀ h₀.le fun i c η a w hsr => ?_
  refine wp_mono (h i c η a w hsr) ?_
  rintro e a' w' ⟨st', η', hq, hs'⟩
  refine ⟨st', η', ?_, hs'⟩
  cases e with
  | normal =>
    obtain ⟨j, hf, hm⟩ := hq
    exact ⟨j, hf.le, hm⟩
  | _ => exact hq
def meet (s : Sh) (Q : Exit → AS → Prop) : Exit → AS → Prop
  | .normal, st => s.fits st
  | e, st => Q e st
theorem AW.join {x y : Code} {Q : Exit → AS → Prop} {st : AS} (s : Sh) (h : AW P x (meet s Q) st) (k : AW P y Q s.st) : AW P (.seq x y) Q st := by
  refine AW.seq fun K hK c η a w hsr => ?_
  refine wp_mono (h c η a w hsr) ?_
  rintro e a' w' ⟨st', η', hq, hs'⟩
  cases e with
  | normal =>
    obtain ⟨η₂, h₂⟩ := hq.le c η' a' w' hs'
    exact ⟨s.st, η₂, hK _ k, h₂⟩
  | _ => exact ⟨st', η', hq, hs'⟩
theorem AW.cut {x : Code} {Q : Exit → AS → Prop} {st : AS} (s : Sh) (h : s.fits st) (k : AW P x Q s.st) : AW P x Q st := AW.le h.le k
end
end Go.Proofs.YthpjjjnbkfnghaaGreatDoor
set_option linter.unusedSimpArgs false
namespace Go.Proofs.YthpjjjnbkfnghaaGreatDoor
open Go

theorem rflN {α : Sort _} {a b : α} (h : a = b) : a = b := h
section
variable {P : Program} {Γ : Gam} {ops : Array Oper} {st : AS} {o : Oper} {r : List Oper} {K : AS → Prop}
def contX (P : Program) (Γ : Gam) (ops : Array Oper) (r : List Oper) (K : AS → Prop) : AS → Prop := fun st => xOps P Γ ops r st K
theorem contX_app : contX P Γ ops r K st = xOps P Γ ops r st K := rflN rfl
def methK (st : AS) (d : Option Tmp) (K : AS → Prop) : AV → (Nat → Row) → Nat → Nat → Prop := fun r hp' top' nx' => K ⟨updO st.fr d r, hp', st.sz, top', nx', st.df⟩
theorem methK_app {d : Option Tmp} {x : AV} {hp : Nat → Row} {top nx : Nat} : methK st d K x hp top nx = K ⟨updO st.fr d x, hp, st.sz, top, nx, st.df⟩ := rflN rfl
def goK (P : Program) (Γ : Gam) (ops : Array Oper) (o : Oper) (r : List Oper) (K : AS → Prop) (st : AS) : AOut → Prop
  | some (pre, z, row) => (dstOK st.sz o.dst ∧ pre) ∧ xOps P Γ ops r (st.put o.dst z row) K
  | none => o.guard = none ∧ bop P Γ st o (contX P Γ ops r K)
theorem goK_some {pre : Prop} {z : AV} {row : Row} : goK P Γ ops o r K st (some (pre, z, row)) = ((dstOK st.sz o.dst ∧ pre) ∧ xOps P Γ ops r (st.put o.dst z row) K) := rflN rfl
theorem goK_none : goK P Γ ops o r K st none = (o.guard = none ∧ bop P Γ st o (contX P Γ ops r K)) := rflN rfl
theorem xOps_nil : xOps P Γ ops [] st K = K st := rflN rfl
theorem xOps_cons : xOps P Γ ops (o :: r) st K = goK P Γ ops o r K st (gop P Γ ops st o) := rflN rfl
def goA (P : Program) (Γ : Gam) (ops : Array Oper) (m : Nat) (o : Oper) (r : List Oper) (K : AS → Prop) (st : AS) : AOut → Prop
  | some (pre, z, row) => (dstOK st.sz o.dst ∧ pre) ∧ xOpsA P Γ ops m r (st.put o.dst z row) K
  | none => False
theorem goA_some {m : Nat} {pre : Prop} {z : AV} {row : Row} : goA P Γ ops m o r K st (some (pre, z, row)) = ((dstOK st.sz o.dst ∧ pre) ∧ xOpsA P Γ ops m r (st.put o.dst z row) K) := rflN rfl
theorem goA_none {m : Nat} : goA P Γ ops m o r K st none = False := rflN rfl
theorem xOpsA_cons {m : Nat} : xOpsA P Γ ops (m + 1) (o :: r) st K = goA P Γ ops m o r K st (gop P Γ ops st o) := rflN rfl
theorem xOpsA_zero {l : List Oper} : xOpsA P Γ ops 0 l st K = xOps P Γ ops l st K := by cases l <;> rfl
def gdR (g : Bool) : AOut → AOut
  | some (pre, z, row) => some (g = true → pre, .gd g z, row)
  | none => some (g = false, .gd g .any, .dead)
def gdK (P : Program) (Γ : Gam) (st : AS) (o : Oper) : Option Bool → AOut
  | some g => gdR g (aop P Γ st.hp st.top st.nx (evG g o.op st.ev) o.op)
  | none => none
theorem gdR_some {g : Bool} {pre : Prop} {z : AV} {row : Row} : gdR g (some (pre, z, row)) = some (g = true → pre, .gd g z, row) := rflN rfl
theorem gdR_none {g : Bool} : gdR g none = some (g = false, .gd g .any, .dead) := rflN rfl
theorem gdK_some {g : Bool} : gdK P Γ st o (some g) = gdR g (aop P Γ st.hp st.top st.nx (evG g o.op st.ev) o.op) := rflN rfl
theorem gdK_none : gdK P Γ st o none = none := rflN rfl
theorem gop_new : gop P Γ ops st o = match o.guard with
    | none => aop P Γ st.hp st.top st.nx st.ev o.op
    | some (j, want) => match (ops[j]?).bind (·.dst) with
      | some d => gdK P Γ st o (guardVal (st.fr d) want)
      | none => none := by
  unfold gop gdK gdR
  cases o.guard with
  | none => rfl
  | some w =>
    obtain ⟨j, want⟩ := w
    simp only
    cases (ops[j]?).bind (·.dst) with
    | none => rfl
    | some d =>
      simp only
      cases guardVal (st.fr d) want with
      | none => rfl
      | some g =>
        simp only
        cases aop P Γ st.hp st.top st.nx (evG g o.op st.ev) o.op with
        | none => rfl
        | some t => obtain ⟨pre, z, row⟩ := t; rfl
theorem bop_new : bop P Γ st o K = match o.op with
  | .mapUpdate t m k x => sMapSet P st t (st.ev m) (st.ev k) (st.ev x) o.dst K
  | .call ⟨.value (.func f), ⟨xs⟩, _⟩ => match Γ f with
    | some (.meth S) => dstOK st.sz o.dst ∧ S (xs.map st.ev) st.hp st.top st.nx (methK st o.dst K)
    | _ => OpW P o st K
  | .store t x y => sStore P st t (st.ev x) (st.ev y) o.dst K
  | .call ⟨.builtin .append, ⟨[x, y]⟩, ⟨[t, t']⟩⟩ => t' = t ∧ sApp P st t (st.ev x) (st.ev y) o.dst K
  | .buildSlice t n parts => sBuild P st t n (parts.toList.map fun a => (a.1, st.ev a.2)) o.dst K
  | .defer ⟨.value (.func f), ⟨[]⟩, _⟩ => o.dst = none ∧ K ⟨st.fr, st.hp, st.sz, st.top, st.nx, ⟨.fn (.func f) #[], #[]⟩ :: st.df⟩
  | _ => OpW P o st K := rflN rfl
variable {t : TypeId} {x y : AV} {d : Option Tmp}
def stPt (P : Program) (st : AS) (t : TypeId) (d : Option Tmp) (K : AS → Prop) (p ver j : Nat) : Row → Option (Nat × (Nat → AV)) → Prop
  | .box v ety m cc, some (k, e) => (v = ver ∧ P.cellsOf t = k ∧ 0 < k ∧ j + k ≤ m ∧ dstOK st.sz d) ∧ K ⟨updO st.fr d .any, updR st.hp p (.box v ety m (stC cc j k e)), st.sz, st.top, st.nx, st.df⟩
  | _, _ => False
theorem stPt_box {p ver j v m k : Nat} {ety : TypeId} {cc e : Nat → AV} : stPt P st t d K p ver j (.box v ety m cc) (some (k, e)) =
    ((v = ver ∧ P.cellsOf t = k ∧ 0 < k ∧ j + k ≤ m ∧ dstOK st.sz d) ∧ K ⟨updO st.fr d .any, updR st.hp p (.box v ety m (stC cc j k e)), st.sz, st.top, st.nx, st.df⟩) := rflN rfl
theorem sStore_pt {p ver j : Nat} : sStore P st t (.pt p ver j) y d K = stPt P st t d K p ver j (st.hp p) (cellsAV y) := by
  unfold sStore
  cases cellsAV y with
  | none => cases st.hp p <;> rfl
  | some w => obtain ⟨k, e⟩ := w; cases h : st.hp p <;> simp only [h, stPt]
def stPe (P : Program) (st : AS) (t : TypeId) (d : Option Tmp) (K : AS → Prop) (p ver sz i j : Nat) : Row → Option (Nat × (Nat → AV)) → Prop
  | .sl v ety sz' n cc, some (k, e) => (v = ver ∧ sz' = sz ∧ i < n ∧ P.cellsOf t = k ∧ 0 < k ∧ j + k ≤ sz ∧ dstOK st.sz d) ∧ K ⟨updO st.fr d .any, updR st.hp p (.sl v ety sz n (stE cc i j k e)), st.sz, st.top, st.nx, st.df⟩
  | _, _ => False
theorem stPe_sl {p ver sz i j v n k sz' : Nat} {ety : TypeId} {cc : Nat → Nat → AV} {e : Nat → AV} : stPe P st t d K p ver sz i j (.sl v ety sz' n cc) (some (k, e)) =
    ((v = ver ∧ sz' = sz ∧ i < n ∧ P.cellsOf t = k ∧ 0 < k ∧ j + k ≤ sz ∧ dstOK st.sz d) ∧ K ⟨updO st.fr d .any, updR st.hp p (.sl v ety sz n (stE cc i j k e)), st.sz, st.top, st.nx, st.df⟩) := rflN rfl
theorem sStore_pe {p ver sz i j : Nat} : sStore P st t (.pe p ver sz i j) y d K = stPe P st t d K p ver sz i j (st.hp p) (cellsAV y) := by
  unfold sStore
  cases cellsAV y with
  | none => cases st.hp p <;> rfl
  | some w => obtain ⟨k, e⟩ := w; cases h : st.hp p <;> simp only [h, stPe]
def apR (P : Program) (st : AS) (e : TypeId) (y : AV) (d : Option Tmp) (K : AS → Prop) (p ver n k sz' : Nat) (dd : Nat → Nat → AV) : Row → Prop
  | .sl v ety sz n' cc => (vwA st.hp y ∧ v = ver ∧ n' = n ∧ ety = e ∧ sz' = sz ∧ dstOK st.sz d ∧ appOK P e sz (n + k)) ∧ K ⟨updO st.fr d (.ow p st.nx (n + k)), updR st.hp p (.sl st.nx e sz (n + k) (apC n cc dd)), st.sz, st.top, st.nx + 1, st.df⟩
  | _ => False
theorem apR_sl {e ety : TypeId} {p ver n k sz' v sz n' : Nat} {dd cc : Nat → Nat → AV} : apR P st e y d K p ver n k sz' dd (.sl v ety sz n' cc) =
    ((vwA st.hp y ∧ v = ver ∧ n' = n ∧ ety = e ∧ sz' = sz ∧ dstOK st.sz d ∧ appOK P e sz (n + k)) ∧ K ⟨updO st.fr d (.ow p st.nx (n + k)), updR st.hp p (.sl st.nx e sz (n + k) (apC n cc dd)), st.sz, st.top, st.nx + 1, st.df⟩) := rflN rfl
def apK (P : Program) (st : AS) (t : TypeId) (y : AV) (d : Option Tmp) (K : AS → Prop) : Option TypeDesc → AV → AV → Prop
  | some (.slice e), .ow p ver n, .sn k sz' dd => apR P st e y d K p ver n k sz' dd (st.hp p)
  | some (.slice e), .em, .sn k sz dd => (vwA st.hp y ∧ dstOK st.sz d ∧ appOK P e sz k) ∧ K ⟨updO st.fr d (.ow st.top st.nx k), updR st.hp st.top (.sl st.nx e sz k dd), st.sz, st.top + 1, st.nx + 1, st.df⟩
  | some (.slice e), x, .em => dstOK st.sz d ∧ (∃ b, aLen P t x = some b) ∧ 0 < P.cellsOf e ∧ (∀ w η L v, Rep w η L x v → ∃ a n cap, v = .slice a n cap ∧ n ≤ cap) ∧ K ⟨updO st.fr d x, st.hp, st.sz, st.top, st.nx, st.df⟩
  | _, _, _ => False
theorem apK_ow {e : TypeId} {p ver n k sz' : Nat} {dd : Nat → Nat → AV} : apK P st t y d K (some (.slice e)) (.ow p ver n) (.sn k sz' dd) = apR P st e y d K p ver n k sz' dd (st.hp p) := rflN rfl
theorem apK_em {e : TypeId} {k sz : Nat} {dd : Nat → Nat → AV} : apK P st t y d K (some (.slice e)) .em (.sn k sz dd) =
    ((vwA st.hp y ∧ dstOK st.sz d ∧ appOK P e sz k) ∧ K ⟨updO st.fr d (.ow st.top st.nx k), updR st.hp st.top (.sl st.nx e sz k dd), st.sz, st.top + 1, st.nx + 1, st.df⟩) := rflN rfl
theorem apK_no {e : TypeId} : apK P st t y d K (some (.slice e)) x .em =
    (dstOK st.sz d ∧ (∃ b, aLen P t x = some b) ∧ 0 < P.cellsOf e ∧ (∀ w η L v, Rep w η L x v → ∃ a n cap, v = .slice a n cap ∧ n ≤ cap) ∧ K ⟨updO st.fr d x, st.hp, st.sz, st.top, st.nx, st.df⟩) := by cases x <;> rfl
theorem sApp_new : sApp P st t x y d K = apK P st t y d K (P.underlying t) x (vw st.hp y) := by
  unfold sApp
  split
  · rename_i h1 h2; rw [h1, h2]; rfl
  · rename_i h1 h2; rw [h1, h2]; rfl
  · rename_i h1 h2; rw [h1, h2, apK_no]
  · rename_i h3 h1 h2
    unfold apK
    split
    · rename_i g1 g2; exact (h1 _ _ _ _ _ _ _ g1 rfl g2).elim
    · rename_i g1 g2; exact (h2 _ _ _ _ g1 rfl g2).elim
    · rename_i g1 g2; exact (h3 _ g1 g2).elim
    · rfl
def sbR (P : Program) (st : AS) (n : Nat) (d : Option Tmp) (K : AS → Prop) (e : TypeId) : Option (List Value) → Option (List (Nat → AV)) → Prop
  | some z, some l => (l.length = n ∧ 0 < n ∧ z.length = P.cellsOf e ∧ 0 < P.cellsOf e ∧ n * P.cellsOf e ≤ 16777216 ∧ dstOK st.sz d) ∧
        K ⟨updO st.fr d (.ow st.top st.nx n), updR st.hp st.top (.sl st.nx e (P.cellsOf e) n fun i => l.getD i fun _ => .any), st.sz, st.top + 1, st.nx + 1, st.df⟩
  | _, _ => False
theorem sbR_some {n : Nat} {e : TypeId} {z : List Value} {l : List (Nat → AV)} : sbR P st n d K e (some z) (some l) = ((l.length = n ∧ 0 < n ∧ z.length = P.cellsOf e ∧ 0 < P.cellsOf e ∧ n * P.cellsOf e ≤ 16777216 ∧ dstOK st.sz d) ∧
        K ⟨updO st.fr d (.ow st.top st.nx n), updR st.hp st.top (.sl st.nx e (P.cellsOf e) n fun i => l.getD i fun _ => .any), st.sz, st.top + 1, st.nx + 1, st.df⟩) := rflN rfl
def sbK (P : Program) (st : AS) (n : Nat) (parts : List (Nat × AV)) (d : Option Tmp) (K : AS → Prop) : Option TypeDesc → Prop
  | some (.slice e) => sbR P st n d K e (zeroC P e) (onesOf (P.cellsOf e) 0 parts)
  | _ => False
theorem sbK_slice {n : Nat} {e : TypeId} {parts : List (Nat × AV)} : sbK P st n parts d K (some (.slice e)) = sbR P st n d K e (zeroC P e) (onesOf (P.cellsOf e) 0 parts) := rflN rfl
theorem sBuild_new {n : Nat} {parts : List (Nat × AV)} : sBuild P st t n parts d K = sbK P st n parts d K (P.underlying t) := by
  unfold sBuild sbK
  generalize P.underlying t = u
  cases u with
  | none => rfl
  | some w => cases w <;> rfl
variable {m k : AV}
def mpR (P : Program) (st : AS) (d : Option Tmp) (K : AS → Prop) (p ver : Nat) (kt : TypeId) (key : Key) (u : Value) : Row → Prop
  | .mp v str n f => (v = ver ∧ key.isStr = str ∧ P.underlying kt = some (kindOf str) ∧ dstOK st.sz d) ∧
        K ⟨updO st.fr d .any, updR st.hp p (.mp v str (if (f key).isSome then n else n + 1) (setKey f key u)), st.sz, st.top, st.nx, st.df⟩
  | _ => False
theorem mpR_mp {p ver v n : Nat} {kt : TypeId} {key : Key} {u : Value} {str : Bool} {f : Key → Option Value} : mpR P st d K p ver kt key u (.mp v str n f) =
    ((v = ver ∧ key.isStr = str ∧ P.underlying kt = some (kindOf str) ∧ dstOK st.sz d) ∧
        K ⟨updO st.fr d .any, updR st.hp p (.mp v str (if (f key).isSome then n else n + 1) (setKey f key u)), st.sz, st.top, st.nx, st.df⟩) := rflN rfl
def mpK (P : Program) (st : AS) (d : Option Tmp) (K : AS → Prop) : Option TypeDesc → AV → Option Key → Option Value → Prop
  | some (.map kt _), .mp p ver, some key, some u => mpR P st d K p ver kt key u (st.hp p)
  | _, _, _, _ => False
theorem mpK_mp {kt vt : TypeId} {p ver : Nat} {key : Key} {u : Value} : mpK P st d K (some (.map kt vt)) (.mp p ver) (some key) (some u) = mpR P st d K p ver kt key u (st.hp p) := rflN rfl
theorem sMapSet_new : sMapSet P st t m k x d K = mpK P st d K (P.underlying t) m (keyAV k) (valAV x) := by
  unfold sMapSet
  split
  · rename_i h1 h2 h3; rw [h1, h2, h3]; rfl
  · rename_i h1
    unfold mpK
    split
    · rename_i g1 g2 g3; exact (h1 _ _ _ _ _ _ g1 rfl g2 g3).elim
    · rfl
variable {S : List Nat} {a b : Code} {Q : Exit → AS → Prop}
def condK (P : Program) (Γ : Gam) (S : List Nat) (a b : Code) (Q : Exit → AS → Prop) (st : AS) : AV → Prop
  | .val (.bool c) => (c = true → xCode P Γ S a Q st) ∧ (c = false → xCode P Γ S b Q st)
  | .mb q => (q → xCode P Γ S a Q st) ∧ xCode P Γ S b Q st
  | _ => False
theorem condK_val {c : Bool} : condK P Γ S a b Q st (.val (.bool c)) = ((c = true → xCode P Γ S a Q st) ∧ (c = false → xCode P Γ S b Q st)) := rflN rfl
theorem condK_mb {q : Prop} : condK P Γ S a b Q st (.mb q) = ((q → xCode P Γ S a Q st) ∧ xCode P Γ S b Q st) := rflN rfl
theorem xCode_cond_new (o : Operand) : xCode P Γ S (.cond o a b) Q st = condK P Γ S a b Q st (st.ev o) := rflN rfl
end
attribute [go_sem high] xOps_cons xOpsA_cons xOpsA_zero gop_new bop_new xCode_cond_new
attribute [go_sem] xOps_nil contX_app methK_app goK_some goK_none goA_some goA_none gdR_some gdR_none gdK_some gdK_none condK_val condK_mb
attribute [go_sem] sBuild_new sbK_slice sbR_some sStore_pt sStore_pe sApp_new sMapSet_new stPt_box stPe_sl apR_sl apK_ow apK_em apK_no mpR_mp mpK_mp
section
variable {P : Program} {Γ : Gam} {K : AS → Prop} {Q : Exit → AS → Prop} {st : AS} {y : Code} {id : Nat}
@[go_sem] theorem rest_normal : rest P y Q .normal st = AW P y Q st := rfl
@[go_sem] theorem rest_exit : rest P y Q (.exit id) st = Q (.exit id) st := rfl
@[go_sem] theorem rest_ret : rest P y Q .ret st = Q .ret st := rfl
def later (P : Program) (Γ : Gam) (S : List Nat) (y : Code) (Q : Exit → AS → Prop) : Exit → AS → Prop := thenX (xCode P Γ S y) Q
variable {S : List Nat}
@[go_sem] theorem later_normal : later P Γ S y Q .normal st = xCode P Γ S y Q st := rfl
@[go_sem] theorem later_exit : later P Γ S y Q (.exit id) st = Q (.exit id) st := rfl
@[go_sem] theorem later_ret : later P Γ S y Q .ret st = Q .ret st := rfl
@[go_sem] theorem xCode_seq (x : Code) : xCode P Γ S (.seq x y) Q st = if ends x ≤ 1 then (if stops S x = true then xCode P Γ S x (rest P y Q) st else xCode P Γ S x (later P Γ S y Q) st) else if S.contains 99999 = true then xCode P Γ S x (later P Γ S y Q) st else AW P (.seq x y) Q st := rfl
@[go_sem] theorem xCode_region (l : List Oper) : xCode P Γ S (.region id ⟨l⟩ false) Q st = xOps P Γ l.toArray l st (Q .normal) := rfl
@[go_sem] theorem xCode_draw (l : List Oper) : xCode P Γ S (.region id ⟨l⟩ true) Q st = if S.contains (200000 + id) = true then AW P (.region id ⟨l⟩ true) Q st else xOpsA P Γ l.toArray (quiet Γ l) l st (Q .normal) := rfl
@[go_sem] theorem xCode_block : xCode P Γ S (.block id y) Q st = xCode P Γ S y (inA id Q) st := rfl
@[go_sem] theorem xCode_scope : xCode P Γ S (.scope y) Q st = xCode P Γ S y (unscoped Q) st := rfl
@[go_sem] theorem xCode_skip : xCode P Γ S .skip Q st = Q .normal st := rfl
@[go_sem] theorem xCode_exit : xCode P Γ S (.exit id) Q st = Q (.exit id) st := rfl
@[go_sem] theorem xCode_ret : xCode P Γ S .ret Q st = Q .ret st := rfl
@[go_sem] theorem xCode_loop : xCode P Γ S (.loop y) Q st = AW P (.loop y) Q st := rfl
@[go_sem] theorem lastOf_region (l : Array Oper) (b : Bool) : lastOf (.region id l b) = some id := rfl
@[go_sem] theorem lastOf_seq (x : Code) : lastOf (.seq x y) = lastOf y := rfl
@[go_sem] theorem lastOf_block : lastOf (.block id y) = none := rfl
@[go_sem] theorem lastOf_cond (o : Operand) (x : Code) : lastOf (.cond o x y) = none := rfl
@[go_sem] theorem lastOf_loop : lastOf (.loop y) = none := rfl
@[go_sem] theorem lastOf_ret : lastOf .ret = none := rfl
@[go_sem] theorem lastOf_skip : lastOf .skip = none := rfl
@[go_sem] theorem lastOf_exit : lastOf (.exit id) = none := rfl
@[go_sem] theorem lastOf_scope : lastOf (.scope y) = none := rfl
@[go_sem] theorem stops_nil : stops [] y = false := by unfold stops; split <;> rfl
theorem stops_def : stops S y = match lastOf y with
  | some id => S.contains id
  | none => false := rfl
@[go_sem] theorem unscoped_normal : unscoped Q .normal st = Q .normal st := rfl
@[go_sem] theorem unscoped_exit : unscoped Q (.exit id) st = Q (.exit id) st := rfl
@[go_sem] theorem unscoped_ret : unscoped Q .ret st = Q .ret st := rfl
@[go_sem] theorem inA_normal : inA id Q .normal st = Q .normal st := rfl
@[go_sem] theorem inA_exit {id' : Nat} : inA id Q (.exit id') st = if id' = id then Q .normal st else Q (.exit id') st := rfl
@[go_sem] theorem inA_ret : inA id Q .ret st = Q .ret st := rfl
@[go_sem] theorem thenA_normal : thenA K Q .normal st = K st := rfl
@[go_sem] theorem thenA_exit : thenA K Q (.exit id) st = Q (.exit id) st := rfl
@[go_sem] theorem thenA_ret : thenA K Q .ret st = Q .ret st := rfl
@[go_sem] theorem again_exit {α : Type} {I : α → Sh} {μ : α → Nat} {i : α} : again I μ i Q (.exit id) st = Q (.exit id) st := rfl
@[go_sem] theorem again_normal {α : Type} {I : α → Sh} {μ : α → Nat} {i : α} : again I μ i Q .normal st = ∃ j, (I j).fits st ∧ μ j < μ i := rfl
@[go_sem] theorem again_ret {α : Type} {I : α → Sh} {μ : α → Nat} {i : α} : again I μ i Q .ret st = Q .ret st := rfl
@[go_sem] theorem retQ_normal {l : List ResultVar} {r : AV} : retQ P l r .normal st = retOK P l r st := rfl
@[go_sem] theorem retQ_ret {l : List ResultVar} {r : AV} : retQ P l r .ret st = retOK P l r st := rfl

@[go_sem] theorem gam_nil (f : Nat) : gam [] f = none := rfl
@[go_sem] theorem gam_cons (f g : Nat) (s : Con) (r : List (Nat × Con)) : gam ((g, s) :: r) f = if f = g then some s else gam r f := rfl
@[go_sem] theorem meet_exit {s : Sh} : meet s Q (.exit id) st = Q (.exit id) st := rfl
@[go_sem] theorem meet_ret {s : Sh} : meet s Q .ret st = Q .ret st := rfl
@[go_sem] theorem meet_normal {s : Sh} : meet s Q .normal st = s.fits st := rfl
@[go_sem] theorem frm_nil (t : Nat) : frm [] t = .any := rfl
@[go_sem] theorem frm_cons (d : Nat) (x : AV) (r : List (Nat × AV)) (t : Nat) : frm ((d, x) :: r) t = if t = d then x else frm r t := rfl
@[go_sem] theorem rws_nil (t : Nat) : rws [] t = .dead := rfl
@[go_sem] theorem rws_cons (d : Nat) (x : Row) (r : List (Nat × Row)) (t : Nat) : rws ((d, x) :: r) t = if t = d then x else rws r t := rfl
end

section
variable {P : Program} {st : AS} (x y z : AV) (r s t : ResultVar)
@[go_sem] theorem retOK_no : retOK P [] (.val (.tuple #[])) st = (st.df = []) := by simp [retOK]
@[go_sem] theorem retOK_one : retOK P [r] x st = (st.df = [] ∧ rOK P st r x) := rfl
@[go_sem] theorem retOK_two : retOK P [r, s] (tu2 x y) st = (st.df = [] ∧ rOK P st r x ∧ rOK P st s y) := by
  refine propext ⟨?_, fun h => ⟨h.1, _, rfl, h.2.1, h.2.2⟩⟩
  rintro ⟨h, c, hc, h1, h2⟩
  unfold tu2 at hc
  injection hc with _ hc
  subst hc
  exact ⟨h, h1, h2⟩
@[go_sem] theorem retOK_three : retOK P [r, s, t] (tu3 x y z) st = (st.df = [] ∧ rOK P st r x ∧ rOK P st s y ∧ rOK P st t z) := by
  refine propext ⟨?_, fun h => ⟨h.1, _, rfl, h.2.1, h.2.2.1, h.2.2.2⟩⟩
  rintro ⟨h, c, hc, h1, h2, h3⟩
  unfold tu3 at hc
  injection hc with _ hc
  subst hc
  exact ⟨h, h1, h2, h3⟩
@[go_sem high] theorem aExtract_tu2 (i : Nat) : aExtract (tu2 x y) i = some (i < 2, if i = 0 then x else y) := rfl
@[go_sem high] theorem aExtract_tu3 (i : Nat) : aExtract (tu3 x y z) i = some (i < 3, if i = 0 then x else if i = 1 then y else z) := rfl
@[go_sem] theorem scal_tu2 : scal (tu2 x y) = (sc x = true ∧ sc y = true) := by
  refine propext ⟨fun h => ⟨h 0 (by decide), h 1 (by decide)⟩, fun h j hj => ?_⟩
  match j, hj with
  | 0, _ => exact h.1
  | 1, _ => exact h.2
@[go_sem] theorem scal_tu3 : scal (tu3 x y z) = (sc x = true ∧ sc y = true ∧ sc z = true) := by
  refine propext ⟨fun h => ⟨h 0 (by decide), h 1 (by decide), h 2 (by decide)⟩, fun h j hj => ?_⟩
  match j, hj with
  | 0, _ => exact h.1
  | 1, _ => exact h.2.1
  | 2, _ => exact h.2.2
@[go_sem] theorem scal_val (v : Value) : scal (.val v) = True := eq_true rfl
@[go_sem] theorem scal_st (v : List UInt8) : scal (.st v) = True := eq_true rfl
@[go_sem] theorem scal_em : scal .em = True := eq_true rfl
@[go_sem] theorem sc_val (v : Value) : sc (.val v) = true := rfl
@[go_sem] theorem sc_st (v : List UInt8) : sc (.st v) = true := rfl
@[go_sem] theorem sc_em : sc .em = true := rfl
end

section
variable {g : Bool} {ev : Operand → AV} {c x y : Operand}
@[go_sem] theorem evG_pick (t u : Nat) : evG g (.pick (.tmp t) x y) ev (.tmp u) = if u = t then stripG g (ev (.tmp u)) else relG g (ev (.tmp u)) := rfl
@[go_sem] theorem evG_pick_const (t : Nat) (v : Value) : evG g (.pick (.tmp t) x y) ev (.const v) = stripG g (ev (.const v)) := rfl
@[go_sem low] theorem evG_other (op : Op) (o : Operand) (h : ∀ t x y, op ≠ .pick (.tmp t) x y) : evG g op ev o = stripG g (ev o) := by
  unfold evG
  split
  · exact absurd rfl (h _ _ _)
  · rfl
@[go_sem] theorem relG_gd (b : Bool) (z : AV) : relG g (.gd b z) = .gd (!g || b) z := rfl
@[go_sem] theorem relG_val (v : Value) : relG g (.val v) = .val v := rfl
end
attribute [go_sem] Bool.not_or_self ne_eq
section
variable (g : Bool) (x : AV)
@[go_sem] theorem stripG_self : stripG g (.gd g x) = x := by cases g <;> rfl
@[go_sem] theorem stripG_left (b : Bool) : stripG (g && b) (.gd g x) = x := by cases g <;> cases b <;> rfl
@[go_sem] theorem stripG_right (b : Bool) : stripG (b && g) (.gd g x) = x := by cases g <;> cases b <;> rfl
@[go_sem] theorem stripG_any : stripG g .any = .any := rfl
@[go_sem] theorem stripG_val (v : Value) : stripG g (.val v) = .val v := rfl
@[go_sem] theorem stripG_st (l : List UInt8) : stripG g (.st l) = .st l := rfl
@[go_sem] theorem stripG_em : stripG g .em = .em := rfl
@[go_sem] theorem stripG_sn (n sz : Nat) (c : Nat → Nat → AV) : stripG g (.sn n sz c) = .sn n sz c := rfl
@[go_sem] theorem stripG_ps (m : Nat) (c : Nat → AV) : stripG g (.ps m c) = .ps m c := rfl
@[go_sem] theorem stripG_ow (p v n : Nat) : stripG g (.ow p v n) = .ow p v n := rfl
@[go_sem] theorem stripG_pt (p v j : Nat) : stripG g (.pt p v j) = .pt p v j := rfl
@[go_sem] theorem stripG_pe (p v s i j : Nat) : stripG g (.pe p v s i j) = .pe p v s i j := rfl
@[go_sem] theorem stripG_ag (m : Nat) (c : Nat → AV) : stripG g (.ag m c) = .ag m c := rfl
@[go_sem] theorem stripG_tu (m : Nat) (c : Nat → AV) : stripG g (.tu m c) = .tu m c := rfl
@[go_sem] theorem stripG_sL {α : Type} (E : El α) (l : List α) : stripG g (sL E l) = sL E l := rfl
@[go_sem] theorem guard_tt (b : Bool) : guardVal (.val (.bool b)) true = some b := rfl
@[go_sem] theorem guard_tf (b : Bool) : guardVal (.val (.bool b)) false = some (!b) := rfl
@[go_sem] theorem guard_gt (h b : Bool) : guardVal (.gd h (.val (.bool b))) true = some (h && b) := rfl
@[go_sem] theorem guard_gf (h b : Bool) : guardVal (.gd h (.val (.bool b))) false = some (h && !b) := rfl

@[go_sem] theorem updO_some (f : Nat → AV) (d : Nat) (v : AV) : updO f (some d) v = updA f d v := rfl
@[go_sem] theorem updO_none (f : Nat → AV) (v : AV) : updO f none v = f := rfl
@[go_sem] theorem updA_eq (f : Nat → AV) (d : Nat) (v : AV) (t : Nat) : updA f d v t = if t = d then v else f t := rfl
@[go_sem] theorem updR_eq (f : Nat → Row) (d : Nat) (v : Row) (t : Nat) : updR f d v t = if t = d then v else f t := rfl
@[go_sem] theorem dst_some (n d : Nat) : dstOK n (some d) = (d < n) := rfl
@[go_sem] theorem dst_none (n : Nat) : dstOK n none = True := rfl
@[go_sem] theorem put_row_dead (st : AS) (d : Option Tmp) (z : AV) : st.put d z .dead = ⟨updO st.fr d z, st.hp, st.sz, st.top, st.nx, st.df⟩ := rfl
@[go_sem] theorem put_row_box (st : AS) (d : Option Tmp) (z : AV) (v e m : Nat) (c : Nat → AV) : st.put d z (.box v e m c) = ⟨updO st.fr d z, updR st.hp st.top (.box v e m c), st.sz, st.top + 1, st.nx + 1, st.df⟩ := rfl
@[go_sem] theorem put_row_sl (st : AS) (d : Option Tmp) (z : AV) (v e s n : Nat) (c : Nat → Nat → AV) : st.put d z (.sl v e s n c) = ⟨updO st.fr d z, updR st.hp st.top (.sl v e s n c), st.sz, st.top + 1, st.nx + 1, st.df⟩ := rfl
@[go_sem] theorem ev_tmp (st : AS) (t : Nat) : st.ev (.tmp t) = st.fr t := rfl
@[go_sem] theorem ev_const (st : AS) (v : Value) : st.ev (.const v) = kAV v := rfl
@[go_sem] theorem ev_func (st : AS) (f : Nat) : st.ev (.func f) = .val (.func (.func f) #[] #[]) := rfl
@[go_sem] theorem ev_global (st : AS) (f : Nat) : st.ev (.global f) = .val (.pointer (some ⟨f, 0, none⟩)) := rfl
@[go_sem] theorem kAV_int (k : IntKind) (n : Int) : kAV (.int k n) = .val (.int k n) := rfl
@[go_sem] theorem kAV_bool (b : Bool) : kAV (.bool b) = .val (.bool b) := rfl
@[go_sem] theorem kAV_string (s : ByteArray) : kAV (.string s) = .st s.data.toList := rfl
@[go_sem] theorem kAV_nil : kAV (.slice none 0 0) = .em := rfl
end
section
variable {P : Program} {ev : Operand → AV} {op : BinOp} {t : TypeId} {x : Operand}
@[go_sem] theorem aBinO_tmp (y : Nat) : aBinO P ev op t x (.tmp y) = aBin P op t (ev x) (ev (.tmp y)) := by cases op <;> rfl
@[go_sem] theorem aBinO_int (k : IntKind) (n : Int) : aBinO P ev op t x (.const (.int k n)) = aBin P op t (ev x) (ev (.const (.int k n))) := by cases op <;> rfl
@[go_sem] theorem aBinO_bool (n : Bool) : aBinO P ev op t x (.const (.bool n)) = aBin P op t (ev x) (ev (.const (.bool n))) := by cases op <;> rfl
@[go_sem] theorem aBinO_string (n : ByteArray) : aBinO P ev op t x (.const (.string n)) = aBin P op t (ev x) (ev (.const (.string n))) := by cases op <;> rfl
@[go_sem] theorem aBinO_nil : aBinO P ev .eql t x (.const (.slice none 0 0)) = aIsNil P t (ev x) := rfl
@[go_sem] theorem aBinO_ptr : aBinO P ev .eql t x (.const (.pointer none)) = aNilP P t (ev x) := rfl
@[go_sem] theorem aBinO_ifE : aBinO P ev .eql t x (.const .nilIface) = aNilI P t true (ev x) := rfl
@[go_sem] theorem aBinO_ifN : aBinO P ev .neq t x (.const .nilIface) = aNilI P t false (ev x) := rfl
@[go_sem] theorem aNilP_no : aNilP P t (.val (.pointer none)) = some (ptrB P t, .val (.bool true)) := rfl
@[go_sem] theorem aNilP_pt (p v j : Nat) : aNilP P t (.pt p v j) = some (ptrB P t, .val (.bool false)) := rfl
@[go_sem] theorem aNilP_ps (m : Nat) (c : Nat → AV) : aNilP P t (.ps m c) = some (ptrB P t, .val (.bool false)) := rfl
@[go_sem] theorem aNilI_no (b : Bool) : aNilI P t b (.val .nilIface) = some (ifcB P t, .val (.bool b)) := rfl
@[go_sem] theorem aBinO_agg (n : Array Value) : aBinO P ev op t x (.const (.agg n)) = aBin P op t (ev x) (ev (.const (.agg n))) := by cases op <;> rfl
end
attribute [go_sem] ends exits quiet aI64 aInt aStr isG aop apure bd aCall
attribute [go_sem low] aConvM.eq_def
attribute [go_sem low] stops_def aBin.eq_def aPick.eq_def aUn.eq_def aLen.eq_def aLookup.eq_def aSlice3.eq_def aLoad.eq_def aFieldAddr.eq_def aIndexAddr.eq_def aIndex.eq_def aExtract.eq_def aField.eq_def aSlice.eq_def aConv.eq_def aMin.eq_def aMax.eq_def aNil.eq_def
attribute [go_sem] rOK st0 Sh.st Sh.fits List.contains_cons List.contains_nil
attribute [go_sem] Spec.f0 Spec.f1 Spec.f2 Spec.f3 Spec.f4
@[go_sem] theorem kI_enc (n : Int) : kI.enc n = .val (.int .i64 n) := rfl
@[go_sem] theorem kB_enc (n : Bool) : kB.enc n = .val (.bool n) := rfl
@[go_sem] theorem kS_enc (n : List UInt8) : kS.enc n = .st n := rfl
@[go_sem] theorem kL_enc {α : Type} (E : El α) (l : List α) : (kL E).enc l = sL E l := rfl
@[go_sem] theorem kI_dec (n : Int) : kI.dec (.val (.int .i64 n)) = n := rfl
@[go_sem] theorem kB_dec (n : Bool) : kB.dec (.val (.bool n)) = n := rfl
@[go_sem] theorem kS_dec (n : List UInt8) : kS.dec (.st n) = n := rfl
@[go_sem] theorem kL_dec {α : Type} (E : El α) (l : List α) : (kL E).dec (sL E l) = l := gL_sL E l
@[go_sem] theorem kI_ok (n : Int) : kI.ok (.val (.int .i64 n)) = True := eq_true (kI.ok_enc n)
@[go_sem] theorem kB_ok (n : Bool) : kB.ok (.val (.bool n)) = True := eq_true (kB.ok_enc n)
@[go_sem] theorem kS_ok (n : List UInt8) : kS.ok (.st n) = True := eq_true (kS.ok_enc n)
@[go_sem] theorem kL_ok {α : Type} (E : El α) (l : List α) : (kL E).ok (sL E l) = True := eq_true ((kL E).ok_enc l)
@[go_sem] theorem kL_ok_em {α : Type} (E : El α) : (kL E).ok .em = True := eq_true (em_sL E)
@[go_sem] theorem kL_dec_em {α : Type} (E : El α) : (kL E).dec .em = [] := rfl

section
variable {α : Type} (E : El α) (l : List α)
@[go_sem high] theorem aLen_sL {P : Program} {t : TypeId} : aLen P t (sL E l) = match P.underlying t with
    | some (.slice _) => some (True, .val (.int .i64 l.length))
    | _ => none := by
  unfold aLen sL
  generalize P.underlying t = u
  cases u with
  | none => rfl
  | some d => cases d <;> rfl
@[go_sem] theorem aLenM_sL {P : Program} {hp : Nat → Row} {t : TypeId} : aLenM P hp t (sL E l) = aLen P t (sL E l) := rfl
@[go_sem high] theorem aSlice_sL {P : Program} {t : TypeId} (lo hi : Option AV) : aSlice P t (sL E l) lo hi = match P.underlying t with
    | some (.slice e) => match bd 0 lo, bd l.length hi with
      | some a, some b => some (P.cellsOf e = E.sz ∧ 0 < E.sz ∧ 0 ≤ a ∧ a ≤ b ∧ b ≤ l.length, .sn (b.toNat - a.toNat) E.sz fun i => E.enc (l.getD (a.toNat + i) E.dflt))
      | _, _ => none
    | _ => none := by
  unfold aSlice sL
  generalize P.underlying t = u
  cases u with
  | none => rfl
  | some d => cases d <;> rfl
@[go_sem] theorem kL_dec_sn (n s : Nat) (f : Nat → α) : (kL E).dec (.sn n s fun i => E.enc (f i)) = (List.range n).map f := by
  simp [kL, gL, E.law]
theorem sn_le (n : Nat) (f : Nat → α) (g : List α) (h : g = (List.range n).map f) : AVle (.sn n E.sz fun i => E.enc (f i)) (sL E g) := by
  subst h
  unfold sL
  rw [show ((List.range n).map f).length = n by simp]
  refine AVle.sn fun i hi j _ => AVle.of_eq ?_
  simp [List.getD, hi]
@[go_sem] theorem kL_ok_sn (n s : Nat) (f : Nat → α) (h : E.sz = s) : (kL E).ok (.sn n s fun i => E.enc (f i)) = True := by
  subst h
  refine eq_true ?_
  show AVle _ _
  rw [kL_dec_sn]
  exact sn_le E n f _ rfl
@[go_sem high] theorem aIndexAddr_sL {P : Program} {hp : Nat → Row} {t : TypeId} (k : Int) :
    aIndexAddr P hp t (sL E l) (.val (.int .i64 k)) = match P.underlying t with
    | some (.slice e) => some (P.cellsOf e = E.sz ∧ 0 < E.sz ∧ 0 ≤ k ∧ k < l.length, .ps E.sz (E.enc (l.getD k.toNat E.dflt)))
    | _ => none := by
  unfold aIndexAddr sL
  generalize P.underlying t = u
  cases u with
  | none => rfl
  | some d => cases d <;> rfl
@[go_sem] theorem vw_sL (hp : Nat → Row) : vw hp (sL E l) = sL E l := rfl
@[go_sem] theorem vwP_sL (hp : Nat → Row) : vwP hp (sL E l) = True := eq_true rfl
@[go_sem] theorem vwO_sL : vwO (sL E l) = false := rfl
end
@[go_sem] theorem eI_sz : eI.sz = 1 := (rfl)
@[go_sem] theorem eB_sz : eB.sz = 1 := (rfl)
@[go_sem] theorem eS_sz : eS.sz = 1 := (rfl)
@[go_sem] theorem eL_sz {α : Type} (E : El α) : (eL E).sz = 1 := (rfl)
@[go_sem] theorem eI_enc (n : Int) (j : Nat) : eI.enc n j = .val (.int .i64 n) := rfl
@[go_sem] theorem eB_enc (n : Bool) (j : Nat) : eB.enc n j = .val (.bool n) := rfl
@[go_sem] theorem eS_enc (n : List UInt8) (j : Nat) : eS.enc n j = .st n := rfl
@[go_sem] theorem eL_enc {α : Type} (E : El α) (n : List α) (j : Nat) : (eL E).enc n j = sL E n := rfl
@[go_sem] theorem eI_d : eI.dflt = 0 := rfl
@[go_sem] theorem eB_d : eB.dflt = false := rfl
@[go_sem] theorem eS_d : eS.dflt = [] := rfl
@[go_sem] theorem eL_d {α : Type} (E : El α) : (eL E).dflt = [] := rfl

section
variable {P : Program} {hp : Nat → Row} {t : TypeId}
@[go_sem] theorem aLenM_sn (n s : Nat) (c : Nat → Nat → AV) : aLenM P hp t (.sn n s c) = aLen P t (.sn n s c) := rfl
@[go_sem] theorem aLenM_st (l : List UInt8) : aLenM P hp t (.st l) = aLen P t (.st l) := rfl
@[go_sem] theorem aLenM_em : aLenM P hp t .em = aLen P t .em := rfl
@[go_sem] theorem aLenM_ow (p v n : Nat) : aLenM P hp t (.ow p v n) = aLen P t (.ow p v n) := rfl
@[go_sem] theorem aLenM_mp (p ver : Nat) : aLenM P hp t (.mp p ver) = match P.underlying t, hp p with
    | some (.map _ _), .mp v _ n _ => some (v = ver, .val (.int .i64 n))
    | _, _ => none := rfl
end
def anyLt (n : Nat) (f : Nat → Bool) : Bool := (List.range n).any f
section
variable (hp : Nat → Row)
@[go_sem] theorem vwA_sn (n s : Nat) (c : Nat → Nat → AV) : vwA hp (.sn n s c) = True := rfl
@[go_sem] theorem vwA_sL {α : Type} {E : El α} {l : List α} : vwA hp (sL E l) = True := rfl
@[go_sem] theorem vwA_em : vwA hp .em = True := rfl
@[go_sem] theorem vwA_ow (p v n : Nat) : vwA hp (.ow p v n) = match hp p with
    | .sl v' _ _ n' _ => v' = v ∧ n ≤ n'
    | _ => False := rfl
@[go_sem] theorem vw_val (v : Value) : vw hp (.val v) = .val v := rfl
@[go_sem] theorem vw_st (l : List UInt8) : vw hp (.st l) = .st l := rfl
@[go_sem] theorem vw_em : vw hp .em = .em := rfl
@[go_sem] theorem vw_sn (n s : Nat) (c : Nat → Nat → AV) : vw hp (.sn n s c) = .sn n s c := rfl
@[go_sem] theorem vw_ps (n : Nat) (c : Nat → AV) : vw hp (.ps n c) = .ps n c := rfl
@[go_sem] theorem vw_ag (n : Nat) (c : Nat → AV) : vw hp (.ag n c) = .ag n fun j => if j < n then vw0 hp (c j) else .any := rfl
@[go_sem] theorem vw0_val (v : Value) : vw0 hp (.val v) = .val v := rfl
@[go_sem] theorem vw0_st (l : List UInt8) : vw0 hp (.st l) = .st l := rfl
@[go_sem] theorem vw0_em : vw0 hp .em = .em := rfl
@[go_sem] theorem vw0_sn (n s : Nat) (c : Nat → Nat → AV) : vw0 hp (.sn n s c) = .sn n s c := rfl
@[go_sem] theorem vw0_sL {α : Type} {E : El α} {l : List α} : vw0 hp (sL E l) = sL E l := rfl
@[go_sem] theorem vwQ_val (v : Value) : vwQ hp (.val v) = True := eq_true ⟨rfl, .inl rfl⟩
@[go_sem] theorem vwQ_st (l : List UInt8) : vwQ hp (.st l) = True := eq_true ⟨rfl, .inl rfl⟩
@[go_sem] theorem vwQ_em : vwQ hp .em = True := eq_true ⟨rfl, .inl rfl⟩
@[go_sem] theorem vwQ_sn (n s : Nat) (c : Nat → Nat → AV) : vwQ hp (.sn n s c) = True := eq_true ⟨rfl, .inl rfl⟩
@[go_sem] theorem vwQ_sL {α : Type} {E : El α} {l : List α} : vwQ hp (sL E l) = True := eq_true ⟨rfl, .inl rfl⟩
@[go_sem] theorem vwO0_val (v : Value) : vwO0 (.val v) = false := rfl
@[go_sem] theorem vwO0_st (l : List UInt8) : vwO0 (.st l) = false := rfl
@[go_sem] theorem vwO0_em : vwO0 .em = false := rfl
@[go_sem] theorem vwO0_sn (n s : Nat) (c : Nat → Nat → AV) : vwO0 (.sn n s c) = false := rfl
@[go_sem] theorem vwO0_sL {α : Type} {E : El α} {l : List α} : vwO0 (sL E l) = false := rfl
@[go_sem] theorem vwO0_ow (p v n : Nat) : vwO0 (.ow p v n) = true := rfl
@[go_sem] theorem vwP_val (v : Value) : vwP hp (.val v) = True := eq_true rfl
@[go_sem] theorem vwP_st (l : List UInt8) : vwP hp (.st l) = True := eq_true rfl
@[go_sem] theorem vwP_em : vwP hp .em = True := eq_true rfl
@[go_sem] theorem vwP_sn (n s : Nat) (c : Nat → Nat → AV) : vwP hp (.sn n s c) = True := eq_true rfl
@[go_sem] theorem vwP_ps (n : Nat) (c : Nat → AV) : vwP hp (.ps n c) = True := eq_true rfl
@[go_sem] theorem vwP_ag (n : Nat) (c : Nat → AV) : vwP hp (.ag n c) = ∀ j, j < n → vwQ hp (c j) := rfl
@[go_sem] theorem vwO_val (v : Value) : vwO (.val v) = false := rfl
@[go_sem] theorem vwO_st (l : List UInt8) : vwO (.st l) = false := rfl
@[go_sem] theorem vwO_em : vwO .em = false := rfl
@[go_sem] theorem vwO_sn (n s : Nat) (c : Nat → Nat → AV) : vwO (.sn n s c) = false := rfl
@[go_sem] theorem vwO_ps (n : Nat) (c : Nat → AV) : vwO (.ps n c) = false := rfl
@[go_sem] theorem vwO_ag (n : Nat) (c : Nat → AV) : vwO (.ag n c) = anyLt n fun j => vwO0 (c j) := rfl
@[go_sem] theorem all_lt_0 (f : Nat → Prop) : (∀ j, j < 0 → f j) = True := eq_true fun j h => absurd h (Nat.not_lt_zero j)
@[go_sem] theorem all_lt_1 (f : Nat → Prop) : (∀ j, j < 1 → f j) = f 0 := propext ⟨fun h => h 0 (by omega), fun h j hj => by
  match j, hj with
  | 0, _ => exact h⟩
@[go_sem] theorem all_lt_2 (f : Nat → Prop) : (∀ j, j < 2 → f j) = (f 0 ∧ f 1) := propext ⟨fun h => ⟨h 0 (by omega), h 1 (by omega)⟩, fun h j hj => by
  match j, hj with
  | 0, _ => exact h.1
  | 1, _ => exact h.2⟩
@[go_sem] theorem all_lt_3 (f : Nat → Prop) : (∀ j, j < 3 → f j) = (f 0 ∧ f 1 ∧ f 2) := propext ⟨fun h => ⟨h 0 (by omega), h 1 (by omega), h 2 (by omega)⟩, fun h j hj => by
  match j, hj with
  | 0, _ => exact h.1
  | 1, _ => exact h.2.1
  | 2, _ => exact h.2.2⟩
@[go_sem] theorem all_lt_4 (f : Nat → Prop) : (∀ j, j < 4 → f j) = (f 0 ∧ f 1 ∧ f 2 ∧ f 3) := propext ⟨fun h => ⟨h 0 (by omega), h 1 (by omega), h 2 (by omega), h 3 (by omega)⟩, fun h j hj => by
  match j, hj with
  | 0, _ => exact h.1
  | 1, _ => exact h.2.1
  | 2, _ => exact h.2.2.1
  | 3, _ => exact h.2.2.2⟩
@[go_sem] theorem all_lt_5 (f : Nat → Prop) : (∀ j, j < 5 → f j) = (f 0 ∧ f 1 ∧ f 2 ∧ f 3 ∧ f 4) := propext ⟨fun h => ⟨h 0 (by omega), h 1 (by omega), h 2 (by omega), h 3 (by omega), h 4 (by omega)⟩, fun h j hj => by
  match j, hj with
  | 0, _ => exact h.1
  | 1, _ => exact h.2.1
  | 2, _ => exact h.2.2.1
  | 3, _ => exact h.2.2.2.1
  | 4, _ => exact h.2.2.2.2⟩
@[go_sem] theorem all_lt_6 (f : Nat → Prop) : (∀ j, j < 6 → f j) = (f 0 ∧ f 1 ∧ f 2 ∧ f 3 ∧ f 4 ∧ f 5) := propext ⟨fun h => ⟨h 0 (by omega), h 1 (by omega), h 2 (by omega), h 3 (by omega), h 4 (by omega), h 5 (by omega)⟩, fun h j hj => by
  match j, hj with
  | 0, _ => exact h.1
  | 1, _ => exact h.2.1
  | 2, _ => exact h.2.2.1
  | 3, _ => exact h.2.2.2.1
  | 4, _ => exact h.2.2.2.2.1
  | 5, _ => exact h.2.2.2.2.2⟩
@[go_sem] theorem all_lt_7 (f : Nat → Prop) : (∀ j, j < 7 → f j) = (f 0 ∧ f 1 ∧ f 2 ∧ f 3 ∧ f 4 ∧ f 5 ∧ f 6) := propext ⟨fun h => ⟨h 0 (by omega), h 1 (by omega), h 2 (by omega), h 3 (by omega), h 4 (by omega), h 5 (by omega), h 6 (by omega)⟩, fun h j hj => by
  match j, hj with
  | 0, _ => exact h.1
  | 1, _ => exact h.2.1
  | 2, _ => exact h.2.2.1
  | 3, _ => exact h.2.2.2.1
  | 4, _ => exact h.2.2.2.2.1
  | 5, _ => exact h.2.2.2.2.2.1
  | 6, _ => exact h.2.2.2.2.2.2⟩
@[go_sem] theorem all_lt_8 (f : Nat → Prop) : (∀ j, j < 8 → f j) = (f 0 ∧ f 1 ∧ f 2 ∧ f 3 ∧ f 4 ∧ f 5 ∧ f 6 ∧ f 7) := propext ⟨fun h => ⟨h 0 (by omega), h 1 (by omega), h 2 (by omega), h 3 (by omega), h 4 (by omega), h 5 (by omega), h 6 (by omega), h 7 (by omega)⟩, fun h j hj => by
  match j, hj with
  | 0, _ => exact h.1
  | 1, _ => exact h.2.1
  | 2, _ => exact h.2.2.1
  | 3, _ => exact h.2.2.2.1
  | 4, _ => exact h.2.2.2.2.1
  | 5, _ => exact h.2.2.2.2.2.1
  | 6, _ => exact h.2.2.2.2.2.2.1
  | 7, _ => exact h.2.2.2.2.2.2.2⟩
@[go_sem] theorem all_lt_9 (f : Nat → Prop) : (∀ j, j < 9 → f j) = (f 0 ∧ f 1 ∧ f 2 ∧ f 3 ∧ f 4 ∧ f 5 ∧ f 6 ∧ f 7 ∧ f 8) := propext ⟨fun h => ⟨h 0 (by omega), h 1 (by omega), h 2 (by omega), h 3 (by omega), h 4 (by omega), h 5 (by omega), h 6 (by omega), h 7 (by omega), h 8 (by omega)⟩, fun h j hj => by
  match j, hj with
  | 0, _ => exact h.1
  | 1, _ => exact h.2.1
  | 2, _ => exact h.2.2.1
  | 3, _ => exact h.2.2.2.1
  | 4, _ => exact h.2.2.2.2.1
  | 5, _ => exact h.2.2.2.2.2.1
  | 6, _ => exact h.2.2.2.2.2.2.1
  | 7, _ => exact h.2.2.2.2.2.2.2.1
  | 8, _ => exact h.2.2.2.2.2.2.2.2⟩
@[go_sem] theorem all_lt_10 (f : Nat → Prop) : (∀ j, j < 10 → f j) = (f 0 ∧ f 1 ∧ f 2 ∧ f 3 ∧ f 4 ∧ f 5 ∧ f 6 ∧ f 7 ∧ f 8 ∧ f 9) := propext ⟨fun h => ⟨h 0 (by omega), h 1 (by omega), h 2 (by omega), h 3 (by omega), h 4 (by omega), h 5 (by omega), h 6 (by omega), h 7 (by omega), h 8 (by omega), h 9 (by omega)⟩, fun h j hj => by
  match j, hj with
  | 0, _ => exact h.1
  | 1, _ => exact h.2.1
  | 2, _ => exact h.2.2.1
  | 3, _ => exact h.2.2.2.1
  | 4, _ => exact h.2.2.2.2.1
  | 5, _ => exact h.2.2.2.2.2.1
  | 6, _ => exact h.2.2.2.2.2.2.1
  | 7, _ => exact h.2.2.2.2.2.2.2.1
  | 8, _ => exact h.2.2.2.2.2.2.2.2.1
  | 9, _ => exact h.2.2.2.2.2.2.2.2.2⟩
@[go_sem] theorem all_lt_11 (f : Nat → Prop) : (∀ j, j < 11 → f j) = (f 0 ∧ f 1 ∧ f 2 ∧ f 3 ∧ f 4 ∧ f 5 ∧ f 6 ∧ f 7 ∧ f 8 ∧ f 9 ∧ f 10) := propext ⟨fun h => ⟨h 0 (by omega), h 1 (by omega), h 2 (by omega), h 3 (by omega), h 4 (by omega), h 5 (by omega), h 6 (by omega), h 7 (by omega), h 8 (by omega), h 9 (by omega), h 10 (by omega)⟩, fun h j hj => by
  match j, hj with
  | 0, _ => exact h.1
  | 1, _ => exact h.2.1
  | 2, _ => exact h.2.2.1
  | 3, _ => exact h.2.2.2.1
  | 4, _ => exact h.2.2.2.2.1
  | 5, _ => exact h.2.2.2.2.2.1
  | 6, _ => exact h.2.2.2.2.2.2.1
  | 7, _ => exact h.2.2.2.2.2.2.2.1
  | 8, _ => exact h.2.2.2.2.2.2.2.2.1
  | 9, _ => exact h.2.2.2.2.2.2.2.2.2.1
  | 10, _ => exact h.2.2.2.2.2.2.2.2.2.2⟩
@[go_sem] theorem all_lt_12 (f : Nat → Prop) : (∀ j, j < 12 → f j) = (f 0 ∧ f 1 ∧ f 2 ∧ f 3 ∧ f 4 ∧ f 5 ∧ f 6 ∧ f 7 ∧ f 8 ∧ f 9 ∧ f 10 ∧ f 11) := propext ⟨fun h => ⟨h 0 (by omega), h 1 (by omega), h 2 (by omega), h 3 (by omega), h 4 (by omega), h 5 (by omega), h 6 (by omega), h 7 (by omega), h 8 (by omega), h 9 (by omega), h 10 (by omega), h 11 (by omega)⟩, fun h j hj => by
  match j, hj with
  | 0, _ => exact h.1
  | 1, _ => exact h.2.1
  | 2, _ => exact h.2.2.1
  | 3, _ => exact h.2.2.2.1
  | 4, _ => exact h.2.2.2.2.1
  | 5, _ => exact h.2.2.2.2.2.1
  | 6, _ => exact h.2.2.2.2.2.2.1
  | 7, _ => exact h.2.2.2.2.2.2.2.1
  | 8, _ => exact h.2.2.2.2.2.2.2.2.1
  | 9, _ => exact h.2.2.2.2.2.2.2.2.2.1
  | 10, _ => exact h.2.2.2.2.2.2.2.2.2.2.1
  | 11, _ => exact h.2.2.2.2.2.2.2.2.2.2.2⟩
@[go_sem] theorem any_lt_1 (f : Nat → Bool) : anyLt 1 f = (f 0) := by simp [anyLt, List.range, List.range.loop, Bool.or_assoc]
@[go_sem] theorem any_lt_2 (f : Nat → Bool) : anyLt 2 f = (f 0 || f 1) := by simp [anyLt, List.range, List.range.loop, Bool.or_assoc]
@[go_sem] theorem any_lt_3 (f : Nat → Bool) : anyLt 3 f = (f 0 || f 1 || f 2) := by simp [anyLt, List.range, List.range.loop, Bool.or_assoc]
@[go_sem] theorem any_lt_4 (f : Nat → Bool) : anyLt 4 f = (f 0 || f 1 || f 2 || f 3) := by simp [anyLt, List.range, List.range.loop, Bool.or_assoc]
@[go_sem] theorem any_lt_5 (f : Nat → Bool) : anyLt 5 f = (f 0 || f 1 || f 2 || f 3 || f 4) := by simp [anyLt, List.range, List.range.loop, Bool.or_assoc]
@[go_sem] theorem any_lt_6 (f : Nat → Bool) : anyLt 6 f = (f 0 || f 1 || f 2 || f 3 || f 4 || f 5) := by simp [anyLt, List.range, List.range.loop, Bool.or_assoc]
@[go_sem] theorem any_lt_7 (f : Nat → Bool) : anyLt 7 f = (f 0 || f 1 || f 2 || f 3 || f 4 || f 5 || f 6) := by simp [anyLt, List.range, List.range.loop, Bool.or_assoc]
@[go_sem] theorem any_lt_8 (f : Nat → Bool) : anyLt 8 f = (f 0 || f 1 || f 2 || f 3 || f 4 || f 5 || f 6 || f 7) := by simp [anyLt, List.range, List.range.loop, Bool.or_assoc]
@[go_sem] theorem any_lt_9 (f : Nat → Bool) : anyLt 9 f = (f 0 || f 1 || f 2 || f 3 || f 4 || f 5 || f 6 || f 7 || f 8) := by simp [anyLt, List.range, List.range.loop, Bool.or_assoc]
@[go_sem] theorem any_lt_10 (f : Nat → Bool) : anyLt 10 f = (f 0 || f 1 || f 2 || f 3 || f 4 || f 5 || f 6 || f 7 || f 8 || f 9) := by simp [anyLt, List.range, List.range.loop, Bool.or_assoc]
@[go_sem] theorem any_lt_11 (f : Nat → Bool) : anyLt 11 f = (f 0 || f 1 || f 2 || f 3 || f 4 || f 5 || f 6 || f 7 || f 8 || f 9 || f 10) := by simp [anyLt, List.range, List.range.loop, Bool.or_assoc]
@[go_sem] theorem any_lt_12 (f : Nat → Bool) : anyLt 12 f = (f 0 || f 1 || f 2 || f 3 || f 4 || f 5 || f 6 || f 7 || f 8 || f 9 || f 10 || f 11) := by simp [anyLt, List.range, List.range.loop, Bool.or_assoc]
@[go_sem] theorem flat_val (v : Value) : (AV.val v).flat = true := rfl
@[go_sem] theorem flat_st (l : List UInt8) : (AV.st l).flat = true := rfl
@[go_sem] theorem flat_em : AV.em.flat = true := rfl
@[go_sem] theorem flat_sn (n s : Nat) (c : Nat → Nat → AV) : (AV.sn n s c).flat = true := rfl
@[go_sem] theorem flat_sL {α : Type} (E : El α) (l : List α) : (sL E l).flat = true := rfl
@[go_sem] theorem flat_ps (n : Nat) (c : Nat → AV) : (AV.ps n c).flat = true := rfl
@[go_sem] theorem AVle_refl (x : AV) : AVle x x = True := eq_true (AVle.refl x)
@[go_sem] theorem AVle_any (x : AV) : AVle x .any = True := eq_true (AVle.any x)
@[go_sem] theorem AVle_val (u v : Value) : AVle (.val u) (.val v) = (u = v) := by
  refine propext ⟨fun h => ?_, fun h => h ▸ AVle.refl _⟩
  exact h default noEnv (fun _ => False) u rfl
@[go_sem] theorem AVle_st (u v : List UInt8) : AVle (.st u) (.st v) = (u = v) := by
  refine propext ⟨fun h => ?_, fun h => h ▸ AVle.refl _⟩
  have := h default noEnv (fun _ => False) _ rfl
  simpa [Rep] using this
end
theorem fill_some {sz m : Nat} : ∀ (parts : List (Nat × AV)) (k : Nat) (c : Nat → AV) (l : List (Nat → AV)), onesOf sz k parts = some l → (k + l.length) * sz ≤ m →
    ∃ c', aFill (fun i => some (i * sz, sz)) m c parts = some c'
  | [], _, c, _, _, _ => ⟨c, rfl⟩
  | (i, x) :: r, k, c, l, ho, hm => by
    unfold onesOf at ho
    cases hx : cellsAV x with
    | none => rw [hx] at ho; cases ho
    | some y =>
      obtain ⟨k', d⟩ := y
      simp only [hx] at ho
      split at ho
      · rename_i e
        obtain ⟨rfl, rfl⟩ := e
        cases hr : onesOf k' (i + 1) r with
        | none => rw [hr] at ho; cases ho
        | some l' =>
          rw [hr] at ho
          simp only [Option.map_some, Option.some.injEq] at ho
          subst ho
          simp only [List.length_cons] at hm
          unfold aFill
          simp only [hx]
          have h1 : (i + 1) * k' ≤ (i + (l'.length + 1)) * k' := Nat.mul_le_mul_right _ (by omega)
          rw [Nat.add_mul] at h1
          rw [if_pos ⟨trivial, by omega⟩]
          exact fill_some r (i + 1) _ l' hr (by rw [show i + 1 + l'.length = i + (l'.length + 1) by omega]; exact hm)
      · cases ho
theorem aBuildSlice_eq {P : Program} {t : TypeId} {n : Nat} {parts : List (Nat × AV)} : aBuildSlice P t (n + 1) parts = if (parts.any fun x => vwO x.2) = true then none else match P.underlying t with
    | some (.slice e) => match zeroC P e with
      | some z => match onesOf (P.cellsOf e) 0 parts with
        | some l => if l.length = n + 1 then some ((∀ x ∈ parts, flatP x.2) ∧ z.length = P.cellsOf e ∧ 0 < P.cellsOf e ∧ (n + 1) * P.cellsOf e ≤ 16777216, .sn (n + 1) (P.cellsOf e) fun i => l.getD i fun _ => .any, .dead)
          else (aBuildRow P t (n + 1) parts).map fun x => (x.1, tidyRow parts x.2.1, x.2.2)
        | none => (aBuildRow P t (n + 1) parts).map fun x => (x.1, tidyRow parts x.2.1, x.2.2)
      | none => none
    | _ => none := by
  unfold aBuildSlice aBuildRow
  split
  · rfl
  generalize P.underlying t = u
  cases u with
  | none => rfl
  | some d =>
    cases d with
    | slice e =>
      simp only
      cases hz : zeroC P e with
      | none => rfl
      | some z =>
        simp only
        cases ho : onesOf (P.cellsOf e) 0 parts with
        | none => rfl
        | some l =>
          simp only
          by_cases hl : l.length = n + 1
          · rw [if_pos hl]
            obtain ⟨c', hc⟩ := fill_some (m := (n + 1) * P.cellsOf e) parts 0 (fun k => kCell (z.getD (k % z.length) undef)) l ho (by rw [Nat.zero_add, hl]; exact Nat.le_refl _)
            rw [hc]
            simp [tidyRow, ho, hl]
          · rw [if_neg hl]
    | _ => rfl
@[go_sem] theorem aBuildSlice_zero {P : Program} {t : TypeId} {parts : List (Nat × AV)} : aBuildSlice P t 0 parts = if (parts.any fun x => vwO x.2) = true then none else match P.underlying t with
    | some (.slice e) => match zeroC P e with
      | some _ => some (parts = [] ∧ 0 < P.cellsOf e, .em, .dead)
      | none => none
    | _ => none := by
  unfold aBuildSlice aBuildRow
  split
  · rfl
  generalize P.underlying t = u
  cases u with
  | none => rfl
  | some d =>
    cases d with
    | slice e =>
      simp only
      cases hz : zeroC P e <;> rfl
    | _ => rfl
attribute [go_sem] aBuildSlice_eq
@[go_sem] theorem onesOf_nil (sz k : Nat) : onesOf sz k [] = some [] := rfl
@[go_sem] theorem onesOf_cons (sz k i : Nat) (x : AV) (r : List (Nat × AV)) : onesOf sz k ((i, x) :: r) = match cellsAV x with
    | some (m, c) => if i = k ∧ m = sz then (onesOf sz (k + 1) r).map (c :: ·) else none
    | none => none := rfl
@[go_sem] theorem cellsAV_int (k : IntKind) (n : Int) : cellsAV (.val (.int k n)) = some (1, fun _ => .val (.int k n)) := rfl
@[go_sem] theorem cellsAV_bool (n : Bool) : cellsAV (.val (.bool n)) = some (1, fun _ => .val (.bool n)) := rfl
@[go_sem] theorem cellsAV_st (l : List UInt8) : cellsAV (.st l) = some (1, fun _ => .st l) := rfl
@[go_sem] theorem cellsAV_em : cellsAV .em = some (1, fun _ => .em) := rfl
@[go_sem] theorem cellsAV_sn (n s : Nat) (c : Nat → Nat → AV) : cellsAV (.sn n s c) = some (1, fun _ => .sn n s c) := rfl
@[go_sem] theorem cellsAV_sL {α : Type} (E : El α) (l : List α) : cellsAV (sL E l) = some (1, fun _ => sL E l) := rfl
@[go_sem] theorem cellsAV_ps (n : Nat) (c : Nat → AV) : cellsAV (.ps n c) = some (1, fun _ => .ps n c) := rfl
@[go_sem] theorem cellsAV_ow (p v n : Nat) : cellsAV (.ow p v n) = some (1, fun _ => .ow p v n) := rfl
@[go_sem] theorem cellsAV_pt (p v n : Nat) : cellsAV (.pt p v n) = some (1, fun _ => .pt p v n) := rfl
@[go_sem] theorem cellsAV_ag (n : Nat) (c : Nat → AV) : cellsAV (.ag n c) = some (n, c) := rfl
@[go_sem] theorem flatP_val (v : Value) : flatP (.val v) = True := eq_true rfl
@[go_sem] theorem flatP_st (l : List UInt8) : flatP (.st l) = True := eq_true rfl
@[go_sem] theorem flatP_em : flatP .em = True := eq_true rfl
@[go_sem] theorem flatP_sn (n s : Nat) (c : Nat → Nat → AV) : flatP (.sn n s c) = True := eq_true rfl
@[go_sem] theorem flatP_sL {α : Type} (E : El α) (l : List α) : flatP (sL E l) = True := eq_true rfl
@[go_sem] theorem flatP_ps (n : Nat) (c : Nat → AV) : flatP (.ps n c) = True := eq_true rfl
@[go_sem] theorem flatP_ag (n : Nat) (c : Nat → AV) : flatP (.ag n c) = ∀ j, j < n → (c j).flat = true := rfl
def El.okc {α : Type} (E : El α) (c : Nat → AV) : Prop := ∀ j, j < E.sz → AVle (c j) (E.enc (E.dec c) j)
@[go_sem] theorem okc_I (n : Int) : eI.okc (fun _ => .val (.int .i64 n)) = True := eq_true fun _ _ => AVle.refl _
@[go_sem] theorem okc_B (n : Bool) : eB.okc (fun _ => .val (.bool n)) = True := eq_true fun _ _ => AVle.refl _
@[go_sem] theorem okc_S (n : List UInt8) : eS.okc (fun _ => .st n) = True := eq_true fun _ _ => AVle.refl _
@[go_sem] theorem okc_L {α : Type} (E : El α) (l : List α) : (eL E).okc (fun _ => sL E l) = True := eq_true fun _ _ => by
  show AVle (sL E l) (sL E (gL E (sL E l)))
  rw [gL_sL]
  exact AVle.refl _
@[go_sem] theorem okc_L_em {α : Type} (E : El α) : (eL E).okc (fun _ => .em) = True := eq_true fun _ _ => em_sL E
@[go_sem] theorem dec_I (n : Int) : eI.dec (fun _ => .val (.int .i64 n)) = n := rfl
@[go_sem] theorem dec_B (n : Bool) : eB.dec (fun _ => .val (.bool n)) = n := rfl
@[go_sem] theorem dec_S (n : List UInt8) : eS.dec (fun _ => .st n) = n := rfl
@[go_sem] theorem dec_L {α : Type} (E : El α) (l : List α) : (eL E).dec (fun _ => sL E l) = l := gL_sL E l
@[go_sem] theorem dec_L_em {α : Type} (E : El α) : (eL E).dec (fun _ => .em) = [] := rfl
@[go_sem] theorem len_nil (α : Type) : ([] : List α).length = 0 := (rfl)
@[go_sem] theorem len_cons {α : Type} (x : α) (l : List α) : (x :: l).length = l.length + 1 := (rfl)
section
variable {α : Type} (E : El α) (n s : Nat) (l : List (Nat → AV))
@[go_sem] theorem kL_dec_list : (kL E).dec (.sn n s fun i => l.getD i fun _ => .any) = if l.length = n then l.map E.dec else (List.range n).map fun i => E.dec (l.getD i fun _ => .any) := by
  split
  · rename_i h
    subst h
    simp only [kL, gL]
    apply List.ext_getElem
    · simp
    · intro i h1 h2
      simp at h1
      simp [List.getD, h1]
  · rfl
@[go_sem] theorem kL_ok_list (h : E.sz = s) (h1 : l.length = n) (h2 : ∀ c ∈ l, E.okc c) : (kL E).ok (.sn n s fun i => l.getD i fun _ => .any) = True := by
  refine eq_true ?_
  show AVle _ _
  rw [kL_dec_list, if_pos h1]
  show AVle _ (sL E _)
  subst h h1
  unfold sL
  rw [List.length_map]
  refine AVle.sn fun i hi j hj => ?_
  simp only [List.getD, List.getElem?_eq_getElem hi, List.getElem?_map, Option.map_some, Option.getD_some]
  exact h2 _ (List.getElem_mem hi) j hj
end
attribute [go_sem ↓] reduceIte
attribute [go_sem] Value.int.injEq Value.bool.injEq
@[go_sem] theorem false_eq_dec (p : Prop) [Decidable p] : (false = decide p) = ¬ p := by simp
@[go_sem] theorem true_eq_dec (p : Prop) [Decidable p] : (true = decide p) = p := by simp
attribute [go_sem] List.getElem?_toArray List.getElem?_cons_zero List.getElem?_cons_succ Option.bind_some List.map_cons List.map_nil List.any_cons List.any_nil List.mem_cons forall_eq_or_imp List.not_mem_nil
attribute [go_sem] if_true if_false true_and and_true not_true_eq_false not_false_eq_true implies_true decide_eq_true_eq decide_eq_false_iff_not Bool.and_eq_true Bool.and_eq_false_imp forall_const Nat.add_zero
attribute [go_sem] imp_self Option.map_some Option.map_none Bool.cond_false_right Bool.cond_true_left Bool.cond_false_left Bool.cond_true_right Int.toNat_natCast Bool.or_false Bool.false_or reduceCtorEq
attribute [go_sem] Bool.false_eq_true Bool.true_eq_false false_implies true_implies ite_true ite_false and_self false_and and_false List.getD_cons_zero List.getD_cons_succ List.getD_nil Nat.reduceEqDiff Nat.reduceBEq beq_self_eq_true Bool.true_or Bool.or_true Nat.reduceLT Nat.reduceLeDiff Nat.reduceAdd Nat.reduceSub Nat.reduceMul Nat.le_refl Nat.zero_add Int.reduceAdd Int.reduceSub Int.reduceMul Int.reduceNeg Int.reduceLT Int.reduceLE Int.reduceEq Int.reduceToNat decide_true decide_false Bool.not_true Bool.not_false Bool.and_true Bool.true_and Bool.false_and Bool.and_false
theorem part_eq {α : Type} (l : List α) (d : α) {a n : Nat} (h : a + n ≤ l.length) : (List.range n).map (fun i => l.getD (a + i) d) = (l.drop a).take n := by
  apply List.ext_getElem
  · simp; omega
  · intro i h1 h2
    simp at h1
    have : a + i < l.length := by omega
    simp [List.getD, this]
theorem take_le {α : Type} (E : El α) (l : List α) {n s m : Nat} {d : α} (hd : d = E.dflt) (hs : s = E.sz) (h : n = min m l.length) : AVle (.sn n s fun i => E.enc (l.getD i d)) (sL E (l.take m)) := by
  subst hd hs h
  refine sn_le E _ _ _ ?_
  apply List.ext_getElem
  · simp
  · intro i h1 h2
    simp only [List.length_take] at h1
    have : i < l.length := by omega
    simp [List.getD, this]
end Go.Proofs.YthpjjjnbkfnghaaGreatDoor
set_option linter.unusedSimpArgs false
namespace Go.Proofs.YthpjjjnbkfnghaaGreatDoor
open Go

section
variable {P : Program}
def Idle (P : Program) (g : FuncId) : Prop :=
  (∀ (args : Array Value) (w : World), (callFunc g args).run P w = .ok (.enter g args) w) ∧
  ∀ w : World, CallsD P g #[] .returning w fun e u' w' => u' = .returning ∧ (∃ v, e = .returned v) ∧ w' = w
theorem idle_recover {g : FuncId} {fn : Func} {id : Nat} {ty : TypeId} {pos : String} (hf : P.funcs[g]? = some fn) (hn : (fn.name == "runtime.NumGoroutine") = false) (hl : fn.results = #[])
    (hb : fn.body = some (.region id #[{ dst := some 0, op := .call { callee := .builtin .recover, args := #[], argTypes := #[] }, type := ty, pos := pos, after := #[], guard := none }] false)) : Idle P g := by
  refine ⟨enters hf hb hn, fun w => callsD_of_wpS hf hb fun c₀ cs hu => ?_⟩
  apply wpS_region
  have e : c₀ = { c₀ with mode := .returning } := by cases c₀; simp_all
  have : recoverD (c₀ :: cs) = none := by simp [recoverD, hu]
  have hx : ∀ ρ, (execOp ρ { dst := some 0, op := .call { callee := .builtin .recover, args := #[], argTypes := #[] }, type := ty, pos := pos, after := #[], guard := none }).run P w = .ok .recover w := fun _ => rfl
  simp [wpOpsS, Region.wanted, hx, this, bodyPostS, results, hl]
  exact ⟨rfl, e⟩

def retD (P : Program) (g : FuncId) (l : List ResultVar) (r : AV) (st : AS) : Prop :=
  st.df = [⟨.fn (.func g) #[], #[]⟩] ∧ retOK P l r ⟨st.fr, st.hp, st.sz, st.top, st.nx, []⟩
def retQD (P : Program) (g : FuncId) (l : List ResultVar) (r : AV) : Exit → AS → Prop
  | .normal, st => retD P g l r st
  | .ret, st => retD P g l r st
  | _, _ => False
@[go_sem] theorem retQD_normal {g : FuncId} {l : List ResultVar} {r : AV} {st : AS} : retQD P g l r .normal st = retD P g l r st := rfl
@[go_sem] theorem retQD_ret {g : FuncId} {l : List ResultVar} {r : AV} {st : AS} : retQD P g l r .ret st = retD P g l r st := rfl
attribute [go_sem] retD
theorem SR.undefer {c : Ctx} {st : AS} {η : Env} {a : Act} {w : World} (h : SR c st η a w) : SR c ⟨st.fr, st.hp, st.sz, st.top, st.nx, []⟩ η { a with defers := [] } w :=
  ⟨h.hs, h.dead, h.size, h.slots, rfl⟩
theorem SpecOK.mkD {f g : FuncId} {fn : Func} {code : Code} {s : Spec} {l : List ResultVar} (hg : Idle P g) (hf : P.funcs[f]? = some fn) (hb : fn.body = some code) (hn : (fn.name == "runtime.NumGoroutine") = false) (hl : fn.results = l.toArray)
    (h : ∀ args, s.pre args → args.length ≤ fn.ntmps ∧ AW P code (retQD P g l (s.res args)) (st0 fn.ntmps args)) : SpecOK P f s := by
  refine ⟨enters hf hb hn, fun args hpre w L vs hT hL hargs => ?_⟩
  obtain ⟨hlen, haw⟩ := h args hpre
  refine calls_of_wp_defers hf hb (wp_mono (haw _ _ _ _ (SR.begin hT hL hargs hlen)) ?_)
  rintro e a' w' ⟨st', η', hq, hsr'⟩
  have key : retD P g l (s.res args) st' → Leaves P fn a'.tmps (fun e w'' => ∃ v, e = .returned v ∧ Fr (fun _ => False) w w'' ∧ Rep w'' noEnv L (s.res args) v) a'.defers .returning w' := by
    rintro ⟨hd, hr⟩
    obtain ⟨_, v, hv, hrep⟩ := retOK_post hsr'.undefer hl hr
    rw [hsr'.defs, hd]
    refine leaves_cons (by simp) (f := g) (args := #[]) ?_ ?_
    · have := hg.1 #[] w'
      simp only [invoke] at this ⊢
      simpa using this
    · refine (hg.2 w').mono ?_
      rintro e u' w'' ⟨rfl, ⟨v', rfl⟩, rfl⟩
      exact ⟨v, hv, v, rfl, hsr'.hs.fr, hrep⟩
  cases e with
  | normal => exact key hq
  | ret => exact key hq
  | exit id => exact hq.elim
  | goto id => exact hq.elim
  | panic ch => exact hq.elim
  | outgrown => exact hq.elim
theorem SpecOK.f2D {α β : Type} {f g : FuncId} {fn : Func} {code : Code} {l : List ResultVar} {A : Kd α} {B : Kd β} {dom : α → β → Prop} {out : α → β → AV} (hg : Idle P g) (hf : P.funcs[f]? = some fn) (hb : fn.body = some code) (hn : (fn.name == "runtime.NumGoroutine") = false) (hl : fn.results = l.toArray) {n : Nat} (ht : fn.ntmps = n) (hm : 2 ≤ n)
    (h : ∀ a b, dom a b → AW P code (retQD P g l (out a b)) (st0 n [A.enc a, B.enc b])) : SpecOK P f (Spec.f2 A B dom out) := by
  subst ht
  refine SpecOK.mkD hg hf hb hn hl fun args hp => ?_
  match args, hp with
  | [x, y], hp => exact ⟨hm, AW.le (st0_le (.cons hp.1 (.cons hp.2.1 .nil))) (h _ _ hp.2.2)⟩

def rM (P : Program) (st : AS) : ResultVar → Out
  | .tmp t => some (True, st.fr t)
  | .cell t ty => aLoad P st.hp ty (st.fr t)
def endM (P : Program) (l : List ResultVar) (K : AV → (Nat → Row) → Nat → Nat → Prop) (st : AS) : Prop :=
  st.df = [] ∧ match l with
  | [] => K (.val (.tuple #[])) st.hp st.top st.nx
  | [x] => match rM P st x with
    | some (p, r) => p ∧ K r st.hp st.top st.nx
    | none => False
  | [x, y] => match rM P st x, rM P st y with
    | some (p, r), some (q, s) => (p ∧ q) ∧ K (tu2 r s) st.hp st.top st.nx
    | _, _ => False
  | [x, y, z] => match rM P st x, rM P st y, rM P st z with
    | some (p, r), some (q, s), some (p', t) => (p ∧ q ∧ p') ∧ K (tu3 r s t) st.hp st.top st.nx
    | _, _, _ => False
  | _ => False
def retM (P : Program) (l : List ResultVar) (K : AV → (Nat → Row) → Nat → Nat → Prop) : Exit → AS → Prop
  | .normal, st => endM P l K st
  | .ret, st => endM P l K st
  | _, _ => False
@[go_sem] theorem retM_normal {l : List ResultVar} {K : AV → (Nat → Row) → Nat → Nat → Prop} {st : AS} : retM P l K .normal st = endM P l K st := rfl
@[go_sem] theorem retM_ret {l : List ResultVar} {K : AV → (Nat → Row) → Nat → Nat → Prop} {st : AS} : retM P l K .ret st = endM P l K st := rfl
attribute [go_sem] endM rM
theorem rM_run {c : Ctx} {st : AS} {η : Env} {a : Act} {w : World} (h : SR c st η a w) {x : ResultVar} {p : Prop} {r : AV} (hx : rM P st x = some (p, r)) (hp : p) :
    ∃ v, ((match x with | .tmp t => pure (a.tmps.getD t undef) | .cell t ty => do loadVar ty (← asAddr (a.tmps.getD t undef))) : Sem Value).run P w = .ok v w ∧ Rep w η (Lset c η st.hp) r v := by
  cases x with
  | tmp t =>
    simp only [rM, Option.some.injEq, Prod.mk.injEq] at hx
    obtain ⟨rfl, rfl⟩ := hx
    exact ⟨_, rfl, h.slots t⟩
  | cell t ty =>
    obtain ⟨v, hv, hr⟩ := run_aLoad h.hs.rows hx hp (h.slots t)
    refine ⟨v, ?_, hr⟩
    have hx' : aLoad P st.hp ty (st.fr t) = some (p, r) := hx
    have hpt : ∃ ad, a.tmps.getD t undef = .pointer (some ad) := by
      have hs := h.slots t
      unfold aLoad at hx'
      split at hx' <;> first
        | (rename_i heq; rw [heq] at hs; first | (obtain ⟨b, o, e, _⟩ := hs; exact ⟨_, e⟩) | (obtain ⟨g, cap, _, e⟩ := hs; exact ⟨_, e⟩))
        | cases hx'
    obtain ⟨ad, e⟩ := hpt
    simp only
    rw [e] at hv ⊢
    simpa [Instr.loadAt, Instr.sureAddr, asAddr] using hv
theorem endM_post {c : Ctx} {st : AS} {η : Env} {a : Act} {w : World} (h : SR c st η a w) {fn : Func} {l : List ResultVar} (hl : fn.results = l.toArray) {K : AV → (Nat → Row) → Nat → Nat → Prop} (hr : endM P l K st) :
    a.defers = [] ∧ ∃ v r, (results fn a.tmps).run P w = .ok v w ∧ K r st.hp st.top st.nx ∧ Rep w η (Lset c η st.hp) r v := by
  obtain ⟨hd, hr⟩ := hr
  refine ⟨by rw [h.defs, hd], ?_⟩
  unfold results
  rw [hl]
  split at hr
  · exact ⟨_, _, by simp, hr, rfl⟩
  · split at hr
    · rename_i x _ p r hx
      obtain ⟨v, hv, hrep⟩ := rM_run h hx hr.1
      refine ⟨v, r, ?_, hr.2, hrep⟩
      rw [Array.mapM_eq_mapM_toList]
      simp only [List.mapM_cons, List.mapM_nil, Sem.run_bind, Sem.run_map]
      cases x <;> simp only at hv ⊢ <;> rw [hv] <;> simp
    · exact hr.elim
  · split at hr
    · rename_i x y _ _ p r q s hx hy
      obtain ⟨v1, hv1, hr1⟩ := rM_run h hx hr.1.1
      obtain ⟨v2, hv2, hr2⟩ := rM_run h hy hr.1.2
      refine ⟨.tuple #[v1, v2], _, ?_, hr.2, #[v1, v2], rfl, rfl, fun j hj => ?_⟩
      · rw [Array.mapM_eq_mapM_toList]
        simp only [List.mapM_cons, List.mapM_nil, Sem.run_bind, Sem.run_map]
        cases x <;> simp only at hv1 ⊢ <;> rw [hv1] <;> cases y <;> simp only [Result.andThen_ok] at hv2 ⊢ <;> rw [hv2] <;> simp
      · match j, hj with
        | 0, _ => exact ⟨v1, rfl, hr1⟩
        | 1, _ => exact ⟨v2, rfl, hr2⟩
    · exact hr.elim
  · split at hr
    · rename_i x y z _ _ _ p r q s p' t hx hy hz
      obtain ⟨v1, hv1, hr1⟩ := rM_run h hx hr.1.1
      obtain ⟨v2, hv2, hr2⟩ := rM_run h hy hr.1.2.1
      obtain ⟨v3, hv3, hr3⟩ := rM_run h hz hr.1.2.2
      refine ⟨.tuple #[v1, v2, v3], _, ?_, hr.2, #[v1, v2, v3], rfl, rfl, fun j hj => ?_⟩
      · rw [Array.mapM_eq_mapM_toList]
        simp only [List.mapM_cons, List.mapM_nil, Sem.run_bind, Sem.run_map]
        cases x <;> simp only at hv1 ⊢ <;> rw [hv1] <;> cases y <;> simp only [Result.andThen_ok] at hv2 ⊢ <;> rw [hv2] <;> cases z <;> simp only [Result.andThen_ok] at hv3 ⊢ <;> rw [hv3] <;> simp
      · match j, hj with
        | 0, _ => exact ⟨v1, rfl, hr1⟩
        | 1, _ => exact ⟨v2, rfl, hr2⟩
        | 2, _ => exact ⟨v3, rfl, hr3⟩
    · exact hr.elim
  · exact hr.elim
def stM (n : Nat) (args : List AV) (hp : Nat → Row) (top nx : Nat) : AS := ⟨fun t => args.getD t .any, hp, n, top, nx, []⟩
attribute [go_sem] stM
theorem MethOK.mk {f : FuncId} {fn : Func} {code : Code} {S : MSpec} {l : List ResultVar} (hf : P.funcs[f]? = some fn) (hb : fn.body = some code) (hn : (fn.name == "runtime.NumGoroutine") = false) (hl : fn.results = l.toArray) {n : Nat} (ht : fn.ntmps = n)
    (h : ∀ args hp top nx K, S args hp top nx K → args.length ≤ n ∧ AW P code (retM P l K) (stM n args hp top nx)) : MethOK P f S := by
  subst ht
  refine ⟨enters hf hb hn, fun args hp top nx K hS c η w vs hs hdead hargs => ?_⟩
  obtain ⟨hlen, haw⟩ := h args hp top nx K hS
  obtain ⟨hlen', hget⟩ := all2_get hargs
  have hsr : SR c (stM fn.ntmps args hp top nx) η { tmps := vs.toArray ++ Array.replicate (fn.ntmps - vs.toArray.size) undef, defers := [] } w := by
    refine ⟨hs, hdead, ?_, fun t => ?_, rfl⟩
    · simp [stM]; omega
    · simp only [stM, List.getD_eq_getElem?_getD]
      cases ht : args[t]? with
      | none => exact trivial
      | some x =>
        obtain ⟨y, hy, hr⟩ := hget t x ht
        have : (vs.toArray ++ Array.replicate (fn.ntmps - vs.toArray.size) undef).getD t undef = y := by
          have hlt : t < vs.length := by
            rcases Nat.lt_or_ge t vs.length with h | h
            · exact h
            · rw [List.getElem?_eq_none h] at hy; cases hy
          rw [Array.getD_eq_getD_getElem?, Array.getElem?_append_left (by simpa using hlt)]
          simp [hy]
        rw [this]
        exact hr
  refine calls_of_wp hf hb (wp_mono (haw c η _ w hsr) ?_)
  rintro e a' w' ⟨st', η', hq, hsr'⟩
  cases e with
  | normal =>
    obtain ⟨hd, v, r, hv, hK, hr⟩ := endM_post hsr' hl hq
    exact ⟨hd, v, hv, v, r, _, _, _, η', rfl, hK, hsr'.hs, hsr'.dead, hr⟩
  | ret =>
    obtain ⟨hd, v, r, hv, hK, hr⟩ := endM_post hsr' hl hq
    exact ⟨hd, v, hv, v, r, _, _, _, η', rfl, hK, hsr'.hs, hsr'.dead, hr⟩
  | exit id => exact hq.elim
  | goto id => exact hq.elim
  | panic ch => exact hq.elim
  | outgrown => exact hq.elim
end
end Go.Proofs.YthpjjjnbkfnghaaGreatDoor
namespace Go.Proofs.YthpjjjnbkfnghaaGreatDoor
open Go
theorem mixed : Tryz.prog.follows .mixedOrders = true := by kernel_rfl
attribute [go_sem] Tryz.underlying2
@[go_sem] theorem agg2 : aggT Tryz.prog 2 = some false := by kernel_rfl
@[go_sem] theorem cells2 : Tryz.prog.cellsOf 2 = 1 := by kernel_rfl
@[go_sem] theorem bytes2 : Tryz.prog.bytesOf 2 = 8 := by kernel_rfl
@[go_sem] theorem parts2 : eqParts Tryz.prog 2 = none := by kernel_rfl
@[go_sem] theorem zeroV2 : zero1 Tryz.prog 2 = some (.int .i64 0) := by kernel_rfl
@[go_sem] theorem zero2 : zeroC Tryz.prog 2 = some [.int .i64 0] := by kernel_rfl
attribute [go_sem] Tryz.underlying3
@[go_sem] theorem agg3 : aggT Tryz.prog 3 = some false := by kernel_rfl
@[go_sem] theorem cells3 : Tryz.prog.cellsOf 3 = 1 := by kernel_rfl
@[go_sem] theorem bytes3 : Tryz.prog.bytesOf 3 = 8 := by kernel_rfl
@[go_sem] theorem parts3 : eqParts Tryz.prog 3 = none := by kernel_rfl
@[go_sem] theorem zeroV3 : zero1 Tryz.prog 3 = some (.int .i64 0) := by kernel_rfl
@[go_sem] theorem zero3 : zeroC Tryz.prog 3 = some [.int .i64 0] := by kernel_rfl
attribute [go_sem] Tryz.underlying4
@[go_sem] theorem agg4 : aggT Tryz.prog 4 = some false := by kernel_rfl
@[go_sem] theorem cells4 : Tryz.prog.cellsOf 4 = 1 := by kernel_rfl
@[go_sem] theorem bytes4 : Tryz.prog.bytesOf 4 = 1 := by kernel_rfl
@[go_sem] theorem parts4 : eqParts Tryz.prog 4 = none := by kernel_rfl
@[go_sem] theorem zeroV4 : zero1 Tryz.prog 4 = some (.bool false) := by kernel_rfl
@[go_sem] theorem zero4 : zeroC Tryz.prog 4 = some [.bool false] := by kernel_rfl
attribute [go_sem] Tryz.underlying5
@[go_sem] theorem agg5 : aggT Tryz.prog 5 = some false := by kernel_rfl
@[go_sem] theorem cells5 : Tryz.prog.cellsOf 5 = 1 := by kernel_rfl
@[go_sem] theorem bytes5 : Tryz.prog.bytesOf 5 = 1 := by kernel_rfl
@[go_sem] theorem parts5 : eqParts Tryz.prog 5 = none := by kernel_rfl
@[go_sem] theorem zeroV5 : zero1 Tryz.prog 5 = some (.int .u8 0) := by kernel_rfl
@[go_sem] theorem zero5 : zeroC Tryz.prog 5 = some [.int .u8 0] := by kernel_rfl
attribute [go_sem] Tryz.underlying6
@[go_sem] theorem agg6 : aggT Tryz.prog 6 = some false := by kernel_rfl
@[go_sem] theorem cells6 : Tryz.prog.cellsOf 6 = 1 := by kernel_rfl
@[go_sem] theorem bytes6 : Tryz.prog.bytesOf 6 = 1 := by kernel_rfl
@[go_sem] theorem parts6 : eqParts Tryz.prog 6 = none := by kernel_rfl
@[go_sem] theorem zeroV6 : zero1 Tryz.prog 6 = some (.int .u8 0) := by kernel_rfl
@[go_sem] theorem zero6 : zeroC Tryz.prog 6 = some [.int .u8 0] := by kernel_rfl
@[go_sem] theorem agg7 : aggT Tryz.prog 7 = some true := by kernel_rfl
@[go_sem] theorem cells7 : Tryz.prog.cellsOf 7 = 4 := by kernel_rfl
@[go_sem] theorem bytes7 : Tryz.prog.bytesOf 7 = 24 := by kernel_rfl
@[go_sem] theorem zero7 : zeroC Tryz.prog 7 = some [.int .i64 0, .int .i64 0, .bool false, .int .u8 0] := by kernel_rfl
@[go_sem] theorem fld7_0 : fld Tryz.prog 7 0 = some (0, 2) := by kernel_rfl
@[go_sem] theorem fld7_1 : fld Tryz.prog 7 1 = some (1, 3) := by kernel_rfl
@[go_sem] theorem fld7_2 : fld Tryz.prog 7 2 = some (2, 4) := by kernel_rfl
@[go_sem] theorem fld7_3 : fld Tryz.prog 7 3 = some (3, 6) := by kernel_rfl
@[go_sem] theorem lay7 : layOf Tryz.prog 7 = some [(0, 1), (1, 1), (2, 1), (3, 1)] := by kernel_rfl
@[go_sem] theorem sized7 : sized Tryz.prog 7 = true := by kernel_rfl
@[go_sem] theorem agg8 : aggT Tryz.prog 8 = some true := by kernel_rfl
@[go_sem] theorem cells8 : Tryz.prog.cellsOf 8 = 4 := by kernel_rfl
@[go_sem] theorem bytes8 : Tryz.prog.bytesOf 8 = 24 := by kernel_rfl
@[go_sem] theorem zero8 : zeroC Tryz.prog 8 = some [.int .i64 0, .int .i64 0, .bool false, .int .u8 0] := by kernel_rfl
@[go_sem] theorem fld8_0 : fld Tryz.prog 8 0 = some (0, 2) := by kernel_rfl
@[go_sem] theorem fld8_1 : fld Tryz.prog 8 1 = some (1, 3) := by kernel_rfl
@[go_sem] theorem fld8_2 : fld Tryz.prog 8 2 = some (2, 4) := by kernel_rfl
@[go_sem] theorem fld8_3 : fld Tryz.prog 8 3 = some (3, 6) := by kernel_rfl
@[go_sem] theorem lay8 : layOf Tryz.prog 8 = some [(0, 1), (1, 1), (2, 1), (3, 1)] := by kernel_rfl
@[go_sem] theorem sized8 : sized Tryz.prog 8 = true := by kernel_rfl
attribute [go_sem] Tryz.underlying9
@[go_sem] theorem agg9 : aggT Tryz.prog 9 = some false := by kernel_rfl
@[go_sem] theorem cells9 : Tryz.prog.cellsOf 9 = 1 := by kernel_rfl
@[go_sem] theorem bytes9 : Tryz.prog.bytesOf 9 = 16 := by kernel_rfl
@[go_sem] theorem parts9 : eqParts Tryz.prog 9 = none := by kernel_rfl
@[go_sem] theorem zeroV9 : zero1 Tryz.prog 9 = some (.string ⟨#[]⟩) := by kernel_rfl
@[go_sem] theorem zero9 : zeroC Tryz.prog 9 = some [.string ⟨#[]⟩] := by kernel_rfl
attribute [go_sem] Tryz.underlying10
@[go_sem] theorem agg10 : aggT Tryz.prog 10 = some false := by kernel_rfl
@[go_sem] theorem cells10 : Tryz.prog.cellsOf 10 = 1 := by kernel_rfl
@[go_sem] theorem bytes10 : Tryz.prog.bytesOf 10 = 16 := by kernel_rfl
@[go_sem] theorem parts10 : eqParts Tryz.prog 10 = none := by kernel_rfl
@[go_sem] theorem zeroV10 : zero1 Tryz.prog 10 = some (.string ⟨#[]⟩) := by kernel_rfl
@[go_sem] theorem zero10 : zeroC Tryz.prog 10 = some [.string ⟨#[]⟩] := by kernel_rfl
attribute [go_sem] Tryz.underlying11
@[go_sem] theorem agg11 : aggT Tryz.prog 11 = some false := by kernel_rfl
@[go_sem] theorem cells11 : Tryz.prog.cellsOf 11 = 1 := by kernel_rfl
@[go_sem] theorem bytes11 : Tryz.prog.bytesOf 11 = 16 := by kernel_rfl
@[go_sem] theorem parts11 : eqParts Tryz.prog 11 = none := by kernel_rfl
@[go_sem] theorem zeroV11 : zero1 Tryz.prog 11 = some (.string ⟨#[]⟩) := by kernel_rfl
@[go_sem] theorem zero11 : zeroC Tryz.prog 11 = some [.string ⟨#[]⟩] := by kernel_rfl
attribute [go_sem] Tryz.underlying12
@[go_sem] theorem agg12 : aggT Tryz.prog 12 = some false := by kernel_rfl
@[go_sem] theorem cells12 : Tryz.prog.cellsOf 12 = 1 := by kernel_rfl
@[go_sem] theorem bytes12 : Tryz.prog.bytesOf 12 = 8 := by kernel_rfl
@[go_sem] theorem parts12 : eqParts Tryz.prog 12 = none := by kernel_rfl
@[go_sem] theorem zeroV12 : zero1 Tryz.prog 12 = some (.int .u64 0) := by kernel_rfl
@[go_sem] theorem zero12 : zeroC Tryz.prog 12 = some [.int .u64 0] := by kernel_rfl
@[go_sem] theorem agg13 : aggT Tryz.prog 13 = some true := by kernel_rfl
@[go_sem] theorem cells13 : Tryz.prog.cellsOf 13 = 2 := by kernel_rfl
@[go_sem] theorem bytes13 : Tryz.prog.bytesOf 13 = 24 := by kernel_rfl
@[go_sem] theorem zero13 : zeroC Tryz.prog 13 = some [.string ⟨#[]⟩, .int .u64 0] := by kernel_rfl
@[go_sem] theorem fld13_0 : fld Tryz.prog 13 0 = some (0, 9) := by kernel_rfl
@[go_sem] theorem fld13_1 : fld Tryz.prog 13 1 = some (1, 12) := by kernel_rfl
@[go_sem] theorem lay13 : layOf Tryz.prog 13 = some [(0, 1), (1, 1)] := by kernel_rfl
@[go_sem] theorem sized13 : sized Tryz.prog 13 = true := by kernel_rfl
@[go_sem] theorem agg14 : aggT Tryz.prog 14 = some true := by kernel_rfl
@[go_sem] theorem cells14 : Tryz.prog.cellsOf 14 = 2 := by kernel_rfl
@[go_sem] theorem bytes14 : Tryz.prog.bytesOf 14 = 24 := by kernel_rfl
@[go_sem] theorem zero14 : zeroC Tryz.prog 14 = some [.string ⟨#[]⟩, .int .u64 0] := by kernel_rfl
@[go_sem] theorem fld14_0 : fld Tryz.prog 14 0 = some (0, 9) := by kernel_rfl
@[go_sem] theorem fld14_1 : fld Tryz.prog 14 1 = some (1, 12) := by kernel_rfl
@[go_sem] theorem lay14 : layOf Tryz.prog 14 = some [(0, 1), (1, 1)] := by kernel_rfl
@[go_sem] theorem sized14 : sized Tryz.prog 14 = true := by kernel_rfl
attribute [go_sem] Tryz.underlying16
@[go_sem] theorem ptr16 : ptrB Tryz.prog 16 = True := eq_true (by unfold ptrB; kernel_rfl)
@[go_sem] theorem agg16 : aggT Tryz.prog 16 = some false := by kernel_rfl
@[go_sem] theorem cells16 : Tryz.prog.cellsOf 16 = 1 := by kernel_rfl
@[go_sem] theorem bytes16 : Tryz.prog.bytesOf 16 = 8 := by kernel_rfl
@[go_sem] theorem parts16 : eqParts Tryz.prog 16 = none := by kernel_rfl
@[go_sem] theorem zeroV16 : zero1 Tryz.prog 16 = some (.pointer none) := by kernel_rfl
@[go_sem] theorem zero16 : zeroC Tryz.prog 16 = some [.pointer none] := by kernel_rfl
attribute [go_sem] Tryz.underlying17
@[go_sem] theorem ptr17 : ptrB Tryz.prog 17 = True := eq_true (by unfold ptrB; kernel_rfl)
@[go_sem] theorem agg17 : aggT Tryz.prog 17 = some false := by kernel_rfl
@[go_sem] theorem cells17 : Tryz.prog.cellsOf 17 = 1 := by kernel_rfl
@[go_sem] theorem bytes17 : Tryz.prog.bytesOf 17 = 8 := by kernel_rfl
@[go_sem] theorem parts17 : eqParts Tryz.prog 17 = none := by kernel_rfl
@[go_sem] theorem zeroV17 : zero1 Tryz.prog 17 = some (.pointer none) := by kernel_rfl
@[go_sem] theorem zero17 : zeroC Tryz.prog 17 = some [.pointer none] := by kernel_rfl
@[go_sem] theorem agg18 : aggT Tryz.prog 18 = some true := by kernel_rfl
@[go_sem] theorem cells18 : Tryz.prog.cellsOf 18 = 1 := by kernel_rfl
@[go_sem] theorem bytes18 : Tryz.prog.bytesOf 18 = 8 := by kernel_rfl
@[go_sem] theorem zero18 : zeroC Tryz.prog 18 = some [.pointer none] := by kernel_rfl
@[go_sem] theorem fld18_0 : fld Tryz.prog 18 0 = some (0, 17) := by kernel_rfl
@[go_sem] theorem lay18 : layOf Tryz.prog 18 = some [(0, 1)] := by kernel_rfl
@[go_sem] theorem sized18 : sized Tryz.prog 18 = true := by kernel_rfl
@[go_sem] theorem agg19 : aggT Tryz.prog 19 = some true := by kernel_rfl
@[go_sem] theorem cells19 : Tryz.prog.cellsOf 19 = 1 := by kernel_rfl
@[go_sem] theorem bytes19 : Tryz.prog.bytesOf 19 = 8 := by kernel_rfl
@[go_sem] theorem zero19 : zeroC Tryz.prog 19 = some [.pointer none] := by kernel_rfl
@[go_sem] theorem fld19_0 : fld Tryz.prog 19 0 = some (0, 17) := by kernel_rfl
@[go_sem] theorem lay19 : layOf Tryz.prog 19 = some [(0, 1)] := by kernel_rfl
@[go_sem] theorem sized19 : sized Tryz.prog 19 = true := by kernel_rfl
@[go_sem] theorem ifc20 : ifcB Tryz.prog 20 = True := eq_true (by unfold ifcB; kernel_rfl)
@[go_sem] theorem agg20 : aggT Tryz.prog 20 = some false := by kernel_rfl
@[go_sem] theorem cells20 : Tryz.prog.cellsOf 20 = 1 := by kernel_rfl
@[go_sem] theorem bytes20 : Tryz.prog.bytesOf 20 = 16 := by kernel_rfl
@[go_sem] theorem parts20 : eqParts Tryz.prog 20 = none := by kernel_rfl
@[go_sem] theorem zeroV20 : zero1 Tryz.prog 20 = some (.nilIface) := by kernel_rfl
@[go_sem] theorem zero20 : zeroC Tryz.prog 20 = some [.nilIface] := by kernel_rfl
attribute [go_sem] Tryz.underlying21
@[go_sem] theorem agg21 : aggT Tryz.prog 21 = some false := by kernel_rfl
@[go_sem] theorem cells21 : Tryz.prog.cellsOf 21 = 1 := by kernel_rfl
@[go_sem] theorem bytes21 : Tryz.prog.bytesOf 21 = 4 := by kernel_rfl
@[go_sem] theorem parts21 : eqParts Tryz.prog 21 = none := by kernel_rfl
@[go_sem] theorem zeroV21 : zero1 Tryz.prog 21 = some (.int .i32 0) := by kernel_rfl
@[go_sem] theorem zero21 : zeroC Tryz.prog 21 = some [.int .i32 0] := by kernel_rfl
attribute [go_sem] Tryz.underlying23
@[go_sem] theorem agg23 : aggT Tryz.prog 23 = some false := by kernel_rfl
@[go_sem] theorem cells23 : Tryz.prog.cellsOf 23 = 1 := by kernel_rfl
@[go_sem] theorem bytes23 : Tryz.prog.bytesOf 23 = 8 := by kernel_rfl
@[go_sem] theorem parts23 : eqParts Tryz.prog 23 = none := by kernel_rfl
@[go_sem] theorem zeroV23 : zero1 Tryz.prog 23 = some (.int .u64 0) := by kernel_rfl
@[go_sem] theorem zero23 : zeroC Tryz.prog 23 = some [.int .u64 0] := by kernel_rfl
attribute [go_sem] Tryz.underlying24
@[go_sem] theorem agg24 : aggT Tryz.prog 24 = some false := by kernel_rfl
@[go_sem] theorem cells24 : Tryz.prog.cellsOf 24 = 1 := by kernel_rfl
@[go_sem] theorem bytes24 : Tryz.prog.bytesOf 24 = 24 := by kernel_rfl
@[go_sem] theorem parts24 : eqParts Tryz.prog 24 = none := by kernel_rfl
@[go_sem] theorem zeroV24 : zero1 Tryz.prog 24 = some (.slice none 0 0) := by kernel_rfl
@[go_sem] theorem zero24 : zeroC Tryz.prog 24 = some [.slice none 0 0] := by kernel_rfl
attribute [go_sem] Tryz.underlying26
@[go_sem] theorem agg26 : aggT Tryz.prog 26 = some false := by kernel_rfl
@[go_sem] theorem cells26 : Tryz.prog.cellsOf 26 = 1 := by kernel_rfl
@[go_sem] theorem bytes26 : Tryz.prog.bytesOf 26 = 24 := by kernel_rfl
@[go_sem] theorem parts26 : eqParts Tryz.prog 26 = none := by kernel_rfl
@[go_sem] theorem zeroV26 : zero1 Tryz.prog 26 = some (.slice none 0 0) := by kernel_rfl
@[go_sem] theorem zero26 : zeroC Tryz.prog 26 = some [.slice none 0 0] := by kernel_rfl
attribute [go_sem] Tryz.underlying28
@[go_sem] theorem agg28 : aggT Tryz.prog 28 = some false := by kernel_rfl
@[go_sem] theorem cells28 : Tryz.prog.cellsOf 28 = 1 := by kernel_rfl
@[go_sem] theorem bytes28 : Tryz.prog.bytesOf 28 = 24 := by kernel_rfl
@[go_sem] theorem parts28 : eqParts Tryz.prog 28 = none := by kernel_rfl
@[go_sem] theorem zeroV28 : zero1 Tryz.prog 28 = some (.slice none 0 0) := by kernel_rfl
@[go_sem] theorem zero28 : zeroC Tryz.prog 28 = some [.slice none 0 0] := by kernel_rfl
attribute [go_sem] Tryz.underlying31
@[go_sem] theorem agg31 : aggT Tryz.prog 31 = some false := by kernel_rfl
@[go_sem] theorem cells31 : Tryz.prog.cellsOf 31 = 1 := by kernel_rfl
@[go_sem] theorem bytes31 : Tryz.prog.bytesOf 31 = 8 := by kernel_rfl
@[go_sem] theorem parts31 : eqParts Tryz.prog 31 = none := by kernel_rfl
@[go_sem] theorem zeroV31 : zero1 Tryz.prog 31 = some (.int .i64 0) := by kernel_rfl
@[go_sem] theorem zero31 : zeroC Tryz.prog 31 = some [.int .i64 0] := by kernel_rfl
attribute [go_sem] Tryz.underlying36
@[go_sem] theorem agg36 : aggT Tryz.prog 36 = some false := by kernel_rfl
@[go_sem] theorem cells36 : Tryz.prog.cellsOf 36 = 1 := by kernel_rfl
@[go_sem] theorem bytes36 : Tryz.prog.bytesOf 36 = 24 := by kernel_rfl
@[go_sem] theorem parts36 : eqParts Tryz.prog 36 = none := by kernel_rfl
@[go_sem] theorem zeroV36 : zero1 Tryz.prog 36 = some (.slice none 0 0) := by kernel_rfl
@[go_sem] theorem zero36 : zeroC Tryz.prog 36 = some [.slice none 0 0] := by kernel_rfl
attribute [go_sem] Tryz.underlying43
@[go_sem] theorem agg43 : aggT Tryz.prog 43 = some false := by kernel_rfl
@[go_sem] theorem cells43 : Tryz.prog.cellsOf 43 = 1 := by kernel_rfl
@[go_sem] theorem bytes43 : Tryz.prog.bytesOf 43 = 24 := by kernel_rfl
@[go_sem] theorem parts43 : eqParts Tryz.prog 43 = none := by kernel_rfl
@[go_sem] theorem zeroV43 : zero1 Tryz.prog 43 = some (.slice none 0 0) := by kernel_rfl
@[go_sem] theorem zero43 : zeroC Tryz.prog 43 = some [.slice none 0 0] := by kernel_rfl
attribute [go_sem] Tryz.underlying44
@[go_sem] theorem agg44 : aggT Tryz.prog 44 = some false := by kernel_rfl
@[go_sem] theorem cells44 : Tryz.prog.cellsOf 44 = 1 := by kernel_rfl
@[go_sem] theorem bytes44 : Tryz.prog.bytesOf 44 = 24 := by kernel_rfl
@[go_sem] theorem parts44 : eqParts Tryz.prog 44 = none := by kernel_rfl
@[go_sem] theorem zeroV44 : zero1 Tryz.prog 44 = some (.slice none 0 0) := by kernel_rfl
@[go_sem] theorem zero44 : zeroC Tryz.prog 44 = some [.slice none 0 0] := by kernel_rfl
attribute [go_sem] Tryz.underlying45
@[go_sem] theorem agg45 : aggT Tryz.prog 45 = some false := by kernel_rfl
@[go_sem] theorem cells45 : Tryz.prog.cellsOf 45 = 1 := by kernel_rfl
@[go_sem] theorem bytes45 : Tryz.prog.bytesOf 45 = 24 := by kernel_rfl
@[go_sem] theorem parts45 : eqParts Tryz.prog 45 = none := by kernel_rfl
@[go_sem] theorem zeroV45 : zero1 Tryz.prog 45 = some (.slice none 0 0) := by kernel_rfl
@[go_sem] theorem zero45 : zeroC Tryz.prog 45 = some [.slice none 0 0] := by kernel_rfl
attribute [go_sem] Tryz.underlying46
@[go_sem] theorem agg46 : aggT Tryz.prog 46 = some false := by kernel_rfl
@[go_sem] theorem cells46 : Tryz.prog.cellsOf 46 = 1 := by kernel_rfl
@[go_sem] theorem bytes46 : Tryz.prog.bytesOf 46 = 24 := by kernel_rfl
@[go_sem] theorem parts46 : eqParts Tryz.prog 46 = none := by kernel_rfl
@[go_sem] theorem zeroV46 : zero1 Tryz.prog 46 = some (.slice none 0 0) := by kernel_rfl
@[go_sem] theorem zero46 : zeroC Tryz.prog 46 = some [.slice none 0 0] := by kernel_rfl
@[go_sem] theorem agg48 : aggT Tryz.prog 48 = some true := by kernel_rfl
@[go_sem] theorem cells48 : Tryz.prog.cellsOf 48 = 7 := by kernel_rfl
@[go_sem] theorem bytes48 : Tryz.prog.bytesOf 48 = 128 := by kernel_rfl
@[go_sem] theorem parts48 : eqParts Tryz.prog 48 = some [(0, 44), (1, 45), (2, 45), (3, 46), (4, 9), (5, 3), (6, 3)] := by kernel_rfl
@[go_sem] theorem eqg48 : Tryz.prog.eqGuardType Tryz.prog.depth 48 = false := by kernel_rfl
@[go_sem] theorem zero48 : zeroC Tryz.prog 48 = some [.slice none 0 0, .slice none 0 0, .slice none 0 0, .slice none 0 0, .string ⟨#[]⟩, .int .i64 0, .int .i64 0] := by kernel_rfl
@[go_sem] theorem fld48_0 : fld Tryz.prog 48 0 = some (0, 44) := by kernel_rfl
@[go_sem] theorem fld48_1 : fld Tryz.prog 48 1 = some (1, 45) := by kernel_rfl
@[go_sem] theorem fld48_2 : fld Tryz.prog 48 2 = some (2, 45) := by kernel_rfl
@[go_sem] theorem fld48_3 : fld Tryz.prog 48 3 = some (3, 46) := by kernel_rfl
@[go_sem] theorem fld48_4 : fld Tryz.prog 48 4 = some (4, 9) := by kernel_rfl
@[go_sem] theorem fld48_5 : fld Tryz.prog 48 5 = some (5, 3) := by kernel_rfl
@[go_sem] theorem fld48_6 : fld Tryz.prog 48 6 = some (6, 3) := by kernel_rfl
@[go_sem] theorem lay48 : layOf Tryz.prog 48 = some [(0, 1), (1, 1), (2, 1), (3, 1), (4, 1), (5, 1), (6, 1)] := by kernel_rfl
@[go_sem] theorem sized48 : sized Tryz.prog 48 = true := by kernel_rfl
attribute [go_sem] Tryz.underlying58
@[go_sem] theorem agg58 : aggT Tryz.prog 58 = some false := by kernel_rfl
@[go_sem] theorem cells58 : Tryz.prog.cellsOf 58 = 1 := by kernel_rfl
@[go_sem] theorem bytes58 : Tryz.prog.bytesOf 58 = 24 := by kernel_rfl
@[go_sem] theorem parts58 : eqParts Tryz.prog 58 = none := by kernel_rfl
@[go_sem] theorem zeroV58 : zero1 Tryz.prog 58 = some (.slice none 0 0) := by kernel_rfl
@[go_sem] theorem zero58 : zeroC Tryz.prog 58 = some [.slice none 0 0] := by kernel_rfl
attribute [go_sem] Tryz.underlying63
@[go_sem] theorem agg63 : aggT Tryz.prog 63 = some false := by kernel_rfl
@[go_sem] theorem cells63 : Tryz.prog.cellsOf 63 = 1 := by kernel_rfl
@[go_sem] theorem bytes63 : Tryz.prog.bytesOf 63 = 24 := by kernel_rfl
@[go_sem] theorem parts63 : eqParts Tryz.prog 63 = none := by kernel_rfl
@[go_sem] theorem zeroV63 : zero1 Tryz.prog 63 = some (.slice none 0 0) := by kernel_rfl
@[go_sem] theorem zero63 : zeroC Tryz.prog 63 = some [.slice none 0 0] := by kernel_rfl
@[go_sem] theorem agg73 : aggT Tryz.prog 73 = some true := by kernel_rfl
@[go_sem] theorem cells73 : Tryz.prog.cellsOf 73 = 3 := by kernel_rfl
@[go_sem] theorem bytes73 : Tryz.prog.bytesOf 73 = 48 := by kernel_rfl
@[go_sem] theorem parts73 : eqParts Tryz.prog 73 = some [(0, 9), (1, 9), (2, 9)] := by kernel_rfl
@[go_sem] theorem eqg73 : Tryz.prog.eqGuardType Tryz.prog.depth 73 = false := by kernel_rfl
@[go_sem] theorem zero73 : zeroC Tryz.prog 73 = some [.string ⟨#[]⟩, .string ⟨#[]⟩, .string ⟨#[]⟩] := by kernel_rfl
@[go_sem] theorem fld73_0 : fld Tryz.prog 73 0 = some (0, 9) := by kernel_rfl
@[go_sem] theorem fld73_1 : fld Tryz.prog 73 1 = some (1, 9) := by kernel_rfl
@[go_sem] theorem fld73_2 : fld Tryz.prog 73 2 = some (2, 9) := by kernel_rfl
@[go_sem] theorem lay73 : layOf Tryz.prog 73 = some [(0, 1), (1, 1), (2, 1)] := by kernel_rfl
@[go_sem] theorem sized73 : sized Tryz.prog 73 = true := by kernel_rfl
@[go_sem] theorem agg75 : aggT Tryz.prog 75 = some true := by kernel_rfl
@[go_sem] theorem cells75 : Tryz.prog.cellsOf 75 = 6 := by kernel_rfl
@[go_sem] theorem bytes75 : Tryz.prog.bytesOf 75 = 72 := by kernel_rfl
@[go_sem] theorem parts75 : eqParts Tryz.prog 75 = some [(0, 73), (3, 3), (4, 3), (5, 3)] := by kernel_rfl
@[go_sem] theorem eqg75 : Tryz.prog.eqGuardType Tryz.prog.depth 75 = false := by kernel_rfl
@[go_sem] theorem zero75 : zeroC Tryz.prog 75 = some [.string ⟨#[]⟩, .string ⟨#[]⟩, .string ⟨#[]⟩, .int .i64 0, .int .i64 0, .int .i64 0] := by kernel_rfl
@[go_sem] theorem fld75_0 : fld Tryz.prog 75 0 = some (0, 73) := by kernel_rfl
@[go_sem] theorem fld75_1 : fld Tryz.prog 75 1 = some (3, 3) := by kernel_rfl
@[go_sem] theorem fld75_2 : fld Tryz.prog 75 2 = some (4, 3) := by kernel_rfl
@[go_sem] theorem fld75_3 : fld Tryz.prog 75 3 = some (5, 3) := by kernel_rfl
@[go_sem] theorem lay75 : layOf Tryz.prog 75 = some [(0, 3), (3, 1), (4, 1), (5, 1)] := by kernel_rfl
@[go_sem] theorem sized75 : sized Tryz.prog 75 = true := by kernel_rfl
@[go_sem] theorem agg84 : aggT Tryz.prog 84 = some true := by kernel_rfl
@[go_sem] theorem cells84 : Tryz.prog.cellsOf 84 = 3 := by kernel_rfl
@[go_sem] theorem bytes84 : Tryz.prog.bytesOf 84 = 40 := by kernel_rfl
@[go_sem] theorem parts84 : eqParts Tryz.prog 84 = some [(0, 3), (1, 3), (2, 26)] := by kernel_rfl
@[go_sem] theorem eqg84 : Tryz.prog.eqGuardType Tryz.prog.depth 84 = false := by kernel_rfl
@[go_sem] theorem zero84 : zeroC Tryz.prog 84 = some [.int .i64 0, .int .i64 0, .slice none 0 0] := by kernel_rfl
@[go_sem] theorem fld84_0 : fld Tryz.prog 84 0 = some (0, 3) := by kernel_rfl
@[go_sem] theorem fld84_1 : fld Tryz.prog 84 1 = some (1, 3) := by kernel_rfl
@[go_sem] theorem fld84_2 : fld Tryz.prog 84 2 = some (2, 26) := by kernel_rfl
@[go_sem] theorem lay84 : layOf Tryz.prog 84 = some [(0, 1), (1, 1), (2, 1)] := by kernel_rfl
@[go_sem] theorem sized84 : sized Tryz.prog 84 = true := by kernel_rfl
@[go_sem] theorem agg86 : aggT Tryz.prog 86 = some true := by kernel_rfl
@[go_sem] theorem cells86 : Tryz.prog.cellsOf 86 = 2 := by kernel_rfl
@[go_sem] theorem bytes86 : Tryz.prog.bytesOf 86 = 32 := by kernel_rfl
@[go_sem] theorem parts86 : eqParts Tryz.prog 86 = some [(0, 3), (1, 36)] := by kernel_rfl
@[go_sem] theorem eqg86 : Tryz.prog.eqGuardType Tryz.prog.depth 86 = false := by kernel_rfl
@[go_sem] theorem zero86 : zeroC Tryz.prog 86 = some [.int .i64 0, .slice none 0 0] := by kernel_rfl
@[go_sem] theorem fld86_0 : fld Tryz.prog 86 0 = some (0, 3) := by kernel_rfl
@[go_sem] theorem fld86_1 : fld Tryz.prog 86 1 = some (1, 36) := by kernel_rfl
@[go_sem] theorem lay86 : layOf Tryz.prog 86 = some [(0, 1), (1, 1)] := by kernel_rfl
@[go_sem] theorem sized86 : sized Tryz.prog 86 = true := by kernel_rfl
@[go_sem] theorem agg91 : aggT Tryz.prog 91 = some true := by kernel_rfl
@[go_sem] theorem cells91 : Tryz.prog.cellsOf 91 = 2 := by kernel_rfl
@[go_sem] theorem bytes91 : Tryz.prog.bytesOf 91 = 32 := by kernel_rfl
@[go_sem] theorem parts91 : eqParts Tryz.prog 91 = some [(0, 3), (1, 36)] := by kernel_rfl
@[go_sem] theorem eqg91 : Tryz.prog.eqGuardType Tryz.prog.depth 91 = false := by kernel_rfl
@[go_sem] theorem zero91 : zeroC Tryz.prog 91 = some [.int .i64 0, .slice none 0 0] := by kernel_rfl
@[go_sem] theorem fld91_0 : fld Tryz.prog 91 0 = some (0, 3) := by kernel_rfl
@[go_sem] theorem fld91_1 : fld Tryz.prog 91 1 = some (1, 36) := by kernel_rfl
@[go_sem] theorem lay91 : layOf Tryz.prog 91 = some [(0, 1), (1, 1)] := by kernel_rfl
@[go_sem] theorem sized91 : sized Tryz.prog 91 = true := by kernel_rfl
attribute [go_sem] Tryz.underlying93
@[go_sem] theorem agg93 : aggT Tryz.prog 93 = some false := by kernel_rfl
@[go_sem] theorem cells93 : Tryz.prog.cellsOf 93 = 1 := by kernel_rfl
@[go_sem] theorem bytes93 : Tryz.prog.bytesOf 93 = 24 := by kernel_rfl
@[go_sem] theorem parts93 : eqParts Tryz.prog 93 = none := by kernel_rfl
@[go_sem] theorem zeroV93 : zero1 Tryz.prog 93 = some (.slice none 0 0) := by kernel_rfl
@[go_sem] theorem zero93 : zeroC Tryz.prog 93 = some [.slice none 0 0] := by kernel_rfl
attribute [go_sem] Tryz.underlying102
@[go_sem] theorem agg102 : aggT Tryz.prog 102 = some false := by kernel_rfl
@[go_sem] theorem cells102 : Tryz.prog.cellsOf 102 = 1 := by kernel_rfl
@[go_sem] theorem bytes102 : Tryz.prog.bytesOf 102 = 24 := by kernel_rfl
@[go_sem] theorem parts102 : eqParts Tryz.prog 102 = none := by kernel_rfl
@[go_sem] theorem zeroV102 : zero1 Tryz.prog 102 = some (.slice none 0 0) := by kernel_rfl
@[go_sem] theorem zero102 : zeroC Tryz.prog 102 = some [.slice none 0 0] := by kernel_rfl
attribute [go_sem] Tryz.underlying125
@[go_sem] theorem agg125 : aggT Tryz.prog 125 = some false := by kernel_rfl
@[go_sem] theorem cells125 : Tryz.prog.cellsOf 125 = 1 := by kernel_rfl
@[go_sem] theorem bytes125 : Tryz.prog.bytesOf 125 = 8 := by kernel_rfl
@[go_sem] theorem parts125 : eqParts Tryz.prog 125 = none := by kernel_rfl
@[go_sem] theorem zeroV125 : zero1 Tryz.prog 125 = some (.map none) := by kernel_rfl
@[go_sem] theorem zero125 : zeroC Tryz.prog 125 = some [.map none] := by kernel_rfl
@[go_sem] theorem agg129 : aggT Tryz.prog 129 = some true := by kernel_rfl
@[go_sem] theorem cells129 : Tryz.prog.cellsOf 129 = 2 := by kernel_rfl
@[go_sem] theorem bytes129 : Tryz.prog.bytesOf 129 = 16 := by kernel_rfl
@[go_sem] theorem parts129 : eqParts Tryz.prog 129 = some [(0, 3), (1, 3)] := by kernel_rfl
@[go_sem] theorem eqg129 : Tryz.prog.eqGuardType Tryz.prog.depth 129 = false := by kernel_rfl
@[go_sem] theorem zero129 : zeroC Tryz.prog 129 = some [.int .i64 0, .int .i64 0] := by kernel_rfl
@[go_sem] theorem fld129_0 : fld Tryz.prog 129 0 = some (0, 3) := by kernel_rfl
@[go_sem] theorem fld129_1 : fld Tryz.prog 129 1 = some (1, 3) := by kernel_rfl
@[go_sem] theorem lay129 : layOf Tryz.prog 129 = some [(0, 1), (1, 1)] := by kernel_rfl
@[go_sem] theorem sized129 : sized Tryz.prog 129 = true := by kernel_rfl
attribute [go_sem] Tryz.underlying136
@[go_sem] theorem ptr136 : ptrB Tryz.prog 136 = True := eq_true (by unfold ptrB; kernel_rfl)
@[go_sem] theorem agg136 : aggT Tryz.prog 136 = some false := by kernel_rfl
@[go_sem] theorem cells136 : Tryz.prog.cellsOf 136 = 1 := by kernel_rfl
@[go_sem] theorem bytes136 : Tryz.prog.bytesOf 136 = 8 := by kernel_rfl
@[go_sem] theorem parts136 : eqParts Tryz.prog 136 = none := by kernel_rfl
@[go_sem] theorem zeroV136 : zero1 Tryz.prog 136 = some (.pointer none) := by kernel_rfl
@[go_sem] theorem zero136 : zeroC Tryz.prog 136 = some [.pointer none] := by kernel_rfl
@[go_sem] theorem agg138 : aggT Tryz.prog 138 = some true := by kernel_rfl
@[go_sem] theorem cells138 : Tryz.prog.cellsOf 138 = 2 := by kernel_rfl
@[go_sem] theorem bytes138 : Tryz.prog.bytesOf 138 = 32 := by kernel_rfl
@[go_sem] theorem zero138 : zeroC Tryz.prog 138 = some [.pointer none, .slice none 0 0] := by kernel_rfl
@[go_sem] theorem fld138_0 : fld Tryz.prog 138 0 = some (0, 136) := by kernel_rfl
@[go_sem] theorem fld138_1 : fld Tryz.prog 138 1 = some (1, 102) := by kernel_rfl
@[go_sem] theorem lay138 : layOf Tryz.prog 138 = some [(0, 1), (1, 1)] := by kernel_rfl
@[go_sem] theorem sized138 : sized Tryz.prog 138 = true := by kernel_rfl
@[go_sem] theorem ifc140 : ifcB Tryz.prog 140 = True := eq_true (by unfold ifcB; kernel_rfl)
@[go_sem] theorem agg140 : aggT Tryz.prog 140 = some false := by kernel_rfl
@[go_sem] theorem cells140 : Tryz.prog.cellsOf 140 = 1 := by kernel_rfl
@[go_sem] theorem bytes140 : Tryz.prog.bytesOf 140 = 16 := by kernel_rfl
@[go_sem] theorem parts140 : eqParts Tryz.prog 140 = none := by kernel_rfl
@[go_sem] theorem zeroV140 : zero1 Tryz.prog 140 = some (.nilIface) := by kernel_rfl
@[go_sem] theorem zero140 : zeroC Tryz.prog 140 = some [.nilIface] := by kernel_rfl
@[go_sem] theorem agg150 : aggT Tryz.prog 150 = some true := by kernel_rfl
@[go_sem] theorem cells150 : Tryz.prog.cellsOf 150 = 3 := by kernel_rfl
@[go_sem] theorem bytes150 : Tryz.prog.bytesOf 150 = 72 := by kernel_rfl
@[go_sem] theorem parts150 : eqParts Tryz.prog 150 = some [(0, 36), (1, 36), (2, 36)] := by kernel_rfl
@[go_sem] theorem eqg150 : Tryz.prog.eqGuardType Tryz.prog.depth 150 = false := by kernel_rfl
@[go_sem] theorem zero150 : zeroC Tryz.prog 150 = some [.slice none 0 0, .slice none 0 0, .slice none 0 0] := by kernel_rfl
@[go_sem] theorem fld150_0 : fld Tryz.prog 150 0 = some (0, 36) := by kernel_rfl
@[go_sem] theorem fld150_1 : fld Tryz.prog 150 1 = some (1, 36) := by kernel_rfl
@[go_sem] theorem fld150_2 : fld Tryz.prog 150 2 = some (2, 36) := by kernel_rfl
@[go_sem] theorem lay150 : layOf Tryz.prog 150 = some [(0, 1), (1, 1), (2, 1)] := by kernel_rfl
@[go_sem] theorem sized150 : sized Tryz.prog 150 = true := by kernel_rfl
@[go_sem] theorem agg179 : aggT Tryz.prog 179 = some true := by kernel_rfl
@[go_sem] theorem cells179 : Tryz.prog.cellsOf 179 = 9 := by kernel_rfl
@[go_sem] theorem bytes179 : Tryz.prog.bytesOf 179 = 128 := by kernel_rfl
@[go_sem] theorem parts179 : eqParts Tryz.prog 179 = some [(0, 73), (3, 4), (4, 9), (5, 9), (6, 9), (7, 9), (8, 4)] := by kernel_rfl
@[go_sem] theorem eqg179 : Tryz.prog.eqGuardType Tryz.prog.depth 179 = false := by kernel_rfl
@[go_sem] theorem zero179 : zeroC Tryz.prog 179 = some [.string ⟨#[]⟩, .string ⟨#[]⟩, .string ⟨#[]⟩, .bool false, .string ⟨#[]⟩, .string ⟨#[]⟩, .string ⟨#[]⟩, .string ⟨#[]⟩, .bool false] := by kernel_rfl
@[go_sem] theorem fld179_0 : fld Tryz.prog 179 0 = some (0, 73) := by kernel_rfl
@[go_sem] theorem fld179_1 : fld Tryz.prog 179 1 = some (3, 4) := by kernel_rfl
@[go_sem] theorem fld179_2 : fld Tryz.prog 179 2 = some (4, 9) := by kernel_rfl
@[go_sem] theorem fld179_3 : fld Tryz.prog 179 3 = some (5, 9) := by kernel_rfl
@[go_sem] theorem fld179_4 : fld Tryz.prog 179 4 = some (6, 9) := by kernel_rfl
@[go_sem] theorem fld179_5 : fld Tryz.prog 179 5 = some (7, 9) := by kernel_rfl
@[go_sem] theorem fld179_6 : fld Tryz.prog 179 6 = some (8, 4) := by kernel_rfl
@[go_sem] theorem lay179 : layOf Tryz.prog 179 = some [(0, 3), (3, 1), (4, 1), (5, 1), (6, 1), (7, 1), (8, 1)] := by kernel_rfl
@[go_sem] theorem sized179 : sized Tryz.prog 179 = true := by kernel_rfl
@[go_sem] theorem agg188 : aggT Tryz.prog 188 = some true := by kernel_rfl
@[go_sem] theorem cells188 : Tryz.prog.cellsOf 188 = 3 := by kernel_rfl
@[go_sem] theorem bytes188 : Tryz.prog.bytesOf 188 = 24 := by kernel_rfl
@[go_sem] theorem parts188 : eqParts Tryz.prog 188 = some [(0, 5), (1, 4), (2, 9)] := by kernel_rfl
@[go_sem] theorem eqg188 : Tryz.prog.eqGuardType Tryz.prog.depth 188 = false := by kernel_rfl
@[go_sem] theorem zero188 : zeroC Tryz.prog 188 = some [.int .u8 0, .bool false, .string ⟨#[]⟩] := by kernel_rfl
@[go_sem] theorem fld188_0 : fld Tryz.prog 188 0 = some (0, 5) := by kernel_rfl
@[go_sem] theorem fld188_1 : fld Tryz.prog 188 1 = some (1, 4) := by kernel_rfl
@[go_sem] theorem fld188_2 : fld Tryz.prog 188 2 = some (2, 9) := by kernel_rfl
@[go_sem] theorem lay188 : layOf Tryz.prog 188 = some [(0, 1), (1, 1), (2, 1)] := by kernel_rfl
@[go_sem] theorem sized188 : sized Tryz.prog 188 = true := by kernel_rfl
attribute [go_sem] Tryz.underlying194
@[go_sem] theorem agg194 : aggT Tryz.prog 194 = some false := by kernel_rfl
@[go_sem] theorem cells194 : Tryz.prog.cellsOf 194 = 1 := by kernel_rfl
@[go_sem] theorem bytes194 : Tryz.prog.bytesOf 194 = 8 := by kernel_rfl
@[go_sem] theorem parts194 : eqParts Tryz.prog 194 = none := by kernel_rfl
@[go_sem] theorem zeroV194 : zero1 Tryz.prog 194 = some (.map none) := by kernel_rfl
@[go_sem] theorem zero194 : zeroC Tryz.prog 194 = some [.map none] := by kernel_rfl
attribute [go_sem] Tryz.underlying195
@[go_sem] theorem ptr195 : ptrB Tryz.prog 195 = True := eq_true (by unfold ptrB; kernel_rfl)
@[go_sem] theorem agg195 : aggT Tryz.prog 195 = some false := by kernel_rfl
@[go_sem] theorem cells195 : Tryz.prog.cellsOf 195 = 1 := by kernel_rfl
@[go_sem] theorem bytes195 : Tryz.prog.bytesOf 195 = 8 := by kernel_rfl
@[go_sem] theorem parts195 : eqParts Tryz.prog 195 = none := by kernel_rfl
@[go_sem] theorem zeroV195 : zero1 Tryz.prog 195 = some (.pointer none) := by kernel_rfl
@[go_sem] theorem zero195 : zeroC Tryz.prog 195 = some [.pointer none] := by kernel_rfl
@[go_sem] theorem agg198 : aggT Tryz.prog 198 = some true := by kernel_rfl
@[go_sem] theorem cells198 : Tryz.prog.cellsOf 198 = 7 := by kernel_rfl
@[go_sem] theorem bytes198 : Tryz.prog.bytesOf 198 = 168 := by kernel_rfl
@[go_sem] theorem parts198 : eqParts Tryz.prog 198 = some [(0, 63), (1, 63), (2, 63), (3, 63), (4, 63), (5, 63), (6, 45)] := by kernel_rfl
@[go_sem] theorem eqg198 : Tryz.prog.eqGuardType Tryz.prog.depth 198 = false := by kernel_rfl
@[go_sem] theorem zero198 : zeroC Tryz.prog 198 = some [.slice none 0 0, .slice none 0 0, .slice none 0 0, .slice none 0 0, .slice none 0 0, .slice none 0 0, .slice none 0 0] := by kernel_rfl
@[go_sem] theorem fld198_0 : fld Tryz.prog 198 0 = some (0, 63) := by kernel_rfl
@[go_sem] theorem fld198_1 : fld Tryz.prog 198 1 = some (1, 63) := by kernel_rfl
@[go_sem] theorem fld198_2 : fld Tryz.prog 198 2 = some (2, 63) := by kernel_rfl
@[go_sem] theorem fld198_3 : fld Tryz.prog 198 3 = some (3, 63) := by kernel_rfl
@[go_sem] theorem fld198_4 : fld Tryz.prog 198 4 = some (4, 63) := by kernel_rfl
@[go_sem] theorem fld198_5 : fld Tryz.prog 198 5 = some (5, 63) := by kernel_rfl
@[go_sem] theorem fld198_6 : fld Tryz.prog 198 6 = some (6, 45) := by kernel_rfl
@[go_sem] theorem lay198 : layOf Tryz.prog 198 = some [(0, 1), (1, 1), (2, 1), (3, 1), (4, 1), (5, 1), (6, 1)] := by kernel_rfl
@[go_sem] theorem sized198 : sized Tryz.prog 198 = true := by kernel_rfl
attribute [go_sem] Tryz.underlying206
@[go_sem] theorem ptr206 : ptrB Tryz.prog 206 = True := eq_true (by unfold ptrB; kernel_rfl)
@[go_sem] theorem agg206 : aggT Tryz.prog 206 = some false := by kernel_rfl
@[go_sem] theorem cells206 : Tryz.prog.cellsOf 206 = 1 := by kernel_rfl
@[go_sem] theorem bytes206 : Tryz.prog.bytesOf 206 = 8 := by kernel_rfl
@[go_sem] theorem parts206 : eqParts Tryz.prog 206 = none := by kernel_rfl
@[go_sem] theorem zeroV206 : zero1 Tryz.prog 206 = some (.pointer none) := by kernel_rfl
@[go_sem] theorem zero206 : zeroC Tryz.prog 206 = some [.pointer none] := by kernel_rfl
@[go_sem] theorem agg210 : aggT Tryz.prog 210 = some true := by kernel_rfl
@[go_sem] theorem cells210 : Tryz.prog.cellsOf 210 = 3 := by kernel_rfl
@[go_sem] theorem bytes210 : Tryz.prog.bytesOf 210 = 24 := by kernel_rfl
@[go_sem] theorem parts210 : eqParts Tryz.prog 210 = some [(0, 3), (1, 3), (2, 3)] := by kernel_rfl
@[go_sem] theorem eqg210 : Tryz.prog.eqGuardType Tryz.prog.depth 210 = false := by kernel_rfl
@[go_sem] theorem zero210 : zeroC Tryz.prog 210 = some [.int .i64 0, .int .i64 0, .int .i64 0] := by kernel_rfl
@[go_sem] theorem fld210_0 : fld Tryz.prog 210 0 = some (0, 3) := by kernel_rfl
@[go_sem] theorem fld210_1 : fld Tryz.prog 210 1 = some (1, 3) := by kernel_rfl
@[go_sem] theorem fld210_2 : fld Tryz.prog 210 2 = some (2, 3) := by kernel_rfl
@[go_sem] theorem lay210 : layOf Tryz.prog 210 = some [(0, 1), (1, 1), (2, 1)] := by kernel_rfl
@[go_sem] theorem sized210 : sized Tryz.prog 210 = true := by kernel_rfl
attribute [go_sem] Tryz.underlying211
@[go_sem] theorem agg211 : aggT Tryz.prog 211 = some false := by kernel_rfl
@[go_sem] theorem cells211 : Tryz.prog.cellsOf 211 = 1 := by kernel_rfl
@[go_sem] theorem bytes211 : Tryz.prog.bytesOf 211 = 24 := by kernel_rfl
@[go_sem] theorem parts211 : eqParts Tryz.prog 211 = none := by kernel_rfl
@[go_sem] theorem zeroV211 : zero1 Tryz.prog 211 = some (.slice none 0 0) := by kernel_rfl
@[go_sem] theorem zero211 : zeroC Tryz.prog 211 = some [.slice none 0 0] := by kernel_rfl
@[go_sem] theorem agg214 : aggT Tryz.prog 214 = some true := by kernel_rfl
@[go_sem] theorem cells214 : Tryz.prog.cellsOf 214 = 2 := by kernel_rfl
@[go_sem] theorem bytes214 : Tryz.prog.bytesOf 214 = 16 := by kernel_rfl
@[go_sem] theorem parts214 : eqParts Tryz.prog 214 = some [(0, 3), (1, 3)] := by kernel_rfl
@[go_sem] theorem eqg214 : Tryz.prog.eqGuardType Tryz.prog.depth 214 = false := by kernel_rfl
@[go_sem] theorem zero214 : zeroC Tryz.prog 214 = some [.int .i64 0, .int .i64 0] := by kernel_rfl
@[go_sem] theorem fld214_0 : fld Tryz.prog 214 0 = some (0, 3) := by kernel_rfl
@[go_sem] theorem fld214_1 : fld Tryz.prog 214 1 = some (1, 3) := by kernel_rfl
@[go_sem] theorem lay214 : layOf Tryz.prog 214 = some [(0, 1), (1, 1)] := by kernel_rfl
@[go_sem] theorem sized214 : sized Tryz.prog 214 = true := by kernel_rfl
@[go_sem] theorem agg216 : aggT Tryz.prog 216 = some true := by kernel_rfl
@[go_sem] theorem cells216 : Tryz.prog.cellsOf 216 = 7 := by kernel_rfl
@[go_sem] theorem bytes216 : Tryz.prog.bytesOf 216 = 56 := by kernel_rfl
@[go_sem] theorem parts216 : eqParts Tryz.prog 216 = some [(0, 4), (1, 214), (3, 214), (5, 214)] := by kernel_rfl
@[go_sem] theorem eqg216 : Tryz.prog.eqGuardType Tryz.prog.depth 216 = false := by kernel_rfl
@[go_sem] theorem zero216 : zeroC Tryz.prog 216 = some [.bool false, .int .i64 0, .int .i64 0, .int .i64 0, .int .i64 0, .int .i64 0, .int .i64 0] := by kernel_rfl
@[go_sem] theorem fld216_0 : fld Tryz.prog 216 0 = some (0, 4) := by kernel_rfl
@[go_sem] theorem fld216_1 : fld Tryz.prog 216 1 = some (1, 214) := by kernel_rfl
@[go_sem] theorem fld216_2 : fld Tryz.prog 216 2 = some (3, 214) := by kernel_rfl
@[go_sem] theorem fld216_3 : fld Tryz.prog 216 3 = some (5, 214) := by kernel_rfl
@[go_sem] theorem lay216 : layOf Tryz.prog 216 = some [(0, 1), (1, 2), (3, 2), (5, 2)] := by kernel_rfl
@[go_sem] theorem sized216 : sized Tryz.prog 216 = true := by kernel_rfl
attribute [go_sem] Tryz.underlying233
@[go_sem] theorem agg233 : aggT Tryz.prog 233 = some false := by kernel_rfl
@[go_sem] theorem cells233 : Tryz.prog.cellsOf 233 = 1 := by kernel_rfl
@[go_sem] theorem bytes233 : Tryz.prog.bytesOf 233 = 8 := by kernel_rfl
@[go_sem] theorem parts233 : eqParts Tryz.prog 233 = none := by kernel_rfl
@[go_sem] theorem zeroV233 : zero1 Tryz.prog 233 = some (.int .u64 0) := by kernel_rfl
@[go_sem] theorem zero233 : zeroC Tryz.prog 233 = some [.int .u64 0] := by kernel_rfl
attribute [go_sem] Tryz.underlying247
@[go_sem] theorem agg247 : aggT Tryz.prog 247 = some false := by kernel_rfl
@[go_sem] theorem cells247 : Tryz.prog.cellsOf 247 = 1 := by kernel_rfl
@[go_sem] theorem bytes247 : Tryz.prog.bytesOf 247 = 8 := by kernel_rfl
@[go_sem] theorem parts247 : eqParts Tryz.prog 247 = none := by kernel_rfl
@[go_sem] theorem zeroV247 : zero1 Tryz.prog 247 = some (.pointer none) := by kernel_rfl
@[go_sem] theorem zero247 : zeroC Tryz.prog 247 = some [.pointer none] := by kernel_rfl
attribute [go_sem] Tryz.underlying258
@[go_sem] theorem agg258 : aggT Tryz.prog 258 = some false := by kernel_rfl
@[go_sem] theorem cells258 : Tryz.prog.cellsOf 258 = 1 := by kernel_rfl
@[go_sem] theorem bytes258 : Tryz.prog.bytesOf 258 = 4 := by kernel_rfl
@[go_sem] theorem parts258 : eqParts Tryz.prog 258 = none := by kernel_rfl
@[go_sem] theorem zeroV258 : zero1 Tryz.prog 258 = some (.int .u32 0) := by kernel_rfl
@[go_sem] theorem zero258 : zeroC Tryz.prog 258 = some [.int .u32 0] := by kernel_rfl
@[go_sem] theorem agg265 : aggT Tryz.prog 265 = some true := by kernel_rfl
@[go_sem] theorem cells265 : Tryz.prog.cellsOf 265 = 3 := by kernel_rfl
@[go_sem] theorem bytes265 : Tryz.prog.bytesOf 265 = 72 := by kernel_rfl
@[go_sem] theorem parts265 : eqParts Tryz.prog 265 = some [(0, 63), (1, 63), (2, 63)] := by kernel_rfl
@[go_sem] theorem eqg265 : Tryz.prog.eqGuardType Tryz.prog.depth 265 = false := by kernel_rfl
@[go_sem] theorem zero265 : zeroC Tryz.prog 265 = some [.slice none 0 0, .slice none 0 0, .slice none 0 0] := by kernel_rfl
@[go_sem] theorem fld265_0 : fld Tryz.prog 265 0 = some (0, 63) := by kernel_rfl
@[go_sem] theorem fld265_1 : fld Tryz.prog 265 1 = some (1, 63) := by kernel_rfl
@[go_sem] theorem fld265_2 : fld Tryz.prog 265 2 = some (2, 63) := by kernel_rfl
@[go_sem] theorem lay265 : layOf Tryz.prog 265 = some [(0, 1), (1, 1), (2, 1)] := by kernel_rfl
@[go_sem] theorem sized265 : sized Tryz.prog 265 = true := by kernel_rfl
attribute [go_sem] Tryz.underlying268
@[go_sem] theorem agg268 : aggT Tryz.prog 268 = some false := by kernel_rfl
@[go_sem] theorem cells268 : Tryz.prog.cellsOf 268 = 1 := by kernel_rfl
@[go_sem] theorem bytes268 : Tryz.prog.bytesOf 268 = 8 := by kernel_rfl
@[go_sem] theorem parts268 : eqParts Tryz.prog 268 = none := by kernel_rfl
@[go_sem] theorem zeroV268 : zero1 Tryz.prog 268 = some (.int .i64 0) := by kernel_rfl
@[go_sem] theorem zero268 : zeroC Tryz.prog 268 = some [.int .i64 0] := by kernel_rfl
attribute [go_sem] Tryz.underlying271
@[go_sem] theorem ptr271 : ptrB Tryz.prog 271 = True := eq_true (by unfold ptrB; kernel_rfl)
@[go_sem] theorem agg271 : aggT Tryz.prog 271 = some false := by kernel_rfl
@[go_sem] theorem cells271 : Tryz.prog.cellsOf 271 = 1 := by kernel_rfl
@[go_sem] theorem bytes271 : Tryz.prog.bytesOf 271 = 8 := by kernel_rfl
@[go_sem] theorem parts271 : eqParts Tryz.prog 271 = none := by kernel_rfl
@[go_sem] theorem zeroV271 : zero1 Tryz.prog 271 = some (.pointer none) := by kernel_rfl
@[go_sem] theorem zero271 : zeroC Tryz.prog 271 = some [.pointer none] := by kernel_rfl
attribute [go_sem] Tryz.underlying277
@[go_sem] theorem agg277 : aggT Tryz.prog 277 = some true := by kernel_rfl
@[go_sem] theorem cells277 : Tryz.prog.cellsOf 277 = 24 := by kernel_rfl
@[go_sem] theorem bytes277 : Tryz.prog.bytesOf 277 = 24 := by kernel_rfl
@[go_sem] theorem lay277 : layOf Tryz.prog 277 = none := by kernel_rfl
@[go_sem] theorem arr277 : arrOf Tryz.prog 277 = some 1 := by kernel_rfl
@[go_sem] theorem parts277 : eqParts Tryz.prog 277 = some [(0, 5), (1, 5), (2, 5), (3, 5), (4, 5), (5, 5), (6, 5), (7, 5), (8, 5), (9, 5), (10, 5), (11, 5), (12, 5), (13, 5), (14, 5), (15, 5), (16, 5), (17, 5), (18, 5), (19, 5), (20, 5), (21, 5), (22, 5), (23, 5)] := by kernel_rfl
@[go_sem] theorem eqg277 : Tryz.prog.eqGuardType Tryz.prog.depth 277 = false := by kernel_rfl
@[go_sem] theorem zero277 : zeroC Tryz.prog 277 = some [.int .u8 0, .int .u8 0, .int .u8 0, .int .u8 0, .int .u8 0, .int .u8 0, .int .u8 0, .int .u8 0, .int .u8 0, .int .u8 0, .int .u8 0, .int .u8 0, .int .u8 0, .int .u8 0, .int .u8 0, .int .u8 0, .int .u8 0, .int .u8 0, .int .u8 0, .int .u8 0, .int .u8 0, .int .u8 0, .int .u8 0, .int .u8 0] := by kernel_rfl
@[go_sem] theorem agg285 : aggT Tryz.prog 285 = some true := by kernel_rfl
@[go_sem] theorem cells285 : Tryz.prog.cellsOf 285 = 3 := by kernel_rfl
@[go_sem] theorem bytes285 : Tryz.prog.bytesOf 285 = 48 := by kernel_rfl
@[go_sem] theorem zero285 : zeroC Tryz.prog 285 = some [.string ⟨#[]⟩, .string ⟨#[]⟩, .nilIface] := by kernel_rfl
@[go_sem] theorem fld285_0 : fld Tryz.prog 285 0 = some (0, 9) := by kernel_rfl
@[go_sem] theorem fld285_1 : fld Tryz.prog 285 1 = some (1, 9) := by kernel_rfl
@[go_sem] theorem fld285_2 : fld Tryz.prog 285 2 = some (2, 140) := by kernel_rfl
@[go_sem] theorem lay285 : layOf Tryz.prog 285 = some [(0, 1), (1, 1), (2, 1)] := by kernel_rfl
@[go_sem] theorem sized285 : sized Tryz.prog 285 = true := by kernel_rfl
attribute [go_sem] Tryz.underlying292
@[go_sem] theorem agg292 : aggT Tryz.prog 292 = some true := by kernel_rfl
@[go_sem] theorem cells292 : Tryz.prog.cellsOf 292 = 20 := by kernel_rfl
@[go_sem] theorem bytes292 : Tryz.prog.bytesOf 292 = 160 := by kernel_rfl
@[go_sem] theorem lay292 : layOf Tryz.prog 292 = none := by kernel_rfl
@[go_sem] theorem arr292 : arrOf Tryz.prog 292 = some 1 := by kernel_rfl
@[go_sem] theorem parts292 : eqParts Tryz.prog 292 = some [(0, 23), (1, 23), (2, 23), (3, 23), (4, 23), (5, 23), (6, 23), (7, 23), (8, 23), (9, 23), (10, 23), (11, 23), (12, 23), (13, 23), (14, 23), (15, 23), (16, 23), (17, 23), (18, 23), (19, 23)] := by kernel_rfl
@[go_sem] theorem eqg292 : Tryz.prog.eqGuardType Tryz.prog.depth 292 = false := by kernel_rfl
@[go_sem] theorem zero292 : zeroC Tryz.prog 292 = some [.int .u64 0, .int .u64 0, .int .u64 0, .int .u64 0, .int .u64 0, .int .u64 0, .int .u64 0, .int .u64 0, .int .u64 0, .int .u64 0, .int .u64 0, .int .u64 0, .int .u64 0, .int .u64 0, .int .u64 0, .int .u64 0, .int .u64 0, .int .u64 0, .int .u64 0, .int .u64 0] := by kernel_rfl
attribute [go_sem] Tryz.underlying293
@[go_sem] theorem agg293 : aggT Tryz.prog 293 = some true := by kernel_rfl
@[go_sem] theorem cells293 : Tryz.prog.cellsOf 293 = 65 := by kernel_rfl
@[go_sem] theorem bytes293 : Tryz.prog.bytesOf 293 = 65 := by kernel_rfl
@[go_sem] theorem lay293 : layOf Tryz.prog 293 = none := by kernel_rfl
@[go_sem] theorem arr293 : arrOf Tryz.prog 293 = some 1 := by kernel_rfl
@[go_sem] theorem parts293 : eqParts Tryz.prog 293 = some [(0, 5), (1, 5), (2, 5), (3, 5), (4, 5), (5, 5), (6, 5), (7, 5), (8, 5), (9, 5), (10, 5), (11, 5), (12, 5), (13, 5), (14, 5), (15, 5), (16, 5), (17, 5), (18, 5), (19, 5), (20, 5), (21, 5), (22, 5), (23, 5), (24, 5), (25, 5), (26, 5), (27, 5), (28, 5), (29, 5), (30, 5), (31, 5), (32, 5), (33, 5), (34, 5), (35, 5), (36, 5), (37, 5), (38, 5), (39, 5), (40, 5), (41, 5), (42, 5), (43, 5), (44, 5), (45, 5), (46, 5), (47, 5), (48, 5), (49, 5), (50, 5), (51, 5), (52, 5), (53, 5), (54, 5), (55, 5), (56, 5), (57, 5), (58, 5), (59, 5), (60, 5), (61, 5), (62, 5), (63, 5), (64, 5)] := by kernel_rfl
@[go_sem] theorem eqg293 : Tryz.prog.eqGuardType Tryz.prog.depth 293 = false := by kernel_rfl
@[go_sem] theorem zero293 : zeroC Tryz.prog 293 = some [.int .u8 0, .int .u8 0, .int .u8 0, .int .u8 0, .int .u8 0, .int .u8 0, .int .u8 0, .int .u8 0, .int .u8 0, .int .u8 0, .int .u8 0, .int .u8 0, .int .u8 0, .int .u8 0, .int .u8 0, .int .u8 0, .int .u8 0, .int .u8 0, .int .u8 0, .int .u8 0, .int .u8 0, .int .u8 0, .int .u8 0, .int .u8 0, .int .u8 0, .int .u8 0, .int .u8 0, .int .u8 0, .int .u8 0, .int .u8 0, .int .u8 0, .int .u8 0, .int .u8 0, .int .u8 0, .int .u8 0, .int .u8 0, .int .u8 0, .int .u8 0, .int .u8 0, .int .u8 0, .int .u8 0, .int .u8 0, .int .u8 0, .int .u8 0, .int .u8 0, .int .u8 0, .int .u8 0, .int .u8 0, .int .u8 0, .int .u8 0, .int .u8 0, .int .u8 0, .int .u8 0, .int .u8 0, .int .u8 0, .int .u8 0, .int .u8 0, .int .u8 0, .int .u8 0, .int .u8 0, .int .u8 0, .int .u8 0, .int .u8 0, .int .u8 0, .int .u8 0] := by kernel_rfl
attribute [go_sem] Tryz.underlying296
@[go_sem] theorem ptr296 : ptrB Tryz.prog 296 = True := eq_true (by unfold ptrB; kernel_rfl)
@[go_sem] theorem agg296 : aggT Tryz.prog 296 = some false := by kernel_rfl
@[go_sem] theorem cells296 : Tryz.prog.cellsOf 296 = 1 := by kernel_rfl
@[go_sem] theorem bytes296 : Tryz.prog.bytesOf 296 = 8 := by kernel_rfl
@[go_sem] theorem parts296 : eqParts Tryz.prog 296 = none := by kernel_rfl
@[go_sem] theorem zeroV296 : zero1 Tryz.prog 296 = some (.pointer none) := by kernel_rfl
@[go_sem] theorem zero296 : zeroC Tryz.prog 296 = some [.pointer none] := by kernel_rfl
@[go_sem] theorem agg298 : aggT Tryz.prog 298 = some true := by kernel_rfl
@[go_sem] theorem cells298 : Tryz.prog.cellsOf 298 = 1 := by kernel_rfl
@[go_sem] theorem bytes298 : Tryz.prog.bytesOf 298 = 16 := by kernel_rfl
@[go_sem] theorem zero298 : zeroC Tryz.prog 298 = some [.string ⟨#[]⟩] := by kernel_rfl
@[go_sem] theorem fld298_0 : fld Tryz.prog 298 0 = some (0, 9) := by kernel_rfl
@[go_sem] theorem lay298 : layOf Tryz.prog 298 = some [(0, 1)] := by kernel_rfl
@[go_sem] theorem sized298 : sized Tryz.prog 298 = true := by kernel_rfl
attribute [go_sem] Tryz.underlying300
@[go_sem] theorem agg300 : aggT Tryz.prog 300 = some true := by kernel_rfl
@[go_sem] theorem cells300 : Tryz.prog.cellsOf 300 = 32 := by kernel_rfl
@[go_sem] theorem bytes300 : Tryz.prog.bytesOf 300 = 32 := by kernel_rfl
@[go_sem] theorem lay300 : layOf Tryz.prog 300 = none := by kernel_rfl
@[go_sem] theorem arr300 : arrOf Tryz.prog 300 = some 1 := by kernel_rfl
@[go_sem] theorem parts300 : eqParts Tryz.prog 300 = some [(0, 5), (1, 5), (2, 5), (3, 5), (4, 5), (5, 5), (6, 5), (7, 5), (8, 5), (9, 5), (10, 5), (11, 5), (12, 5), (13, 5), (14, 5), (15, 5), (16, 5), (17, 5), (18, 5), (19, 5), (20, 5), (21, 5), (22, 5), (23, 5), (24, 5), (25, 5), (26, 5), (27, 5), (28, 5), (29, 5), (30, 5), (31, 5)] := by kernel_rfl
@[go_sem] theorem eqg300 : Tryz.prog.eqGuardType Tryz.prog.depth 300 = false := by kernel_rfl
@[go_sem] theorem zero300 : zeroC Tryz.prog 300 = some [.int .u8 0, .int .u8 0, .int .u8 0, .int .u8 0, .int .u8 0, .int .u8 0, .int .u8 0, .int .u8 0, .int .u8 0, .int .u8 0, .int .u8 0, .int .u8 0, .int .u8 0, .int .u8 0, .int .u8 0, .int .u8 0, .int .u8 0, .int .u8 0, .int .u8 0, .int .u8 0, .int .u8 0, .int .u8 0, .int .u8 0, .int .u8 0, .int .u8 0, .int .u8 0, .int .u8 0, .int .u8 0, .int .u8 0, .int .u8 0, .int .u8 0, .int .u8 0] := by kernel_rfl
attribute [go_sem] Tryz.underlying301
@[go_sem] theorem agg301 : aggT Tryz.prog 301 = some true := by kernel_rfl
@[go_sem] theorem cells301 : Tryz.prog.cellsOf 301 = 64 := by kernel_rfl
@[go_sem] theorem bytes301 : Tryz.prog.bytesOf 301 = 64 := by kernel_rfl
@[go_sem] theorem lay301 : layOf Tryz.prog 301 = none := by kernel_rfl
@[go_sem] theorem arr301 : arrOf Tryz.prog 301 = some 1 := by kernel_rfl
@[go_sem] theorem parts301 : eqParts Tryz.prog 301 = some [(0, 5), (1, 5), (2, 5), (3, 5), (4, 5), (5, 5), (6, 5), (7, 5), (8, 5), (9, 5), (10, 5), (11, 5), (12, 5), (13, 5), (14, 5), (15, 5), (16, 5), (17, 5), (18, 5), (19, 5), (20, 5), (21, 5), (22, 5), (23, 5), (24, 5), (25, 5), (26, 5), (27, 5), (28, 5), (29, 5), (30, 5), (31, 5), (32, 5), (33, 5), (34, 5), (35, 5), (36, 5), (37, 5), (38, 5), (39, 5), (40, 5), (41, 5), (42, 5), (43, 5), (44, 5), (45, 5), (46, 5), (47, 5), (48, 5), (49, 5), (50, 5), (51, 5), (52, 5), (53, 5), (54, 5), (55, 5), (56, 5), (57, 5), (58, 5), (59, 5), (60, 5), (61, 5), (62, 5), (63, 5)] := by kernel_rfl
@[go_sem] theorem eqg301 : Tryz.prog.eqGuardType Tryz.prog.depth 301 = false := by kernel_rfl
@[go_sem] theorem zero301 : zeroC Tryz.prog 301 = some [.int .u8 0, .int .u8 0, .int .u8 0, .int .u8 0, .int .u8 0, .int .u8 0, .int .u8 0, .int .u8 0, .int .u8 0, .int .u8 0, .int .u8 0, .int .u8 0, .int .u8 0, .int .u8 0, .int .u8 0, .int .u8 0, .int .u8 0, .int .u8 0, .int .u8 0, .int .u8 0, .int .u8 0, .int .u8 0, .int .u8 0, .int .u8 0, .int .u8 0, .int .u8 0, .int .u8 0, .int .u8 0, .int .u8 0, .int .u8 0, .int .u8 0, .int .u8 0, .int .u8 0, .int .u8 0, .int .u8 0, .int .u8 0, .int .u8 0, .int .u8 0, .int .u8 0, .int .u8 0, .int .u8 0, .int .u8 0, .int .u8 0, .int .u8 0, .int .u8 0, .int .u8 0, .int .u8 0, .int .u8 0, .int .u8 0, .int .u8 0, .int .u8 0, .int .u8 0, .int .u8 0, .int .u8 0, .int .u8 0, .int .u8 0, .int .u8 0, .int .u8 0, .int .u8 0, .int .u8 0, .int .u8 0, .int .u8 0, .int .u8 0, .int .u8 0] := by kernel_rfl
attribute [go_sem] Tryz.underlying304
@[go_sem] theorem agg304 : aggT Tryz.prog 304 = some true := by kernel_rfl
@[go_sem] theorem cells304 : Tryz.prog.cellsOf 304 = 0 := by kernel_rfl
@[go_sem] theorem bytes304 : Tryz.prog.bytesOf 304 = 0 := by kernel_rfl
@[go_sem] theorem lay304 : layOf Tryz.prog 304 = none := by kernel_rfl
@[go_sem] theorem arr304 : arrOf Tryz.prog 304 = some 1 := by kernel_rfl
@[go_sem] theorem parts304 : eqParts Tryz.prog 304 = some [] := by kernel_rfl
@[go_sem] theorem eqg304 : Tryz.prog.eqGuardType Tryz.prog.depth 304 = false := by kernel_rfl
@[go_sem] theorem zero304 : zeroC Tryz.prog 304 = some [] := by kernel_rfl
@[go_sem] theorem agg306 : aggT Tryz.prog 306 = some true := by kernel_rfl
@[go_sem] theorem cells306 : Tryz.prog.cellsOf 306 = 0 := by kernel_rfl
@[go_sem] theorem bytes306 : Tryz.prog.bytesOf 306 = 0 := by kernel_rfl
@[go_sem] theorem zero306 : zeroC Tryz.prog 306 = some [] := by kernel_rfl
@[go_sem] theorem fld306_0 : fld Tryz.prog 306 0 = some (0, 304) := by kernel_rfl
@[go_sem] theorem lay306 : layOf Tryz.prog 306 = some [(0, 0)] := by kernel_rfl
@[go_sem] theorem sized306 : sized Tryz.prog 306 = true := by kernel_rfl
attribute [go_sem] Tryz.underlying307
@[go_sem] theorem agg307 : aggT Tryz.prog 307 = some false := by kernel_rfl
@[go_sem] theorem cells307 : Tryz.prog.cellsOf 307 = 1 := by kernel_rfl
@[go_sem] theorem bytes307 : Tryz.prog.bytesOf 307 = 1 := by kernel_rfl
@[go_sem] theorem parts307 : eqParts Tryz.prog 307 = none := by kernel_rfl
@[go_sem] theorem zeroV307 : zero1 Tryz.prog 307 = some (.int .u8 0) := by kernel_rfl
@[go_sem] theorem zero307 : zeroC Tryz.prog 307 = some [.int .u8 0] := by kernel_rfl
attribute [go_sem] Tryz.underlying308
@[go_sem] theorem agg308 : aggT Tryz.prog 308 = some false := by kernel_rfl
@[go_sem] theorem cells308 : Tryz.prog.cellsOf 308 = 1 := by kernel_rfl
@[go_sem] theorem bytes308 : Tryz.prog.bytesOf 308 = 1 := by kernel_rfl
@[go_sem] theorem parts308 : eqParts Tryz.prog 308 = none := by kernel_rfl
@[go_sem] theorem zeroV308 : zero1 Tryz.prog 308 = some (.int .u8 0) := by kernel_rfl
@[go_sem] theorem zero308 : zeroC Tryz.prog 308 = some [.int .u8 0] := by kernel_rfl
attribute [go_sem] Tryz.underlying310
@[go_sem] theorem agg310 : aggT Tryz.prog 310 = some false := by kernel_rfl
@[go_sem] theorem cells310 : Tryz.prog.cellsOf 310 = 1 := by kernel_rfl
@[go_sem] theorem bytes310 : Tryz.prog.bytesOf 310 = 4 := by kernel_rfl
@[go_sem] theorem parts310 : eqParts Tryz.prog 310 = none := by kernel_rfl
@[go_sem] theorem zeroV310 : zero1 Tryz.prog 310 = some (.int .i32 0) := by kernel_rfl
@[go_sem] theorem zero310 : zeroC Tryz.prog 310 = some [.int .i32 0] := by kernel_rfl
attribute [go_sem] Tryz.underlying311
@[go_sem] theorem agg311 : aggT Tryz.prog 311 = some false := by kernel_rfl
@[go_sem] theorem cells311 : Tryz.prog.cellsOf 311 = 1 := by kernel_rfl
@[go_sem] theorem bytes311 : Tryz.prog.bytesOf 311 = 4 := by kernel_rfl
@[go_sem] theorem parts311 : eqParts Tryz.prog 311 = none := by kernel_rfl
@[go_sem] theorem zeroV311 : zero1 Tryz.prog 311 = some (.int .i32 0) := by kernel_rfl
@[go_sem] theorem zero311 : zeroC Tryz.prog 311 = some [.int .i32 0] := by kernel_rfl
@[go_sem] theorem agg313 : aggT Tryz.prog 313 = some true := by kernel_rfl
@[go_sem] theorem cells313 : Tryz.prog.cellsOf 313 = 11 := by kernel_rfl
@[go_sem] theorem bytes313 : Tryz.prog.bytesOf 313 = 48 := by kernel_rfl
@[go_sem] theorem zero313 : zeroC Tryz.prog 313 = some [.int .u64 0, .int .u64 0, .int .u32 0, .int .u8 0, .int .u8 0, .int .u8 0, .int .u8 0, .nilFunc, .pointer none, .int .i32 0, .int .i32 0] := by kernel_rfl
@[go_sem] theorem fld313_0 : fld Tryz.prog 313 0 = some (0, 12) := by kernel_rfl
@[go_sem] theorem fld313_1 : fld Tryz.prog 313 1 = some (1, 12) := by kernel_rfl
@[go_sem] theorem fld313_2 : fld Tryz.prog 313 2 = some (2, 258) := by kernel_rfl
@[go_sem] theorem fld313_3 : fld Tryz.prog 313 3 = some (3, 307) := by kernel_rfl
@[go_sem] theorem fld313_4 : fld Tryz.prog 313 4 = some (4, 5) := by kernel_rfl
@[go_sem] theorem fld313_5 : fld Tryz.prog 313 5 = some (5, 5) := by kernel_rfl
@[go_sem] theorem fld313_6 : fld Tryz.prog 313 6 = some (6, 308) := by kernel_rfl
@[go_sem] theorem fld313_7 : fld Tryz.prog 313 7 = some (7, 309) := by kernel_rfl
@[go_sem] theorem fld313_8 : fld Tryz.prog 313 8 = some (8, 206) := by kernel_rfl
@[go_sem] theorem fld313_9 : fld Tryz.prog 313 9 = some (9, 310) := by kernel_rfl
@[go_sem] theorem fld313_10 : fld Tryz.prog 313 10 = some (10, 311) := by kernel_rfl
@[go_sem] theorem lay313 : layOf Tryz.prog 313 = some [(0, 1), (1, 1), (2, 1), (3, 1), (4, 1), (5, 1), (6, 1), (7, 1), (8, 1), (9, 1), (10, 1)] := by kernel_rfl
@[go_sem] theorem sized313 : sized Tryz.prog 313 = true := by kernel_rfl
end Go.Proofs.YthpjjjnbkfnghaaGreatDoor
set_option linter.unusedSimpArgs false
namespace Go.Proofs.YthpjjjnbkfnghaaGreatDoor
open Go

def fz (q v n sz : Nat) (cc : Nat → Nat → AV) : AV → AV
  | .ow p u m => if p = q ∧ u = v ∧ m ≤ n then .sn m sz cc else .ow p u m
  | x => x
def fzR (q v n sz : Nat) (cc : Nat → Nat → AV) : Row → Row
  | .dead => .dead
  | .box u e m c => .box u e m fun j => fz q v n sz cc (c j)
  | .sl u e s k c => .sl u e s k fun i j => fz q v n sz cc (c i j)
  | .mp u s k f => .mp u s k f
theorem fzR_ver (q v n sz : Nat) (cc : Nat → Nat → AV) (r : Row) : (fzR q v n sz cc r).ver = r.ver := by cases r <;> rfl
def AS.freeze (st : AS) (q v n sz : Nat) (cc : Nat → Nat → AV) : AS :=
  ⟨fun t => fz q v n sz cc (st.fr t), updR (fun p => fzR q v n sz cc (st.hp p)) q .dead, st.sz, st.top, st.nx, st.df⟩
theorem ASle.freeze {st : AS} (q v ety sz n : Nat) (cc : Nat → Nat → AV) (hrow : st.hp q = .sl v ety sz n cc) (hfl : ∀ i, i < n → ∀ j, j < sz → (cc i j).flat = true) :
    ASle st (st.freeze q v n sz cc) := by
  intro c η a w h
  have hver : ∀ p u, ((st.freeze q v n sz cc).hp p).ver = some u → (st.hp p).ver = some u ∧ p ≠ q := fun p u hv => by
    simp only [AS.freeze, updR] at hv
    split at hv
    · cases hv
    · rename_i hne
      rw [fzR_ver] at hv
      exact ⟨hv, hne⟩
  have hblk : ∀ p b, ((st.freeze q v n sz cc).hp p).blk η = some b → (st.hp p).blk η = some b ∧ p ≠ q := fun p b hb => by
    unfold Row.blk at hb
    cases hv : ((st.freeze q v n sz cc).hp p).ver with
    | none => rw [hv] at hb; cases hb
    | some u =>
      rw [hv] at hb
      obtain ⟨h1, h2⟩ := hver p u hv
      unfold Row.blk
      rw [h1]
      exact ⟨hb, h2⟩
  have hL : ∀ b, Lset c η (st.freeze q v n sz cc).hp b → Lset c η st.hp b := by
    rintro b (hl | ⟨p, hp⟩)
    · exact .inl hl
    · exact .inr ⟨p, (hblk p b hp).1⟩
  have less : ∀ {x u}, Rep w η (Lset c η st.hp) x u → Rep w η (Lset c η (st.freeze q v n sz cc).hp) x u := fun h => Rep.less (fun b _ hb => hL b hb) h
  have lessN : ∀ {x u}, Rep w noEnv (Lset c η st.hp) x u → Rep w noEnv (Lset c η (st.freeze q v n sz cc).hp) x u := fun h => Rep.less (fun b _ hb => hL b hb) h
  have key : ∀ x u, Rep w η (Lset c η st.hp) x u → Rep w η (Lset c η (st.freeze q v n sz cc).hp) (fz q v n sz cc x) u := fun x u hr => by
    cases x with
    | ow p ver m =>
      simp only [fz]
      split
      · rename_i hc
        obtain ⟨rfl, rfl, hm⟩ := hc
        have hrr := h.hs.rows p
        rw [hrow] at hrr
        obtain ⟨g, cap, hη, hv⟩ := hr
        have hrr := hrr g cap hη
        cases g with
        | none =>
          obtain ⟨rfl, a, rfl⟩ := hv
          exact ⟨a, 0, rfl, Nat.le_refl _, fun h => absurd h (by omega)⟩
        | some g =>
          obtain ⟨rfl, hcap⟩ := hv
          obtain ⟨cur, hh, hsz, hnc, hmx, hc⟩ := hrr
          have hbk : (st.hp p).blk η = some g := by rw [hrow]; simp [Row.blk, Row.ver, hη]
          refine ⟨_, cap, rfl, hcap, fun h0 hs => ⟨g, 0, rfl, ?_, fun i hi j hj => ?_⟩⟩
          · rintro (hl | ⟨p', hp'⟩)
            · exact (h.hs.own p g hbk).2.1 hl
            · obtain ⟨h1, h2⟩ := hblk p' g hp'
              exact h2 (h.hs.disj p' p g h1 hbk)
          · obtain ⟨u, hu, h1, hrep⟩ := hc i (by omega) j hj
            exact ⟨u, by rw [cell_heap hh, Nat.zero_add]; exact hu, h1, lessN (flat_rep (hfl i (by omega) j hj) hrep)⟩
      · exact less hr
    | _ => exact less hr
  refine ⟨η, ⟨⟨h.hs.fr, h.hs.lx, fun p => ?_, fun p p' u hp hq => h.hs.vers p p' u (hver p u hp).1 (hver p' u hq).1, fun p u hp => h.hs.bnd p u (hver p u hp).1,
    fun p p' b hp hq => h.hs.disj p p' b (hblk p b hp).1 (hblk p' b hq).1, fun p b hp => h.hs.own p b (hblk p b hp).1, h.hs.fresh, h.hs.env⟩, fun p hp => ?_, h.size,
    fun t => key _ _ (h.slots t), h.defs⟩⟩
  · have hr := h.hs.rows p
    show RowOK w η (Lset c η (st.freeze q v n sz cc).hp) (if p = q then .dead else fzR q v n sz cc (st.hp p))
    split
    · trivial
    · cases hrw : st.hp p with
      | dead => trivial
      | box u e m cells =>
        rw [hrw] at hr
        intro g cap he
        obtain ⟨b, cur, h1, h2, h3, h4⟩ := hr g cap he
        refine ⟨b, cur, h1, h2, h3, fun j hj => ?_⟩
        obtain ⟨x, hx, ho, hrep⟩ := h4 j hj
        exact ⟨x, hx, ho, key _ _ hrep⟩
      | sl u e s k cells =>
        rw [hrw] at hr
        intro g cap he
        have hr := hr g cap he
        cases g with
        | none => exact hr
        | some g =>
          obtain ⟨cur, h1, h2, h3, h4, h5⟩ := hr
          refine ⟨cur, h1, h2, h3, h4, fun i hi j hj => ?_⟩
          obtain ⟨x, hx, ho, hrep⟩ := h5 i hi j hj
          exact ⟨x, hx, ho, key _ _ hrep⟩
      | mp u s k f => rw [hrw] at hr; exact hr
  · simp only [AS.freeze, updR] at hp ⊢
    split
    · rfl
    · rw [h.dead p hp]; rfl
section
variable {P : Program} {x y : Code} {Q : Exit → AS → Prop} {st : AS}
theorem AW.fork (h : AW P x (rest P y Q) st) : AW P (.seq x y) Q st := by
  refine AW.seq fun K hK c η a w hsr => ?_
  refine wp_mono (h c η a w hsr) ?_
  rintro e a' w' ⟨st', η', hq, hs'⟩
  refine ⟨st', η', ?_, hs'⟩
  cases e with
  | normal => exact hK _ hq
  | _ => exact hq
theorem AW.freeze (q v ety sz n : Nat) (cc : Nat → Nat → AV) (hrow : st.hp q = .sl v ety sz n cc) (hfl : ∀ i, i < n → ∀ j, j < sz → (cc i j).flat = true)
    (h : AW P x Q (st.freeze q v n sz cc)) : AW P x Q st := AW.le (ASle.freeze q v ety sz n cc hrow hfl) h
theorem AW.adopt (s : Nat) (e : TypeId) (sz : Nat) (cc : Nat → Nat → AV) (hs : st.fr s = .em)
    (h : AW P x Q ⟨updA st.fr s (.ow st.top st.nx 0), updR st.hp st.top (.sl st.nx e sz 0 cc), st.sz, st.top + 1, st.nx + 1, st.df⟩) : AW P x Q st := AW.le (ASle.adopt e sz cc hs) h
end
section
variable (q v n sz : Nat) (cc : Nat → Nat → AV)
@[go_sem] theorem fz_any : fz q v n sz cc .any = .any := rfl
@[go_sem] theorem fz_val (x : Value) : fz q v n sz cc (.val x) = .val x := rfl
@[go_sem] theorem fz_st (x : List UInt8) : fz q v n sz cc (.st x) = .st x := rfl
@[go_sem] theorem fz_gd (b : Bool) (x : AV) : fz q v n sz cc (.gd b x) = .gd b x := rfl
@[go_sem] theorem fz_em : fz q v n sz cc .em = .em := rfl
@[go_sem] theorem fz_sn (m s : Nat) (d : Nat → Nat → AV) : fz q v n sz cc (.sn m s d) = .sn m s d := rfl
@[go_sem] theorem fz_sL {α : Type} (E : El α) (l : List α) : fz q v n sz cc (sL E l) = sL E l := rfl
@[go_sem] theorem fz_ps (m : Nat) (d : Nat → AV) : fz q v n sz cc (.ps m d) = .ps m d := rfl
@[go_sem] theorem fz_ow (p u m : Nat) : fz q v n sz cc (.ow p u m) = if p = q ∧ u = v ∧ m ≤ n then .sn m sz cc else .ow p u m := rfl
@[go_sem] theorem fz_pt (p u m : Nat) : fz q v n sz cc (.pt p u m) = .pt p u m := rfl
@[go_sem] theorem fz_pe (p u s i m : Nat) : fz q v n sz cc (.pe p u s i m) = .pe p u s i m := rfl
@[go_sem] theorem fz_ag (m : Nat) (d : Nat → AV) : fz q v n sz cc (.ag m d) = .ag m d := rfl
@[go_sem] theorem fz_tu (m : Nat) (d : Nat → AV) : fz q v n sz cc (.tu m d) = .tu m d := rfl
@[go_sem] theorem fz_mp (p u : Nat) : fz q v n sz cc (.mp p u) = .mp p u := rfl
@[go_sem] theorem fzR_dead : fzR q v n sz cc .dead = .dead := rfl
@[go_sem] theorem fzR_box (u e m : Nat) (c : Nat → AV) : fzR q v n sz cc (.box u e m c) = .box u e m fun j => fz q v n sz cc (c j) := rfl
@[go_sem] theorem fzR_sl (u e s k : Nat) (c : Nat → Nat → AV) : fzR q v n sz cc (.sl u e s k c) = .sl u e s k fun i j => fz q v n sz cc (c i j) := rfl
@[go_sem] theorem fzR_mp (u : Nat) (s : Bool) (k : Nat) (f : Key → Option Value) : fzR q v n sz cc (.mp u s k f) = .mp u s k f := rfl
attribute [go_sem] AS.freeze
end

section
variable {P : Program} {f : FuncId} {fn : Func} {code : Code}
theorem SpecOK.raw {s : Spec} (hf : P.funcs[f]? = some fn) (hb : fn.body = some code) (hn : (fn.name == "runtime.NumGoroutine") = false)
    (h : ∀ args, s.pre args → ∀ (w : World) (L : Nat → Prop) (vs : List Value), (∀ b, L b → b < w.heap.size) → All2 (Rep w noEnv L) args vs →
      Calls P f vs.toArray w fun e w' => ∃ v, e = .returned v ∧ Fr (fun _ => False) w w' ∧ Rep w' noEnv L (s.res args) v) : SpecOK P f s := ⟨enters hf hb hn, fun args hp w L vs _ => h args hp w L vs⟩
theorem SpecOK.rawT {s : Spec} (hf : P.funcs[f]? = some fn) (hb : fn.body = some code) (hn : (fn.name == "runtime.NumGoroutine") = false)
    (h : ∀ args, s.pre args → ∀ (w : World) (L : Nat → Prop) (vs : List Value), Tz w → (∀ b, L b → b < w.heap.size) → All2 (Rep w noEnv L) args vs →
      Calls P f vs.toArray w fun e w' => ∃ v, e = .returned v ∧ Fr (fun _ => False) w w' ∧ Rep w' noEnv L (s.res args) v) : SpecOK P f s := ⟨enters hf hb hn, h⟩
theorem SpecOK.ss {dom : List UInt8 → List UInt8 → Prop} {out : List UInt8 → List UInt8 → AV} (hf : P.funcs[f]? = some fn) (hb : fn.body = some code) (hn : (fn.name == "runtime.NumGoroutine") = false)
    (h : ∀ a b, dom a b → ∀ w, Calls P f #[.string ⟨a.toArray⟩, .string ⟨b.toArray⟩] w fun e w' => ∃ v, e = .returned v ∧ Fr (fun _ => False) w w' ∧ ∀ L, Rep w' noEnv L (out a b) v) : SpecOK P f (Spec.f2 kS kS dom out) := by
  refine SpecOK.raw hf hb hn fun args hp w L vs hL ha => ?_
  match args, hp with
  | [x, y], hp =>
    obtain ⟨h1, h2, h3⟩ := hp
    cases ha with
    | cons hx hr => cases hr with
      | cons hy hr => cases hr with
        | nil =>
          have ex := h1 _ _ _ _ hx
          have ey := h2 _ _ _ _ hy
          simp only [kS, Rep] at ex ey
          subst ex ey
          exact (h _ _ h3 w).mono fun e w' ⟨v, he, hf, hr⟩ => ⟨v, he, hf, hr L⟩
end
end Go.Proofs.YthpjjjnbkfnghaaGreatDoor
set_option linter.unusedSimpArgs false
set_option linter.unusedVariables false
namespace Go.Proofs.YthpjjjnbkfnghaaGreatDoor
open Go

def rowL {α : Type} (ver ety : Nat) (E : El α) (l : List α) : Row := .sl ver ety E.sz l.length fun i => E.enc (l.getD i E.dflt)
attribute [go_sem] rowL
section
variable {α : Type} {E : El α} {l l' : List α} {v e s n m k : Nat} {x d : α} {c : Nat → AV}
theorem row_set (hd : d = E.dflt) (hl : l' = l.set k x) (hn : n = l.length) (hm : m = l'.length) (hc : ∀ j, j < s → AVle (c j) (E.enc x j)) :
    RowLe (.sl v e s n (stE (fun i => E.enc (l.getD i d)) k 0 s c)) (.sl v e s m fun i => E.enc (l'.getD i d)) := by
  subst hl hn hm hd
  refine RowLe.sl (by simp) fun i hi j hj => ?_
  simp only [stE]
  by_cases h : i = k
  · subst h
    rw [if_pos ⟨rfl, by omega, by omega⟩]
    have e : (l.set i x).getD i E.dflt = x := by simp [List.getD, hi]
    rw [e]
    exact hc j hj
  · rw [if_neg (fun hh => h hh.1)]
    have e : (l.set k x).getD i E.dflt = l.getD i E.dflt := by simp [List.getD, List.getElem?_set_ne (Ne.symm h)]
    rw [e]
    exact AVle.refl _
theorem row_app {dd : Nat → Nat → AV} {ys : List α} {n' : Nat} (hd : d = E.dflt) (hl : l' = l ++ ys) (hn : n = l.length) (hm : n' = n + ys.length) (hk : m = l'.length) (hc : ∀ i, i < ys.length → ∀ j, j < s → AVle (dd i j) (E.enc (ys.getD i d) j)) :
    RowLe (.sl v e s n' (apC n (fun i => E.enc (l.getD i d)) dd)) (.sl v e s m fun i => E.enc (l'.getD i d)) := by
  subst hl hn hm hd hk
  refine RowLe.sl (by simp) fun i hi j hj => ?_
  simp only [apC]
  split
  · rename_i h
    have e : (l ++ ys).getD i E.dflt = l.getD i E.dflt := by simp [List.getD, List.getElem?_append_left h]
    rw [e]
    exact AVle.refl _
  · rename_i h
    have e : (l ++ ys).getD i E.dflt = ys.getD (i - l.length) E.dflt := by simp [List.getD, List.getElem?_append_right (by omega : l.length ≤ i)]
    rw [e]
    exact hc _ (by omega) j hj
theorem row_app1 {dd : Nat → Nat → AV} {n' : Nat} (hd : d = E.dflt) (hl : l' = l ++ [x]) (hn : n = l.length) (hm : n' = n + 1) (hk : m = l'.length) (hc : ∀ j, j < s → AVle (dd 0 j) (E.enc x j)) :
    RowLe (.sl v e s n' (apC n (fun i => E.enc (l.getD i d)) dd)) (.sl v e s m fun i => E.enc (l'.getD i d)) := by
  refine row_app (ys := [x]) hd hl hn hm hk fun i hi j hj => ?_
  have : i = 0 := by simp at hi; omega
  subst this
  exact hc j hj
theorem row_make {z : Nat → AV} (hd : d = E.dflt) (hl : l' = List.replicate n x) (hm : m = l'.length) (hc : ∀ j, j < s → AVle (z j) (E.enc x j)) : RowLe (.sl v e s n fun _ => z) (.sl v e s m fun i => E.enc (l'.getD i d)) := by
  subst hl hm hd
  refine RowLe.sl (by simp) fun i hi j hj => ?_
  have e : (List.replicate n x).getD i E.dflt = x := by simp [List.getD, hi]
  rw [e]
  exact hc j hj
theorem row_nil {cc : Nat → Nat → AV} (hl : l' = []) : RowLe (.sl v e s 0 cc) (.sl v e s l'.length fun i => E.enc (l'.getD i d)) := by
  subst hl
  exact RowLe.sl rfl fun i hi => absurd hi (Nat.not_lt_zero _)
theorem vw_row (hs : s = E.sz) (hd : d = E.dflt) (h : l' = l.take n) (hn : n ≤ l.length) : AVle (.sn n s fun i => E.enc (l.getD i d)) (sL E l') := by
  subst h
  exact take_le E l hd hs (by omega)
theorem vw_all (hs : s = E.sz) (hd : d = E.dflt) (hn : n = l.length) : AVle (.sn n s fun i => E.enc (l.getD i d)) (sL E l) := by
  subst hn hs hd
  exact AVle.refl _
end
theorem zC_S (j : Nat) (h : j < 1) : AVle (zC [.string ⟨#[]⟩] j) (eS.enc [] j) := by
  have : j = 0 := by omega
  subst this
  exact AVle.refl _
def mapS (ks : List (List UInt8)) : Key → Option Value
  | .s b => if b ∈ ks then some (.int .i64 (ks.idxOf b)) else none
  | .i _ => none
@[go_sem] theorem mapS_s (ks : List (List UInt8)) (b : List UInt8) : mapS ks (.s b) = if b ∈ ks then some (.int .i64 (ks.idxOf b)) else none := rfl
theorem RowLe.of_eq {r r' : Row} (h : r = r') : RowLe r r' := h ▸ RowLe.refl r
theorem mapS_push (ks : List (List UInt8)) (b : List UInt8) (h : b ∉ ks) : setKey (mapS ks) (.s b) (.int .i64 ks.length) = mapS (ks ++ [b]) := by
  funext k
  cases k with
  | i n => simp [setKey, mapS]
  | s x =>
    simp only [setKey, mapS]
    by_cases hx : x = b
    · subst hx
      simp [List.idxOf_append, h]
    · have h1 : ¬ (Key.s x = Key.s b) := fun e => hx (by injection e)
      rw [if_neg h1]
      by_cases hm : x ∈ ks
      · simp [hm, List.idxOf_append]
      · simp [hm, hx]
@[go_sem] theorem keyAV_st (l : List UInt8) : keyAV (.st l) = some (.s l) := rfl
@[go_sem] theorem keyAV_int (n : Int) : keyAV (.val (.int .i64 n)) = some (.i n) := rfl
@[go_sem] theorem isStr_s (l : List UInt8) : (Key.s l).isStr = true := rfl
@[go_sem] theorem isStr_i (n : Int) : (Key.i n).isStr = false := rfl
@[go_sem] theorem kind_t : kindOf true = .string := rfl
@[go_sem] theorem kind_f : kindOf false = .int .i64 := rfl
@[go_sem] theorem valAV_val (v : Value) : valAV (.val v) = some v := rfl
attribute [go_sem low] aMake.eq_def aMakeMap.eq_def hintOK.eq_def
attribute [go_sem] appOK Option.some.injEq exists_eq_left' List.length_cons List.length_nil
section
variable (hp : Nat → Row)
@[go_sem] theorem vwP_ow (p v n : Nat) : vwP hp (.ow p v n) = match hp p with
    | .sl v' _ sz n' c => v' = v ∧ n ≤ n' ∧ ∀ i, i < n → ∀ j, j < sz → (c i j).flat = true
    | _ => False := rfl
@[go_sem] theorem vw_ow (p v n : Nat) : vw hp (.ow p v n) = match hp p with
    | .sl _ _ sz _ c => .sn n sz c
    | _ => .any := rfl
@[go_sem] theorem vwQ_ow (p v n : Nat) : vwQ hp (.ow p v n) = match hp p with
    | .sl v' _ sz n' c => v' = v ∧ n ≤ n' ∧ ∀ i, i < n → ∀ j, j < sz → (c i j).flat = true
    | _ => False := propext ⟨fun h => h.1, fun h => ⟨h, .inr rfl⟩⟩
@[go_sem] theorem vw0_ow (p v n : Nat) : vw0 hp (.ow p v n) = match hp p with
    | .sl _ _ sz _ c => .sn n sz c
    | _ => .any := rfl
@[go_sem] theorem vwP_pt (p v j : Nat) : vwP hp (.pt p v j) = match hp p with
    | .box v' _ m c => v' = v ∧ j ≤ m ∧ ∀ i, i < m → (c i).flat = true
    | _ => False := rfl
@[go_sem] theorem vw_pt (p v j : Nat) : vw hp (.pt p v j) = match hp p with
    | .box _ _ m c => .ps (m - j) fun i => c (j + i)
    | _ => .any := rfl
@[go_sem] theorem vwO_ow (p v n : Nat) : vwO (.ow p v n) = true := rfl
@[go_sem] theorem vwO_pt (p v n : Nat) : vwO (.pt p v n) = true := rfl
@[go_sem] theorem AVle_ow (p p' v v' n n' : Nat) : AVle (.ow p v n) (.ow p' v' n') = (v = v' ∧ n = n') := by
  refine propext ⟨fun h => ?_, fun h => ?_⟩
  · have := h default (fun k => if k = v then some (some 0, n) else none) (fun _ => False) (.slice (some ⟨0, 0, none⟩) n n) ⟨some 0, n, by simp, rfl, Nat.le_refl _⟩
    obtain ⟨g, cap, h1, h2⟩ := this
    simp only at h1
    split at h1
    · rename_i e
      simp only [Option.some.injEq, Prod.mk.injEq] at h1
      obtain ⟨rfl, rfl⟩ := h1
      obtain ⟨h2, _⟩ := h2
      injection h2 with _ h2 _
      exact ⟨e.symm, h2⟩
    · cases h1
  · obtain ⟨rfl, rfl⟩ := h
    exact fun w η L u hr => hr
@[go_sem] theorem AVle_pt (p p' v v' j j' : Nat) : AVle (.pt p v j) (.pt p' v' j') = (v = v' ∧ j = j') := by
  refine propext ⟨fun h => ?_, fun h => ?_⟩
  · have := h default (fun k => if k = v then some (some 0, 0) else none) (fun _ => False) (.pointer (some ⟨0, j, none⟩)) ⟨0, 0, by simp, rfl⟩
    obtain ⟨g, cap, h1, h2⟩ := this
    simp only at h1
    split at h1
    · rename_i e
      simp only [Option.some.injEq, Prod.mk.injEq] at h1
      obtain ⟨rfl, rfl⟩ := h1
      injection h2 with h2
      simp only [Option.some.injEq, Addr.mk.injEq] at h2
      exact ⟨e.symm, h2.2.1⟩
    · cases h1
  · obtain ⟨rfl, rfl⟩ := h
    exact fun w η L u hr => hr
@[go_sem] theorem AVle_mp (p p' v : Nat) : AVle (.mp p v) (.mp p' v) = True := eq_true fun w η L u hr => hr
end
attribute [go_sem] List.length_append List.length_replicate List.length_map List.length_set List.length_take List.length_drop List.take_length List.drop_zero List.nil_append
@[go_sem] theorem toNat_add1 (n : Nat) : ((n : Int) + 1).toNat = n + 1 := by omega
@[go_sem] theorem cast_one : ((1 : Nat) : Int) = 1 := rfl
@[go_sem] theorem cast_zero : ((0 : Nat) : Int) = 0 := rfl
@[go_sem] theorem add_sub1 (n : Int) : n + 1 - 1 = n := by omega
@[go_sem] theorem eS_flat (x : List UInt8) (j : Nat) : (eS.enc x j).flat = true := rfl
@[go_sem] theorem eI_flat (x : Int) (j : Nat) : (eI.enc x j).flat = true := rfl
@[go_sem] theorem eB_flat (x : Bool) (j : Nat) : (eB.enc x j).flat = true := rfl
@[go_sem] theorem eL_flat {α : Type} (E : El α) (x : List α) (j : Nat) : ((eL E).enc x j).flat = true := rfl
theorem stE_flat {c : Nat → Nat → AV} {k o m : Nat} {d : Nat → AV} (h : ∀ a b, (c a b).flat = true) (hd : ∀ b, (d b).flat = true) (a b : Nat) : (stE c k o m d a b).flat = true := by
  unfold stE
  split
  · exact hd _
  · exact h _ _
section
variable {α : Type} {E : El α} {l l' : List α} {s n k m : Nat} {x d : α} {c : Nat → AV}
theorem sn_set (hs : s = E.sz) (hd : d = E.dflt) (hl : l' = (l.set k x).take n) (hn : n ≤ l.length) (hc : ∀ j, j < s → AVle (c j) (E.enc x j)) :
    AVle (.sn n s (stE (fun i => E.enc (l.getD i d)) k 0 s c)) (sL E l') := by
  subst hl hd hs
  unfold sL
  rw [List.length_take, List.length_set, Nat.min_eq_left hn]
  refine AVle.sn fun i hi j hj => ?_
  simp only [stE]
  by_cases h : i = k
  · subst h
    rw [if_pos ⟨rfl, by omega, by omega⟩]
    have e : ((l.set i x).take n).getD i E.dflt = x := by simp [List.getD, List.getElem?_take, hi, show i < l.length by omega]
    rw [e]
    exact hc j hj
  · rw [if_neg (fun hh => h hh.1)]
    have e : ((l.set k x).take n).getD i E.dflt = l.getD i E.dflt := by simp [List.getD, List.getElem?_take, hi, List.getElem?_set_ne (Ne.symm h)]
    rw [e]
    exact AVle.refl _
end
theorem okGet {α : Type} {K : Kd α} {x : AV} {w : World} {η : Env} {L : Nat → Prop} {v : Value} (h : K.ok x) (hr : Rep w η L x v) : Rep w η L (K.enc (K.dec x)) v := h _ _ _ _ hr
@[go_sem] theorem put_row_mp (st : AS) (d : Option Tmp) (z : AV) (v n : Nat) (s : Bool) (f : Key → Option Value) : st.put d z (.mp v s n f) = ⟨updO st.fr d z, updR st.hp st.top (.mp v s n f), st.sz, st.top + 1, st.nx + 1, st.df⟩ := rfl
section
variable {P : Program} {x : Code} {Q : Exit → AS → Prop} {st : AS} {α : Type} {id id' : Nat} {s : α → AS}
theorem Sh.le {s : Sh} {st : AS} (h : s.fits st) : ASle st s.st := h.le
end
def normTo {α : Type} (s : α → AS) (Q : Exit → AS → Prop) : Exit → AS → Prop
  | .normal, st => ∃ i, ASle st (s i)
  | e, st => Q e st
section
variable {P : Program} {x : Code} {Q : Exit → AS → Prop} {st : AS} {α : Type} {id : Nat} {s : α → AS}
@[go_sem] theorem normTo_exit : normTo s Q (.exit id) st = Q (.exit id) st := rfl
@[go_sem] theorem normTo_normal : normTo s Q .normal st = ∃ i, ASle st (s i) := rfl
@[go_sem] theorem normTo_ret : normTo s Q .ret st = Q .ret st := rfl
theorem AW.to (s : α → AS) (h : AW P x (normTo s Q) st) (k : ∀ i, Q .normal (s i)) : AW P x Q st := by
  intro c η a w hsr
  refine wp_mono (h c η a w hsr) ?_
  rintro e a' w' ⟨st', η', hq, hs'⟩
  cases e with
  | normal =>
    obtain ⟨i, hi⟩ := hq
    obtain ⟨η'', h''⟩ := hi c η' a' w' hs'
    exact ⟨s i, η'', k i, h''⟩
  | _ => exact ⟨st', η', hq, hs'⟩
end
attribute [go_sem] Int.lt_irrefl Nat.lt_irrefl Option.getD_some Option.getD_none Option.isSome_some Option.isSome_none
theorem toFits {st : AS} {l : List (Nat × AV)} {r : List (Nat × Row)} {sz top nx : Nat} {df : List Deferred} (h : (Sh.mk l r sz top nx df).fits st) : ASle st ⟨frm l, rws r, sz, top, nx, df⟩ := h.le
def kU : Kd Int := ⟨fun n => .val (.int .u8 n), AV.int, fun _ => rfl⟩
@[go_sem] theorem kU_ok (n : Int) : kU.ok (.val (.int .u8 n)) = True := eq_true (kU.ok_enc n)
@[go_sem] theorem kU_dec (n : Int) : kU.dec (.val (.int .u8 n)) = n := rfl
@[go_sem] theorem kU_enc (n : Int) : kU.enc n = .val (.int .u8 n) := rfl
@[go_sem] theorem byte_eq (x y : UInt8) : ((x.toNat : Int) = (y.toNat : Int)) = (x = y) := by
  refine propext ⟨fun h => UInt8.toNat_inj.1 (by omega), fun h => by rw [h]⟩
@[go_sem] theorem byte_10 (x : UInt8) : ((x.toNat : Int) = 10) = (x = 10) := by
  refine propext ⟨fun h => UInt8.toNat_inj.1 (by have h2 := h; simp; omega), fun h => by rw [h]; rfl⟩
@[go_sem] theorem byte_32 (x : UInt8) : ((x.toNat : Int) = 32) = (x = 32) := by
  refine propext ⟨fun h => UInt8.toNat_inj.1 (by have h2 := h; simp; omega), fun h => by rw [h]; rfl⟩
@[go_sem] theorem byte_33 (x : UInt8) : ((x.toNat : Int) = 33) = (x = 33) := by
  refine propext ⟨fun h => UInt8.toNat_inj.1 (by have h2 := h; simp; omega), fun h => by rw [h]; rfl⟩
@[go_sem] theorem byte_37 (x : UInt8) : ((x.toNat : Int) = 37) = (x = 37) := by
  refine propext ⟨fun h => UInt8.toNat_inj.1 (by have h2 := h; simp; omega), fun h => by rw [h]; rfl⟩
@[go_sem] theorem byte_43 (x : UInt8) : ((x.toNat : Int) = 43) = (x = 43) := by
  refine propext ⟨fun h => UInt8.toNat_inj.1 (by have h2 := h; simp; omega), fun h => by rw [h]; rfl⟩
@[go_sem] theorem byte_45 (x : UInt8) : ((x.toNat : Int) = 45) = (x = 45) := by
  refine propext ⟨fun h => UInt8.toNat_inj.1 (by have h2 := h; simp; omega), fun h => by rw [h]; rfl⟩
@[go_sem] theorem byte_48 (x : UInt8) : ((x.toNat : Int) = 48) = (x = 48) := by
  refine propext ⟨fun h => UInt8.toNat_inj.1 (by have h2 := h; simp; omega), fun h => by rw [h]; rfl⟩
@[go_sem] theorem byte_60 (x : UInt8) : ((x.toNat : Int) = 60) = (x = 60) := by
  refine propext ⟨fun h => UInt8.toNat_inj.1 (by have h2 := h; simp; omega), fun h => by rw [h]; rfl⟩
@[go_sem] theorem byte_61 (x : UInt8) : ((x.toNat : Int) = 61) = (x = 61) := by
  refine propext ⟨fun h => UInt8.toNat_inj.1 (by have h2 := h; simp; omega), fun h => by rw [h]; rfl⟩
@[go_sem] theorem byte_62 (x : UInt8) : ((x.toNat : Int) = 62) = (x = 62) := by
  refine propext ⟨fun h => UInt8.toNat_inj.1 (by have h2 := h; simp; omega), fun h => by rw [h]; rfl⟩
@[go_sem] theorem byte_92 (x : UInt8) : ((x.toNat : Int) = 92) = (x = 92) := by
  refine propext ⟨fun h => UInt8.toNat_inj.1 (by have h2 := h; simp; omega), fun h => by rw [h]; rfl⟩
@[go_sem] theorem byte_124 (x : UInt8) : ((x.toNat : Int) = 124) = (x = 124) := by
  refine propext ⟨fun h => UInt8.toNat_inj.1 (by have h2 := h; simp; omega), fun h => by rw [h]; rfl⟩
@[go_sem low] theorem dec_L_any {α : Type} (E : El α) (x : AV) : (eL E).dec (fun _ => x) = (kL E).dec x := rfl
@[go_sem low] theorem okc_L_any {α : Type} (E : El α) (x : AV) : (eL E).okc (fun _ => x) = (kL E).ok x :=
  propext ⟨fun h => h 0 Nat.one_pos, fun h _ _ => h⟩
@[go_sem] theorem cast_lit (n : Nat) : ((no_index (OfNat.ofNat n) : Nat) : Int) = OfNat.ofNat n := rfl
theorem AW.seqTo {P : Program} {x y : Code} {Q : Exit → AS → Prop} {st : AS} {α : Type} (s : α → AS) (h : AW P x (normTo s Q) st) (k : ∀ i, AW P y Q (s i)) : AW P (.seq x y) Q st := by
  refine AW.seq fun K hK c η a w hsr => ?_
  refine wp_mono (h c η a w hsr) ?_
  rintro e a' w' ⟨st', η', hq, hs'⟩
  cases e with
  | normal =>
    obtain ⟨i, hi⟩ := hq
    obtain ⟨η'', h''⟩ := hi c η' a' w' hs'
    exact ⟨s i, η'', hK _ (k i), h''⟩
  | _ => exact ⟨st', η', hq, hs'⟩
end Go.Proofs.YthpjjjnbkfnghaaGreatDoor
set_option linter.unusedSimpArgs false
namespace Go.Proofs.YthpjjjnbkfnghaaGreatDoor
open Go

def isMv (o : Oper) : Bool := match o.op with | .move _ => o.guard.isNone | _ => false
def isSt (o : Oper) : Bool := match o.op with | .move _ => o.guard.isNone | .alloc _ => o.guard.isNone | _ => false
def eb (m : Nat) (F : List Nat) (j : Nat) : Bool := decide (j < m) || F.contains j
def gb (G : List Nat) (j : Nat) : Bool := G.contains j
def pairG (ops : Array Oper) (E G : Nat → Bool) (i j : Nat) (p o : Oper) (mj : Nat) : Bool :=
  match E i, E j with
  | true, true => mj.testBit i || !touch ops p o
  | true, false => mj.testBit i || ((isMv p || G i) && !touch ops p o)
  | false, true => !touch ops p o
  | false, false => mj.testBit i
def okG (l : List Oper) (m : Nat) (F G : List Nat) : Bool :=
  (List.range l.length).all fun j => match l[j]? with
    | none => true
    | some o => ((masks [] l).getD j 0 == maskOf (masks [] l) o.after.toList) && o.after.toList.all (fun e => !Region.binds .any e || decide (e.on < j)) && (decide (j < m) || !F.contains j || isSt o || gb G j) &&
      (List.range j).all fun i => match l[i]? with
        | none => true
        | some p => pairG l.toArray (eb m F) (gb G) i j p o ((masks [] l).getD j 0)
structure DrawnG (l : List Oper) (m : Nat) (E G : Nat → Bool) : Prop where
  edge : ∀ (j : Nat) (o : Oper), l[j]? = some o → ∀ e ∈ o.after, Region.binds .any e = true → e.on < j
  bit : ∀ (j : Nat) (o : Oper), l[j]? = some o → ∀ i, ((masks [] l).getD j 0).testBit i = true → ∃ e ∈ o.after, Region.binds .any e = true ∧ (e.on = i ∨ ((masks [] l).getD e.on 0).testBit i = true)
  early : ∀ j, j < m → E j = true
  still : ∀ (j : Nat) (o : Oper), l[j]? = some o → E j = true → m ≤ j → isSt o = true ∨ G j = true
  ee : ∀ (i j : Nat) (oi oj : Oper), i < j → l[i]? = some oi → l[j]? = some oj → E i = true → E j = true → touch l.toArray oi oj = true → ((masks [] l).getD j 0).testBit i = true
  et : ∀ (i j : Nat) (oi oj : Oper), i < j → l[i]? = some oi → l[j]? = some oj → E i = true → E j = false → ((masks [] l).getD j 0).testBit i = false → (isMv oi = true ∨ G i = true) ∧ touch l.toArray oi oj = false
  te : ∀ (i j : Nat) (oi oj : Oper), i < j → l[i]? = some oi → l[j]? = some oj → E i = false → E j = true → touch l.toArray oi oj = false
  tt : ∀ (i j : Nat) (oi oj : Oper), i < j → l[i]? = some oi → l[j]? = some oj → E i = false → E j = false → ((masks [] l).getD j 0).testBit i = true
theorem DrawnG.of {l : List Oper} {m : Nat} {F G : List Nat} (h : okG l m F G = true) : DrawnG l m (eb m F) (gb G) := by
  have key : ∀ (j : Nat) (o : Oper), l[j]? = some o → (masks [] l).getD j 0 = maskOf (masks [] l) o.after.toList ∧ (∀ e ∈ o.after.toList, Region.binds .any e = true → e.on < j) ∧ (j < m ∨ F.contains j = false ∨ isSt o = true ∨ gb G j = true) ∧
      ∀ (i : Nat) (p : Oper), i < j → l[i]? = some p → pairG l.toArray (eb m F) (gb G) i j p o ((masks [] l).getD j 0) = true := by
    intro j o hj
    have hjl := (List.getElem?_eq_some_iff.1 hj).1
    have h1 := List.all_eq_true.1 h j (List.mem_range.2 hjl)
    rw [hj] at h1
    simp only [Bool.and_eq_true] at h1
    obtain ⟨⟨⟨a1, a2⟩, a3⟩, a4⟩ := h1
    refine ⟨by simpa using a1, fun e he hb => ?_, ?_, fun i p hi hp => ?_⟩
    · have := List.all_eq_true.1 a2 e he
      simpa [hb] using this
    · simp only [Bool.or_eq_true, decide_eq_true_eq, Bool.not_eq_true'] at a3
      rcases a3 with ((a3 | a3) | a3) | a3
      · exact .inl a3
      · exact .inr (.inl a3)
      · exact .inr (.inr (.inl a3))
      · exact .inr (.inr (.inr a3))
    · have := List.all_eq_true.1 a4 i (List.mem_range.2 hi)
      rw [hp] at this
      exact this
  refine ⟨fun j o hj e he hb => (key j o hj).2.1 e (by simpa using he) hb, fun j o hj i hi => ?_, fun j hj => by simp [eb, hj], fun j o hj hE hm => ?_, fun i j oi oj hij hi hj h1 h2 ht => ?_, fun i j oi oj hij hi hj h1 h2 hb => ?_, fun i j oi oj hij hi hj h1 h2 => ?_, fun i j oi oj hij hi hj h1 h2 => ?_⟩
  · rw [(key j o hj).1] at hi
    obtain ⟨e, he, hb, r⟩ := mask_bit hi
    exact ⟨e, by simpa using he, hb, r⟩
  · rcases (key j o hj).2.2.1 with h1 | h1 | h1
    · omega
    · simp only [eb, h1, Bool.or_false, decide_eq_true_eq] at hE; omega
    · exact h1
  · have := (key j oj hj).2.2.2 i oi hij hi
    simp only [pairG, h1, h2, ht, Bool.not_true, Bool.or_false] at this
    exact this
  · have := (key j oj hj).2.2.2 i oi hij hi
    simp only [pairG, h1, h2, hb, Bool.false_or, Bool.and_eq_true, Bool.or_eq_true, Bool.not_eq_true'] at this
    exact this
  · have := (key j oj hj).2.2.2 i oi hij hi
    simp only [pairG, h1, h2, Bool.not_eq_true'] at this
    exact this
  · have := (key j oj hj).2.2.2 i oi hij hi
    simp only [pairG, h1, h2] at this
    exact this
theorem DrawnG.anc {l : List Oper} {m : Nat} {E G : Nat → Bool} (h : DrawnG l m E G) {S : Nat → Bool} (hc : Closed l S) : ∀ (n j : Nat) (o : Oper), j ≤ n → l[j]? = some o → (∀ e ∈ o.after, Region.binds .any e = true → S e.on = true) →
    ∀ i, ((masks [] l).getD j 0).testBit i = true → S i = true := by
  intro n
  induction n with
  | zero =>
    intro j o hjn hj hS i hi
    obtain ⟨e, he, hb, r⟩ := h.bit j o hj i hi
    have := h.edge j o hj e he hb
    omega
  | succ n ih =>
    intro j o hjn hj hS i hi
    obtain ⟨e, he, hb, r⟩ := h.bit j o hj i hi
    have hlt := h.edge j o hj e he hb
    rcases r with r | r
    · rw [← r]; exact hS e he hb
    · have hlen : e.on < l.length := by
        have := (List.getElem?_eq_some_iff.1 hj).1
        omega
      exact ih e.on l[e.on] (by omega) (List.getElem?_eq_getElem hlen) (fun e' he' hb' => hc e.on _ (List.getElem?_eq_getElem hlen) (hS e he hb) e' he' hb') i r
theorem some_readyG {l : List Oper} {m : Nat} {E G : Nat → Bool} (hD : DrawnG l m E G) {listed : Array Bool} (hs : listed.size = l.length) (h : left listed l.length ≠ 0) : ∃ j, j ∈ Region.ready .any l.toArray listed := by
  have hex : ∃ j, j < l.length ∧ listed.getD j false = false := by
    have : 0 < (List.range l.length).countP fun i => !listed.getD i false := Nat.pos_of_ne_zero h
    obtain ⟨j, hj, hn⟩ := List.countP_pos_iff.1 this
    exact ⟨j, by simpa using hj, by simpa using hn⟩
  have hmin : ∀ n, (∃ j, j ≤ n ∧ j < l.length ∧ listed.getD j false = false) → ∃ j, j < l.length ∧ listed.getD j false = false ∧ ∀ k, k < j → listed.getD k false = true := by
    intro n
    induction n with
    | zero =>
      rintro ⟨j, hj, h1, h2⟩
      exact ⟨j, h1, h2, fun k hk => by omega⟩
    | succ n ih =>
      rintro ⟨j, hj, h1, h2⟩
      by_cases hall : ∀ k, k < j → listed.getD k false = true
      · exact ⟨j, h1, h2, hall⟩
      · have : ∃ k, k < j ∧ listed.getD k false = false := by
          apply Classical.byContradiction
          intro hno
          apply hall
          intro k hk
          cases hv : listed.getD k false with
          | true => rfl
          | false => exact absurd ⟨k, hk, hv⟩ hno
        obtain ⟨k, hk, hv⟩ := this
        exact ih ⟨k, by omega, by omega, hv⟩
  obtain ⟨j0, h1, h2⟩ := hex
  obtain ⟨j, hj, hn, hall⟩ := hmin j0 ⟨j0, Nat.le_refl _, h1, h2⟩
  exact ⟨j, mem_ready.2 ⟨by rw [getD_listed hs hj]; exact hn, l[j], by simp [hj], fun e he hb => hall _ (hD.edge j l[j] (List.getElem?_eq_getElem hj) e he hb)⟩⟩
theorem untouch {ops : Array Oper} {a b : Oper} (h : touch ops a b = false) : (∀ t, a.dst = some t → b.dst ≠ some t ∧ ¬ t ∈ looks ops b) ∧ ∀ t, b.dst = some t → a.dst ≠ some t ∧ ¬ t ∈ looks ops a := by
  simp only [touch, Bool.or_eq_false_iff] at h
  obtain ⟨h1, h2⟩ := h
  refine ⟨fun t ht => ?_, fun t ht => ?_⟩
  · rw [ht] at h1
    simp only [Bool.or_eq_false_iff] at h1
    exact ⟨by simpa using h1.1, by simpa using h1.2⟩
  · rw [ht] at h2 h1
    refine ⟨fun e => ?_, by simpa using h2⟩
    rw [e] at h1
    simp at h1

def nopO (o : Oper) : Oper := ⟨none, .move (.const undef), o.type, o.pos, o.after, none⟩
def strip (E : Nat → Bool) : Nat → List Oper → List Oper
  | _, [] => []
  | j, o :: r => (if E j then o else nopO o) :: strip E (j + 1) r
theorem strip_at (E : Nat → Bool) : ∀ (l : List Oper) (i j : Nat), (strip E i l)[j]? = (l[j]?).map fun o => if E (i + j) then o else nopO o
  | [], i, j => by simp [strip]
  | o :: r, i, 0 => by simp [strip]
  | o :: r, i, j + 1 => by
    simp only [strip, List.getElem?_cons_succ]
    rw [strip_at E r (i + 1) j, show i + 1 + j = i + (j + 1) by omega]
theorem strip_len (E : Nat → Bool) : ∀ (l : List Oper) (i : Nat), (strip E i l).length = l.length
  | [], _ => rfl
  | o :: r, i => by simp [strip, strip_len E r (i + 1)]

section
variable {P : Program} {Γ : Gam}
def OpM (P : Program) (o : Oper) (st : AS) (K : AS → Prop) : Prop :=
  ∀ fr' : Nat → AV, (∀ x ∈ o.op.operands, evAV fr' x = evAV st.fr x) → OpW P o ⟨fr', st.hp, st.sz, st.top, st.nx, st.df⟩ fun st' => ∃ v, st'.fr = updO fr' o.dst v ∧ st'.sz = st.sz ∧ K ⟨updO st.fr o.dst v, st'.hp, st'.sz, st'.top, st'.nx, st'.df⟩
def bopT (P : Program) (Γ : Gam) (z : Bool) (st : AS) (o : Oper) (K : AS → Prop) : Prop :=
  match o.op with
  | .mapUpdate t m k x => sMapSet P st t (st.ev m) (st.ev k) (st.ev x) o.dst K
  | .call ⟨.value (.func f), ⟨xs⟩, _⟩ => match Γ f with
    | some (.meth S) => dstOK st.sz o.dst ∧ S (xs.map st.ev) st.hp st.top st.nx fun r hp' top' nx' => K ⟨updO st.fr o.dst r, hp', st.sz, top', nx', st.df⟩
    | _ => False
  | .store t x y => sStore P st t (st.ev x) (st.ev y) o.dst K
  | .call ⟨.builtin .append, ⟨[x, y]⟩, ⟨[t, t']⟩⟩ => t' = t ∧ (if z = true then sAppF P st t (st.ev x) (st.ev y) o.dst K else sApp P st t (st.ev x) (st.ev y) o.dst K)
  | .buildSlice t n parts => sBuild P st t n (parts.toList.map fun a => (a.1, st.ev a.2)) o.dst K
  | _ => OpM P o st K
theorem bopT_mask (hΓ : GOK P Γ) {z : Bool} {st : AS} {o : Oper} {K : AS → Prop} {fr' : Nat → AV} (hl : ∀ x ∈ o.op.operands, evAV fr' x = evAV st.fr x) (h : bopT P Γ z st o K) :
    OpW P o ⟨fr', st.hp, st.sz, st.top, st.nx, st.df⟩ fun st' => ∃ v, st'.fr = updO fr' o.dst v ∧ st'.sz = st.sz ∧ K ⟨updO st.fr o.dst v, st'.hp, st'.sz, st'.top, st'.nx, st'.df⟩ := by
  unfold bopT at h
  split at h <;> rename_i ho
  · rename_i t m k x
    have e : ∀ y, y = m ∨ y = k ∨ y = x → (⟨fr', st.hp, st.sz, st.top, st.nx, st.df⟩ : AS).ev y = st.ev y := fun y hy => hl y (by rw [ho]; simp [Op.operands]; rcases hy with h | h | h <;> simp [h])
    refine mapSet_wp ho ?_
    rw [e m (.inl rfl), e k (.inr (.inl rfl)), e x (.inr (.inr rfl))]
    unfold sMapSet at h ⊢
    split at h
    · split at h
      · rename_i heq
        revert h
        simp only [*]
        intro h
        exact ⟨h.1, _, rfl, trivial, h.2⟩
      · exact h.elim
    · exact h.elim
  · rename_i f xs ts
    split at h
    · rename_i S hS
      have e : xs.map (⟨fr', st.hp, st.sz, st.top, st.nx, st.df⟩ : AS).ev = xs.map st.ev := List.map_congr_left fun y hy => hl y (by rw [ho]; simp [Op.operands, Call.operands]; simp [hy])
      refine meth_wp' hΓ ho hS h.1 (by rw [e]; exact h.2) fun r hp' top' nx' hk => ⟨_, rfl, rfl, hk⟩
    · exact h.elim
  · rename_i t x y
    have e : ∀ z, z = x ∨ z = y → (⟨fr', st.hp, st.sz, st.top, st.nx, st.df⟩ : AS).ev z = st.ev z := fun z hz => hl z (by rw [ho]; simp [Op.operands]; rcases hz with h | h <;> simp [h])
    refine store_wp ho ?_
    rw [e x (.inl rfl), e y (.inr rfl)]
    unfold sStore at h ⊢
    split at h
    · split at h
      · rename_i heq
        revert h
        simp only [*]
        intro h
        exact ⟨h.1, _, rfl, trivial, h.2⟩
      · exact h.elim
    · split at h
      · rename_i heq
        revert h
        simp only [*]
        intro h
        exact ⟨h.1, _, rfl, trivial, h.2⟩
      · exact h.elim
    · exact h.elim
  · rename_i x y t t'
    have e : ∀ z, z = x ∨ z = y → (⟨fr', st.hp, st.sz, st.top, st.nx, st.df⟩ : AS).ev z = st.ev z := fun z hz => hl z (by rw [ho]; simp [Op.operands, Call.operands]; rcases hz with h | h <;> simp [h])
    obtain ⟨ht, h⟩ := h
    split at h
    · refine appF_wp ho ht ?_
      rw [e x (.inl rfl), e y (.inr rfl)]
      unfold sAppF at h ⊢
      split at h
      · revert h
        simp only [*]
        intro h
        exact ⟨h.1, _, rfl, trivial, h.2⟩
      · revert h
        simp only [*]
        intro h
        exact ⟨h.1, _, rfl, trivial, h.2⟩
      · exact h.elim
    refine app_wp ho ht ?_
    rw [e x (.inl rfl), e y (.inr rfl)]
    unfold sApp at h ⊢
    split at h
    · split at h
      · rename_i heq
        revert h
        simp only [*]
        intro h
        exact ⟨h.1, _, rfl, trivial, h.2⟩
      · exact h.elim
    · revert h
      simp only [*]
      intro h
      exact ⟨h.1, _, rfl, trivial, h.2⟩
    · revert h
      simp only [*]
      intro h
      exact ⟨h.1, h.2.1, h.2.2.1, h.2.2.2.1, _, rfl, trivial, h.2.2.2.2⟩
    · exact h.elim
  · rename_i t n parts
    have e : (parts.toList.map fun a => (a.1, (⟨fr', st.hp, st.sz, st.top, st.nx, st.df⟩ : AS).ev a.2)) = parts.toList.map fun a => (a.1, st.ev a.2) := List.map_congr_left fun a ha => by
      rw [show (⟨fr', st.hp, st.sz, st.top, st.nx, st.df⟩ : AS).ev a.2 = st.ev a.2 from hl a.2 (by rw [ho]; simp [Op.operands]; exact ⟨a.1, by simpa using ha⟩)]
    refine build_wp ho ?_
    rw [e]
    unfold sBuild at h ⊢
    split at h
    · split at h
      · rename_i h1 _ _ h2 h3
        simp only [h2, h3]
        exact ⟨h.1, _, rfl, trivial, h.2⟩
      · exact h.elim
    · exact h.elim
  · exact h fr' hl
end
end Go.Proofs.YthpjjjnbkfnghaaGreatDoor
namespace Go.Proofs.YthpjjjnbkfnghaaGreatDoor
open Go
section
variable {P : Program} {Γ : Gam}
def deadS (hk : Nat → Row) (st : AS) : AS := ⟨st.fr, hk, st.sz, st.top, st.nx, st.df⟩
def dkS (hk : Nat → Row) (g : Bool) (st : AS) : AS := if g = true then deadS hk st else st
def hkS (Pk : List Nat) (hp : Nat → Row) : Nat → Row := fun p => if Pk.contains p = true then hp p else .dead
def keepK (hk hp : Nat → Row) : List Nat → Prop
  | [] => True
  | p :: r => hp p = hk p ∧ keepK hk hp r
theorem keepK_ext {Pk : List Nat} {hp hp' : Nat → Row} (h : keepK (hkS Pk hp) hp' Pk) : Ext (hkS Pk hp) hp' := by
  have key : ∀ (l : List Nat), keepK (hkS Pk hp) hp' l → ∀ p ∈ l, hp' p = hkS Pk hp p := by
    intro l
    induction l with
    | nil => intro _ p hp; cases hp
    | cons q l ih =>
      intro h p hp
      rcases List.mem_cons.1 hp with rfl | hp
      · exact h.1
      · exact ih h.2 p hp
  intro p
  by_cases hc : Pk.contains p = true
  · exact .inr (key Pk h p (by simpa using hc))
  · exact .inl (by unfold hkS; rw [if_neg hc])
theorem hkS_ext (Pk : List Nat) (hp : Nat → Row) : Ext (hkS Pk hp) hp := fun p => by
  unfold hkS
  split
  · exact .inr rfl
  · exact .inl rfl
theorem Ext.put {hk : Nat → Row} {st : AS} (hx : Ext hk st.hp) (hdead : ∀ p, st.top ≤ p → st.hp p = .dead) (d : Option Tmp) (z : AV) (row : Row) : Ext hk (st.put d z row).hp ∧ ∀ p, (st.put d z row).top ≤ p → (st.put d z row).hp p = .dead := by
  by_cases hr : row = .dead
  · subst hr; exact ⟨hx, hdead⟩
  · obtain ⟨e1, e2, _⟩ := put_live st d z hr
    rw [e1, e2]
    refine ⟨fun p => ?_, fun p hp => ?_⟩
    · by_cases e : p = st.top
      · subst e
        rcases hx st.top with h | h
        · exact .inl h
        · exact .inl (by rw [← h]; exact hdead _ (Nat.le_refl _))
      · rw [updR_ne _ _ e]; exact hx p
    · rw [updR_ne _ _ (by omega)]; exact hdead p (by omega)
def gOKd (fr : Nat → AV) (want : Bool) : Option Tmp → Prop
  | some d => guardVal (fr d) want = some true
  | none => False
def gOK (ops : Array Oper) (fr : Nat → AV) : Option (Nat × Bool) → Prop
  | none => True
  | some w => gOKd fr w.2 ((ops[w.1]?).bind (·.dst))
theorem gOK_none {ops : Array Oper} {fr : Nat → AV} : gOK ops fr none = True := rfl
theorem gOK_some {ops : Array Oper} {fr : Nat → AV} {j : Nat} {want : Bool} : gOK ops fr (some (j, want)) = gOKd fr want ((ops[j]?).bind (·.dst)) := rfl
theorem gOKd_some {fr : Nat → AV} {d : Tmp} {want : Bool} : gOKd fr want (some d) = (guardVal (fr d) want = some true) := rfl
def xE (hk : Nat → Row) (P : Program) (Γ : Gam) (ops : Array Oper) (E G : Nat → Bool) (m : Nat) : Nat → List Oper → AS → List (Nat × AV × Row) → (AS → List (Nat × AV × Row) → Prop) → Prop
  | _, [], st, kp, K => K st kp
  | j, o :: r, st, kp, K => if E j = true then (match gop P Γ ops (dkS hk (G j) st) o with
      | some (pre, z, row) => ((G j = true → gOK ops st.fr o.guard ∧ row = .dead) ∧ dstOK st.sz o.dst ∧ pre) ∧ xE hk P Γ ops E G m (j + 1) r (st.put o.dst z row) (if m ≤ j then (j, z, row) :: kp else kp) K
      | none => False) else xE hk P Γ ops E G m (j + 1) r st kp K
def keep1 (j : Nat) (st : AS) (i p : Nat) : Row → Prop
  | .dead => True
  | .box v t m c => j < i → st.hp p = .box v t m c
  | .sl v t k n c => j < i → st.hp p = .sl v t k n c
  | .mp v b n f => j < i → st.hp p = .mp v b n f
theorem keep1_at {j : Nat} {st : AS} {i p : Nat} {row : Row} (h : keep1 j st i p row) (hr : row ≠ .dead) (hlt : j < i) : st.hp p = row := by
  cases row with
  | dead => exact absurd rfl hr
  | _ => exact h hlt
def keeps (j : Nat) : List (Nat × AV × Row) → AS → Prop
  | [], _ => True
  | (i, .pt p _ _, row) :: r, st => keep1 j st i p row ∧ keeps j r st
  | _ :: r, st => keeps j r st
def xT (hk : Nat → Row) (Pk : List Nat) (P : Program) (Γ : Gam) (ops : Array Oper) (E Z : Nat → Bool) : Nat → List Oper → AS → List (Nat × AV × Row) → (AS → Prop) → Prop
  | _, [], st, _, K => K st
  | j, o :: r, st, kp, K => if E j = true then xT hk Pk P Γ ops E Z (j + 1) r st kp K else (match gop P Γ ops st o with
      | some (pre, z, row) => (o.guard = none ∧ dstOK st.sz o.dst ∧ pre) ∧ xT hk Pk P Γ ops E Z (j + 1) r (st.put o.dst z row) kp K
      | none => o.guard = none ∧ bopT P Γ (Z j) st o fun st' => (keepK hk st'.hp Pk ∧ keeps j kp st') ∧ xT hk Pk P Γ ops E Z (j + 1) r st' kp K)
theorem keeps_at {j : Nat} {st : AS} {i p ver k : Nat} {row : Row} : ∀ {kp : List (Nat × AV × Row)}, keeps j kp st → (i, AV.pt p ver k, row) ∈ kp → row ≠ .dead → j < i → st.hp p = row
  | [], _, h, _, _ => nomatch h
  | e :: r, hk, h, hr, hlt => by
    rcases List.mem_cons.1 h with h | h
    · subst h; exact keep1_at hk.1 hr hlt
    · refine keeps_at (kp := r) ?_ h hr hlt
      obtain ⟨i', z', row'⟩ := e
      cases z' <;> first | exact hk.2 | exact hk
theorem xT_skip {hk : Nat → Row} {Pk : List Nat} {ops : Array Oper} {E Z : Nat → Bool} {K : AS → Prop} {kp : List (Nat × AV × Row)} {st : AS} {l : List Oper} : ∀ (n k : Nat), k + n ≤ l.length → (∀ i, k ≤ i → i < k + n → E i = true) → xT hk Pk P Γ ops E Z k (l.drop k) st kp K → xT hk Pk P Γ ops E Z (k + n) (l.drop (k + n)) st kp K
  | 0, k, _, _, h => h
  | n + 1, k, hk, hE, h => by
    have hd : l.drop k = l[k] :: l.drop (k + 1) := List.drop_eq_getElem_cons (by omega)
    rw [hd, xT, if_pos (hE k (Nat.le_refl _) (by omega))] at h
    rw [show k + (n + 1) = k + 1 + n by omega]
    exact xT_skip n (k + 1) (by omega) (fun i h1 h2 => hE i (by omega) (by omega)) h
theorem nop_gop {ops : Array Oper} {st : AS} {o : Oper} : gop P Γ ops st (nopO o) = some (True, .val undef, .dead) := rfl
theorem frS_lt (i : Nat) : ∀ (l : List (Option Tmp × AV)) (i' : Nat) (f : Nat → AV), i ≤ i' → frS (fun k => decide (k < i)) i' l f = f
  | [], _, _, _ => rfl
  | (d, z) :: l, i', f, h => by
    unfold frS
    rw [if_neg (by simp; omega)]
    exact frS_lt i l (i' + 1) f (by omega)
theorem gop_dead {hk : Nat → Row} {ops : Array Oper} {st : AS} {o : Oper} {pre : Prop} {z : AV} {row : Row} (hx : Ext hk st.hp) (hgd : gOK ops st.fr o.guard) (hg : gop P Γ ops (deadS hk st) o = some (pre, z, row)) (hp : pre) : ∃ pre', gop P Γ ops st o = some (pre', z, row) ∧ pre' := by
  rw [gopF_eq] at hg ⊢
  unfold gopF at hg ⊢
  revert hg hgd
  cases o.guard with
  | none =>
    intro hgd hg
    exact aop_ext hx (fun _ _ => rfl) hg hp
  | some w =>
    obtain ⟨jj, want⟩ := w
    intro hgd hg
    rw [gOK_some] at hgd
    simp only at hg ⊢
    cases hd : (ops[jj]?).bind (·.dst) with
    | none => rw [hd] at hgd; exact hgd.elim
    | some d =>
      rw [hd] at hgd hg
      rw [gOKd_some] at hgd
      have hg2 : guardVal ((deadS hk st).fr d) want = some true := hgd
      simp only [hgd, hg2] at hg ⊢
      split at hg
      · rename_i pre0 z0 row0 hq
        simp only [Option.some.injEq, Prod.mk.injEq] at hg
        obtain ⟨rfl, rfl, rfl⟩ := hg
        obtain ⟨pre', h1, h2⟩ := aop_ext (hp' := st.hp) (ev' := evG true o.op (evAV st.fr)) hx (fun _ _ => rfl) hq (hp trivial)
        have h1 : aop P Γ st.hp st.top st.nx (evG true o.op (evAV st.fr)) o.op = some (pre', z0, row0) := h1
        rw [h1]
        exact ⟨_, rfl, fun _ => h2⟩
      · simp only [Option.some.injEq, Prod.mk.injEq] at hg
        obtain ⟨rfl, _, _⟩ := hg
        cases hp
def DeadAt (hk : Nat → Row) (P : Program) (Γ : Gam) (ops : Array Oper) (fr : Nat → AV) (o : Oper) (z : AV) : Prop := gOK ops fr o.guard ∧ ∃ pre p ver, gopF P Γ ops fr hk p ver o = some (pre, z, .dead) ∧ pre
theorem xE_TR {hk : Nat → Row} {ops : Array Oper} {E G : Nat → Bool} {m : Nat} {K : AS → List (Nat × AV × Row) → Prop} : ∀ (l : List Oper) (j : Nat) (st : AS) (kp : List (Nat × AV × Row)), Ext hk st.hp → (∀ p, st.top ≤ p → st.hp p = .dead) → xE hk P Γ ops E G m j l st kp K →
    ∃ vs st' kp', TR P Γ ops (strip E j l) st vs st' ∧ K st' kp' ∧ (∀ e ∈ kp, e ∈ kp') ∧ (∀ i z row, vs[i]? = some (z, row) → E (j + i) = true → m ≤ j + i → (j + i, z, row) ∈ kp') ∧
      ∀ i o, l[i]? = some o → E (j + i) = true → G (j + i) = true → ∃ z, vs[i]? = some (z, .dead) ∧ DeadAt hk P Γ ops (frS (fun k => decide (k < j + i)) j (puts (strip E j l) vs) st.fr) o z
  | [], j, st, kp, _, _, h => ⟨[], st, kp, .nil st, h, fun _ h => h, fun i z row hv => by simp at hv, fun i o hi => by simp at hi⟩
  | o :: r, j, st, kp, hxt, hdd, h => by
    unfold xE at h
    split at h
    · rename_i hE
      split at h
      · rename_i pre z row hg
        obtain ⟨⟨hG, hd, hp⟩, hx⟩ := h
        have hgl : ∃ pre', gop P Γ ops st o = some (pre', z, row) ∧ pre' := by
          cases hGj : G j with
          | false => rw [hGj] at hg; exact ⟨pre, hg, hp⟩
          | true => rw [hGj] at hg; exact gop_dead hxt (hG hGj).1 hg hp
        obtain ⟨pre', hgl, hpl⟩ := hgl
        obtain ⟨vs, st', kp', h1, h2, h3, h4, h5⟩ := xE_TR r (j + 1) _ _ (hxt.put hdd _ _ _).1 (hxt.put hdd _ _ _).2 hx
        have hs : strip E j (o :: r) = o :: strip E (j + 1) r := by rw [strip, if_pos hE]
        refine ⟨(z, row) :: vs, st', kp', by rw [hs]; exact TR.cons hgl hd hpl h1, h2, fun e he => h3 e (by split <;> simp [he]), fun i z' row' hv hEi hm => ?_, fun i oi hi hEi hGi => ?_⟩
        · cases i with
          | zero =>
            simp only [List.getElem?_cons_zero, Option.some.injEq, Prod.mk.injEq] at hv
            obtain ⟨rfl, rfl⟩ := hv
            rw [Nat.add_zero] at hm ⊢
            exact h3 _ (by rw [if_pos hm]; exact List.mem_cons_self ..)
          | succ i =>
            have := h4 i z' row' (by simpa using hv) (by rw [show j + 1 + i = j + (i + 1) by omega]; exact hEi) (by omega)
            rwa [show j + 1 + i = j + (i + 1) by omega] at this
        · cases i with
          | zero =>
            simp only [List.getElem?_cons_zero, Option.some.injEq] at hi
            subst hi
            rw [Nat.add_zero] at hGi ⊢
            obtain ⟨hgd, rfl⟩ := hG hGi
            rw [hGi] at hg
            refine ⟨z, rfl, ?_⟩
            rw [frS_lt j _ _ _ (Nat.le_refl _)]
            exact ⟨hgd, pre, st.top, st.nx, hg, hp⟩
          | succ i =>
            obtain ⟨z', h6, h7⟩ := h5 i oi (by simpa using hi) (by rw [show j + 1 + i = j + (i + 1) by omega]; exact hEi) (by rw [show j + 1 + i = j + (i + 1) by omega]; exact hGi)
            refine ⟨z', by simpa using h6, ?_⟩
            rw [hs, puts, frS, if_pos (by simp), ← (put_sz st o.dst z row).2.2, show j + (i + 1) = j + 1 + i by omega]
            exact h7
      · exact h.elim
    · rename_i hE
      obtain ⟨vs, st', kp', h1, h2, h3, h4, h5⟩ := xE_TR r (j + 1) st kp hxt hdd h
      have hs : strip E j (o :: r) = nopO o :: strip E (j + 1) r := by rw [strip, if_neg hE]
      refine ⟨(.val undef, .dead) :: vs, st', kp', ?_, h2, h3, fun i z' row' hv hEi hm => ?_, fun i oi hi hEi hGi => ?_⟩
      · rw [hs]
        exact TR.cons nop_gop trivial trivial (by exact h1)
      · cases i with
        | zero => rw [Nat.add_zero] at hEi; exact absurd hEi hE
        | succ i =>
          have := h4 i z' row' (by simpa using hv) (by rw [show j + 1 + i = j + (i + 1) by omega]; exact hEi) (by omega)
          rwa [show j + 1 + i = j + (i + 1) by omega] at this
      · cases i with
        | zero => rw [Nat.add_zero] at hEi; exact absurd hEi hE
        | succ i =>
          obtain ⟨z', h6, h7⟩ := h5 i oi (by simpa using hi) (by rw [show j + 1 + i = j + (i + 1) by omega]; exact hEi) (by rw [show j + 1 + i = j + (i + 1) by omega]; exact hGi)
          refine ⟨z', by simpa using h6, ?_⟩
          rw [hs, puts, frS, if_pos (by simp), show j + (i + 1) = j + 1 + i by omega]
          exact h7
def Ctx.here (c : Ctx) (hp : Nat → Row) (nx : Nat) (η : Env) (w : World) : Ctx := ⟨w, η, fun b => ∃ p, (hp p).blk η = some b, c.Lx, nx⟩
theorem SR.here {c : Ctx} {st : AS} {η : Env} {a : Act} {w : World} (h : SR c st η a w) : SR (c.here st.hp st.nx η w) st η a w where
  hs := ⟨Fr.refl _ _, ⟨fun b hb => Nat.lt_of_lt_of_le (h.hs.lx.lt b hb) h.hs.fr.size, h.hs.tab⟩, h.hs.rows, h.hs.vers, h.hs.bnd, h.hs.disj,
    fun p b hb => ⟨.inl ⟨p, hb⟩, (h.hs.own p b hb).2.1, (h.hs.own p b hb).2.2⟩, h.hs.fresh, Env.le_refl _, Nat.le_refl _, fun _ _ h => h⟩
  dead := h.dead
  size := h.size
  slots := h.slots
  defs := h.defs
theorem SR.back {c : Ctx} {st st' : AS} {η η' : Env} {a a' : Act} {w w' : World} (h : SR c st η a w) (h' : SR (c.here st.hp st.nx η w) st' η' a' w') :
    SR c st' η' a' w' ∧ st.nx ≤ st'.nx ∧ ∀ k, k < st.nx → η k = none → η' k = none := by
  have hs' := h'.hs
  refine ⟨⟨⟨h.hs.fr.trans' hs'.fr ?_, h.hs.lx, hs'.rows, hs'.vers, hs'.bnd, hs'.disj, fun p b hb => ⟨?_, (hs'.own p b hb).2.1, (hs'.own p b hb).2.2⟩, hs'.fresh, Env.le_trans h.hs.env.1 hs'.env.1, Nat.le_trans h.hs.env.2.1 hs'.env.2.1, fun k hk h0 => hs'.env.2.2 k (Nat.lt_of_lt_of_le hk h.hs.env.2.1) (h.hs.env.2.2 k hk h0)⟩, h'.dead, h'.size, h'.slots, h'.defs⟩, hs'.env.2.1, hs'.env.2.2⟩
  · rintro k hk ⟨p, hp⟩
    exact (h.hs.own p k hp).1.resolve_right (by omega)
  · rcases (hs'.own p b hb).1 with ⟨q, hq⟩ | hge
    · exact (h.hs.own q b hq).1
    · exact .inr (Nat.le_trans h.hs.fr.size hge)
theorem st_free {ops : Array Oper} {fr : Nat → AV} {hp hp' : Nat → Row} {p ver : Nat} {o : Oper} (h : isSt o = true) : gopF P Γ ops fr hp p ver o = gopF P Γ ops fr hp' p ver o := by
  unfold isSt at h
  split at h
  · rename_i x ho
    have hg : o.guard = none := by simpa using h
    unfold gopF
    rw [hg, ho]
    rfl
  · rename_i x ho
    have hg : o.guard = none := by simpa using h
    unfold gopF
    rw [hg, ho]
    rfl
  · cases h
theorem st_row {ops : Array Oper} {st : AS} {o : Oper} {pre : Prop} {z : AV} {row : Row} (h : isSt o = true) (hg : gop P Γ ops st o = some (pre, z, row)) (hr : row ≠ .dead) : isMv o = false ∧ z = .pt st.top st.nx 0 := by
  unfold isSt at h
  split at h
  · rename_i x ho
    have hgd : o.guard = none := by simpa using h
    unfold gop at hg
    rw [hgd, ho] at hg
    simp only [aop, apure, Option.some.injEq, Prod.mk.injEq] at hg
    exact absurd hg.2.2.symm hr
  · rename_i x ho
    have hgd : o.guard = none := by simpa using h
    unfold gop at hg
    rw [hgd, ho] at hg
    simp only [aop] at hg
    split at hg
    · simp only [Option.some.injEq, Prod.mk.injEq] at hg
      exact ⟨by simp [isMv, ho], hg.2.1.symm⟩
    · cases hg
  · cases h
theorem mv_row {ops : Array Oper} {st : AS} {o : Oper} {pre : Prop} {z : AV} {row : Row} (h : isMv o = true) (hg : gop P Γ ops st o = some (pre, z, row)) : row = .dead ∧ isSt o = true := by
  unfold isMv at h
  split at h
  · rename_i x ho
    have hgd : o.guard = none := by simpa using h
    unfold gop at hg
    rw [hgd, ho] at hg
    simp only [aop, apure, Option.some.injEq, Prod.mk.injEq] at hg
    exact ⟨hg.2.2.symm, by simp [isSt, ho, hgd]⟩
  · cases h
theorem gopF_congr {ops : Array Oper} {fr fr' : Nat → AV} {hp : Nat → Row} {p ver : Nat} {o : Oper} (hgd : gOK ops fr o.guard) (h : ∀ t ∈ looks ops o, fr' t = fr t) {pre : Prop} {z : AV} {row : Row} (hg : gopF P Γ ops fr hp p ver o = some (pre, z, row)) (hp' : pre) :
    ∃ pre', gopF P Γ ops fr' hp p ver o = some (pre', z, row) ∧ pre' := by
  have hev := ev_looks h
  have hlk : ∀ jj want d, o.guard = some (jj, want) → (ops[jj]?).bind (·.dst) = some d → d ∈ looks ops o := fun jj want d h1 h2 => by
    unfold looks
    rw [h1]
    simp only
    rw [h2]
    simp
  unfold gopF at hg ⊢
  revert hg hgd hlk
  cases o.guard with
  | none =>
    intro hgd hg hlk
    exact aop_ext (Ext.refl _) hev hg hp'
  | some w =>
    obtain ⟨jj, want⟩ := w
    intro hgd hg hlk
    rw [gOK_some] at hgd
    simp only at hg ⊢
    cases hd : (ops[jj]?).bind (·.dst) with
    | none => rw [hd] at hgd; exact hgd.elim
    | some d =>
      rw [hd] at hgd hg
      rw [gOKd_some] at hgd
      have e := h d (hlk jj want d rfl hd)
      simp only [e, hgd] at hg ⊢
      split at hg
      · rename_i pre0 z0 row0 hq
        simp only [Option.some.injEq, Prod.mk.injEq] at hg
        obtain ⟨rfl, rfl, rfl⟩ := hg
        obtain ⟨pre', h1, h2⟩ := aop_ext (ev' := evG true o.op (evAV fr')) (Ext.refl hp) (fun x hx => by
          have e2 := hev x hx
          unfold evG
          split <;> rw [e2]) hq (hp' trivial)
        rw [h1]
        exact ⟨_, rfl, fun _ => h2⟩
      · simp only [Option.some.injEq, Prod.mk.injEq] at hg
        obtain ⟨rfl, _, _⟩ := hg
        cases hp'

def tdst (l : List Oper) (E : Nat → Bool) (k : Nat) (t : Nat) : Prop := ∃ j o, j < k ∧ E j = false ∧ l[j]? = some o ∧ o.dst = some t
open Classical in
noncomputable def frG (l : List Oper) (E : Nat → Bool) (k : Nat) (f g : Nat → AV) : Nat → AV := fun t => if tdst l E k t then f t else g t
open Classical in
theorem frG_in {l : List Oper} {E : Nat → Bool} {k : Nat} {f g : Nat → AV} {t : Nat} (h : tdst l E k t) : frG l E k f g t = f t := if_pos h
open Classical in
theorem frG_out {l : List Oper} {E : Nat → Bool} {k : Nat} {f g : Nat → AV} {t : Nat} (h : ¬ tdst l E k t) : frG l E k f g t = g t := if_neg h

theorem AW.drawG (hΓ : GOK P Γ) (hm : P.follows .mixedOrders = true) {Q : Exit → AS → Prop} {st : AS} {id : Nat} {l : List Oper} (m : Nat) (F G Z Pk : List Nat) (hchk : okG l m F G = true)
    (h : xE (hkS Pk st.hp) P Γ l.toArray (eb m F) (gb G) m 0 l st [] fun st1 kp => xT (hkS Pk st.hp) Pk P Γ l.toArray (eb m F) (gb Z) 0 l st1 kp (Q .normal)) : AW P (.region id l.toArray true) Q st := by
  intro c η0 a0 w0 hsr0
  have hD := DrawnG.of hchk
  generalize eb m F = E at hD h
  generalize gb G = G' at hD h
  generalize gb Z = Z' at h
  obtain ⟨vs, stm, kp, htr, hrest, _, hkp, hG⟩ := xE_TR l 0 st [] (hkS_ext Pk st.hp) hsr0.dead h
  simp only [Nat.zero_add] at hkp
  obtain ⟨x1, x2, x3, x4, x5, x6, x7, x8⟩ := htr.ext hsr0.dead
  obtain ⟨sts, hat, hnx, hfr⟩ := htr.at hsr0.dead 0 st.fr rfl
  have hdrew : HS c st.hp st.nx η0 w0.drew := hsr0.hs.world (Fr.refl _ _).drew
  obtain ⟨hsm, hLm⟩ := htr.declare hdrew
  refine wp_region_any hm ?_
  have hsl : ∀ j, (strip E 0 l)[j]? = (l[j]?).map fun o => if E j then o else nopO o := fun j => by rw [strip_at, Nat.zero_add]
  have hput : ∀ k d z', (puts (strip E 0 l) vs)[k]? = some (d, z') → ∃ ok, l[k]? = some ok ∧ ((E k = true ∧ d = ok.dst) ∨ (E k = false ∧ d = none)) := fun k d z' hk => by
    have hkl : k < (strip E 0 l).length := puts_len hk
    rw [strip_len] at hkl
    have hlk : l[k]? = some l[k] := List.getElem?_eq_getElem hkl
    obtain ⟨z1, row1, _, hpu1, _⟩ := hat k (if E k then l[k] else nopO l[k]) (by rw [hsl, hlk]; rfl)
    rw [hk] at hpu1
    simp only [Option.some.injEq, Prod.mk.injEq] at hpu1
    refine ⟨l[k], hlk, ?_⟩
    cases hE : E k with
    | true => exact .inl ⟨rfl, by rw [hpu1.1, hE]; rfl⟩
    | false => exact .inr ⟨rfl, by rw [hpu1.1, hE]; rfl⟩
  have main : ∀ (fuel k : Nat) (listed : Array Bool) (stk : AS) (η : Env) (a : Act) (w : World), listed.size = l.length → left listed l.length = fuel → k ≤ l.length →
      HS c stk.hp stk.nx η w → (∀ p, stk.top ≤ p → stk.hp p = .dead) → a.tmps.size = st.sz → stk.sz = st.sz → a.defers = stk.df →
      (∀ t, Rep w η (Lset c η stk.hp) (frG l E k stk.fr (frS (fun i => listed.getD i false) 0 (puts (strip E 0 l) vs) st.fr) t) (a.tmps.getD t undef)) →
      (∀ t, ¬ tdst l E k t → stk.fr t = stm.fr t) →
      (∀ j z row, vs[j]? = some (z, row) → listed.getD j false = false → E j = true → row ≠ .dead → η (sts j).nx = none ∧ (sts j).nx < stk.nx ∧ stk.hp (sts j).top = row) →
      Closed l (fun i => listed.getD i false) → (∀ j, j < l.length → E j = false → listed.getD j false = decide (j < k)) →
      (∀ i j oi oj, l[i]? = some oi → l[j]? = some oj → E i = true → listed.getD i false = false → E j = false → j < k → (isSt oi = true ∨ G' i = true) ∧ (∀ t, oj.dst = some t → oi.dst ≠ some t ∧ ¬ t ∈ looks l.toArray oi)) →
      ((∃ j oj, l[j]? = some oj ∧ E j = false ∧ j < k) ∨ stk = stm) →
      Ext (hkS Pk st.hp) stk.hp → xT (hkS Pk st.hp) Pk P Γ l.toArray E Z' k (l.drop k) stk kp (Q .normal) →
      wpAny P .any l.toArray (fun e a' w' => ∃ st' η', Q e st' ∧ SR c st' η' a' w') fuel listed a w := by
    intro fuel
    induction fuel with
    | zero =>
      intro k listed stk η a w hs hleft hkl hhs hdead hsz hksz hdf hslots hkeep hpend hcl hT hfree hext hxk hx
      have hall : ∀ j, j < l.length → listed.getD j false = true := fun j hj => by
        cases hv : listed.getD j false with
        | true => rfl
        | false =>
          have : 0 < (List.range l.length).countP fun i => !listed.getD i false := List.countP_pos_iff.2 ⟨j, by simpa using hj, by simpa using hv⟩
          unfold left at hleft
          omega
      refine ⟨?_, ?_⟩
      · rw [List.eq_nil_iff_forall_not_mem]
        intro j hj
        obtain ⟨h1, _, h2, _⟩ := ready_spec hs hj
        rw [hall j h1] at h2
        cases h2
      · have hx2 := xT_skip (l.length - k) k (by omega) (fun i h1 h2 => by
          cases hE : E i with
          | true => rfl
          | false =>
            have h3 := hT i (by omega) hE
            rw [hall i (by omega)] at h3
            have := of_decide_eq_true h3.symm
            omega) hx
        rw [show k + (l.length - k) = l.length by omega, List.drop_length] at hx2
        refine ⟨stk, η, hx2, hhs, hdead, by rw [hsz, hksz], fun t => ?_, hdf⟩
        have := hslots t
        by_cases ht : tdst l E k t
        · rwa [frG_in ht] at this
        · rw [frG_out ht] at this
          have e : frS (fun i => listed.getD i false) 0 (puts (strip E 0 l) vs) st.fr t = frS (fun _ => true) 0 (puts (strip E 0 l) vs) st.fr t := frS_congr _ 0 _ _ rfl fun k d z hk _ => by
            have hkl : k < (strip E 0 l).length := puts_len hk
            rw [strip_len] at hkl
            simp only [Nat.zero_add]
            exact hall k hkl
          rw [hkeep t ht, hfr, ← e]
          exact this
    | succ fuel ih =>
      intro k listed stk η a w hs hleft hkl hhs hdead hsz hksz hdf hslots hkeep hpend hcl hT hfree hext hxk hx
      refine ⟨fun h0 => ?_, fun i hi => ?_⟩
      · obtain ⟨j, hj⟩ := some_readyG hD hs (by omega)
        rw [h0] at hj
        cases hj
      obtain ⟨hil, hit, hif, o, ho, hedges⟩ := ready_spec hs hi
      have hdone : ∀ j, ((masks [] l).getD i 0).testBit j = true → listed.getD j false = true := fun j hb => hD.anc hcl i i o (Nat.le_refl _) ho hedges j hb
      have hoo : l.toArray[i]? = some o := by simpa using ho
      have hleft' : left (listed.setIfInBounds i true) l.length = fuel := by
        have := countP_set listed hit l.length
        rw [if_pos hil] at this
        unfold left at hleft ⊢
        omega
      have hcl' : Closed l (fun j => (listed.setIfInBounds i true).getD j false) := fun j oj hj hSj e he hb => by
        simp only at hSj ⊢
        rw [set_getD hs hil] at hSj ⊢
        by_cases e1 : e.on = i
        · rw [if_pos e1]
        · rw [if_neg e1]
          by_cases e2 : j = i
          · subst e2
            rw [hj] at ho
            obtain rfl := Option.some.inj ho
            exact hedges e he hb
          · rw [if_neg e2] at hSj
            exact hcl j oj hj hSj e he hb
      cases hE : E i with
      | true =>
        obtain ⟨z, row, hv, hpu, hAt, hfrj⟩ := hat i o (by rw [hsl, ho]; simp [hE])
        obtain ⟨pre, hg, hp⟩ := hAt.pre
        have hord : ∀ k ok, l[k]? = some ok → E k = true → k ≠ i → touch l.toArray (if k < i then ok else o) (if k < i then o else ok) = true → listed.getD k false = decide (k < i) := by
          intro k ok hk hEk hne ht
          by_cases hlt : k < i
          · simp only [hlt, if_true] at ht
            rw [hdone k (hD.ee k i ok o hlt hk ho hEk hE ht)]; simp [hlt]
          · simp only [hlt, if_false] at ht
            have hb := hD.ee i k o ok (by omega) ho hk hE hEk ht
            cases hv : listed.getD k false with
            | false => simp [hlt]
            | true =>
              have := hD.anc hcl k k ok (Nat.le_refl _) hk (fun e he hbb => hcl k ok hk hv e he hbb) i hb
              rw [this] at hif
              cases hif
        have hnt : ∀ t, tdst l E k t → o.dst ≠ some t ∧ ¬ t ∈ looks l.toArray o := by
          rintro t ⟨j, oj, hjk, hEj, hj, hd⟩
          exact (hfree i j o oj ho hj hE hif hEj hjk).2 t hd
        have hlook : ∀ t ∈ looks l.toArray o, frG l E k stk.fr (frS (fun k => listed.getD k false) 0 (puts (strip E 0 l) vs) st.fr) t = (sts i).fr t := fun t ht => by
          rw [frG_out fun h => (hnt t h).2 ht, hfrj]
          refine frS_congr _ 0 _ _ rfl fun k d z' hk hd => ?_
          obtain ⟨ok, hlk, hdo⟩ := hput k d z' hk
          simp only [Nat.zero_add]
          by_cases e : k = i
          · subst e; rw [hif]; simp
          · rcases hdo with ⟨hEk, hdo⟩ | ⟨_, hdo⟩
            · refine hord k ok hlk hEk e ?_
              rw [hdo] at hd
              by_cases hlt : k < i
              · simp only [hlt, if_true, touch, hd, Bool.or_eq_true]
                exact .inl (.inr (by simpa using ht))
              · simp only [hlt, if_false, touch, hd, Bool.or_eq_true]
                exact .inr (by simpa using ht)
            · rw [hdo] at hd; cases hd
        unfold wpOp
        rw [hoo]
        simp only
        have hgen : ∃ hp0 pre0 p0 v0, Ext hp0 stk.hp ∧ gopF P Γ l.toArray (sts i).fr hp0 p0 v0 o = some (pre0, z, row) ∧ pre0 ∧ (row = .dead ∨ (p0 = (sts i).top ∧ v0 = (sts i).nx)) := by
          rcases hext with ⟨j, oj, hj, hEj, hjk⟩ | rfl
          · rcases (hfree i j o oj ho hj hE hif hEj hjk).1 with this | this
            · exact ⟨fun _ => .dead, pre, _, _, fun p => .inl rfl, by rw [st_free this (hp' := (sts i).hp)]; exact hg, hp, .inr ⟨rfl, rfl⟩⟩
            · obtain ⟨z', hz', _, pre', p', v', hg', hp'⟩ := hG i o ho (by rw [Nat.zero_add]; exact hE) (by rw [Nat.zero_add]; exact this)
              rw [hv] at hz'
              simp only [Option.some.injEq, Prod.mk.injEq] at hz'
              obtain ⟨rfl, rfl⟩ := hz'
              exact ⟨hkS Pk st.hp, pre', p', v', hxk, by rw [hfrj]; exact hg', hp', .inl rfl⟩
          · exact ⟨(sts i).hp, pre, _, _, hAt.ext, hg, hp, .inr ⟨rfl, rfl⟩⟩
        obtain ⟨hp0, pre0, p0, v0, hx0, hg0, hpre0, hpv⟩ := hgen
        have := gopF_wp hΓ (Q := fun e a' w' => ∃ st' η', Q e st' ∧ SR c st' η' a' w') hx0 hhs hslots (fr := (sts i).fr) hlook hg0 hpre0 (by
            by_cases hr : row = .dead
            · exact .inl hr
            · have := hpend i z row hv hif hE hr
              obtain ⟨rfl, rfl⟩ := hpv.resolve_left hr
              exact .inr ⟨this.2.2, this.1, Nat.le_trans hsr0.hs.env.2.1 (hAt.nxAt hr).1⟩)
          (K := wpAny P .any l.toArray (fun e a' w' => ∃ st' η', Q e st' ∧ SR c st' η' a' w') fuel (listed.setIfInBounds i true)) (fun v η' w' hhs' hst hon hrep => by
            refine ih k _ stk η' _ w' (by simpa using hs) hleft' hkl hhs' hdead (by rw [put_size]; exact hsz) hksz (by rw [put_defers]; exact hdf) (fun t => ?_) hkeep (fun j z1 row1 hv1 hl1 hE1 hr1 => ?_) hcl' (fun j hj hEj => ?_) (fun i1 j1 oi oj h1 h2 h3 h4 h5 h6 => ?_) hext hxk hx
            · have hG : frG l E k stk.fr (frS (fun k => (listed.setIfInBounds i true).getD k false) 0 (puts (strip E 0 l) vs) st.fr) t = updO (frG l E k stk.fr (frS (fun k => listed.getD k false) 0 (puts (strip E 0 l) vs) st.fr)) o.dst z t := by
                by_cases ht : tdst l E k t
                · rw [frG_in ht, updO_at, if_neg (hnt t ht).1, frG_in ht]
                · rw [frG_out ht]
                  have := frS_add (S := fun k => listed.getD k false) (puts (strip E 0 l) vs) 0 st.fr i o.dst z (by rw [hpu]) (by simpa using hif) (fun k d' z' hk hlt hSk t hd hd' => by
                    obtain ⟨ok, hlk, hdo⟩ := hput k d' z' hk
                    simp only [Nat.zero_add] at hSk
                    rcases hdo with ⟨hEk, hdo⟩ | ⟨_, hdo⟩
                    · have := hord k ok hlk hEk (by omega) (by
                        simp only [show ¬ k < i by omega, if_false, touch, hd, Bool.or_eq_true]
                        exact .inl (.inl (by rw [← hdo, hd']; simp)))
                      rw [hSk] at this
                      simp at this
                      omega
                    · rw [hdo] at hd'; cases hd')
                  rw [updO_at, frG_out ht, ← updO_at, ← this]
                  congr 1
                  funext k
                  rw [set_getD hs hil, Nat.zero_add]
              rw [hG, put_getD a o.dst v t (by rw [hsz]; exact hAt.dst), updO_at]
              by_cases ed : o.dst = some t
              · rw [if_pos ed, if_pos ed]; exact hrep
              · rw [if_neg ed, if_neg ed]; exact hst.rep (hslots t)
            · rw [set_getD hs hil] at hl1
              have hji : j ≠ i := fun e => by subst e; simp at hl1
              rw [if_neg hji] at hl1
              rw [hon (sts j).nx ?_]
              · exact hpend j z1 row1 hv1 hl1 hE1 hr1
              · by_cases hr : row = .dead
                · exact .inr hr
                · refine .inl fun e => ?_
                  obtain ⟨rfl, rfl⟩ := hpv.resolve_left hr
                  rcases Nat.lt_or_gt_of_ne hji with hlt | hlt
                  · have := hnx j i z1 row1 z row hlt hv1 hv hr1 hr; omega
                  · have := hnx i j z row z1 row1 hlt hv hv1 hr hr1; omega
            · rw [set_getD hs hil, if_neg (fun e => by subst e; rw [hE] at hEj; cases hEj)]
              exact hT j hj hEj
            · rw [set_getD hs hil] at h4
              split at h4
              · cases h4
              · exact hfree i1 j1 oi oj h1 h2 h3 h4 h5 h6)
        split
        · rename_i hw; rw [if_pos hw] at this; exact .inl this
        · rename_i hw; rw [if_neg hw] at this; exact this
      | false =>
        have hmi : m ≤ i := by
          rcases Nat.lt_or_ge i m with h1 | h1
          · rw [hD.early i h1] at hE; cases hE
          · exact h1
        have hki : k ≤ i := by
          have := hT i hil hE
          rw [hif] at this
          have := of_decide_eq_false this.symm
          omega
        have hbet : ∀ j, k ≤ j → j < i → E j = true := fun j h1 h2 => by
          cases hEj : E j with
          | true => rfl
          | false =>
            have h3 := hdone j (hD.tt j i l[j] o h2 (List.getElem?_eq_getElem (by omega)) ho hEj hE)
            rw [hT j (by omega) hEj] at h3
            have := of_decide_eq_true h3
            omega
        have hx1 := xT_skip (i - k) k (by omega) (fun j h1 h2 => hbet j h1 (by omega)) hx
        rw [show k + (i - k) = i by omega] at hx1
        have hdrop : l.drop i = o :: l.drop (i + 1) := by
          rw [List.drop_eq_getElem_cons hil]
          congr 1
          rw [List.getElem?_eq_getElem hil] at ho
          exact Option.some.inj ho
        rw [hdrop, xT, if_neg (by rw [hE]; simp)] at hx1
        have hnew : ∀ i1 oi, l[i1]? = some oi → E i1 = true → listed.getD i1 false = false → (isSt oi = true ∨ G' i1 = true) ∧ (i1 < i → isMv oi = true ∨ G' i1 = true) ∧ (∀ t, o.dst = some t → oi.dst ≠ some t ∧ ¬ t ∈ looks l.toArray oi) ∧ (∀ t, oi.dst = some t → ¬ t ∈ looks l.toArray o) := by
          intro i1 oi h1 hE1 hl1
          rcases Nat.lt_trichotomy i1 i with hlt | rfl | hgt
          · have hb : ((masks [] l).getD i 0).testBit i1 = false := by
              cases hb : ((masks [] l).getD i 0).testBit i1 with
              | false => rfl
              | true => rw [hdone i1 hb] at hl1; cases hl1
            obtain ⟨g2, g3⟩ := hD.et i1 i oi o hlt h1 ho hE1 hE hb
            obtain ⟨u1, u2⟩ := untouch g3
            obtain ⟨z1, row1, _, _, hA1, _⟩ := hat i1 oi (by rw [hsl, h1]; simp [hE1])
            obtain ⟨_, hg1, _⟩ := hA1.pre
            exact ⟨g2.imp (fun g2 => (mv_row g2 hg1).2) (fun h => h), fun _ => g2, u2, fun t ht => (u1 t ht).2⟩
          · rw [hE] at hE1; cases hE1
          · obtain ⟨u1, u2⟩ := untouch (hD.te i i1 o oi hgt ho h1 hE hE1)
            exact ⟨hD.still i1 oi h1 hE1 (by omega), fun h => by omega, u1, fun t ht => (u2 t ht).2⟩
        have hlook : ∀ t ∈ looks l.toArray o, frG l E k stk.fr (frS (fun k => listed.getD k false) 0 (puts (strip E 0 l) vs) st.fr) t = stk.fr t := fun t ht => by
          by_cases htd : tdst l E k t
          · rw [frG_in htd]
          · rw [frG_out htd, hkeep t htd, hfr]
            refine frS_congr _ 0 _ _ rfl fun j d z' hj hd => ?_
            obtain ⟨ok, hlk, hdo⟩ := hput j d z' hj
            simp only [Nat.zero_add]
            rcases hdo with ⟨hEk, hdo⟩ | ⟨_, hdo⟩
            · cases hv : listed.getD j false with
              | true => rfl
              | false => exact absurd ht ((hnew j ok hlk hEk hv).2.2.2 t (by rw [← hdo, hd]))
            · rw [hdo] at hd; cases hd
        have hsrM : SR c ⟨frG l E k stk.fr (frS (fun k => listed.getD k false) 0 (puts (strip E 0 l) vs) st.fr), stk.hp, stk.sz, stk.top, stk.nx, stk.df⟩ η a w := ⟨hhs, hdead, by rw [hsz, hksz], hslots, hdf⟩
        have htd : ∀ t, o.dst ≠ some t → (tdst l E (i + 1) t ↔ tdst l E k t) := fun t ht => by
          constructor
          · rintro ⟨j, oj, h1, h2, h3, h4⟩
            rcases Nat.lt_or_ge j k with g | g
            · exact ⟨j, oj, g, h2, h3, h4⟩
            · rcases Nat.lt_or_ge j i with g2 | g2
              · rw [hbet j g g2] at h2; cases h2
              · obtain rfl : j = i := by omega
                rw [ho] at h3
                obtain rfl := Option.some.inj h3
                exact absurd h4 ht
          · rintro ⟨j, oj, h1, h2, h3, h4⟩
            exact ⟨j, oj, by omega, h2, h3, h4⟩
        have next : ∀ (st' : AS) (η' : Env) (a' : Act) (w' : World), SR (c.here stk.hp stk.nx η w) st' η' a' w' →
            (∃ v, st'.fr = updO (frG l E k stk.fr (frS (fun k => listed.getD k false) 0 (puts (strip E 0 l) vs) st.fr)) o.dst v ∧ st'.sz = stk.sz ∧
              (∀ j z row, vs[j]? = some (z, row) → listed.getD j false = false → E j = true → row ≠ .dead → st'.hp (sts j).top = row) ∧
              Ext (hkS Pk st.hp) st'.hp ∧ xT (hkS Pk st.hp) Pk P Γ l.toArray E Z' (i + 1) (l.drop (i + 1)) ⟨updO stk.fr o.dst v, st'.hp, st'.sz, st'.top, st'.nx, st'.df⟩ kp (Q .normal)) →
            wpAny P .any l.toArray (fun e a' w' => ∃ st' η', Q e st' ∧ SR c st' η' a' w') fuel (listed.setIfInBounds i true) a' w' := by
          rintro st' η' a' w' hsr'' ⟨v, hfr', hsz', hrows, hxk', hx'⟩
          obtain ⟨hsr', hnxle, hnone⟩ := hsrM.back hsr''
          refine ih (i + 1) _ ⟨updO stk.fr o.dst v, st'.hp, st'.sz, st'.top, st'.nx, st'.df⟩ η' a' w' (by simpa using hs) hleft' (by omega) hsr'.hs hsr'.dead (by rw [hsr'.size, hsz', hksz]) (by rw [hsz', hksz]) hsr'.defs (fun t => ?_) (fun t ht => ?_) (fun j z1 row1 hv1 hl1 hE1 hr1 => ?_) hcl' (fun j hj hEj => ?_) (fun i1 j1 oi oj h1 h2 h3 h4 h5 h6 => ?_) (.inl ⟨i, o, ho, hE, by omega⟩) hxk' hx'
          · have := hsr'.slots t
            rw [hfr', updO_at] at this
            by_cases hd : o.dst = some t
            · rw [if_pos hd] at this
              rw [frG_in ⟨i, o, by omega, hE, ho, hd⟩]
              dsimp only
              rw [updO_at, if_pos hd]
              exact this
            · rw [if_neg hd] at this
              by_cases h1 : tdst l E k t
              · have e : frG l E (i + 1) (updO stk.fr o.dst v) (frS (fun k => (listed.setIfInBounds i true).getD k false) 0 (puts (strip E 0 l) vs) st.fr) t = stk.fr t := by
                  rw [frG_in ((htd t hd).2 h1), updO_at, if_neg hd]
                rw [frG_in h1] at this
                dsimp only
                rw [e]
                exact this
              · rw [frG_out fun h => h1 ((htd t hd).1 h)]
                rw [frG_out h1] at this
                have e : frS (fun k => (listed.setIfInBounds i true).getD k false) 0 (puts (strip E 0 l) vs) st.fr t = frS (fun k => listed.getD k false) 0 (puts (strip E 0 l) vs) st.fr t := frS_congr _ 0 _ _ rfl fun j d z' hj hd' => by
                  obtain ⟨ok, hlk, hdo⟩ := hput j d z' hj
                  simp only [Nat.zero_add]
                  rcases hdo with ⟨hEk, hdo⟩ | ⟨_, hdo⟩
                  · rw [set_getD hs hil, if_neg fun e => by subst e; rw [hE] at hEk; cases hEk]
                  · rw [hdo] at hd'; cases hd'
                rw [e]
                exact this
          · have hd : o.dst ≠ some t := fun hd => ht ⟨i, o, by omega, hE, ho, hd⟩
            show updO stk.fr o.dst v t = stm.fr t
            rw [updO_at, if_neg hd]
            exact hkeep t fun h => ht ((htd t hd).2 h)
          · rw [set_getD hs hil] at hl1
            have hji : j ≠ i := fun e => by subst e; simp at hl1
            rw [if_neg hji] at hl1
            obtain ⟨p1, p2, p3⟩ := hpend j z1 row1 hv1 hl1 hE1 hr1
            exact ⟨hnone _ p2 p1, Nat.lt_of_lt_of_le p2 hnxle, hrows j z1 row1 hv1 hl1 hE1 hr1⟩
          · rw [set_getD hs hil]
            by_cases e : j = i
            · subst e; simp
            · rw [if_neg e, hT j hj hEj]
              by_cases h1 : j < k
              · simp [h1]; omega
              · have : ¬ j < i + 1 := fun h2 => by
                  have := hbet j (by omega) (by omega)
                  rw [hEj] at this; cases this
                simp [h1, this]
          · rw [set_getD hs hil] at h4
            split at h4
            · cases h4
            · rcases Nat.lt_or_ge j1 k with g | g
              · exact hfree i1 j1 oi oj h1 h2 h3 h4 h5 g
              · rcases Nat.lt_or_ge j1 i with g2 | g2
                · rw [hbet j1 g g2] at h5; cases h5
                · obtain rfl : j1 = i := by omega
                  rw [ho] at h2
                  obtain rfl := Option.some.inj h2
                  have := hnew i1 oi h1 h3 h4
                  exact ⟨this.1, this.2.2.1⟩
        unfold wpOp
        rw [hoo]
        simp only
        split at hx1
        · rename_i pre z row hg
          obtain ⟨⟨hgd, hd, hp⟩, hxx⟩ := hx1
          obtain ⟨pre', hg', hp'⟩ := gopF_congr (by rw [hgd]; exact trivial) hlook hg hp
          have := gop_wp hΓ hsrM.here (o := o) (pre := pre') (z := z) (row := row) hg' hp' hd (K := wpAny P .any l.toArray (fun e a' w' => ∃ st' η', Q e st' ∧ SR c st' η' a' w') fuel (listed.setIfInBounds i true)) (Q := fun e a' w' => ∃ st' η', Q e st' ∧ SR c st' η' a' w') (fun η' a' w' hsr' => next _ η' a' w' hsr' ⟨z, (put_sz _ _ _ _).2.2, (put_sz _ _ _ _).1, fun j z1 row1 hv1 hl1 hE1 hr1 => by
            have p3 := (hpend j z1 row1 hv1 hl1 hE1 hr1).2.2
            by_cases hr : row = .dead
            · subst hr; exact p3
            · rw [(put_live _ _ _ hr).1, updR_ne _ _ (fun e => by
                have := hdead (sts j).top (by rw [e]; exact Nat.le_refl _)
                rw [p3] at this
                exact hr1 this)]
              exact p3, (Ext.put (st := ⟨frG l E k stk.fr (frS (fun k => listed.getD k false) 0 (puts (strip E 0 l) vs) st.fr), stk.hp, stk.sz, stk.top, stk.nx, stk.df⟩) hxk hdead o.dst z row).1, by cases row <;> exact hxx⟩)
          split
          · rename_i hw; rw [if_pos hw] at this; exact .inl this
          · rename_i hw; rw [if_neg hw] at this; exact this
        · obtain ⟨hgd, hb⟩ := hx1
          rw [if_pos (by simp [Region.wanted, hgd])]
          refine .inl (bopT_mask hΓ (ev_looks hlook) hb (c.here stk.hp stk.nx η w) η a w _ _ hsrM.here fun st' η' a' w' hsr' hk => next st' η' a' w' hsr' ?_)
          obtain ⟨v, h1, h2, ⟨h30, h3⟩, h4⟩ := hk
          refine ⟨v, h1, h2, fun j z1 row1 hv1 hl1 hE1 hr1 => ?_, keepK_ext h30, h4⟩
          have hjl : j < l.length := by
            have := (List.getElem?_eq_some_iff.1 hv1).1
            rw [x8, strip_len] at this
            exact this
          obtain ⟨z2, row2, hv2, _, hA2, _⟩ := hat j l[j] (by rw [hsl, List.getElem?_eq_getElem hjl]; simp [hE1])
          rw [hv1] at hv2
          simp only [Option.some.injEq, Prod.mk.injEq] at hv2
          obtain ⟨rfl, rfl⟩ := hv2
          obtain ⟨_, hg2, _⟩ := hA2.pre
          have hn := hnew j l[j] (List.getElem?_eq_getElem hjl) hE1 hl1
          have hnG : ¬ G' j = true := fun hGj => by
            obtain ⟨z', hz', _⟩ := hG j l[j] (List.getElem?_eq_getElem hjl) (by rw [Nat.zero_add]; exact hE1) (by rw [Nat.zero_add]; exact hGj)
            rw [hv1] at hz'
            simp only [Option.some.injEq, Prod.mk.injEq] at hz'
            exact hr1 hz'.2
          obtain ⟨n1, n2⟩ := st_row (hn.1.resolve_right hnG) hg2 hr1
          rcases Nat.lt_trichotomy j i with hlt | rfl | hgt
          · rw [(hn.2.1 hlt).resolve_right hnG] at n1; cases n1
          · rw [hE] at hE1; cases hE1
          · have hmem := hkp j z1 row1 hv1 hE1 (by omega)
            rw [n2] at hmem
            have := keeps_at h3 hmem hr1 hgt
            exact this
  have hsz : l.toArray.size = l.length := by simp
  rw [hsz]
  have hfalse : ∀ j, (Array.replicate l.length false).getD j false = false := fun j => by
    simp only [Array.getD_eq_getD_getElem?, Array.getElem?_replicate]
    split <;> rfl
  have htd0 : ∀ t, ¬ tdst l E 0 t := by rintro t ⟨j, _, h, _⟩; omega
  refine main l.length 0 (Array.replicate l.length false) stm η0 a0 w0.drew (by simp) ?_ (Nat.zero_le _) hsm x2 hsr0.size x5 (hsr0.defs.trans x6.symm) (fun t => ?_) (fun t _ => rfl) (fun j z row hv _ hE1 hr => ?_) (fun j o _ hS => ?_) (fun j _ _ => by rw [hfalse]; simp) (fun i j _ _ _ _ _ _ _ h => absurd h (Nat.not_lt_zero _)) (.inr rfl) (fun p => ?_) (by simpa using hrest)
  · unfold left
    rw [List.countP_eq_length.2 (fun x _ => by rw [hfalse]; rfl), List.length_range]
  · rw [frG_out (htd0 t)]
    have e : frS (fun i => (Array.replicate l.length false).getD i false) 0 (puts (strip E 0 l) vs) st.fr t = st.fr t := by
      have hc := frS_congr (S := fun i => (Array.replicate l.length false).getD i false) (S' := fun _ => false) (t := t) (puts (strip E 0 l) vs) 0 st.fr st.fr rfl (fun k d z _ _ => hfalse _)
      rw [hc]
      exact frS_none _ _ _ t
    rw [e]
    exact Rep.keep (Fr.refl (fun _ => False) w0).drew (fun _ _ h => h.elim) (fun b _ hb => hLm b hb) _ _ _ _ (Env.le_refl _) (hsr0.slots t)
  · have hjl : j < l.length := by
      have := (List.getElem?_eq_some_iff.1 hv).1
      rw [x8, strip_len] at this
      exact this
    obtain ⟨z', row', hv', _, hA, _⟩ := hat j l[j] (by rw [hsl, List.getElem?_eq_getElem hjl]; simp [hE1])
    rw [hv] at hv'
    simp only [Option.some.injEq, Prod.mk.injEq] at hv'
    obtain ⟨rfl, rfl⟩ := hv'
    exact ⟨hsr0.hs.fresh _ (hA.nxAt hr).1, (hA.nxAt hr).2, hA.rowAt hr⟩
  · simp only [hfalse] at hS
    cases hS
  · rcases hkS_ext Pk st.hp p with h | h
    · exact .inl h
    · rcases x1 p with g | g
      · exact .inl (h.symm.trans g)
      · exact .inr (g.trans h)
end
end Go.Proofs.YthpjjjnbkfnghaaGreatDoor
