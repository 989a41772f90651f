/-
  All operations that leave the world alone, in one; and those that lay a new row, or call a function that is told by its contract.
-/
import Derived.Test.YtainopabnnglgaaAx3
namespace Go.Proofs.Ytainopabnnglgaa
open Go

section
variable {P : Program} {w : World} {η : Env} {L : Nat → Prop}

/-- Two lists, place by place. -/
inductive All2 {α β : Type} (R : α → β → Prop) : List α → List β → Prop where
  | nil : All2 R [] []
  | cons {a : α} {b : β} {l : List α} {m : List β} : R a b → All2 R l m → All2 R (a :: l) (b :: m)

/-! ### structs and arrays that are built -/
theorem foldl_set (off : Nat) : ∀ (l : List Value) (k : Nat) (cs : Array Value), off + k + l.length ≤ cs.size →
    ((l.zipIdx k).foldl (fun (cs : Array Value) (x : Value × Nat) => cs.setIfInBounds (off + x.2) x.1) cs).size = cs.size ∧
    ∀ i, ((l.zipIdx k).foldl (fun (cs : Array Value) (x : Value × Nat) => cs.setIfInBounds (off + x.2) x.1) cs)[i]? = if off + k ≤ i ∧ i < off + k + l.length then l[i - (off + k)]? else cs[i]?
  | [], k, cs, _ => by
    refine ⟨rfl, fun i => ?_⟩
    rw [if_neg (by simp only [List.length_nil]; omega)]
    rfl
  | v :: l, k, cs, h => by
    simp only [List.length_cons] at h
    obtain ⟨h1, h2⟩ := foldl_set off l (k + 1) (cs.setIfInBounds (off + k) v) (by simp; omega)
    simp only [List.zipIdx_cons, List.foldl_cons]
    refine ⟨by rw [h1]; simp, fun i => ?_⟩
    rw [h2 i]
    by_cases hi : i = off + k
    · subst hi
      rw [if_neg (by omega), if_pos (by simp)]
      simp [show off + k < cs.size by omega]
    · by_cases hr : off + (k + 1) ≤ i ∧ i < off + (k + 1) + l.length
      · rw [if_pos hr, if_pos (by simp; omega)]
        obtain ⟨d, rfl⟩ : ∃ d, i = off + (k + 1) + d := ⟨i - (off + (k + 1)), by omega⟩
        rw [show off + (k + 1) + d - (off + (k + 1)) = d by omega, show off + (k + 1) + d - (off + k) = d + 1 by omega]
        rfl
      · rw [if_neg hr, if_neg (by simp; omega), Array.getElem?_setIfInBounds_ne (Ne.symm hi)]

def aFill (place : Nat → Option (Nat × Nat)) (m : Nat) : (Nat → AV) → List (Nat × AV) → Option (Nat → AV)
  | c, [] => some c
  | c, (i, x) :: r => match place i, cellsAV x with
    | some (off, k), some (k', d) => if k' = k ∧ off + k ≤ m then aFill place m (fun j => if off ≤ j ∧ j < off + k then d (j - off) else c j) r else none
    | _, _ => none
theorem run_fill {place : Nat → Option (Nat × Nat)} {m : Nat} : ∀ (l : List (Nat × AV)) (vs : List (Nat × Value)) (c c' : Nat → AV) (cells : Array Value),
    aFill place m c l = some c' → cells.size = m → (∀ j, j < m → ∃ u, cells[j]? = some u ∧ u.oneCell' = true ∧ Rep w η L (c j) u) → All2 (fun a b => a.1 = b.1 ∧ Rep w η L a.2 b.2) l vs →
    ∃ cells', Instr.fill place cells vs = some cells' ∧ cells'.size = m ∧ ∀ j, j < m → ∃ u, cells'[j]? = some u ∧ u.oneCell' = true ∧ Rep w η L (c' j) u := by
  intro l
  induction l with
  | nil =>
    intro vs c c' cells h hm hc hf
    cases hf
    simp only [aFill, Option.some.injEq] at h
    subst h
    exact ⟨cells, rfl, hm, hc⟩
  | cons x l ih =>
    intro vs c c' cells h hm hc hf
    obtain ⟨i, x⟩ := x
    cases hf with
    | cons hx hf =>
      rename_i b vs
      obtain ⟨i', v⟩ := b
      obtain ⟨rfl, hr⟩ := hx
      simp only [aFill] at h
      split at h
      · rename_i off k k' d hp hcl
        split at h
        · rename_i hk
          obtain ⟨rfl, hle⟩ := hk
          obtain ⟨hsz, hcells⟩ := cellsAV_rep hcl hr
          have hs := foldl_set off v.cells.toList 0 cells (by simp [hsz, hm]; omega)
          simp only [Nat.add_zero, Array.length_toList, hsz] at hs
          have e : v.cells.zipIdx.foldl (fun cs (c, j) => cs.setIfInBounds (off + j) c) cells = (v.cells.toList.zipIdx 0).foldl (fun (cs : Array Value) (x : Value × Nat) => cs.setIfInBounds (off + x.2) x.1) cells := by
            rw [← Array.foldl_toList, Array.toList_zipIdx]
          obtain ⟨cells', h1, h2, h3⟩ := ih vs _ c' ((v.cells.toList.zipIdx 0).foldl (fun (cs : Array Value) (x : Value × Nat) => cs.setIfInBounds (off + x.2) x.1) cells) h (by rw [hs.1, hm]) (fun j hj => by
            rw [hs.2 j]
            by_cases hj' : off ≤ j ∧ j < off + k'
            · rw [if_pos hj']
              simp only [hj', and_self, if_true]
              obtain ⟨u, hu, hrep⟩ := hcells (j - off) (by omega)
              exact ⟨u, by simpa using hu, hrep⟩
            · rw [if_neg hj']
              simp only [hj', if_false]
              exact hc j hj) hf
          refine ⟨cells', ?_, h2, h3⟩
          rw [Instr.fill, hp]
          simp only
          rw [if_neg (by simp [hsz, hm]; omega), e]
          exact h1
        · cases h
      · cases h

/-- The offsets and sizes of a struct's fields. -/
def layOf (P : Program) (t : TypeId) : Option (List (Nat × Nat)) :=
  match P.underlying t with
  | some (.struct fs) => some (fs.toList.map fun f => (f.offset, P.cellsOf f.type))
  | _ => none
/-- The cells of a type's zero value. -/
def zeroC (P : Program) (t : TypeId) : Option (List Value) := ((P.info? t).bind (·.zero)).bind fun v => if v.cells.toList.all Value.oneCell' then some v.cells.toList else none
theorem run_zero {t : TypeId} {l : List Value} (h : zeroC P t = some l) : ∃ z, (zeroValue t).run P w = .ok z w ∧ z.cells = l.toArray ∧ l.all Value.oneCell' = true := by
  unfold zeroC at h
  cases hi : P.info? t with
  | none => rw [hi] at h; cases h
  | some i =>
    rw [hi] at h
    cases hz : i.zero with
    | none => simp [hz] at h
    | some z =>
      simp only [hz, Option.bind_some] at h
      split at h
      · rename_i ha
        simp only [Option.some.injEq] at h
        subst h
        exact ⟨z, by simp [zeroValue, typeInfo, hi, hz], by simp, ha⟩
      · cases h
def zC (l : List Value) : Nat → AV := fun j => kCell (l.getD j undef)
theorem zC_rep (l : List Value) (h : l.all Value.oneCell' = true) : ∀ j, j < l.length → ∃ u, l.toArray[j]? = some u ∧ u.oneCell' = true ∧ Rep w η L (zC l j) u := fun j hj =>
  ⟨l[j], by simp [hj], List.all_eq_true.1 h _ (by simp), by simpa [zC, List.getD, List.getElem?_eq_getElem hj] using rep_kCell l[j]⟩

/-- All fields have a size. -/
def sized (P : Program) (t : TypeId) : Bool :=
  match P.underlying t with
  | some (.struct fs) => fs.toList.all fun f => (P.info? f.type).isSome
  | _ => false
def aBuild (P : Program) (t : TypeId) (parts : List (Nat × AV)) : Out :=
  match layOf P t, zeroC P t with
  | some lay, some z => match aFill (fun i => lay[i]?) z.length (zC z) parts with
    | some c => some (sized P t = true, .ag z.length c)
    | none => none
  | _, _ => none
theorem run_mapM {α β : Type} (g : α → Sem β) (h : α → β) : ∀ (l : List α), (∀ f ∈ l, (g f).run P w = .ok (h f) w) → (l.mapM g).run P w = .ok (l.map h) w
  | [], _ => rfl
  | f :: l, hh => by
    rw [List.mapM_cons, Sem.run_bind, hh f (List.mem_cons_self ..)]
    simp only [Result.andThen_ok, Sem.run_bind, run_mapM g h l (fun x hx => hh x (List.mem_cons_of_mem _ hx)), Sem.run_pure, List.map_cons]
theorem run_aBuild {t : TypeId} {parts : List (Nat × AV)} {vs : List (Nat × Value)} {z : AV} {pre : Prop} (h : aBuild P t parts = some (pre, z)) (hpre : pre)
    (hf : All2 (fun a b => a.1 = b.1 ∧ Rep w η L a.2 b.2) parts vs) : ∃ r, (Instr.build t vs.toArray).run P w = .ok r w ∧ Rep w η L z r := by
  unfold aBuild at h
  split at h
  · rename_i lay zl hlay hz
    split at h
    · rename_i c hfill
      simp only [Option.some.injEq, Prod.mk.injEq] at h
      obtain ⟨rfl, rfl⟩ := h
      obtain ⟨zv, hzr, hzc, hz1⟩ := run_zero (w := w) hz
      unfold layOf at hlay
      split at hlay
      · rename_i fs hu
        simp only [Option.some.injEq] at hlay
        subst hlay
        unfold sized at hpre
        rw [hu] at hpre
        simp only at hpre
        obtain ⟨cells', h1, h2, h3⟩ := run_fill parts vs (zC zl) c zl.toArray hfill (by simp) (zC_rep zl hz1) hf
        refine ⟨.agg cells', ?_, cells', rfl, h2, h3⟩
        have hm : (fs.mapM fun f => (do pure (f.offset, ← sizeOf f.type) : Sem (Nat × Nat))).run P w = .ok (fs.toList.map fun f => (f.offset, P.cellsOf f.type)).toArray w := by
          rw [Array.mapM_eq_mapM_toList, Sem.run_map, run_mapM _ (fun f => (f.offset, P.cellsOf f.type)) fs.toList (fun f hf => by
            obtain ⟨i, hi⟩ := Option.isSome_iff_exists.1 (List.all_eq_true.1 hpre f hf)
            simp [sizeOf, typeInfo, hi, Program.cellsOf])]
          rfl
        have e : (fun (i : Nat) => (fs.toList.map fun f => (f.offset, P.cellsOf f.type)).toArray[i]?) = (fun (i : Nat) => (fs.toList.map fun f => (f.offset, P.cellsOf f.type))[i]?) := by funext i; simp
        simp only [Instr.build, Sem.run_bind, hzr, Result.andThen_ok, run_underlying hu, hm, hzc, e, h1, Sem.run_pure]
      · cases hlay
    · cases h
  · cases h

/-! ### in one -/
def aNil : AV → Out
  | .ps m c => some (True, .ps m c)
  | .pt p v j => some (True, .pt p v j)
  | .pe p v sz i j => some (True, .pe p v sz i j)
  | _ => none
def apure (P : Program) (hp : Nat → Row) (ev : Operand → AV) : Op → Out
  | .move x => some (True, ev x)
  | .assign x => some (True, ev x)
  | .pick c x y => aPick (ev c) (ev x) (ev y)
  | .build t parts => aBuild P t (parts.toList.map fun a => (a.1, ev a.2))
  | .load t a => aLoad P hp t (ev a)
  | .nilCheck x => aNil (ev x)
  | .binOp op t x y _ => aBin P op t (ev x) (ev y)
  | .unOp op _ x => aUn op (ev x)
  | .convert s d x => aConv P s d (ev x)
  | .slice t x lo hi none => aSlice P t (ev x) (lo.map ev) (hi.map ev)
  | .fieldAddr s x f => aFieldAddr P s f (ev x)
  | .field t x f => aField P t f (ev x)
  | .indexAddr t x i => aIndexAddr P hp t (ev x) (ev i)
  | .index t x i => aIndex P t (ev x) (ev i)
  | .extract x i => aExtract (ev x) i
  | .makeFunc fn ⟨[]⟩ ⟨[]⟩ => some (True, .val (.func fn #[] #[]))
  | .call ⟨.builtin .len, ⟨[x]⟩, ⟨[t]⟩⟩ => aLen P t (ev x)
  | .call ⟨.builtin .min, ⟨xs⟩, _⟩ => aMin (xs.map ev)
  | .call ⟨.builtin .max, ⟨xs⟩, _⟩ => aMax (xs.map ev)
  | _ => none

theorem rel_map {ev : Operand → AV} {ρ : Operand → Value} (h : ∀ x, Rep w η L (ev x) (ρ x)) (o : Option Operand) : Option.Rel (Rep w η L) (o.map ev) (o.map ρ) := by
  cases o with
  | none => exact .none
  | some x => exact .some (h x)
theorem forall2_map {ev : Operand → AV} {ρ : Operand → Value} (h : ∀ x, Rep w η L (ev x) (ρ x)) : ∀ (l : List (Nat × Operand)),
    All2 (fun (a : Nat × AV) (b : Nat × Value) => a.1 = b.1 ∧ Rep w η L a.2 b.2) (l.map fun a => (a.1, ev a.2)) (l.map fun a => (a.1, ρ a.2))
  | [] => .nil
  | _ :: l => .cons ⟨rfl, h _⟩ (forall2_map h l)
theorem bin_noGuard {op : BinOp} {t : TypeId} {x y : Operand} {a b z : AV} {u v : Value} {pre : Prop} (h : aBin P op t a b = some (pre, z)) (ha : Rep w η L a u) (hb : Rep w η L b v) :
    (eqGuard op t x y u v).run P w = .ok () w := by
  unfold aBin at h
  split at h <;> first
    | (cases ha; cases hb; simp only [eqGuard]; split <;> rfl)
    | cases h

theorem rep_nil {x z : AV} {u : Value} {pre : Prop} (h : aNil x = some (pre, z)) (hx : Rep w η L x u) : Rep w η L z u ∧ ∃ a, u = .pointer (some a) := by
  unfold aNil at h
  split at h <;> first
    | (simp only [Option.some.injEq, Prod.mk.injEq] at h
       obtain ⟨_, rfl⟩ := h
       refine ⟨hx, ?_⟩
       first
         | (obtain ⟨b, o, rfl, _⟩ := hx; exact ⟨_, rfl⟩)
         | (obtain ⟨g, cap, _, rfl⟩ := hx; exact ⟨_, rfl⟩))
    | cases h
theorem run_min2 {l : List AV} {vs : List Value} {z : AV} {pre : Prop} (h : aMin l = some (pre, z)) (hf : All2 (Rep w η L) l vs) : ∃ r, (Builtin.min_ #[] 0 vs.toArray).run P w = .ok r w ∧ Rep w η L z r := by
  unfold aMin at h
  split at h
  · simp only [Option.some.injEq, Prod.mk.injEq] at h
    obtain ⟨_, rfl⟩ := h
    cases hf with | cons h1 hf => cases hf with | cons h2 hf => cases hf; cases h1; cases h2; exact ⟨_, by simp [Builtin.min_, Builtin.min2, min_if], rfl⟩
  · simp only [Option.some.injEq, Prod.mk.injEq] at h
    obtain ⟨_, rfl⟩ := h
    cases hf with | cons h1 hf => cases hf with | cons h2 hf => cases hf with | cons h3 hf => cases hf; cases h1; cases h2; cases h3; exact ⟨_, by simp [Builtin.min_, Builtin.min2, min_if], rfl⟩
  · cases h
theorem run_max2 {l : List AV} {vs : List Value} {z : AV} {pre : Prop} (h : aMax l = some (pre, z)) (hf : All2 (Rep w η L) l vs) : ∃ r, (Builtin.max_ #[] 0 vs.toArray).run P w = .ok r w ∧ Rep w η L z r := by
  unfold aMax at h
  split at h
  · simp only [Option.some.injEq, Prod.mk.injEq] at h
    obtain ⟨_, rfl⟩ := h
    cases hf with | cons h1 hf => cases hf with | cons h2 hf => cases hf; cases h1; cases h2; exact ⟨_, by simp [Builtin.max_, Builtin.max2, max_if], rfl⟩
  · simp only [Option.some.injEq, Prod.mk.injEq] at h
    obtain ⟨_, rfl⟩ := h
    cases hf with | cons h1 hf => cases hf with | cons h2 hf => cases hf with | cons h3 hf => cases hf; cases h1; cases h2; cases h3; exact ⟨_, by simp [Builtin.max_, Builtin.max2, max_if], rfl⟩
  · cases h
theorem all2_map {ev : Operand → AV} {ρ : Operand → Value} (h : ∀ x, Rep w η L (ev x) (ρ x)) : ∀ (l : List Operand), All2 (Rep w η L) (l.map ev) (l.map ρ)
  | [] => .nil
  | _ :: l => .cons (h _) (all2_map h l)
theorem run_apure {hp : Nat → Row} {ev : Operand → AV} {ρ : Operand → Value} {o : Oper} {pre : Prop} {z : AV} (hrows : ∀ p, RowOK w η L (hp p)) (hev : ∀ x, Rep w η L (ev x) (ρ x))
    (h : apure P hp ev o.op = some (pre, z)) (hpre : pre) : ∃ v, (execOp ρ o).run P w = .ok (.value v) w ∧ Rep w η L z v := by
  have fin : ∀ (s : Sem Value), (∃ v, s.run P w = .ok v w ∧ Rep w η L z v) → ∃ v, ((do pure (.value (← s)) : Sem Next)).run P w = .ok (.value v) w ∧ Rep w η L z v := by
    rintro s ⟨v, hv, hr⟩
    exact ⟨v, by simp [hv], hr⟩
  unfold apure at h
  unfold execOp
  split at h <;> rename_i hop <;> (try rw [hop]) <;> simp only
  · simp only [Option.some.injEq, Prod.mk.injEq] at h
    obtain ⟨_, rfl⟩ := h
    exact ⟨_, rfl, hev _⟩
  · simp only [Option.some.injEq, Prod.mk.injEq] at h
    obtain ⟨_, rfl⟩ := h
    exact ⟨_, rfl, hev _⟩
  · rename_i c x y
    obtain ⟨b, hb, hr⟩ := run_aPick h hpre (hev c) (hev x) (hev y)
    exact ⟨_, by rw [hb]; simp [asBool], hr⟩
  · rename_i t parts
    refine fin _ ?_
    have e : (parts.map fun (i, x) => (i, ρ x)) = (parts.toList.map fun a => (a.1, ρ a.2)).toArray := by cases parts; simp
    rw [e]
    exact run_aBuild h hpre (forall2_map hev _)
  · exact fin _ (run_aLoad hrows h hpre (hev _))
  · rename_i x
    obtain ⟨hr, a, ha⟩ := rep_nil h (hev x)
    rw [ha]
    exact ⟨_, rfl, ha ▸ hr⟩
  · rename_i op t x y _
    obtain ⟨r, hr, hz⟩ := run_aBin h hpre (hev x) (hev y)
    exact ⟨r, by simp [bin_noGuard h (hev x) (hev y), hr], hz⟩
  · exact fin _ (run_aUn h hpre (hev _))
  · exact fin _ (run_aConv h hpre (hev _))
  · exact fin _ (run_aSlice h hpre (hev _) (rel_map hev _) (rel_map hev _))
  · exact fin _ (run_aFieldAddr h hpre (hev _))
  · exact fin _ (run_aField h hpre (hev _))
  · exact fin _ (run_aIndexAddr h hpre (hev _) (hev _))
  · exact fin _ (run_aIndex h hpre (hev _) (hev _))
  · exact fin _ (run_aExtract h hpre (hev _))
  · simp only [Option.some.injEq, Prod.mk.injEq] at h
    obtain ⟨_, rfl⟩ := h
    exact ⟨_, rfl, by simp [Rep]⟩
  · rename_i x t
    obtain ⟨r, hr, hz⟩ := run_aLen (P := P) (ty := o.type) h hpre (hev x)
    exact ⟨r, by simp [resolve, invoke, builtin, hr], hz⟩
  · rename_i xs ts
    obtain ⟨r, hr, hz⟩ := run_min2 (P := P) h (all2_map hev xs)
    have hr' : (Builtin.min_ ts o.type (xs.map ρ).toArray).run P w = .ok r w := hr
    exact ⟨r, by simp [resolve, invoke, builtin, hr'], hz⟩
  · rename_i xs ts
    obtain ⟨r, hr, hz⟩ := run_max2 (P := P) h (all2_map hev xs)
    have hr' : (Builtin.max_ ts o.type (xs.map ρ).toArray).run P w = .ok r w := hr
    exact ⟨r, by simp [resolve, invoke, builtin, hr'], hz⟩
  · cases h
end
end Go.Proofs.Ytainopabnnglgaa
