/-
  All operations that leave the world alone, in one; and those that lay a new row, or call a function that is told by its contract.
-/
import Derived.Test.YtljgfacjefebaaaDoorAx3
import Derived.MapKept
import Derived.Laws.Cover3
set_option linter.unusedSimpArgs false
namespace Go.Proofs.YtljgfacjefebaaaDoor
open Go Go.MapKept

section
variable {P : Program} {w : World} {η : Env} {L : Nat → Prop}

/-- Two lists, place by place. -/
inductive All2 {α β : Type} (R : α → β → Prop) : List α → List β → Prop where
  | nil : All2 R [] []
  | cons {a : α} {b : β} {l : List α} {m : List β} : R a b → All2 R l m → All2 R (a :: l) (b :: m)

/-! ### structs and arrays that are built -/
theorem foldl_set (off : Nat) : ∀ (l : List Value) (k : Nat) (cs : Array Value), off + k + l.length ≤ cs.size →
    ((l.zipIdx k).foldl (fun (cs : Array Value) (x : Value × Nat) => cs.setIfInBounds (off + x.2) x.1) cs).size = cs.size ∧
    ∀ i, ((l.zipIdx k).foldl (fun (cs : Array Value) (x : Value × Nat) => cs.setIfInBounds (off + x.2) x.1) cs)[i]? = if off + k ≤ i ∧ i < off + k + l.length then l[i - (off + k)]? else cs[i]?
  | [], k, cs, _ => by
    refine ⟨rfl, fun i => ?_⟩
    rw [if_neg (by simp only [List.length_nil]; omega)]
    rfl
  | v :: l, k, cs, h => by
    simp only [List.length_cons] at h
    obtain ⟨h1, h2⟩ := foldl_set off l (k + 1) (cs.setIfInBounds (off + k) v) (by simp; omega)
    simp only [List.zipIdx_cons, List.foldl_cons]
    refine ⟨by rw [h1]; simp, fun i => ?_⟩
    rw [h2 i]
    by_cases hi : i = off + k
    · subst hi
      rw [if_neg (by omega), if_pos (by simp)]
      simp [show off + k < cs.size by omega]
    · by_cases hr : off + (k + 1) ≤ i ∧ i < off + (k + 1) + l.length
      · rw [if_pos hr, if_pos (by simp; omega)]
        obtain ⟨d, rfl⟩ : ∃ d, i = off + (k + 1) + d := ⟨i - (off + (k + 1)), by omega⟩
        rw [show off + (k + 1) + d - (off + (k + 1)) = d by omega, show off + (k + 1) + d - (off + k) = d + 1 by omega]
        rfl
      · rw [if_neg hr, if_neg (by simp; omega), Array.getElem?_setIfInBounds_ne (Ne.symm hi)]

def aFill (place : Nat → Option (Nat × Nat)) (m : Nat) : (Nat → AV) → List (Nat × AV) → Option (Nat → AV)
  | c, [] => some c
  | c, (i, x) :: r => match place i, cellsAV x with
    | some (off, k), some (k', d) => if k' = k ∧ off + k ≤ m then aFill place m (fun j => if off ≤ j ∧ j < off + k then d (j - off) else c j) r else none
    | _, _ => none
theorem run_fill {place : Nat → Option (Nat × Nat)} {m : Nat} : ∀ (l : List (Nat × AV)) (vs : List (Nat × Value)) (c c' : Nat → AV) (cells : Array Value),
    aFill place m c l = some c' → cells.size = m → (∀ j, j < m → ∃ u, cells[j]? = some u ∧ u.oneCell' = true ∧ Rep w η L (c j) u) → All2 (fun a b => a.1 = b.1 ∧ Rep w η L a.2 b.2) l vs →
    ∃ cells', Instr.fill place cells vs = some cells' ∧ cells'.size = m ∧ ∀ j, j < m → ∃ u, cells'[j]? = some u ∧ u.oneCell' = true ∧ Rep w η L (c' j) u := by
  intro l
  induction l with
  | nil =>
    intro vs c c' cells h hm hc hf
    cases hf
    simp only [aFill, Option.some.injEq] at h
    subst h
    exact ⟨cells, rfl, hm, hc⟩
  | cons x l ih =>
    intro vs c c' cells h hm hc hf
    obtain ⟨i, x⟩ := x
    cases hf with
    | cons hx hf =>
      rename_i b vs
      obtain ⟨i', v⟩ := b
      obtain ⟨rfl, hr⟩ := hx
      simp only [aFill] at h
      split at h
      · rename_i off k k' d hp hcl
        split at h
        · rename_i hk
          obtain ⟨rfl, hle⟩ := hk
          obtain ⟨hsz, hcells⟩ := cellsAV_rep hcl hr
          have hs := foldl_set off v.cells.toList 0 cells (by simp [hsz, hm]; omega)
          simp only [Nat.add_zero, Array.length_toList, hsz] at hs
          have e : v.cells.zipIdx.foldl (fun cs (c, j) => cs.setIfInBounds (off + j) c) cells = (v.cells.toList.zipIdx 0).foldl (fun (cs : Array Value) (x : Value × Nat) => cs.setIfInBounds (off + x.2) x.1) cells := by
            rw [← Array.foldl_toList, Array.toList_zipIdx]
          obtain ⟨cells', h1, h2, h3⟩ := ih vs _ c' ((v.cells.toList.zipIdx 0).foldl (fun (cs : Array Value) (x : Value × Nat) => cs.setIfInBounds (off + x.2) x.1) cells) h (by rw [hs.1, hm]) (fun j hj => by
            rw [hs.2 j]
            by_cases hj' : off ≤ j ∧ j < off + k'
            · rw [if_pos hj']
              simp only [hj', and_self, if_true]
              obtain ⟨u, hu, hrep⟩ := hcells (j - off) (by omega)
              exact ⟨u, by simpa using hu, hrep⟩
            · rw [if_neg hj']
              simp only [hj', if_false]
              exact hc j hj) hf
          refine ⟨cells', ?_, h2, h3⟩
          rw [Instr.fill, hp]
          simp only
          rw [if_neg (by simp [hsz, hm]; omega), e]
          exact h1
        · cases h
      · cases h

/-- The offsets and sizes of a struct's fields. -/
def layOf (P : Program) (t : TypeId) : Option (List (Nat × Nat)) :=
  match P.underlying t with
  | some (.struct fs) => some (fs.toList.map fun f => (f.offset, P.cellsOf f.type))
  | _ => none
/-- The cells of a type's zero value. -/
def zeroC (P : Program) (t : TypeId) : Option (List Value) := ((P.info? t).bind (·.zero)).bind fun v => if v.cells.toList.all Value.oneCell' then some v.cells.toList else none
theorem run_zero {t : TypeId} {l : List Value} (h : zeroC P t = some l) : ∃ z, (zeroValue t).run P w = .ok z w ∧ z.cells = l.toArray ∧ l.all Value.oneCell' = true := by
  unfold zeroC at h
  cases hi : P.info? t with
  | none => rw [hi] at h; cases h
  | some i =>
    rw [hi] at h
    cases hz : i.zero with
    | none => simp [hz] at h
    | some z =>
      simp only [hz, Option.bind_some] at h
      split at h
      · rename_i ha
        simp only [Option.some.injEq] at h
        subst h
        exact ⟨z, by simp [zeroValue, typeInfo, hi, hz], by simp, ha⟩
      · cases h
def zC (l : List Value) : Nat → AV := fun j => kCell (l.getD j undef)
theorem zC_rep (l : List Value) (h : l.all Value.oneCell' = true) : ∀ j, j < l.length → ∃ u, l.toArray[j]? = some u ∧ u.oneCell' = true ∧ Rep w η L (zC l j) u := fun j hj =>
  ⟨l[j], by simp [hj], List.all_eq_true.1 h _ (by simp), by simpa [zC, List.getD, List.getElem?_eq_getElem hj] using rep_kCell l[j]⟩

/-- All fields have a size. -/
def sized (P : Program) (t : TypeId) : Bool :=
  match P.underlying t with
  | some (.struct fs) => fs.toList.all fun f => (P.info? f.type).isSome
  | _ => false
/-- How many cells an array's element has. -/
def arrOf (P : Program) (t : TypeId) : Option Nat :=
  match P.underlying t with
  | some (.array _ e) => if (P.info? e).isSome then some (P.cellsOf e) else none
  | _ => none
def aBuild (P : Program) (t : TypeId) (parts : List (Nat × AV)) : Out :=
  match layOf P t, zeroC P t with
  | some lay, some z => match aFill (fun i => lay[i]?) z.length (zC z) parts with
    | some c => some (sized P t = true, .ag z.length c)
    | none => none
  | none, some z => match arrOf P t with
    | some size => match aFill (fun i => some (i * size, size)) z.length (zC z) parts with
      | some c => some (True, .ag z.length c)
      | none => none
    | none => none
  | _, _ => none
theorem run_mapM {α β : Type} (g : α → Sem β) (h : α → β) : ∀ (l : List α), (∀ f ∈ l, (g f).run P w = .ok (h f) w) → (l.mapM g).run P w = .ok (l.map h) w
  | [], _ => rfl
  | f :: l, hh => by
    rw [List.mapM_cons, Sem.run_bind, hh f (List.mem_cons_self ..)]
    simp only [Result.andThen_ok, Sem.run_bind, run_mapM g h l (fun x hx => hh x (List.mem_cons_of_mem _ hx)), Sem.run_pure, List.map_cons]
theorem run_aBuild {t : TypeId} {parts : List (Nat × AV)} {vs : List (Nat × Value)} {z : AV} {pre : Prop} (h : aBuild P t parts = some (pre, z)) (hpre : pre)
    (hf : All2 (fun a b => a.1 = b.1 ∧ Rep w η L a.2 b.2) parts vs) : ∃ r, (Instr.build t vs.toArray).run P w = .ok r w ∧ Rep w η L z r := by
  unfold aBuild at h
  split at h
  · rename_i lay zl hlay hz
    split at h
    · rename_i c hfill
      simp only [Option.some.injEq, Prod.mk.injEq] at h
      obtain ⟨rfl, rfl⟩ := h
      obtain ⟨zv, hzr, hzc, hz1⟩ := run_zero (w := w) hz
      unfold layOf at hlay
      split at hlay
      · rename_i fs hu
        simp only [Option.some.injEq] at hlay
        subst hlay
        unfold sized at hpre
        rw [hu] at hpre
        simp only at hpre
        obtain ⟨cells', h1, h2, h3⟩ := run_fill parts vs (zC zl) c zl.toArray hfill (by simp) (zC_rep zl hz1) hf
        refine ⟨.agg cells', ?_, cells', rfl, h2, h3⟩
        have hm : (fs.mapM fun f => (do pure (f.offset, ← sizeOf f.type) : Sem (Nat × Nat))).run P w = .ok (fs.toList.map fun f => (f.offset, P.cellsOf f.type)).toArray w := by
          rw [Array.mapM_eq_mapM_toList, Sem.run_map, run_mapM _ (fun f => (f.offset, P.cellsOf f.type)) fs.toList (fun f hf => by
            obtain ⟨i, hi⟩ := Option.isSome_iff_exists.1 (List.all_eq_true.1 hpre f hf)
            simp [sizeOf, typeInfo, hi, Program.cellsOf])]
          rfl
        have e : (fun (i : Nat) => (fs.toList.map fun f => (f.offset, P.cellsOf f.type)).toArray[i]?) = (fun (i : Nat) => (fs.toList.map fun f => (f.offset, P.cellsOf f.type))[i]?) := by funext i; simp
        simp only [Instr.build, Sem.run_bind, hzr, Result.andThen_ok, run_underlying hu, hm, hzc, e, h1, Sem.run_pure]
      · cases hlay
    · cases h
  · rename_i zl hlay hz
    split at h
    · rename_i size harr
      split at h
      · rename_i c hfill
        simp only [Option.some.injEq, Prod.mk.injEq] at h
        obtain ⟨rfl, rfl⟩ := h
        obtain ⟨zv, hzr, hzc, hz1⟩ := run_zero (w := w) hz
        unfold arrOf at harr
        split at harr
        · rename_i n e hu
          split at harr
          · rename_i hi
            simp only [Option.some.injEq] at harr
            subst harr
            obtain ⟨cells', h1, h2, h3⟩ := run_fill parts vs (zC zl) c zl.toArray hfill (by simp) (zC_rep zl hz1) hf
            refine ⟨.agg cells', ?_, cells', rfl, h2, h3⟩
            obtain ⟨i, hi⟩ := Option.isSome_iff_exists.1 hi
            have hm : (sizeOf e).run P w = .ok (P.cellsOf e) w := by simp [sizeOf, typeInfo, hi, Program.cellsOf]
            simp only [Instr.build, Sem.run_bind, hzr, Result.andThen_ok, run_underlying hu, hm, hzc, h1, Sem.run_pure]
          · cases harr
        · cases harr
      · cases h
    · cases h
  · cases h

/-! ### in one -/
def aNil : AV → Out
  | .ps m c => some (True, .ps m c)
  | .pt p v j => some (True, .pt p v j)
  | .pe p v sz i j => some (True, .pe p v sz i j)
  | _ => none
/-! ### maps -/
theorem hit_iff (v : Value) (k : Key) : k.hit v = true ↔ v = k.val := by
  cases k with
  | i n =>
    cases v with
    | int kk m => cases kk <;> simp [Key.val, Key.hit]
    | _ => simp [Key.val, Key.hit]
  | s l => cases v <;> simp [Key.val, Key.hit]
theorem mapAt_hit {e : MapEntry} {es : List MapEntry} {k : Key} (h : e.key = k.val) : mapAt (e :: es) k = some e.val := by
  unfold mapAt
  rw [if_pos ((hit_iff _ _).2 h)]
theorem mapAt_miss {e : MapEntry} {es : List MapEntry} {k : Key} (h : e.key ≠ k.val) : mapAt (e :: es) k = mapAt es k := by
  conv => lhs; unfold mapAt
  rw [if_neg (fun h' => h ((hit_iff _ _).1 h'))]
def kindOf (str : Bool) : TypeDesc := if str then .string else .int .i64
theorem isKey_val (k : Key) : IsKey (kindOf k.isStr) k.val := by cases k <;> simp [kindOf, Key.isStr, IsKey, Key.val]
theorem mapAt_first {k : Key} : ∀ (l : List MapEntry), (∀ x ∈ l, x.key ≠ k.val) → mapAt l k = none
  | [], _ => rfl
  | e :: es, h => by rw [mapAt_miss (h e (List.mem_cons_self ..)), mapAt_first es fun x hx => h x (List.mem_cons_of_mem _ hx)]
theorem find_map {d : TypeDesc} {k : Key} (hk : IsKey d k.val) : ∀ (l : List MapEntry) (i : Nat), (∀ x ∈ l, IsKey d x.key) →
    (Instr.findNow d k.val l i = some none ∧ mapAt l k = none ∧ ∀ x ∈ l, x.key ≠ k.val) ∨
    ∃ j e, Instr.findNow d k.val l i = some (some (i + j, e.val)) ∧ l[j]? = some e ∧ e.key = k.val ∧ mapAt l k = some e.val ∧ ∀ m x, m < j → l[m]? = some x → x.key ≠ k.val
  | [], _, _ => .inl ⟨rfl, rfl, fun _ h => by cases h⟩
  | e :: es, i, h => by
    obtain ⟨r, hr, hiff⟩ := sameNow_of_keys hk (h e (List.mem_cons_self ..))
    cases r with
    | true =>
      have e1 : e.key = k.val := (hiff.1 rfl).symm
      exact .inr ⟨0, e, by simp [Instr.findNow, hr], rfl, e1, mapAt_hit e1, fun m x hm => absurd hm (Nat.not_lt_zero _)⟩
    | false =>
      have hne : e.key ≠ k.val := fun q => by have := hiff.2 q.symm; cases this
      rcases find_map hk es (i + 1) (fun x hx => h x (List.mem_cons_of_mem _ hx)) with ⟨h1, h2, h3⟩ | ⟨j, e', h1, h2, h3, h4, h5⟩
      · refine .inl ⟨by simp [Instr.findNow, hr, h1], by rw [mapAt_miss hne, h2], fun x hx => ?_⟩
        rcases List.mem_cons.1 hx with rfl | hx
        · exact hne
        · exact h3 x hx
      · refine .inr ⟨j + 1, e', by simp [Instr.findNow, hr, h1]; omega, by simpa using h2, h3, by rw [mapAt_miss hne, h4], fun m x hm hx => ?_⟩
        cases m with
        | zero => simp only [List.getElem?_cons_zero, Option.some.injEq] at hx; subst hx; exact hne
        | succ m => exact h5 m x (by omega) (by simpa using hx)
def keyAV : AV → Option Key
  | .val (.int .i64 n) => some (.i n)
  | .st l => some (.s l)
  | _ => none
theorem keyAV_rep {x : AV} {k : Key} {v : Value} (h : keyAV x = some k) (hr : Rep w η L x v) : v = k.val := by
  unfold keyAV at h
  split at h
  · simp only [Option.some.injEq] at h; subst h; exact hr
  · simp only [Option.some.injEq] at h; subst h; exact hr
  · cases h
/-- A type's zero value. -/
def zero1 (P : Program) (t : TypeId) : Option Value := (P.info? t).bind (·.zero)
theorem run_zero1 {t : TypeId} {z : Value} (h : zero1 P t = some z) : (zeroValue t).run P w = .ok z w := by
  unfold zero1 at h
  cases hi : P.info? t with
  | none => rw [hi] at h; cases h
  | some i =>
    rw [hi] at h
    simp only [Option.bind_some] at h
    simp [zeroValue, typeInfo, hi, h]
/-- Two values handed back at once, three. -/
def tu2 (x y : AV) : AV := .tu 2 fun j => if j = 0 then x else y
def tu3 (x y z : AV) : AV := .tu 3 fun j => if j = 0 then x else if j = 1 then y else z
def aLookup (P : Program) (hp : Nat → Row) (t : TypeId) (m k : AV) (ok : Bool) : Out :=
  match P.underlying t, m with
  | some (.map kt et), .mp p ver => match hp p, zero1 P et, keyAV k with
    | .mp v str _ f, some z, some key => some (v = ver ∧ key.isStr = str ∧ P.underlying kt = some (kindOf str),
        if ok then tu2 (.val ((f key).getD z)) (.val (.bool (f key).isSome)) else .val ((f key).getD z))
    | _, _, _ => none
  | _, _ => none
theorem run_aLookup {hp : Nat → Row} {t : TypeId} {m k z : AV} {vm vk : Value} {ok : Bool} {pre : Prop} (hrows : ∀ p, RowOK w η L (hp p)) (h : aLookup P hp t m k ok = some (pre, z)) (hpre : pre)
    (hm : Rep w η L m vm) (hk : Rep w η L k vk) : ∃ r, (Instr.lookup t vm vk ok).run P w = .ok r w ∧ Rep w η L z r := by
  unfold aLookup at h
  split at h
  · rename_i kt et p ver hu
    split at h
    · rename_i v str n f zv key hrow hz hkey
      simp only [Option.some.injEq, Prod.mk.injEq] at h
      obtain ⟨rfl, rfl⟩ := h
      obtain ⟨rfl, rfl, hkt⟩ := hpre
      obtain ⟨g, cap, he, rfl⟩ := hm
      have hr := hrows p
      rw [hrow] at hr
      obtain ⟨b, es, clock, hg, hh, hn, hks, hf⟩ := hr _ _ he
      simp only [Option.some.injEq] at hg
      subst hg
      obtain rfl := keyAV_rep hkey hk
      have hall : ∀ x ∈ es.toList, IsKey (kindOf key.isStr) x.key := fun x hx => by
        obtain ⟨k', e1, e2⟩ := hks x (by simpa using hx)
        rw [e1, ← e2]; exact isKey_val k'
      have hck := fun (emp : Bool) => run_checkKey (P := P) (w := w) hkt (isKey_val key) emp 9999
      have hfk := hf key rfl
      rcases find_map (isKey_val key) es.toList 0 hall with ⟨h1, h2, _⟩ | ⟨j, e, h1, _, _, h4, _⟩
      · rw [h2] at hfk
        have hrun : (Instr.lookup t (.map (some g)) key.val ok).run P w = .ok (if ok then .tuple #[zv, .bool false] else zv) w := by
          simp [Instr.lookup, run_underlying hu, Go.MapKept.run_getObj_map hh, hck, run_findKey hkt h1, run_zero1 (P := P) (w := w) hz, Result.andThen]
        refine ⟨_, hrun, ?_⟩
        rw [← hfk]
        cases ok with
        | false => rfl
        | true =>
          refine ⟨#[zv, .bool false], rfl, rfl, fun j hj => ?_⟩
          match j, hj with
          | 0, _ => exact ⟨_, rfl, rfl⟩
          | 1, _ => exact ⟨_, rfl, rfl⟩
      · rw [h4] at hfk
        have hrun : (Instr.lookup t (.map (some g)) key.val ok).run P w = .ok (if ok then .tuple #[e.val, .bool true] else e.val) w := by
          simp [Instr.lookup, run_underlying hu, Go.MapKept.run_getObj_map hh, hck, run_findKey hkt h1, Result.andThen]
        refine ⟨_, hrun, ?_⟩
        rw [← hfk]
        cases ok with
        | false => rfl
        | true =>
          refine ⟨#[e.val, .bool true], rfl, rfl, fun j hj => ?_⟩
          match j, hj with
          | 0, _ => exact ⟨_, rfl, rfl⟩
          | 1, _ => exact ⟨_, rfl, rfl⟩
    · cases h
  · cases h
def aLenM (P : Program) (hp : Nat → Row) (t : TypeId) (x : AV) : Out :=
  match x with
  | .mp p ver => match P.underlying t, hp p with
    | some (.map _ _), .mp v _ n _ => some (v = ver, .val (.int .i64 n))
    | _, _ => none
  | x => aLen P t x
theorem run_aLenM {hp : Nat → Row} {t ty : TypeId} {x z : AV} {v : Value} {pre : Prop} (hrows : ∀ p, RowOK w η L (hp p)) (h : aLenM P hp t x = some (pre, z)) (hpre : pre) (hx : Rep w η L x v) :
    ∃ r, (Builtin.len_ #[t] ty #[v]).run P w = .ok r w ∧ Rep w η L z r := by
  unfold aLenM at h
  split at h
  · rename_i p ver
    split at h
    · rename_i kt et v' str n f hu hrow
      simp only [Option.some.injEq, Prod.mk.injEq] at h
      obtain ⟨rfl, rfl⟩ := h
      subst hpre
      obtain ⟨g, cap, he, rfl⟩ := hx
      have hr := hrows p
      rw [hrow] at hr
      obtain ⟨b, es, clock, hg, hh, hn, _⟩ := hr _ _ he
      simp only [Option.some.injEq] at hg
      subst hg
      exact ⟨.int .i64 es.size, by simp [Builtin.len_, run_underlying hu, Go.MapKept.run_getObj_map hh, goInt, Result.andThen], by rw [← hn]; rfl⟩
    · cases h
  · exact run_aLen h hpre hx

/-- A slice against nil. -/
def aIsNil (P : Program) (t : TypeId) (x : AV) : Out :=
  match P.underlying t, x with
  | some (.slice _), .sn n sz _ => some (0 < sz, .mb (n = 0))
  | some (.slice _), .em => some (True, .mb True)
  | _, _ => none
theorem run_aIsNil {t : TypeId} {x z : AV} {u : Value} {pre : Prop} (h : aIsNil P t x = some (pre, z)) (hpre : pre) (hx : Rep w η L x u) :
    ∃ r, (binOp .eql t u (.slice none 0 0)).run P w = .ok r w ∧ Rep w η L z r := by
  have key : ∀ (e : TypeId) (a : Option Addr) (n cap : Nat), P.underlying t = some (.slice e) → (binOp .eql t (.slice a n cap) (.slice none 0 0)).run P w = .ok (.bool a.isNone) w := by
    intro e a n cap hu
    have := run_equal_slice_nil (P := P) w t e a n cap hu
    simp only [binOp, Sem.run_bind, this, Result.andThen_ok, Sem.run_pure]
  unfold aIsNil at h
  split at h
  · rename_i e n sz c hu
    simp only [Option.some.injEq, Prod.mk.injEq] at h
    obtain ⟨rfl, rfl⟩ := h
    obtain ⟨a, cap, rfl, _, hc⟩ := hx
    refine ⟨_, key e a n cap hu, _, rfl, fun hn => ?_⟩
    rcases Nat.eq_zero_or_pos n with h0 | h0
    · exact h0
    · obtain ⟨b, off, rfl, _⟩ := hc h0 hpre
      cases hn
  · rename_i e hu
    simp only [Option.some.injEq, Prod.mk.injEq] at h
    obtain ⟨rfl, rfl⟩ := h
    obtain ⟨a, rfl⟩ := hx
    exact ⟨_, key e a 0 0 hu, _, rfl, fun _ => trivial⟩
  · cases h
/-- Two operands in one. -/
def aBinO (P : Program) (ev : Operand → AV) (op : BinOp) (t : TypeId) (x y : Operand) : Out :=
  match op, y with
  | .eql, .const (.slice none 0 0) => aIsNil P t (ev x)
  | op, y => aBin P op t (ev x) (ev y)
theorem aBinO_cases {P : Program} {ev : Operand → AV} {op : BinOp} {t : TypeId} {x y : Operand} {r : Prop × AV} (h : aBinO P ev op t x y = some r) :
    (op = .eql ∧ y = .const (.slice none 0 0) ∧ aIsNil P t (ev x) = some r) ∨ aBin P op t (ev x) (ev y) = some r := by
  unfold aBinO at h
  split at h
  · exact .inl ⟨rfl, rfl, h⟩
  · exact .inr h
def apure (P : Program) (hp : Nat → Row) (ev : Operand → AV) : Op → Out
  | .move x => some (True, ev x)
  | .assign x => some (True, ev x)
  | .pick c x y => aPick (ev c) (ev x) (ev y)
  | .build t parts => aBuild P t (parts.toList.map fun a => (a.1, ev a.2))
  | .load t a => aLoad P hp t (ev a)
  | .nilCheck x => aNil (ev x)
  | .binOp op t x y _ => aBinO P ev op t x y
  | .unOp op _ x => aUn op (ev x)
  | .convert s d x => aConv P s d (ev x)
  | .slice t x lo hi none => aSlice P t (ev x) (lo.map ev) (hi.map ev)
  | .slice t x lo hi (some m) => aSlice3 P t (ev x) (lo.map ev) (hi.map ev) (ev m)
  | .lookup t m k ok => aLookup P hp t (ev m) (ev k) ok
  | .fieldAddr s x f => aFieldAddr P s f (ev x)
  | .field t x f => aField P t f (ev x)
  | .indexAddr t x i => aIndexAddr P hp t (ev x) (ev i)
  | .index t x i => aIndex P t (ev x) (ev i)
  | .extract x i => aExtract (ev x) i
  | .makeFunc fn ⟨[]⟩ ⟨[]⟩ => some (True, .val (.func fn #[] #[]))
  | .call ⟨.builtin .len, ⟨[x]⟩, ⟨[t]⟩⟩ => aLenM P hp t (ev x)
  | .call ⟨.builtin .min, ⟨xs⟩, _⟩ => aMin (xs.map ev)
  | .call ⟨.builtin .max, ⟨xs⟩, _⟩ => aMax (xs.map ev)
  | _ => none

theorem rel_map {ev : Operand → AV} {ρ : Operand → Value} (h : ∀ x, Rep w η L (ev x) (ρ x)) (o : Option Operand) : Option.Rel (Rep w η L) (o.map ev) (o.map ρ) := by
  cases o with
  | none => exact .none
  | some x => exact .some (h x)
theorem forall2_map {ev : Operand → AV} {ρ : Operand → Value} (h : ∀ x, Rep w η L (ev x) (ρ x)) : ∀ (l : List (Nat × Operand)),
    All2 (fun (a : Nat × AV) (b : Nat × Value) => a.1 = b.1 ∧ Rep w η L a.2 b.2) (l.map fun a => (a.1, ev a.2)) (l.map fun a => (a.1, ρ a.2))
  | [] => .nil
  | _ :: l => .cons ⟨rfl, h _⟩ (forall2_map h l)
theorem bin_noGuard {op : BinOp} {t : TypeId} {x y : Operand} {a b z : AV} {u v : Value} {pre : Prop} (h : aBin P op t a b = some (pre, z)) (hpre : pre) (ha : Rep w η L a u) (hb : Rep w η L b v) :
    (eqGuard op t x y u v).run P w = .ok () w := by
  unfold aBin at h
  split at h
  · cases ha; cases hb; simp only [eqGuard]; split <;> rfl
  · cases ha; cases hb; simp only [eqGuard]; split <;> rfl
  · cases ha; cases hb; simp only [eqGuard]; split <;> rfl
  · cases ha; cases hb; simp only [eqGuard]; split <;> rfl
  · cases ha; cases hb; simp only [eqGuard]; split <;> rfl
  · cases ha; cases hb; simp only [eqGuard]; split <;> rfl
  · obtain ⟨xs, rfl, _⟩ := ha
    obtain ⟨ys, rfl, _⟩ := hb
    have : P.eqGuardType P.depth t = false := by
      split at h
      · split at h
        · simp only [Option.some.injEq, Prod.mk.injEq] at h
          obtain ⟨rfl, _⟩ := h
          exact hpre.2.2
        · simp only [Option.some.injEq, Prod.mk.injEq] at h
          obtain ⟨rfl, _⟩ := h
          exact hpre.2.2
        · cases h
      · cases h
    exact run_eqGuard_agg w op t x y xs ys this
  · cases h

theorem rep_nil {x z : AV} {u : Value} {pre : Prop} (h : aNil x = some (pre, z)) (hx : Rep w η L x u) : Rep w η L z u ∧ ∃ a, u = .pointer (some a) := by
  unfold aNil at h
  split at h <;> first
    | (simp only [Option.some.injEq, Prod.mk.injEq] at h
       obtain ⟨_, rfl⟩ := h
       refine ⟨hx, ?_⟩
       first
         | (obtain ⟨b, o, rfl, _⟩ := hx; exact ⟨_, rfl⟩)
         | (obtain ⟨g, cap, _, rfl⟩ := hx; exact ⟨_, rfl⟩))
    | cases h
theorem run_min2 {l : List AV} {vs : List Value} {z : AV} {pre : Prop} (h : aMin l = some (pre, z)) (hf : All2 (Rep w η L) l vs) : ∃ r, (Builtin.min_ #[] 0 vs.toArray).run P w = .ok r w ∧ Rep w η L z r := by
  unfold aMin at h
  split at h
  · simp only [Option.some.injEq, Prod.mk.injEq] at h
    obtain ⟨_, rfl⟩ := h
    cases hf with | cons h1 hf => cases hf with | cons h2 hf => cases hf; cases h1; cases h2; exact ⟨_, by simp [Builtin.min_, Builtin.min2, min_if], rfl⟩
  · simp only [Option.some.injEq, Prod.mk.injEq] at h
    obtain ⟨_, rfl⟩ := h
    cases hf with | cons h1 hf => cases hf with | cons h2 hf => cases hf with | cons h3 hf => cases hf; cases h1; cases h2; cases h3; exact ⟨_, by simp [Builtin.min_, Builtin.min2, min_if], rfl⟩
  · cases h
theorem run_max2 {l : List AV} {vs : List Value} {z : AV} {pre : Prop} (h : aMax l = some (pre, z)) (hf : All2 (Rep w η L) l vs) : ∃ r, (Builtin.max_ #[] 0 vs.toArray).run P w = .ok r w ∧ Rep w η L z r := by
  unfold aMax at h
  split at h
  · simp only [Option.some.injEq, Prod.mk.injEq] at h
    obtain ⟨_, rfl⟩ := h
    cases hf with | cons h1 hf => cases hf with | cons h2 hf => cases hf; cases h1; cases h2; exact ⟨_, by simp [Builtin.max_, Builtin.max2, max_if], rfl⟩
  · simp only [Option.some.injEq, Prod.mk.injEq] at h
    obtain ⟨_, rfl⟩ := h
    cases hf with | cons h1 hf => cases hf with | cons h2 hf => cases hf with | cons h3 hf => cases hf; cases h1; cases h2; cases h3; exact ⟨_, by simp [Builtin.max_, Builtin.max2, max_if], rfl⟩
  · cases h
theorem all2_map {ev : Operand → AV} {ρ : Operand → Value} (h : ∀ x, Rep w η L (ev x) (ρ x)) : ∀ (l : List Operand), All2 (Rep w η L) (l.map ev) (l.map ρ)
  | [] => .nil
  | _ :: l => .cons (h _) (all2_map h l)
theorem run_apure {hp : Nat → Row} {ev : Operand → AV} {ρ : Operand → Value} {o : Oper} {pre : Prop} {z : AV} (hρ : ∀ v, ρ (.const v) = v) (hrows : ∀ p, RowOK w η L (hp p)) (hev : ∀ x, Rep w η L (ev x) (ρ x))
    (h : apure P hp ev o.op = some (pre, z)) (hpre : pre) : ∃ v, (execOp ρ o).run P w = .ok (.value v) w ∧ Rep w η L z v := by
  have fin : ∀ (s : Sem Value), (∃ v, s.run P w = .ok v w ∧ Rep w η L z v) → ∃ v, ((do pure (.value (← s)) : Sem Next)).run P w = .ok (.value v) w ∧ Rep w η L z v := by
    rintro s ⟨v, hv, hr⟩
    exact ⟨v, by simp [hv], hr⟩
  unfold apure at h
  unfold execOp
  split at h <;> rename_i hop <;> (try rw [hop]) <;> simp only
  · simp only [Option.some.injEq, Prod.mk.injEq] at h
    obtain ⟨_, rfl⟩ := h
    exact ⟨_, rfl, hev _⟩
  · simp only [Option.some.injEq, Prod.mk.injEq] at h
    obtain ⟨_, rfl⟩ := h
    exact ⟨_, rfl, hev _⟩
  · rename_i c x y
    obtain ⟨b, hb, hr⟩ := run_aPick h hpre (hev c) (hev x) (hev y)
    exact ⟨_, by rw [hb]; simp [asBool], hr⟩
  · rename_i t parts
    refine fin _ ?_
    have e : (parts.map fun (i, x) => (i, ρ x)) = (parts.toList.map fun a => (a.1, ρ a.2)).toArray := by cases parts; simp
    rw [e]
    exact run_aBuild h hpre (forall2_map hev _)
  · exact fin _ (run_aLoad hrows h hpre (hev _))
  · rename_i x
    obtain ⟨hr, a, ha⟩ := rep_nil h (hev x)
    rw [ha]
    exact ⟨_, rfl, ha ▸ hr⟩
  · rename_i op t x y _
    rcases aBinO_cases h with ⟨rfl, rfl, h⟩ | h
    · obtain ⟨r, hr, hz⟩ := run_aIsNil h hpre (hev x)
      have hc : ρ (.const (.slice none 0 0)) = .slice none 0 0 := hρ _
      have hg : (eqGuard .eql t x (.const (.slice none 0 0)) (ρ x) (.slice none 0 0)).run P w = .ok () w := by
        unfold eqGuard
        cases ρ x <;> rfl
      exact ⟨r, by rw [hc]; simp [hg, hr], hz⟩
    · obtain ⟨r, hr, hz⟩ := run_aBin h hpre (hev x) (hev y)
      exact ⟨r, by simp [bin_noGuard h hpre (hev x) (hev y), hr], hz⟩
  · exact fin _ (run_aUn h hpre (hev _))
  · exact fin _ (run_aConv h hpre (hev _))
  · exact fin _ (run_aSlice h hpre (hev _) (rel_map hev _) (rel_map hev _))
  · exact fin _ (run_aSlice3 h hpre (hev _) (rel_map hev _) (rel_map hev _) (hev _))
  · exact fin _ (run_aLookup hrows h hpre (hev _) (hev _))
  · exact fin _ (run_aFieldAddr h hpre (hev _))
  · exact fin _ (run_aField h hpre (hev _))
  · exact fin _ (run_aIndexAddr h hpre (hev _) (hev _))
  · exact fin _ (run_aIndex h hpre (hev _) (hev _))
  · exact fin _ (run_aExtract h hpre (hev _))
  · simp only [Option.some.injEq, Prod.mk.injEq] at h
    obtain ⟨_, rfl⟩ := h
    exact ⟨_, rfl, by simp [Rep]⟩
  · rename_i x t
    obtain ⟨r, hr, hz⟩ := run_aLenM (P := P) (ty := o.type) hrows h hpre (hev x)
    exact ⟨r, by simp [resolve, invoke, builtin, hr], hz⟩
  · rename_i xs ts
    obtain ⟨r, hr, hz⟩ := run_min2 (P := P) h (all2_map hev xs)
    have hr' : (Builtin.min_ ts o.type (xs.map ρ).toArray).run P w = .ok r w := hr
    exact ⟨r, by simp [resolve, invoke, builtin, hr'], hz⟩
  · rename_i xs ts
    obtain ⟨r, hr, hz⟩ := run_max2 (P := P) h (all2_map hev xs)
    have hr' : (Builtin.max_ ts o.type (xs.map ρ).toArray).run P w = .ok r w := hr
    exact ⟨r, by simp [resolve, invoke, builtin, hr'], hz⟩
  · cases h
end
end Go.Proofs.YtljgfacjefebaaaDoor
