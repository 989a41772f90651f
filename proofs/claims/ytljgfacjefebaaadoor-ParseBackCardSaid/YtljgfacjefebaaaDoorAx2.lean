/-
  What an operation that leaves the world alone comes to, by what its operands read as.
-/
import Derived.Test.YtljgfacjefebaaaDoorAx1
import Derived.Laws.StructEq
import Derived.ChangeKeysEq
set_option linter.unusedSimpArgs false
namespace Go.Proofs.YtljgfacjefebaaaDoor
open Go

section kinds
/-- What a literal reads as. -/
def kCell : Value → AV
  | .string s => .st s.data.toList
  | .slice none 0 0 => .em
  | v => .val v
def kAV : Value → AV
  | .agg cs => if cs.toList.all Value.oneCell' then .ag cs.size fun j => kCell (cs.getD j undef) else .any
  | v => kCell v

variable {w : World} {η : Env} {L : Nat → Prop}

theorem rep_kCell (v : Value) : Rep w η L (kCell v) v := by
  unfold kCell
  split
  · simp [Rep]
  · exact ⟨none, rfl⟩
  · rfl
theorem rep_kAV (v : Value) : Rep w η L (kAV v) v := by
  unfold kAV
  split
  · rename_i cs
    split
    · rename_i ha
      exact ⟨cs, rfl, rfl, fun j hj => ⟨cs[j], by simp [hj], List.all_eq_true.1 ha _ (by simp), by simpa [Array.getD, hj] using rep_kCell cs[j]⟩⟩
    · trivial
  · exact rep_kCell _

/-- What an operand reads as, by what the slots do. -/
def evAV (fr : Nat → AV) : Operand → AV
  | .tmp t => fr t
  | .const v => kAV v
  | .global g => .val (.pointer (some ⟨g, 0, none⟩))
  | .func f => .val (.func (.func f) #[] #[])

theorem rep_ev {fr : Nat → AV} {a : Act} (h : ∀ t, Rep w η L (fr t) (a.tmps.getD t undef)) (x : Operand) : Rep w η L (evAV fr x) (a.eval x) := by
  cases x with
  | tmp t => exact h t
  | const v => exact rep_kAV v
  | global g => rfl
  | func f => rfl
end kinds

/-! ### two values of a type without addresses are the same -/
/-- The parts by which two of a struct or of an array are compared; none: it has none. -/
def eqParts (P : Program) (t : TypeId) : Option (List (Nat × TypeId)) :=
  match P.underlying t with
  | some (.struct fs) => if P.stoodInHeld t then none else some ((fs.toList.filter fun f => decide (f.name ≠ "_")).map fun f => (f.offset, f.type))
  | some (.array n e) => if (P.info? e).isSome then some ((List.range n).map fun i => (i * P.cellsOf e, e)) else none
  | _ => none
def eqLeaf (P : Program) (t : TypeId) (x y : AV) : Option Bool :=
  match P.underlying t, x, y with
  | some .bool, .val (.bool a), .val (.bool b) => some (decide (a = b))
  | some (.int _), .val (.int .i64 a), .val (.int .i64 b) => some (decide (a = b))
  | some (.int _), .val (.int .u8 a), .val (.int .u8 b) => some (decide (a = b))
  | some .string, .st a, .st b => some (decide (a = b))
  | _, _, _ => none
def eqAll (f : Nat → TypeId → Option Bool) : List (Nat × TypeId) → Option Bool
  | [] => some true
  | (o, u) :: r => match f o u, eqAll f r with
    | some a, some b => some (a && b)
    | _, _ => none
def aEq (P : Program) : Nat → TypeId → Nat → (Nat → AV) → (Nat → AV) → Option Bool
  | 0, _, _, _, _ => none
  | d + 1, t, m, x, y => match eqParts P t with
    | some l => eqAll (fun o u => if 0 < P.cellsOf u ∧ o + P.cellsOf u ≤ m then aEq P d u (P.cellsOf u) (fun j => x (o + j)) (fun j => y (o + j)) else none) l
    | none => if 0 < m then eqLeaf P t (x 0) (y 0) else none

section
variable {P : Program} {w : World} {η : Env} {L : Nat → Prop}
/-- A value of this type, by its cells. -/
def OfType (P : Program) (w : World) (η : Env) (L : Nat → Prop) (t : TypeId) (m : Nat) (x : Nat → AV) (v : Value) : Prop :=
  if (eqParts P t).isSome then ∃ cs : Array Value, v = .agg cs ∧ ∀ j, j < m → ∃ u, cs[j]? = some u ∧ Rep w η L (x j) u else Rep w η L (x 0) v
theorem beqDec {α : Type} [BEq α] [LawfulBEq α] [DecidableEq α] (a b : α) : (a == b) = decide (a = b) := by rw [Bool.eq_iff_iff]; simp
theorem run_eqLeaf {t : TypeId} {x y : AV} {u v : Value} {b : Bool} (d : Nat) (h : eqLeaf P t x y = some b) (hx : Rep w η L x u) (hy : Rep w η L y v) : (Op.equalIn (d + 1) t u v).run P w = .ok b w := by
  unfold eqLeaf at h
  split at h
  · rename_i hu
    simp only [Option.some.injEq] at h; subst h; cases hx; cases hy
    rw [run_equalIn_bool w d t _ _ hu, beqDec]
  · rename_i hu
    simp only [Option.some.injEq] at h; subst h; cases hx; cases hy
    rw [run_equalIn_int w d t _ _ _ _ hu, beqDec]
  · rename_i hu
    simp only [Option.some.injEq] at h; subst h; cases hx; cases hy
    rw [run_equalIn_int w d t _ _ _ _ hu, beqDec]
  · rename_i hu
    simp only [Option.some.injEq] at h; subst h; cases hx; cases hy
    rw [run_equalIn_string w d t _ _ hu]
    simp [ByteArray.toList_eq, beqDec]
  · cases h
end

/-- A condition, and what it comes to under it. -/
abbrev Out := Option (Prop × AV)

def aI64 (op : BinOp) (a b : Int) : Out :=
  match op with
  | .add => some (-9223372036854775808 ≤ a + b ∧ a + b ≤ 9223372036854775807, .val (.int .i64 (a + b)))
  | .sub => some (-9223372036854775808 ≤ a - b ∧ a - b ≤ 9223372036854775807, .val (.int .i64 (a - b)))
  | .mul => some (-9223372036854775808 ≤ a * b ∧ a * b ≤ 9223372036854775807, .val (.int .i64 (a * b)))
  | .quo => some (b ≠ 0 ∧ -9223372036854775808 ≤ a.tdiv b ∧ a.tdiv b ≤ 9223372036854775807, .val (.int .i64 (a.tdiv b)))
  | .rem => some (b ≠ 0, .val (.int .i64 (a.tmod b)))
  | .eql => some (True, .val (.bool (decide (a = b))))
  | .neq => some (True, .val (.bool (decide (a ≠ b))))
  | .lss => some (True, .val (.bool (decide (a < b))))
  | .leq => some (True, .val (.bool (decide (a ≤ b))))
  | .gtr => some (True, .val (.bool (decide (b < a))))
  | .geq => some (True, .val (.bool (decide (b ≤ a))))
  | _ => none
def aInt (k : IntKind) (op : BinOp) (a b : Int) : Out :=
  match op with
  | .add => some (True, .val (.int k (k.wrap (a + b))))
  | .sub => some (True, .val (.int k (k.wrap (a - b))))
  | .mul => some (True, .val (.int k (k.wrap (a * b))))
  | .quo => some (b ≠ 0, .val (.int k (k.wrap (a.tdiv b))))
  | .rem => some (b ≠ 0, .val (.int k (a.tmod b)))
  | .eql => some (True, .val (.bool (decide (a = b))))
  | .neq => some (True, .val (.bool (decide (a ≠ b))))
  | .lss => some (True, .val (.bool (decide (a < b))))
  | .leq => some (True, .val (.bool (decide (a ≤ b))))
  | .gtr => some (True, .val (.bool (decide (b < a))))
  | .geq => some (True, .val (.bool (decide (b ≤ a))))
  | _ => none
def aStr (op : BinOp) (a b : List UInt8) : Out :=
  match op with
  | .add => some (a.length + b.length ≤ 9223372036854775807, .st (a ++ b))
  | .eql => some (True, .val (.bool (decide (a = b))))
  | .neq => some (True, .val (.bool (decide (a ≠ b))))
  | _ => none
def aBin (P : Program) (op : BinOp) (t : TypeId) (x y : AV) : Out :=
  match x, y with
  | .val (.int .i64 a), .val (.int .i64 b) => aI64 op a b
  | .val (.int .u8 a), .val (.int .u8 b) => aInt .u8 op a b
  | .val (.int .u64 a), .val (.int .u64 b) => aInt .u64 op a b
  | .val (.int .i32 a), .val (.int .i32 b) => aInt .i32 op a b
  | .st a, .st b => aStr op a b
  | .val (.bool a), .val (.bool b) =>
    match op with
    | .eql => some (P.underlying t = some .bool, .val (.bool (decide (a = b))))
    | .neq => some (P.underlying t = some .bool, .val (.bool (decide (a ≠ b))))
    | _ => none
  | .ag m c, .ag m' e => match aEq P 12 t m c e with
    | some b => match op with
      | .eql => some (m' = m ∧ (eqParts P t).isSome = true ∧ P.eqGuardType P.depth t = false, .val (.bool b))
      | .neq => some (m' = m ∧ (eqParts P t).isSome = true ∧ P.eqGuardType P.depth t = false, .val (.bool (!b)))
      | _ => none
    | none => none
  | _, _ => none

section
variable {P : Program} {w : World}
theorem wrap_i64 (n : Int) (h : -9223372036854775808 ≤ n ∧ n ≤ 9223372036854775807) : IntKind.i64.wrap n = n := by
  unfold IntKind.wrap
  simp only [IntKind.bits, IntKind.signed]
  simp
  omega

theorem run_aI64 {op : BinOp} {a b : Int} {pre : Prop} {x : AV} {η : Env} {L : Nat → Prop} {t : TypeId} (h : aI64 op a b = some (pre, x)) (hp : pre) :
    ∃ v, (binOp op t (.int .i64 a) (.int .i64 b)).run P w = .ok v w ∧ Rep w η L x v := by
  cases op <;> simp only [aI64, reduceCtorEq, Option.some.injEq, Prod.mk.injEq] at h <;>
    (obtain ⟨rfl, rfl⟩ := h
     refine ⟨_, ?_, rfl⟩
     first
       | (simp [binOp, Op.intArith, wrap_i64 _ hp]; done)
       | (simp [binOp, Op.intDiv, hp.1, wrap_i64 _ hp.2]; done)
       | (simp [binOp, Op.intDiv, hp]; done)
       | (simp [binOp, Op.intCmp]; done)
       | (simp [binOp, Op.intCmp]; rfl))
theorem run_aInt {k : IntKind} {op : BinOp} {a b : Int} {pre : Prop} {x : AV} {η : Env} {L : Nat → Prop} {t : TypeId} (h : aInt k op a b = some (pre, x)) (hp : pre) :
    ∃ v, (binOp op t (.int k a) (.int k b)).run P w = .ok v w ∧ Rep w η L x v := by
  cases op <;> simp only [aInt, reduceCtorEq, Option.some.injEq, Prod.mk.injEq] at h <;>
    (obtain ⟨rfl, rfl⟩ := h
     refine ⟨_, ?_, rfl⟩
     first
       | (simp [binOp, Op.intArith]; done)
       | (simp [binOp, Op.intDiv, hp]; done)
       | (simp [binOp, Op.intCmp]; done)
       | (simp [binOp, Op.intCmp]; rfl))
theorem beq_dec {α : Type} [BEq α] [LawfulBEq α] [DecidableEq α] (a b : α) : (a == b) = decide (a = b) := by rw [Bool.eq_iff_iff]; simp
theorem i64max : IntKind.i64.max = 9223372036854775807 := rfl
theorem run_aStr {op : BinOp} {a b : List UInt8} {pre : Prop} {x : AV} {η : Env} {L : Nat → Prop} {t : TypeId} (h : aStr op a b = some (pre, x)) (hp : pre) :
    ∃ v, (binOp op t (.string ⟨a.toArray⟩) (.string ⟨b.toArray⟩)).run P w = .ok v w ∧ Rep w η L x v := by
  cases op <;> simp only [aStr, reduceCtorEq, Option.some.injEq, Prod.mk.injEq] at h <;>
    (obtain ⟨rfl, rfl⟩ := h
     refine ⟨_, ?_, rfl⟩)
  case add =>
    simp only [binOp, Op.stringOp, i64max, ByteArray.size_mk', List.size_toArray, ByteArray.mk_append_mk]
    rw [if_neg (by omega)]
    rfl
  all_goals (simp [binOp, Op.stringOp, beq_dec])
/-! ### sizes, loads, addresses -/
theorem run_sizeOf' {t : TypeId} {k : Nat} (h : P.cellsOf t = k) (hk : 0 < k) : (sizeOf t).run P w = .ok k w := by
  unfold Program.cellsOf at h
  cases hi : P.info? t with
  | none => rw [hi] at h; simp at h; omega
  | some i => rw [hi] at h; simp at h; subst h; simp [sizeOf, typeInfo, hi]

/-- Is it a struct or an array? -/
def aggT (P : Program) (t : TypeId) : Option Bool := (P.underlying t).map fun | .struct _ => true | .array _ _ => true | _ => false
theorem run_isAgg {t : TypeId} {b : Bool} (h : aggT P t = some b) : (isAgg t).run P w = .ok b w := by
  unfold aggT at h
  cases hu : P.underlying t with
  | none => rw [hu] at h; cases h
  | some d =>
    rw [hu] at h
    simp only [Option.map_some, Option.some.injEq] at h
    subst h
    unfold isAgg
    simp only [Sem.run_bind, run_underlying hu, Result.andThen_ok]
    cases d <;> rfl
theorem add_off (b o j : Nat) : (⟨b, o, none⟩ : Addr).add j = ⟨b, o + j, none⟩ := by
  unfold Addr.add; split <;> simp_all

theorem Rep.up {w : World} {η : Env} {L : Nat → Prop} {x : AV} {v : Value} (h : Rep w noEnv L x v) : Rep w η L x v :=
  Rep.keep (O := fun _ => False) (Fr.refl _ w) (fun _ _ h => h.elim) (fun _ _ h => h) x noEnv η v (fun _ _ h => by cases h) h
/-- Cells that read as this, loaded as one value of a type. -/
theorem run_load_cells {η η' : Env} {L : Nat → Prop} (hη : ∀ x v, Rep w η L x v → Rep w η' L x v) {t : TypeId} {ag : Bool} (ht : aggT P t = some ag) {b off m : Nat} {c : Nat → AV} (hk : P.cellsOf t ≤ m) (h0 : 0 < P.cellsOf t) (h1 : ag = false → P.cellsOf t = 1)
    (hc : ∀ j, j < m → ∃ u, w.cell? ⟨b, off + j, none⟩ = some u ∧ u.oneCell' = true ∧ Rep w η L (c j) u) :
    ∃ v, (loadVar t ⟨b, off, none⟩).run P w = .ok v w ∧ Rep w η' L (if ag then .ag (P.cellsOf t) c else c 0) v := by
  unfold loadVar
  simp only [Sem.run_bind, run_isAgg ht, Result.andThen_ok]
  cases ag with
  | true =>
    simp only [if_true, Sem.run_bind, run_sizeOf' rfl h0, Result.andThen_ok]
    have hf : ∀ j, ∃ u, j < P.cellsOf t → w.cell? ⟨b, off + j, none⟩ = some u ∧ u.oneCell' = true ∧ Rep w η L (c j) u := fun j => by
      by_cases hj : j < P.cellsOf t
      · obtain ⟨u, h⟩ := hc j (by omega); exact ⟨u, fun _ => h⟩
      · exact ⟨undef, fun h => absurd h hj⟩
    have hr := run_loadCells (P := P) w ⟨b, off, none⟩ (P.cellsOf t) (fun j => (hf j).choose) (fun j hj => by rw [add_off]; exact ((hf j).choose_spec hj).1)
    refine ⟨_, by rw [hr]; rfl, _, rfl, by simp, fun j hj => ⟨(hf j).choose, by simp [hj], ((hf j).choose_spec hj).2.1, hη _ _ ((hf j).choose_spec hj).2.2⟩⟩
  | false =>
    obtain ⟨u, hu, _, hr⟩ := hc 0 (by omega)
    refine ⟨u, ?_, hη _ _ hr⟩
    simp only [Bool.false_eq_true, if_false, run_load, Nat.add_zero] at hu ⊢
    rw [hu]

def aLoad (P : Program) (hp : Nat → Row) (t : TypeId) (x : AV) : Out :=
  match aggT P t, x with
  | some true, .ps m c => some (0 < P.cellsOf t ∧ P.cellsOf t ≤ m, .ag (P.cellsOf t) c)
  | some false, .ps m c => some (P.cellsOf t = 1 ∧ 0 < m, c 0)
  | some true, .pt p ver j => match hp p with
    | .box v _ m c => some (v = ver ∧ 0 < P.cellsOf t ∧ j + P.cellsOf t ≤ m, .ag (P.cellsOf t) fun i => c (j + i))
    | _ => none
  | some false, .pt p ver j => match hp p with
    | .box v _ m c => some (v = ver ∧ P.cellsOf t = 1 ∧ j < m, c j)
    | _ => none
  | some true, .pe p ver sz i j => match hp p with
    | .sl v _ sz' n c => some (v = ver ∧ sz' = sz ∧ i < n ∧ 0 < P.cellsOf t ∧ j + P.cellsOf t ≤ sz, .ag (P.cellsOf t) fun k => c i (j + k))
    | _ => none
  | some false, .pe p ver sz i j => match hp p with
    | .sl v _ sz' n c => some (v = ver ∧ sz' = sz ∧ i < n ∧ P.cellsOf t = 1 ∧ j < sz, c i j)
    | _ => none
  | _, _ => none

theorem cell_heap {b k : Nat} {cur : Array Value} {e : TypeId} {f : Nat × Nat} (h : w.heap[b]? = some (.cells cur e f)) : w.cell? ⟨b, k, none⟩ = cur[k]? := by
  simp [World.cell?, h]

theorem run_aLoad {hp : Nat → Row} {t : TypeId} {x z : AV} {u : Value} {pre : Prop} {η : Env} {L : Nat → Prop} (hrows : ∀ p, RowOK w η L (hp p)) (h : aLoad P hp t x = some (pre, z)) (hpre : pre)
    (hx : Rep w η L x u) : ∃ v, (Instr.loadAt t u).run P w = .ok v w ∧ Rep w η L z v := by
  unfold aLoad at h
  split at h
  · -- immutable, whole
    rename_i ht
    simp only [Option.some.injEq, Prod.mk.injEq] at h
    obtain ⟨rfl, rfl⟩ := h
    obtain ⟨b, off, rfl, _, hc⟩ := hx
    have := run_load_cells (P := P) (w := w) (η := noEnv) (η' := η) (L := L) (fun x v h => Rep.up h) ht hpre.2 hpre.1 (by simp) hc
    simpa [Instr.loadAt, Instr.sureAddr] using this
  · rename_i ht
    simp only [Option.some.injEq, Prod.mk.injEq] at h
    obtain ⟨rfl, rfl⟩ := h
    obtain ⟨b, off, rfl, _, hc⟩ := hx
    have := run_load_cells (P := P) (w := w) (η := noEnv) (η' := η) (L := L) (fun x v h => Rep.up h) ht (m := 1) (by omega) (by omega) (fun _ => hpre.1) (fun j hj => hc j (by omega))
    simpa [Instr.loadAt, Instr.sureAddr] using this
  · rename_i p ver j ht
    split at h
    · rename_i v e m c hrow
      simp only [Option.some.injEq, Prod.mk.injEq] at h
      obtain ⟨rfl, rfl⟩ := h
      obtain ⟨rfl, h0, hm⟩ := hpre
      obtain ⟨g, cap, hη, rfl⟩ := hx
      have hr := hrows p
      rw [hrow] at hr
      obtain ⟨b, cur, hb, hh, hsz, hc⟩ := hr _ _ hη
      obtain rfl : g = b := by simpa using hb
      have := run_load_cells (P := P) (w := w) (η := η) (η' := η) (L := L) (fun _ _ h => h) ht (b := g) (off := j) (m := P.cellsOf t) (c := fun i => c (j + i)) (by omega) h0 (by simp) (fun i hi => by
        obtain ⟨u, hu, hrep⟩ := hc (j + i) (by omega)
        exact ⟨u, by rw [cell_heap hh]; exact hu, hrep⟩)
      simpa [Instr.loadAt, Instr.sureAddr] using this
    · cases h
  · rename_i p ver j ht
    split at h
    · rename_i v e m c hrow
      simp only [Option.some.injEq, Prod.mk.injEq] at h
      obtain ⟨rfl, rfl⟩ := h
      obtain ⟨rfl, h1, hm⟩ := hpre
      obtain ⟨g, cap, hη, rfl⟩ := hx
      have hr := hrows p
      rw [hrow] at hr
      obtain ⟨b, cur, hb, hh, hsz, hc⟩ := hr _ _ hη
      obtain rfl : g = b := by simpa using hb
      have := run_load_cells (P := P) (w := w) (η := η) (η' := η) (L := L) (fun _ _ h => h) ht (b := g) (off := j) (m := 1) (c := fun i => c (j + i)) (by omega) (by omega) (fun _ => h1) (fun i hi => by
        obtain ⟨u, hu, hrep⟩ := hc (j + i) (by omega)
        exact ⟨u, by rw [cell_heap hh]; exact hu, hrep⟩)
      simpa [Instr.loadAt, Instr.sureAddr] using this
    · cases h
  · rename_i p ver sz i j ht
    split at h
    · rename_i v e sz' n c hrow
      simp only [Option.some.injEq, Prod.mk.injEq] at h
      obtain ⟨rfl, rfl⟩ := h
      obtain ⟨rfl, rfl, hi, h0, hm⟩ := hpre
      obtain ⟨g, cap, hη, rfl⟩ := hx
      have hr := hrows p
      rw [hrow] at hr
      obtain ⟨cur, hh, hsz, hn, hcm, hc⟩ := hr _ _ hη
      have := run_load_cells (P := P) (w := w) (η := η) (η' := η) (L := L) (fun _ _ h => h) ht (b := g) (off := i * sz' + j) (m := P.cellsOf t) (c := fun k => c i (j + k)) (by omega) h0 (by simp) (fun k hk => by
        obtain ⟨u, hu, hrep⟩ := hc i hi (j + k) (by omega)
        exact ⟨u, by rw [cell_heap hh, Nat.add_assoc]; exact hu, hrep⟩)
      simpa [Instr.loadAt, Instr.sureAddr] using this
    · cases h
  · rename_i p ver sz i j ht
    split at h
    · rename_i v e sz' n c hrow
      simp only [Option.some.injEq, Prod.mk.injEq] at h
      obtain ⟨rfl, rfl⟩ := h
      obtain ⟨rfl, rfl, hi, h1, hm⟩ := hpre
      obtain ⟨g, cap, hη, rfl⟩ := hx
      have hr := hrows p
      rw [hrow] at hr
      obtain ⟨cur, hh, hsz, hn, hcm, hc⟩ := hr _ _ hη
      have := run_load_cells (P := P) (w := w) (η := η) (η' := η) (L := L) (fun _ _ h => h) ht (b := g) (off := i * sz' + j) (m := 1) (c := fun k => c i (j + k)) (by omega) (by omega) (fun _ => h1) (fun k hk => by
        obtain ⟨u, hu, hrep⟩ := hc i hi (j + k) (by omega)
        exact ⟨u, by rw [cell_heap hh, Nat.add_assoc]; exact hu, hrep⟩)
      simpa [Instr.loadAt, Instr.sureAddr] using this
    · cases h
  · cases h

/-- The place and the type of a struct's field. -/
def fld (P : Program) (s : TypeId) (f : Nat) : Option (Nat × TypeId) :=
  match P.underlying s with
  | some (.struct fs) => (fs[f]?).map fun x => (x.offset, x.type)
  | _ => none
theorem fld_spec {s : TypeId} {f off : Nat} {t : TypeId} (h : fld P s f = some (off, t)) : ∃ fs x, P.underlying s = some (.struct fs) ∧ fs[f]? = some x ∧ x.offset = off ∧ x.type = t := by
  unfold fld at h
  split at h
  · rename_i fs hu
    cases hf : fs[f]? with
    | none => rw [hf] at h; cases h
    | some x =>
      rw [hf] at h
      simp only [Option.map_some, Option.some.injEq, Prod.mk.injEq] at h
      exact ⟨fs, x, hu, hf, h.1, h.2⟩
  · cases h

def aFieldAddr (P : Program) (s : TypeId) (f : Nat) (x : AV) : Out :=
  match fld P s f, x with
  | some (off, t), .ps m c => some (0 < P.cellsOf t ∧ off ≤ m, .ps (m - off) fun j => c (off + j))
  | some (off, t), .pt p ver j => some (0 < P.cellsOf t, .pt p ver (j + off))
  | some (off, t), .pe p ver sz i j => some (0 < P.cellsOf t, .pe p ver sz i (j + off))
  | _, _ => none
theorem run_fieldAt {s : TypeId} {f off : Nat} {t : TypeId} (h : fld P s f = some (off, t)) (ht : 0 < P.cellsOf t) (b o : Nat) :
    (Instr.fieldAt s (.pointer (some ⟨b, o, none⟩)) f).run P w = .ok (.pointer (some ⟨b, o + off, none⟩)) w := by
  obtain ⟨fs, x, hu, hf, rfl, rfl⟩ := fld_spec h
  have hne : P.cellsOf x.type ≠ 0 := by omega
  simp [Instr.fieldAt, run_underlying hu, hf, Instr.sureAddr, fieldPlace, run_sizeOf' (P := P) (w := w) rfl ht, hne, add_off]
theorem run_aFieldAddr {s : TypeId} {f : Nat} {x z : AV} {u : Value} {pre : Prop} {η : Env} {L : Nat → Prop} (h : aFieldAddr P s f x = some (pre, z)) (hpre : pre)
    (hx : Rep w η L x u) : ∃ v, (Instr.fieldAt s u f).run P w = .ok v w ∧ Rep w η L z v := by
  unfold aFieldAddr at h
  split at h
  · rename_i off t m c hf
    simp only [Option.some.injEq, Prod.mk.injEq] at h
    obtain ⟨rfl, rfl⟩ := h
    obtain ⟨b, o, rfl, hL, hc⟩ := hx
    exact ⟨_, run_fieldAt hf hpre.1 b o, b, o + off, rfl, fun h0 => hL (by omega), fun j hj => by
      obtain ⟨u, hu, hr⟩ := hc (off + j) (by omega)
      exact ⟨u, by rw [Nat.add_assoc]; exact hu, hr⟩⟩
  · rename_i off t p ver j hf
    simp only [Option.some.injEq, Prod.mk.injEq] at h
    obtain ⟨rfl, rfl⟩ := h
    obtain ⟨g, cap, hη, rfl⟩ := hx
    exact ⟨_, run_fieldAt hf hpre g j, g, cap, hη, rfl⟩
  · rename_i off t p ver sz i j hf
    simp only [Option.some.injEq, Prod.mk.injEq] at h
    obtain ⟨rfl, rfl⟩ := h
    obtain ⟨g, cap, hη, rfl⟩ := hx
    exact ⟨_, run_fieldAt hf hpre g (i * sz + j), g, cap, hη, by rw [Nat.add_assoc]⟩
  · cases h

def aIndexAddr (P : Program) (hp : Nat → Row) (t : TypeId) (x i : AV) : Out :=
  match P.underlying t, x, i with
  | some (.slice e), .sn n sz c, .val (.int .i64 k) => some (P.cellsOf e = sz ∧ 0 < sz ∧ 0 ≤ k ∧ k < n, .ps sz (c k.toNat))
  | some (.slice e), .ow p ver n, .val (.int .i64 k) => match hp p with
    | .sl v _ sz _ _ => some (v = ver ∧ P.cellsOf e = sz ∧ 0 < sz ∧ 0 ≤ k ∧ k < n, .pe p ver sz k.toNat 0)
    | _ => none
  | some (.array n e), .ps m c, .val (.int .i64 k) => some (0 < P.cellsOf e ∧ n * P.cellsOf e ≤ m ∧ 0 ≤ k ∧ k < n, .ps (m - k.toNat * P.cellsOf e) fun j => c (k.toNat * P.cellsOf e + j))
  | some (.array n e), .pt p ver j, .val (.int .i64 k) => some (0 < P.cellsOf e ∧ 0 ≤ k ∧ k < n, .pt p ver (j + k.toNat * P.cellsOf e))
  | some (.array n e), .pe p ver sz i j, .val (.int .i64 k) => some (0 < P.cellsOf e ∧ 0 ≤ k ∧ k < n, .pe p ver sz i (j + k.toNat * P.cellsOf e))
  | _, _, _ => none
theorem run_indexAt_slice {t e : TypeId} {sz : Nat} (hu : P.underlying t = some (.slice e)) (hs : P.cellsOf e = sz) (h0 : 0 < sz) {b o len cap : Nat} {k : Int} (hk : 0 ≤ k ∧ k < len) :
    (Instr.indexAt t (.slice (some ⟨b, o, none⟩) len cap) (.int .i64 k)).run P w = .ok (.pointer (some ⟨b, o + k.toNat * sz, none⟩)) w := by
  simp [Instr.indexAt, asIntOf, run_underlying hu, hk, run_sizeOf' (P := P) (w := w) hs h0, add_off]
theorem run_indexAt_array {t e : TypeId} {n : Nat} (hu : P.underlying t = some (.array n e)) (h0 : 0 < P.cellsOf e) {b o : Nat} {k : Int} (hk : 0 ≤ k ∧ k < n) :
    (Instr.indexAt t (.pointer (some ⟨b, o, none⟩)) (.int .i64 k)).run P w = .ok (.pointer (some ⟨b, o + k.toNat * P.cellsOf e, none⟩)) w := by
  simp [Instr.indexAt, asIntOf, run_underlying hu, Instr.sureAddr, hk, run_sizeOf' (P := P) (w := w) rfl h0, add_off]
theorem toNat_lt' {k : Int} {n : Nat} (h : 0 ≤ k ∧ k < n) : k.toNat < n := by omega
theorem run_aIndexAddr {hp : Nat → Row} {t : TypeId} {x i z : AV} {u v : Value} {pre : Prop} {η : Env} {L : Nat → Prop} (h : aIndexAddr P hp t x i = some (pre, z)) (hpre : pre)
    (hx : Rep w η L x u) (hi : Rep w η L i v) : ∃ r, (Instr.indexAt t u v).run P w = .ok r w ∧ Rep w η L z r := by
  unfold aIndexAddr at h
  split at h
  · rename_i e n sz c k hu
    simp only [Option.some.injEq, Prod.mk.injEq] at h
    obtain ⟨rfl, rfl⟩ := h
    obtain ⟨hs, h0, hk⟩ := hpre
    cases hi
    obtain ⟨a, cap, rfl, hn, hc⟩ := hx
    obtain ⟨b, off, rfl, hL, hc⟩ := hc (by omega) h0
    refine ⟨_, run_indexAt_slice hu hs h0 hk, b, off + k.toNat * sz, rfl, fun _ => hL, fun j hj => ?_⟩
    obtain ⟨u, hu', hr⟩ := hc k.toNat (toNat_lt' hk) j hj
    exact ⟨u, by rw [Nat.add_assoc]; exact hu', hr⟩
  · rename_i e p ver n k hu
    split at h
    · rename_i vv ety sz n' c hrow
      simp only [Option.some.injEq, Prod.mk.injEq] at h
      obtain ⟨rfl, rfl⟩ := h
      obtain ⟨rfl, hs, h0, hk⟩ := hpre
      cases hi
      obtain ⟨g, cap, hη, hv⟩ := hx
      cases g with
      | none => obtain ⟨hn, _⟩ := hv; omega
      | some g =>
        obtain ⟨rfl, hn⟩ := hv
        refine ⟨_, run_indexAt_slice hu hs h0 hk, g, cap, hη, by simp⟩
    · cases h
  · rename_i n e m c k hu
    simp only [Option.some.injEq, Prod.mk.injEq] at h
    obtain ⟨rfl, rfl⟩ := h
    obtain ⟨h0, hm, hk⟩ := hpre
    cases hi
    obtain ⟨b, off, rfl, hL, hc⟩ := hx
    refine ⟨_, run_indexAt_array hu h0 hk, b, off + k.toNat * P.cellsOf e, rfl, fun h1 => hL (by omega), fun j hj => ?_⟩
    obtain ⟨u, hu', hr⟩ := hc (k.toNat * P.cellsOf e + j) (by omega)
    exact ⟨u, by rw [Nat.add_assoc]; exact hu', hr⟩
  · rename_i n e p ver j k hu
    simp only [Option.some.injEq, Prod.mk.injEq] at h
    obtain ⟨rfl, rfl⟩ := h
    obtain ⟨h0, hk⟩ := hpre
    cases hi
    obtain ⟨g, cap, hη, rfl⟩ := hx
    exact ⟨_, run_indexAt_array hu h0 hk, g, cap, hη, rfl⟩
  · rename_i n e p ver sz i j k hu
    simp only [Option.some.injEq, Prod.mk.injEq] at h
    obtain ⟨rfl, rfl⟩ := h
    obtain ⟨h0, hk⟩ := hpre
    cases hi
    obtain ⟨g, cap, hη, rfl⟩ := hx
    exact ⟨_, run_indexAt_array hu h0 hk, g, cap, hη, by rw [Nat.add_assoc]⟩
  · cases h
end

section
variable {P : Program} {w : World} {η : Env} {L : Nat → Prop}
theorem parts_agg {t : TypeId} {l : List (Nat × TypeId)} (h : eqParts P t = some l) : aggT P t = some true := by
  unfold eqParts at h
  unfold aggT
  split at h
  · rename_i hu; rw [hu]; rfl
  · rename_i hu; rw [hu]; rfl
  · cases h
theorem leaf_agg {t : TypeId} {x y : AV} {b : Bool} (h : eqLeaf P t x y = some b) : aggT P t = some false := by
  unfold eqLeaf at h
  unfold aggT
  split at h <;> first
    | (rename_i hu; rw [hu]; rfl)
    | cases h
/-- A part of a struct's or an array's cells, as a value. -/
theorem run_part {u : TypeId} {off m d : Nat} {x y : Nat → AV} {b : Bool} {cs : Array Value} (hk : 0 < P.cellsOf u) (hm : off + P.cellsOf u ≤ m) (he : aEq P d u (P.cellsOf u) (fun j => x (off + j)) y = some b ∨ aEq P d u (P.cellsOf u) y (fun j => x (off + j)) = some b)
    (hc : ∀ j, j < m → ∃ v, cs[j]? = some v ∧ Rep w η L (x j) v) : ∃ v, (part u cs off).run P w = .ok v w ∧ OfType P w η L u (P.cellsOf u) (fun j => x (off + j)) v := by
  unfold part OfType
  cases hp : eqParts P u with
  | some l =>
    refine ⟨.agg (cs.extract off (off + P.cellsOf u)), ?_, ?_⟩
    · simp [Sem.run_bind, run_isAgg (P := P) (w := w) (parts_agg hp), run_sizeOf' (P := P) (w := w) rfl hk]
    · rw [if_pos (by rfl)]
      refine ⟨_, rfl, fun j hj => ?_⟩
      obtain ⟨v, hv, hr⟩ := hc (off + j) (by omega)
      have hlt : off + j < cs.size := (Array.getElem?_eq_some_iff.1 hv).1
      refine ⟨v, ?_, hr⟩
      rw [Array.getElem?_extract]
      rw [if_pos (by omega)]
      exact hv
  | none =>
    have ha : aggT P u = some false := by
      cases d with
      | zero => rcases he with he | he <;> (unfold aEq at he; cases he)
      | succ d =>
        rcases he with he | he
        · unfold aEq at he
          rw [hp] at he
          simp only at he
          rw [if_pos hk] at he
          exact leaf_agg he
        · unfold aEq at he
          rw [hp] at he
          simp only at he
          rw [if_pos hk] at he
          exact leaf_agg he
    obtain ⟨v, hv, hr⟩ := hc off (by omega)
    refine ⟨v, ?_, ?_⟩
    · simp [Sem.run_bind, run_isAgg (P := P) (w := w) ha, hv]
    · rw [if_neg (by simp)]
      exact hr
theorem run_aEq : ∀ (d D : Nat) (t : TypeId) (m : Nat) (x y : Nat → AV) (u v : Value) (b : Bool), aEq P d t m x y = some b → OfType P w η L t m x u → OfType P w η L t m y v → (Op.equalIn (d + D) t u v).run P w = .ok b w := by
  intro d
  induction d with
  | zero => intro D t m x y u v b h; unfold aEq at h; cases h
  | succ d ih =>
    intro D t m x y u v b h hx hy
    rw [show d + 1 + D = (d + D) + 1 by omega]
    unfold aEq at h
    cases hp : eqParts P t with
    | none =>
      rw [hp] at h
      simp only at h
      unfold OfType at hx hy
      rw [hp] at hx hy
      simp only [Option.isSome_none, Bool.false_eq_true, if_false] at hx hy
      split at h
      · exact run_eqLeaf _ h hx hy
      · cases h
    | some l =>
      rw [hp] at h
      simp only at h
      unfold OfType at hx hy
      rw [hp] at hx hy
      simp only [Option.isSome_some, if_true] at hx hy
      obtain ⟨xs, rfl, hxs⟩ := hx
      obtain ⟨ys, rfl, hys⟩ := hy
      have one : ∀ (o : Nat) (ty : TypeId) (b : Bool), (if 0 < P.cellsOf ty ∧ o + P.cellsOf ty ≤ m then aEq P d ty (P.cellsOf ty) (fun j => x (o + j)) (fun j => y (o + j)) else none) = some b →
          ∃ p q, (part ty xs o).run P w = .ok p w ∧ (part ty ys o).run P w = .ok q w ∧ (Op.equalIn (d + D) ty p q).run P w = .ok b w := by
        intro o ty b hb
        split at hb
        · rename_i hk
          obtain ⟨p, hp1, hp2⟩ := run_part (P := P) (w := w) hk.1 hk.2 (.inl hb) hxs
          obtain ⟨q, hq1, hq2⟩ := run_part (P := P) (w := w) hk.1 hk.2 (.inr hb) hys
          exact ⟨p, q, hp1, hq1, ih D ty _ _ _ p q b hb hp2 hq2⟩
        · cases hb
      unfold eqParts at hp
      split at hp
      · rename_i fs hu
        split at hp
        · cases hp
        · rename_i hst
          simp only [Option.some.injEq] at hp
          have hfs : P.fieldsOf t = fs := by unfold Program.fieldsOf; rw [hu]
          rw [run_equalIn_struct w (d + D) t xs ys (by rw [hfs]; exact hu) (by simpa using hst), hfs]
          subst hp
          have key : ∀ (l : List Field) (b : Bool), eqAll (fun o u => if 0 < P.cellsOf u ∧ o + P.cellsOf u ≤ m then aEq P d u (P.cellsOf u) (fun j => x (o + j)) (fun j => y (o + j)) else none)
              ((l.filter fun f => decide (f.name ≠ "_")).map fun f => (f.offset, f.type)) = some b → (Op.eqFields (d + D) xs ys l).run P w = .ok b w := by
            intro l
            induction l with
            | nil => intro b hb; simp only [List.filter_nil, List.map_nil, eqAll, Option.some.injEq] at hb; subst hb; rfl
            | cons f l ihl =>
              intro b hb
              unfold Op.eqFields
              by_cases hn : f.name = "_"
              · rw [if_neg (by simpa using hn)]
                rw [List.filter_cons_of_neg (by simpa using hn)] at hb
                exact ihl b hb
              · rw [if_pos hn]
                rw [List.filter_cons_of_pos (by simpa using hn), List.map_cons] at hb
                unfold eqAll at hb
                split at hb
                · rename_i b1 b2 h1 h2
                  simp only [Option.some.injEq] at hb
                  subst hb
                  obtain ⟨p, q, e1, e2, e3⟩ := one _ _ _ h1
                  simp only [Sem.run_bind, e1, e2, e3, Result.andThen_ok]
                  cases b1 with
                  | false => simp
                  | true => simpa using ihl b2 h2
                · cases hb
          exact key fs.toList b h
      · rename_i n e hu
        split at hp
        · rename_i hi
          simp only [Option.some.injEq] at hp
          subst hp
          obtain ⟨i, hi⟩ := Option.isSome_iff_exists.1 hi
          rw [run_equalIn_array w (d + D) xs ys hu hi]
          have key : ∀ (l : List Nat) (b : Bool), eqAll (fun o u => if 0 < P.cellsOf u ∧ o + P.cellsOf u ≤ m then aEq P d u (P.cellsOf u) (fun j => x (o + j)) (fun j => y (o + j)) else none)
              (l.map fun i => (i * P.cellsOf e, e)) = some b → (Op.eqItems (d + D) e (P.cellsOf e) xs ys l).run P w = .ok b w := by
            intro l
            induction l with
            | nil => intro b hb; simp only [List.map_nil, eqAll, Option.some.injEq] at hb; subst hb; rfl
            | cons k l ihl =>
              intro b hb
              unfold Op.eqItems
              rw [List.map_cons] at hb
              unfold eqAll at hb
              split at hb
              · rename_i b1 b2 h1 h2
                simp only [Option.some.injEq] at hb
                subst hb
                obtain ⟨p, q, e1, e2, e3⟩ := one _ _ _ h1
                simp only [Sem.run_bind, e1, e2, e3, Result.andThen_ok]
                cases b1 with
                | false => simp
                | true => simpa using ihl b2 h2
              · cases hb
          exact key (List.range n) b h
        · cases hp
      · cases hp
theorem run_aBin {op : BinOp} {x y z : AV} {u v : Value} {pre : Prop} {η : Env} {L : Nat → Prop} {t : TypeId} (h : aBin P op t x y = some (pre, z)) (hp : pre)
    (hx : Rep w η L x u) (hy : Rep w η L y v) : ∃ r, (binOp op t u v).run P w = .ok r w ∧ Rep w η L z r := by
  unfold aBin at h
  split at h
  · cases hx; cases hy; exact run_aI64 h hp
  · cases hx; cases hy; exact run_aInt h hp
  · cases hx; cases hy; exact run_aInt h hp
  · cases hx; cases hy; exact run_aInt h hp
  · cases hx; cases hy; exact run_aStr h hp
  · cases hx; cases hy
    cases op <;> simp only [reduceCtorEq, Option.some.injEq, Prod.mk.injEq] at h <;>
      (obtain ⟨rfl, rfl⟩ := h
       refine ⟨_, ?_, rfl⟩
       simp [run_eql_bool w t _ _ hp, run_neq_bool w t _ _ hp, beq_dec])
  · rename_i m c m' e
    split at h
    · rename_i b hb
      have fin : ∀ (neg : Bool), m' = m → (eqParts P t).isSome = true → ∃ xs ys, u = .agg xs ∧ v = .agg ys ∧ (Op.equalIn 10000 t u v).run P w = .ok b w := by
        intro _ hm hparts
        obtain ⟨xs, rfl, hxs, hxc⟩ := hx
        obtain ⟨ys, rfl, hys, hyc⟩ := hy
        refine ⟨xs, ys, rfl, rfl, ?_⟩
        refine run_aEq (η := η) (L := L) 12 9988 t m c e _ _ b hb ?_ ?_
        · unfold OfType
          rw [if_pos hparts]
          exact ⟨xs, rfl, fun j hj => by obtain ⟨z, hz, _, hr⟩ := hxc j hj; exact ⟨z, hz, hr⟩⟩
        · unfold OfType
          rw [if_pos hparts]
          exact ⟨ys, rfl, fun j hj => by obtain ⟨z, hz, _, hr⟩ := hyc j (by omega); exact ⟨z, hz, hr⟩⟩
      split at h
      · simp only [Option.some.injEq, Prod.mk.injEq] at h
        obtain ⟨rfl, rfl⟩ := h
        obtain ⟨xs, ys, rfl, rfl, hrun⟩ := fin false hp.1 hp.2.1
        exact ⟨.bool b, by rw [run_eql_struct w t xs ys, hrun]; rfl, rfl⟩
      · simp only [Option.some.injEq, Prod.mk.injEq] at h
        obtain ⟨rfl, rfl⟩ := h
        obtain ⟨xs, ys, rfl, rfl, hrun⟩ := fin true hp.1 hp.2.1
        exact ⟨.bool (!b), by rw [run_neq_struct w t xs ys, hrun]; rfl, rfl⟩
      · cases h
    · cases h
  · cases h

end
end Go.Proofs.YtljgfacjefebaaaDoor
