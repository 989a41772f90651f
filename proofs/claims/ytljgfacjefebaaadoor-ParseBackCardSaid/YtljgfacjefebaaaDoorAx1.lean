/-
  The abstract values and states by which the walks of this seat are made; of whatever program.
  A value is told by what it reads as; a state has the slots, the rows of memory that the call alone holds, and what is yet to be deferred.
-/
import Derived.WalkKit
namespace Go.Proofs.YtljgfacjefebaaaDoor
open Go

/-- What a value reads as. -/
inductive AV where
  | any
  | val (v : Value)
  | st (l : List UInt8)
  | gd (b : Bool) (x : AV)
  | em
  | sn (n sz : Nat) (c : Nat → Nat → AV)
  | ps (m : Nat) (c : Nat → AV)
  | ow (p ver n : Nat)
  | pt (p ver j : Nat)
  | pe (p ver sz i j : Nat)
  | ag (m : Nat) (c : Nat → AV)
  | tu (m : Nat) (c : Nat → AV)
  | mp (p ver : Nat)
  | mb (q : Prop)

/-- Where a row lies: not laid yet; nowhere (an empty one); from a block's beginning, with so many elements of room. -/
abbrev Env := Nat → Option (Option Nat × Nat)

/-- No row lies anywhere. -/
def noEnv : Env := fun _ => none

/-- 'v' reads as this, in the world 'w', rows lying as 'η' says; what is read for good lies in no block of 'L'. -/
def Rep (w : World) (η : Env) (L : Nat → Prop) : AV → Value → Prop
  | .any, _ => True
  | .val u, v => v = u
  | .st l, v => v = .string ⟨l.toArray⟩
  | .gd b x, v => (b = true → Rep w η L x v) ∧ (b = false → v = undef)
  | .em, v => ∃ a, v = .slice a 0 0
  | .sn n sz c, v => ∃ a cap, v = .slice a n cap ∧ n ≤ cap ∧ (0 < n → 0 < sz → ∃ b off, a = some ⟨b, off, none⟩ ∧ ¬ L b ∧
      ∀ i, i < n → ∀ j, j < sz → ∃ u, w.cell? ⟨b, off + (i * sz + j), none⟩ = some u ∧ u.oneCell' = true ∧ Rep w noEnv L (c i j) u)
  | .ps m c, v => ∃ b off, v = .pointer (some ⟨b, off, none⟩) ∧ (0 < m → ¬ L b) ∧ ∀ j, j < m → ∃ u, w.cell? ⟨b, off + j, none⟩ = some u ∧ u.oneCell' = true ∧ Rep w noEnv L (c j) u
  | .ow _ ver n, v => ∃ g cap, η ver = some (g, cap) ∧
      match g with
      | none => n = 0 ∧ ∃ a, v = .slice a 0 0
      | some g => v = .slice (some ⟨g, 0, none⟩) n cap ∧ n ≤ cap
  | .pt _ ver j, v => ∃ g cap, η ver = some (some g, cap) ∧ v = .pointer (some ⟨g, j, none⟩)
  | .pe _ ver sz i j, v => ∃ g cap, η ver = some (some g, cap) ∧ v = .pointer (some ⟨g, i * sz + j, none⟩)
  | .ag m c, v => ∃ cs : Array Value, v = .agg cs ∧ cs.size = m ∧ ∀ j, j < m → ∃ u, cs[j]? = some u ∧ u.oneCell' = true ∧ Rep w η L (c j) u
  | .tu m c, v => ∃ cs : Array Value, v = .tuple cs ∧ cs.size = m ∧ ∀ j, j < m → ∃ u, cs[j]? = some u ∧ Rep w η L (c j) u
  | .mp _ ver, v => ∃ g cap, η ver = some (some g, cap) ∧ v = .map (some g)
  | .mb q, v => ∃ b, v = .bool b ∧ (b = true → q)

/-- A map's key. -/
inductive Key where
  | i (n : Int)
  | s (l : List UInt8)
  deriving DecidableEq
def Key.val : Key → Value
  | .i n => .int .i64 n
  | .s l => .string ⟨l.toArray⟩
def Key.isStr : Key → Bool
  | .i _ => false
  | .s _ => true
/-- What a map's entries hold for a key. -/
def Key.hit : Key → Value → Bool
  | .i b, .int .i64 a => decide (a = b)
  | .s b, .string a => decide (a = ⟨b.toArray⟩)
  | _, _ => false
def mapAt : List MapEntry → Key → Option Value
  | [], _ => none
  | e :: es, k => if k.hit e.key = true then some e.val else mapAt es k
/-- A row that the call alone holds: dead; a variable of so many cells; a slice's elements; a map of so many entries. -/
inductive Row where
  | dead
  | box (ver : Nat) (ety : TypeId) (m : Nat) (c : Nat → AV)
  | sl (ver : Nat) (ety : TypeId) (sz n : Nat) (c : Nat → Nat → AV)
  | mp (ver : Nat) (str : Bool) (n : Nat) (f : Key → Option Value)

def Row.ver : Row → Option Nat
  | .dead => none
  | .box v _ _ _ => some v
  | .sl v _ _ _ _ => some v
  | .mp v _ _ _ => some v

/-- The block in which a row lies. -/
def Row.blk (η : Env) (r : Row) : Option Nat := r.ver.bind fun v => (η v).bind (·.1)

def RowOK (w : World) (η : Env) (L : Nat → Prop) : Row → Prop
  | .dead => True
  | .box ver ety m c => ∀ g cap, η ver = some (g, cap) → ∃ b cur, g = some b ∧ w.heap[b]? = some (.cells cur ety (0, 0)) ∧ cur.size = m ∧
      ∀ j, j < m → ∃ u, cur[j]? = some u ∧ u.oneCell' = true ∧ Rep w η L (c j) u
  | .sl ver ety sz n c => ∀ g cap, η ver = some (g, cap) →
      match g with
      | none => n = 0
      | some b => ∃ cur, w.heap[b]? = some (.cells cur ety (0, 0)) ∧ cur.size = cap * sz ∧ n ≤ cap ∧ cap ≤ maxLen ∧
          ∀ i, i < n → ∀ j, j < sz → ∃ u, cur[i * sz + j]? = some u ∧ u.oneCell' = true ∧ Rep w η L (c i j) u
  | .mp ver str n f => ∀ g cap, η ver = some (g, cap) → ∃ b es clock, g = some b ∧ w.heap[b]? = some (.map es clock) ∧ es.size = n ∧ (∀ e ∈ es, ∃ k : Key, e.key = k.val ∧ k.isStr = str) ∧ ∀ k : Key, k.isStr = str → mapAt es.toList k = f k

/-- What is the same behind: all but the blocks of 'O'. -/
structure Fr (O : Nat → Prop) (w w' : World) : Prop where
  os : w'.os = w.os
  tape : w'.tape = w.tape
  output : w'.output = w.output
  size : w.heap.size ≤ w'.heap.size
  block : ∀ k, k < w.heap.size → ¬ O k → w'.heap[k]? = w.heap[k]?

theorem Fr.refl (O : Nat → Prop) (w : World) : Fr O w w := ⟨rfl, rfl, rfl, Nat.le_refl _, fun _ _ _ => rfl⟩
theorem Fr.trans {O : Nat → Prop} {a b c : World} (h : Fr O a b) (k : Fr O b c) : Fr O a c :=
  ⟨k.os.trans h.os, k.tape.trans h.tape, k.output.trans h.output, Nat.le_trans h.size k.size,
    fun i hi hO => (k.block i (Nat.lt_of_lt_of_le hi h.size) hO).trans (h.block i hi hO)⟩
theorem Fr.trans' {O O' : Nat → Prop} {a b d : World} (h : Fr O a b) (k : Fr O' b d) (hO : ∀ i, i < a.heap.size → O' i → O i) : Fr O a d :=
  ⟨k.os.trans h.os, k.tape.trans h.tape, k.output.trans h.output, Nat.le_trans h.size k.size,
    fun i hi hn => (k.block i (Nat.lt_of_lt_of_le hi h.size) fun ho => hn (hO i hi ho)).trans (h.block i hi hn)⟩
theorem Fr.mono {O O' : Nat → Prop} {w w' : World} (h : Fr O w w') (hO : ∀ k, k < w.heap.size → O k → O' k) : Fr O' w w' :=
  ⟨h.os, h.tape, h.output, h.size, fun k hk hn => h.block k hk fun ho => hn (hO k hk ho)⟩
theorem Fr.drew {O : Nat → Prop} {a w : World} (h : Fr O a w) : Fr O a w.drew := ⟨h.os, h.tape, h.output, h.size, h.block⟩
theorem Fr.below {w w' : World} (h : Fr (fun _ => False) w w') : Go.RowKit.Below w.heap.size w w' :=
  ⟨h.os, h.tape, h.output, h.size, fun k hk => h.block k hk not_false⟩
theorem Fr.of_below {w w' : World} (h : Go.RowKit.Below w.heap.size w w') (O : Nat → Prop) : Fr O w w' :=
  ⟨h.os, h.tape, h.output, h.size, fun k hk _ => h.block k hk⟩
theorem Fr.alloc (O : Nat → Prop) (w : World) (o : Obj) : Fr O w (w.alloc o) :=
  ⟨rfl, rfl, rfl, by simp, fun k hk _ => Go.RowKit.Below.heap_alloc w o k hk⟩
theorem Fr.cell {O : Nat → Prop} {w w' : World} (h : Fr O w w') {p : Addr} {u : Value} (hc : w.cell? p = some u) (hO : ¬ O p.block) : w'.cell? p = some u :=
  (World.cell?_of_block (w := w) (h.block p.block (World.block_lt_of_cell? w p hc) hO)).trans hc

/-- What is laid stays as it lies. -/
def Env.le (η η' : Env) : Prop := ∀ ver r, η ver = some r → η' ver = some r
theorem Env.le_refl (η : Env) : Env.le η η := fun _ _ h => h
theorem Env.le_trans {a b c : Env} (h : Env.le a b) (k : Env.le b c) : Env.le a c := fun v r e => k v r (h v r e)

/-- A reading stays: the world is as it was outside 'O', rows lie as they lay, and what is read lies in none of both. -/
theorem Rep.keep {w w' : World} {L L' O : Nat → Prop} (hf : Fr O w w') (hO : ∀ k, k < w.heap.size → O k → L k) (hL : ∀ k, k < w.heap.size → L' k → L k) :
    ∀ (x : AV) (η η' : Env) (v : Value), Env.le η η' → Rep w η L x v → Rep w' η' L' x v := by
  intro x
  induction x with
  | any => exact fun _ _ _ _ _ => trivial
  | val u => exact fun _ _ _ _ h => h
  | st l => exact fun _ _ _ _ h => h
  | gd b x ih => exact fun _ _ v hη h => ⟨fun hb => ih _ _ v hη (h.1 hb), h.2⟩
  | em => exact fun _ _ _ _ h => h
  | sn n sz c ih =>
    rintro η η' v _ ⟨a, cap, rfl, hn, h⟩
    refine ⟨a, cap, rfl, hn, fun h0 hs => ?_⟩
    obtain ⟨b, off, ha, hLb, hc⟩ := h h0 hs
    obtain ⟨u, hu, _⟩ := hc 0 h0 0 hs
    have hb : b < w.heap.size := World.block_lt_of_cell? w _ hu
    refine ⟨b, off, ha, fun hl => hLb (hL b hb hl), fun i hi j hj => ?_⟩
    obtain ⟨u, hu, h1, hr⟩ := hc i hi j hj
    exact ⟨u, hf.cell hu fun ho => hLb (hO b hb ho), h1, ih i j _ _ u (Env.le_refl _) hr⟩
  | ps m c ih =>
    rintro η η' v _ ⟨b, off, rfl, hLb, hc⟩
    refine ⟨b, off, rfl, fun h0 hl => ?_, fun j hj => ?_⟩
    · obtain ⟨u, hu, _⟩ := hc 0 h0
      exact hLb h0 (hL b (World.block_lt_of_cell? w _ hu) hl)
    · obtain ⟨u, hu, h1, hr⟩ := hc j hj
      exact ⟨u, hf.cell hu fun ho => hLb (by omega) (hO b (World.block_lt_of_cell? w _ hu) ho), h1, ih j _ _ u (Env.le_refl _) hr⟩
  | ow p ver n =>
    rintro η η' v hη ⟨g, cap, h, hv⟩
    exact ⟨g, cap, hη _ _ h, hv⟩
  | pt p ver j =>
    rintro η η' v hη ⟨g, cap, h, hv⟩
    exact ⟨g, cap, hη _ _ h, hv⟩
  | pe p ver sz i j =>
    rintro η η' v hη ⟨g, cap, h, hv⟩
    exact ⟨g, cap, hη _ _ h, hv⟩
  | ag m c ih =>
    rintro η η' v hη ⟨cs, rfl, hm, h⟩
    refine ⟨cs, rfl, hm, fun j hj => ?_⟩
    obtain ⟨u, hu, h1, hr⟩ := h j hj
    exact ⟨u, hu, h1, ih j _ _ u hη hr⟩
  | tu m c ih =>
    rintro η η' v hη ⟨cs, rfl, hm, h⟩
    refine ⟨cs, rfl, hm, fun j hj => ?_⟩
    obtain ⟨u, hu, hr⟩ := h j hj
    exact ⟨u, hu, ih j _ _ u hη hr⟩
  | mp p ver =>
    rintro η η' v hη ⟨g, cap, h, hv⟩
    exact ⟨g, cap, hη _ _ h, hv⟩
  | mb q => exact fun _ _ _ _ h => h
/-- Nothing but the set of what isn't to be read is another one. -/
theorem Rep.less {w : World} {η : Env} {L L' : Nat → Prop} (hL : ∀ k, k < w.heap.size → L' k → L k) {x : AV} {v : Value} (h : Rep w η L x v) : Rep w η L' x v :=
  Rep.keep (O := fun _ => False) (Fr.refl _ w) (fun _ _ h => h.elim) hL x η η v (Env.le_refl _) h
end Go.Proofs.YtljgfacjefebaaaDoor
