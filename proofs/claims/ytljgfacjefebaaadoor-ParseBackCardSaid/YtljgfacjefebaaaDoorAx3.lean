/-
  What an operation that leaves the world alone comes to, further: parts of strings, of slices and of structs; what is built; the few calls of the language's own.
-/
import Derived.Test.YtljgfacjefebaaaDoorAx2
set_option linter.unusedSimpArgs false
namespace Go.Proofs.YtljgfacjefebaaaDoor
open Go

section
variable {P : Program} {w : World} {η : Env} {L : Nat → Prop}

/-- A value of one cell, by what it reads as. -/
def AV.one : AV → Bool
  | .val v => v.oneCell'
  | .st _ => true
  | .em => true
  | .sn _ _ _ => true
  | .ps _ _ => true
  | .ow _ _ _ => true
  | .pt _ _ _ => true
  | .pe _ _ _ _ _ => true
  | .mp _ _ => true
  | _ => false
theorem one_rep {x : AV} {v : Value} (h : x.one = true) (hr : Rep w η L x v) : v.oneCell' = true := by
  cases x with
  | val u => cases hr; exact h
  | st l => cases hr; rfl
  | em => obtain ⟨a, rfl⟩ := hr; rfl
  | sn n sz c => obtain ⟨a, cap, rfl, _⟩ := hr; rfl
  | ps m c => obtain ⟨b, o, rfl, _⟩ := hr; rfl
  | ow p ver n =>
    obtain ⟨g, cap, _, hv⟩ := hr
    cases g with
    | none => obtain ⟨_, a, rfl⟩ := hv; rfl
    | some g => obtain ⟨rfl, _⟩ := hv; rfl
  | pt p ver j => obtain ⟨g, cap, _, rfl⟩ := hr; rfl
  | pe p ver sz i j => obtain ⟨g, cap, _, rfl⟩ := hr; rfl
  | mp p ver => obtain ⟨g, cap, _, rfl⟩ := hr; rfl
  | any => cases h
  | mb q => cases h
  | gd b y => cases h
  | ag m c => cases h
  | tu m c => cases h

/-- The cells of a value. -/
def cellsAV : AV → Option (Nat × (Nat → AV))
  | .ag m c => some (m, c)
  | x => if x.one then some (1, fun _ => x) else none
theorem cellsAV_rep {x : AV} {v : Value} {m : Nat} {c : Nat → AV} (h : cellsAV x = some (m, c)) (hr : Rep w η L x v) :
    v.cells.size = m ∧ ∀ j, j < m → ∃ u, v.cells[j]? = some u ∧ u.oneCell' = true ∧ Rep w η L (c j) u := by
  unfold cellsAV at h
  split at h
  · simp only [Option.some.injEq, Prod.mk.injEq] at h
    obtain ⟨rfl, rfl⟩ := h
    obtain ⟨cs, rfl, hm, hc⟩ := hr
    exact ⟨hm, hc⟩
  · split at h
    · rename_i h1
      simp only [Option.some.injEq, Prod.mk.injEq] at h
      obtain ⟨rfl, rfl⟩ := h
      have ho := one_rep h1 hr
      have hv : v.cells = #[v] := by cases v <;> first | rfl | (simp [Value.oneCell'] at ho)
      rw [hv]
      refine ⟨rfl, fun j hj => ?_⟩
      obtain rfl : j = 0 := by omega
      exact ⟨v, rfl, ho, hr⟩
    · cases h

/-! ### strings, tuples, structs in hand -/
def aIndex (P : Program) (t : TypeId) (x i : AV) : Out :=
  match P.underlying t, x, i with
  | some .string, .st l, .val (.int .i64 k) => some (0 ≤ k ∧ k < l.length, .val (.int .u8 (l.getD k.toNat 0).toNat))
  | some (.array n e), .ag m c, .val (.int .i64 k) => match aggT P e with
    | some false => some (P.cellsOf e = 1 ∧ n ≤ m ∧ 0 ≤ k ∧ k < n, c k.toNat)
    | _ => none
  | _, _, _ => none
theorem run_aIndex {t : TypeId} {x i z : AV} {u v : Value} {pre : Prop} (h : aIndex P t x i = some (pre, z)) (hpre : pre)
    (hx : Rep w η L x u) (hi : Rep w η L i v) : ∃ r, (Instr.index t u v).run P w = .ok r w ∧ Rep w η L z r := by
  unfold aIndex at h
  split at h
  · rename_i l k hu
    simp only [Option.some.injEq, Prod.mk.injEq] at h
    obtain ⟨rfl, rfl⟩ := h
    cases hx; cases hi
    have hk : k.toNat < l.length := toNat_lt' hpre
    have hs : k.toNat < (ByteArray.mk l.toArray).size := by simpa [ByteArray.size_mk'] using hk
    refine ⟨_, ?_, rfl⟩
    have e1 : (ByteArray.mk l.toArray)[k.toNat]? = some (l.getD k.toNat 0) := by
      rw [getElem?_pos (ByteArray.mk l.toArray) k.toNat hs]
      congr 1
      simp [List.getD, List.getElem?_eq_getElem hk]
      rfl
    simp [Instr.index, asIntOf, run_underlying hu, hpre.1, e1]
  · rename_i n e m c k hu
    split at h
    · rename_i ht
      simp only [Option.some.injEq, Prod.mk.injEq] at h
      obtain ⟨rfl, rfl⟩ := h
      obtain ⟨h1, hm, hk⟩ := hpre
      cases hi
      obtain ⟨cs, rfl, hcm, hc⟩ := hx
      obtain ⟨r, hr, _, hrep⟩ := hc k.toNat (by omega)
      refine ⟨r, ?_, hrep⟩
      simp [Instr.index, asIntOf, run_underlying hu, hk, part, run_isAgg ht, run_sizeOf' (P := P) (w := w) h1 (by omega), hr]
    · cases h
  · cases h

def aExtract (x : AV) (i : Nat) : Out :=
  match x with
  | .tu m c => some (i < m, c i)
  | _ => none
theorem run_aExtract {x z : AV} {i : Nat} {u : Value} {pre : Prop} (h : aExtract x i = some (pre, z)) (hpre : pre) (hx : Rep w η L x u) :
    ∃ r, (Instr.extract u i).run P w = .ok r w ∧ Rep w η L z r := by
  unfold aExtract at h
  split at h
  · simp only [Option.some.injEq, Prod.mk.injEq] at h
    obtain ⟨rfl, rfl⟩ := h
    obtain ⟨cs, rfl, hm, hc⟩ := hx
    obtain ⟨r, hr, hrep⟩ := hc i hpre
    exact ⟨r, by simp [Instr.extract, hr], hrep⟩
  · cases h

def aField (P : Program) (t : TypeId) (f : Nat) (x : AV) : Out :=
  match fld P t f, x with
  | some (off, ft), .ag m c => match aggT P ft with
    | some true => some (0 < P.cellsOf ft ∧ off + P.cellsOf ft ≤ m, .ag (P.cellsOf ft) fun j => c (off + j))
    | some false => some (off < m, c off)
    | none => none
  | _, _ => none
theorem run_aField {t : TypeId} {f : Nat} {x z : AV} {u : Value} {pre : Prop} (h : aField P t f x = some (pre, z)) (hpre : pre) (hx : Rep w η L x u) :
    ∃ r, (Instr.field t u f).run P w = .ok r w ∧ Rep w η L z r := by
  unfold aField at h
  split at h
  · rename_i off ft m c hf
    obtain ⟨fs, fd, hu, hfs, rfl, rfl⟩ := fld_spec hf
    obtain ⟨cs, rfl, hm, hc⟩ := hx
    split at h
    · rename_i ht
      simp only [Option.some.injEq, Prod.mk.injEq] at h
      obtain ⟨rfl, rfl⟩ := h
      refine ⟨_, ?_, cs.extract fd.offset (fd.offset + P.cellsOf fd.type), rfl, by simp; omega, fun j hj => ?_⟩
      · simp [Instr.field, run_underlying hu, hfs, asAgg, part, run_isAgg ht, run_sizeOf' (P := P) (w := w) rfl hpre.1]
      · obtain ⟨r, hr, hrep⟩ := hc (fd.offset + j) (by omega)
        exact ⟨r, by rw [Array.getElem?_extract]; simpa [show j < min (fd.offset + P.cellsOf fd.type) cs.size - fd.offset by omega] using hr, hrep⟩
    · rename_i ht
      simp only [Option.some.injEq, Prod.mk.injEq] at h
      obtain ⟨rfl, rfl⟩ := h
      obtain ⟨r, hr, _, hrep⟩ := hc fd.offset hpre
      exact ⟨r, by simp [Instr.field, run_underlying hu, hfs, asAgg, part, run_isAgg ht, hr], hrep⟩
    · cases h
  · cases h

/-! ### slices of slices and of strings -/
def bd (d : Int) : Option AV → Option Int
  | none => some d
  | some (.val (.int .i64 k)) => some k
  | _ => none
def aSlice (P : Program) (t : TypeId) (x : AV) (lo hi : Option AV) : Out :=
  match P.underlying t, x with
  | some .string, .st l => match bd 0 lo, bd l.length hi with
    | some a, some b => some (0 ≤ a ∧ a ≤ b ∧ b ≤ l.length, .st ((l.take b.toNat).drop a.toNat))
    | _, _ => none
  | some (.slice e), .sn n sz c => match bd 0 lo, bd n hi with
    | some a, some b => some (P.cellsOf e = sz ∧ 0 < sz ∧ 0 ≤ a ∧ a ≤ b ∧ b ≤ n, .sn (b.toNat - a.toNat) sz fun i => c (a.toNat + i))
    | _, _ => none
  | some (.slice e), .em => match bd 0 lo, bd 0 hi with
    | some a, some b => some (0 < P.cellsOf e ∧ a = 0 ∧ b = 0, .em)
    | _, _ => none
  | some (.slice e), .ow p ver n => match bd 0 lo, bd n hi with
    | some a, some b => some (0 < P.cellsOf e ∧ a = 0 ∧ 0 ≤ b ∧ b ≤ n, .ow p ver b.toNat)
    | _, _ => none
  | _, _ => none
theorem bd_spec {d k : Int} {o : Option AV} {vo : Option Value} (h : bd d o = some k) (hr : Option.Rel (Rep w η L) o vo) : (vo = none ∧ k = d) ∨ vo = some (.int .i64 k) := by
  cases hr with
  | none => simp only [bd, Option.some.injEq] at h; exact .inl ⟨rfl, h.symm⟩
  | some hx =>
    unfold bd at h
    split at h
    · rename_i heq; cases heq
    · rename_i heq
      simp only [Option.some.injEq] at heq h
      subst heq; subst h
      cases hx
      exact .inr rfl
    · cases h
theorem run_sliceBound {k : Int} {n : Nat} {code : BoundsCode} (h : 0 ≤ k ∧ k ≤ n) : (Instr.sliceBound (.int .i64 k) n code).run P w = .ok k.toNat w := by
  simp [Instr.sliceBound, asIntOf, h]
theorem run_bounds {isS : Bool} {len cap : Nat} {lo hi : Option AV} {vlo vhi : Option Value} {a b : Int} (ha : bd 0 lo = some a) (hb : bd len hi = some b) (h0 : 0 ≤ a) (h1 : a ≤ b) (h2 : b ≤ cap)
    (hlo : Option.Rel (Rep w η L) lo vlo) (hhi : Option.Rel (Rep w η L) hi vhi) : (Instr.sliceBounds isS len cap vlo vhi none).run P w = .ok (a.toNat, b.toNat, cap) w := by
  unfold Instr.sliceBounds
  rcases bd_spec ha hlo with ⟨rfl, rfl⟩ | rfl <;> rcases bd_spec hb hhi with ⟨rfl, rfl⟩ | rfl
  · simp
  · simp [run_sliceBound (P := P) (w := w) (k := b) (n := cap) (by omega)]
  · simp [run_sliceBound (P := P) (w := w) (k := a) (n := len) (by omega)]
  · simp [run_sliceBound (P := P) (w := w) (k := b) (n := cap) (by omega), run_sliceBound (P := P) (w := w) (k := a) (n := b.toNat) (by omega)]
theorem run_aSlice {t : TypeId} {x z : AV} {u : Value} {lo hi : Option AV} {vlo vhi : Option Value} {pre : Prop} (h : aSlice P t x lo hi = some (pre, z)) (hpre : pre)
    (hx : Rep w η L x u) (hlo : Option.Rel (Rep w η L) lo vlo) (hhi : Option.Rel (Rep w η L) hi vhi) : ∃ r, (Instr.sliceAt t u vlo vhi none).run P w = .ok r w ∧ Rep w η L z r := by
  unfold aSlice at h
  split at h
  · rename_i l hu
    split at h
    · rename_i a b ha hb
      simp only [Option.some.injEq, Prod.mk.injEq] at h
      obtain ⟨rfl, rfl⟩ := h
      cases hx
      refine ⟨_, ?_, rfl⟩
      have hsz : (ByteArray.mk l.toArray).size = l.length := by simp [ByteArray.size_mk']
      have := run_bounds (P := P) (w := w) (η := η) (L := L) (isS := false) (len := l.length) (cap := l.length) ha hb hpre.1 hpre.2.1 hpre.2.2 hlo hhi
      simp only [Instr.sliceAt, Sem.run_bind, run_underlying hu, Result.andThen_ok, Instr.slice, Option.isSome_none, Bool.false_eq_true, if_false, hsz, this, Sem.run_pure, ByteArray.extract_mk]
      congr 4
      rw [List.drop_take]
    · cases h
  · rename_i e n sz c hu
    split at h
    · rename_i a b ha hb
      simp only [Option.some.injEq, Prod.mk.injEq] at h
      obtain ⟨rfl, rfl⟩ := h
      obtain ⟨hs, h0, ha0, hab, hbn⟩ := hpre
      obtain ⟨ad, cap, rfl, hn, hc⟩ := hx
      have := run_bounds (P := P) (w := w) (η := η) (L := L) (isS := true) (len := n) (cap := cap) ha hb ha0 hab (by omega) hlo hhi
      refine ⟨.slice (if cap = a.toNat then ad else ad.map (·.add (a.toNat * sz))) (b.toNat - a.toNat) (cap - a.toNat), ?_, _, _, rfl, by omega, fun h1 h2 => ?_⟩
      · simp [Instr.sliceAt, run_underlying hu, Instr.slice, this, run_sizeOf' (P := P) (w := w) hs h0]
      · obtain ⟨bb, off, rfl, hL, hcell⟩ := hc (by omega) h2
        refine ⟨bb, off + a.toNat * sz, ?_, hL, fun i hi j hj => ?_⟩
        · rw [if_neg (by omega)]; simp [add_off]
        · obtain ⟨u, hu', hr⟩ := hcell (a.toNat + i) (by omega) j hj
          exact ⟨u, by rw [← hu']; congr 2; rw [Nat.add_mul]; omega, hr⟩
    · cases h
  · rename_i e hu
    split at h
    · rename_i a b ha hb
      simp only [Option.some.injEq, Prod.mk.injEq] at h
      obtain ⟨rfl, rfl⟩ := h
      obtain ⟨h0, rfl, rfl⟩ := hpre
      obtain ⟨ad, rfl⟩ := hx
      have := run_bounds (P := P) (w := w) (η := η) (L := L) (isS := true) (len := 0) (cap := 0) ha hb (by omega) (by omega) (by omega) hlo hhi
      exact ⟨_, by simp [Instr.sliceAt, run_underlying hu, Instr.slice, this, run_sizeOf' (P := P) (w := w) rfl h0], ad, rfl⟩
    · cases h
  · rename_i e p ver n hu
    split at h
    · rename_i a b ha hb
      simp only [Option.some.injEq, Prod.mk.injEq] at h
      obtain ⟨rfl, rfl⟩ := h
      obtain ⟨h0, rfl, hb0, hbn⟩ := hpre
      obtain ⟨g, cap, hη, hv⟩ := hx
      cases g with
      | none =>
        obtain ⟨rfl, ad, rfl⟩ := hv
        obtain rfl : b = 0 := by omega
        have := run_bounds (P := P) (w := w) (η := η) (L := L) (isS := true) (len := 0) (cap := 0) ha hb (by omega) (by omega) (by omega) hlo hhi
        exact ⟨_, by simp [Instr.sliceAt, run_underlying hu, Instr.slice, this, run_sizeOf' (P := P) (w := w) rfl h0], none, cap, hη, rfl, ad, rfl⟩
      | some g =>
        obtain ⟨rfl, hcap⟩ := hv
        have := run_bounds (P := P) (w := w) (η := η) (L := L) (isS := true) (len := n) (cap := cap) ha hb (by omega) hb0 (by omega) hlo hhi
        refine ⟨.slice (some ⟨g, 0, none⟩) b.toNat cap, by simp [Instr.sliceAt, run_underlying hu, Instr.slice, this, run_sizeOf' (P := P) (w := w) rfl h0, Addr.add], some g, cap, hη, rfl, by omega⟩
    · cases h
  · cases h
/-- With a bound on the room: nothing of it. -/
def aSlice3 (P : Program) (t : TypeId) (x : AV) (lo hi : Option AV) (m : AV) : Out :=
  match P.underlying t, lo, hi, m with
  | some (.slice e), none, some (.val (.int .i64 b)), .val (.int .i64 k) => match x with
    | .sn _ _ _ => some (0 < P.cellsOf e ∧ b = 0 ∧ k = 0, .em)
    | .em => some (0 < P.cellsOf e ∧ b = 0 ∧ k = 0, .em)
    | .ow _ _ _ => some (0 < P.cellsOf e ∧ b = 0 ∧ k = 0, .em)
    | _ => none
  | _, _, _, _ => none
theorem run_aSlice3 {t : TypeId} {x m z : AV} {u vm : Value} {lo hi : Option AV} {vlo vhi : Option Value} {pre : Prop} (h : aSlice3 P t x lo hi m = some (pre, z)) (hpre : pre)
    (hx : Rep w η L x u) (hlo : Option.Rel (Rep w η L) lo vlo) (hhi : Option.Rel (Rep w η L) hi vhi) (hm : Rep w η L m vm) : ∃ r, (Instr.sliceAt t u vlo vhi (some vm)).run P w = .ok r w ∧ Rep w η L z r := by
  have key : ∀ e, P.underlying t = some (.slice e) → 0 < P.cellsOf e → ∀ (a : Option Addr) (n cap : Nat), u = .slice a n cap → vlo = none → vhi = some (.int .i64 0) → vm = .int .i64 0 →
      ∃ r, (Instr.sliceAt t u vlo vhi (some vm)).run P w = .ok r w ∧ Rep w η L .em r := by
    rintro e hu h0 a n cap rfl rfl rfl rfl
    refine ⟨.slice a 0 0, ?_, a, rfl⟩
    have hb := fun n c => run_sliceBound (P := P) (w := w) (k := 0) (n := n) (code := c) (by omega)
    simp [Instr.sliceAt, run_underlying hu, Instr.slice, Instr.sliceBounds, hb, run_sizeOf' (P := P) (w := w) rfl h0]
  unfold aSlice3 at h
  split at h
  · rename_i e b k hu
    cases hlo
    cases hhi with
    | some hb =>
    cases hb
    cases hm
    split at h
    · rename_i n sz c
      simp only [Option.some.injEq, Prod.mk.injEq] at h
      obtain ⟨rfl, rfl⟩ := h
      obtain ⟨h0, rfl, rfl⟩ := hpre
      obtain ⟨a, cap, hv, _⟩ := hx
      exact key e hu h0 a _ cap hv rfl rfl rfl
    · simp only [Option.some.injEq, Prod.mk.injEq] at h
      obtain ⟨rfl, rfl⟩ := h
      obtain ⟨h0, rfl, rfl⟩ := hpre
      obtain ⟨a, hv⟩ := hx
      exact key e hu h0 a _ _ hv rfl rfl rfl
    · rename_i p ver n
      simp only [Option.some.injEq, Prod.mk.injEq] at h
      obtain ⟨rfl, rfl⟩ := h
      obtain ⟨h0, rfl, rfl⟩ := hpre
      obtain ⟨g, cap, _, hv⟩ := hx
      cases g with
      | none =>
        obtain ⟨_, a, hv⟩ := hv
        exact key e hu h0 a _ _ hv rfl rfl rfl
      | some g => exact key e hu h0 _ _ _ hv.1 rfl rfl rfl
    · cases h
  · cases h

/-! ### what is picked, negated, converted, counted -/
def aPick (c x y : AV) : Out :=
  match c, x, y with
  | .val (.bool b), .val (.bool p), .val (.bool q) => some (True, .val (.bool (bif b then p else q)))
  | .val (.bool b), .gd g (.val (.bool p)), .val (.bool q) => some (b = true → g = true, .val (.bool (bif b then p else q)))
  | .val (.bool b), .val (.bool p), .gd g (.val (.bool q)) => some (b = false → g = true, .val (.bool (bif b then p else q)))
  | _, _, _ => none
theorem run_aPick {c x y z : AV} {vc vx vy : Value} {pre : Prop} (h : aPick c x y = some (pre, z)) (hpre : pre) (hc : Rep w η L c vc) (hx : Rep w η L x vx) (hy : Rep w η L y vy) :
    ∃ b, vc = .bool b ∧ Rep w η L z (if b then vx else vy) := by
  unfold aPick at h
  split at h
  · rename_i b p q
    simp only [Option.some.injEq, Prod.mk.injEq] at h
    obtain ⟨rfl, rfl⟩ := h
    cases hc; cases hx; cases hy
    exact ⟨b, rfl, by cases b <;> rfl⟩
  · rename_i b g p q
    simp only [Option.some.injEq, Prod.mk.injEq] at h
    obtain ⟨rfl, rfl⟩ := h
    cases hc; cases hy
    exact ⟨b, rfl, by cases b with
      | false => rfl
      | true => have := hx.1 (hpre rfl); cases this; rfl⟩
  · rename_i b p g q
    simp only [Option.some.injEq, Prod.mk.injEq] at h
    obtain ⟨rfl, rfl⟩ := h
    cases hc; cases hx
    exact ⟨b, rfl, by cases b with
      | true => rfl
      | false => have := hy.1 (hpre rfl); cases this; rfl⟩
  · cases h

def aUn (op : UnOp) (x : AV) : Out :=
  match op, x with
  | .not, .val (.bool b) => some (True, .val (.bool (!b)))
  | .neg, .val (.int .i64 n) => some (-9223372036854775808 ≤ -n ∧ -n ≤ 9223372036854775807, .val (.int .i64 (-n)))
  | _, _ => none
theorem run_aUn {op : UnOp} {x z : AV} {v : Value} {pre : Prop} (h : aUn op x = some (pre, z)) (hpre : pre) (hx : Rep w η L x v) :
    ∃ r, (Op.unary op v).run P w = .ok r w ∧ Rep w η L z r := by
  unfold aUn at h
  split at h
  · simp only [Option.some.injEq, Prod.mk.injEq] at h
    obtain ⟨rfl, rfl⟩ := h
    cases hx
    exact ⟨_, rfl, rfl⟩
  · simp only [Option.some.injEq, Prod.mk.injEq] at h
    obtain ⟨rfl, rfl⟩ := h
    cases hx
    refine ⟨_, ?_, rfl⟩
    rename_i n
    have := wrap_i64 (0 - n) (by omega)
    simp [Op.unary, Op.intArith]
    simpa using this
  · cases h

def aConv (P : Program) (src dst : TypeId) (x : AV) : Out :=
  match P.underlying src, P.underlying dst, x with
  | some (.int _), some (.int .i64), .val (.int _ n) => some (-9223372036854775808 ≤ n ∧ n ≤ 9223372036854775807, .val (.int .i64 n))
  | some (.int _), some (.int k), .val (.int _ n) => some (True, .val (.int k (k.wrap n)))
  | _, _, _ => none
theorem run_aConv {src dst : TypeId} {x z : AV} {v : Value} {pre : Prop} (h : aConv P src dst x = some (pre, z)) (hpre : pre) (hx : Rep w η L x v) :
    ∃ r, (convert src dst v).run P w = .ok r w ∧ Rep w η L z r := by
  unfold aConv at h
  split at h
  · rename_i hs hd
    simp only [Option.some.injEq, Prod.mk.injEq] at h
    obtain ⟨rfl, rfl⟩ := h
    cases hx
    exact ⟨_, by simp [convert, run_underlying hs, run_underlying hd, Conv.intToInt, wrap_i64 _ hpre], rfl⟩
  · rename_i hs hd
    simp only [Option.some.injEq, Prod.mk.injEq] at h
    obtain ⟨rfl, rfl⟩ := h
    cases hx
    exact ⟨_, by simp [convert, run_underlying hs, run_underlying hd, Conv.intToInt], rfl⟩
  · cases h

def aLen (P : Program) (t : TypeId) (x : AV) : Out :=
  match P.underlying t, x with
  | some .string, .st l => some (True, .val (.int .i64 l.length))
  | some (.slice _), .sn n _ _ => some (True, .val (.int .i64 n))
  | some (.slice _), .ow _ _ n => some (True, .val (.int .i64 n))
  | some (.slice _), .em => some (True, .val (.int .i64 0))
  | _, _ => none
theorem run_aLen {t ty : TypeId} {x z : AV} {v : Value} {pre : Prop} (h : aLen P t x = some (pre, z)) (_hpre : pre) (hx : Rep w η L x v) :
    ∃ r, (Builtin.len_ #[t] ty #[v]).run P w = .ok r w ∧ Rep w η L z r := by
  unfold aLen at h
  split at h
  · rename_i l hu
    simp only [Option.some.injEq, Prod.mk.injEq] at h
    obtain ⟨rfl, rfl⟩ := h
    cases hx
    exact ⟨_, by simp [Builtin.len_, run_underlying hu, goInt, ByteArray.size_mk'], rfl⟩
  · rename_i hu
    simp only [Option.some.injEq, Prod.mk.injEq] at h
    obtain ⟨rfl, rfl⟩ := h
    obtain ⟨a, cap, rfl, _⟩ := hx
    exact ⟨_, by simp [Builtin.len_, run_underlying hu, goInt], rfl⟩
  · rename_i n hu
    simp only [Option.some.injEq, Prod.mk.injEq] at h
    obtain ⟨rfl, rfl⟩ := h
    obtain ⟨g, cap, _, hv⟩ := hx
    cases g with
    | none =>
      obtain ⟨rfl, a, rfl⟩ := hv
      exact ⟨_, by simp [Builtin.len_, run_underlying hu, goInt], rfl⟩
    | some g =>
      obtain ⟨rfl, _⟩ := hv
      exact ⟨_, by simp [Builtin.len_, run_underlying hu, goInt], rfl⟩
  · rename_i hu
    simp only [Option.some.injEq, Prod.mk.injEq] at h
    obtain ⟨rfl, rfl⟩ := h
    obtain ⟨a, rfl⟩ := hx
    exact ⟨_, by simp [Builtin.len_, run_underlying hu, goInt], rfl⟩
  · cases h

def aMin : List AV → Out
  | [.val (.int .i64 a), .val (.int .i64 b)] => some (True, .val (.int .i64 (min a b)))
  | [.val (.int .i64 a), .val (.int .i64 b), .val (.int .i64 c)] => some (True, .val (.int .i64 (min (min a b) c)))
  | _ => none
def aMax : List AV → Out
  | [.val (.int .i64 a), .val (.int .i64 b)] => some (True, .val (.int .i64 (max a b)))
  | [.val (.int .i64 a), .val (.int .i64 b), .val (.int .i64 c)] => some (True, .val (.int .i64 (max (max a b) c)))
  | _ => none
theorem min_if (a b : Int) : (if b < a then b else a) = min a b := by omega
theorem max_if (a b : Int) : (if a < b then b else a) = max a b := by omega
end
end Go.Proofs.YtljgfacjefebaaaDoor
