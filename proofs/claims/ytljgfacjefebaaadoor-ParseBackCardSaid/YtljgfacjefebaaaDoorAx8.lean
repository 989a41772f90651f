/-
  Stores into rows at hand, appends to them; operations one behind the other.
-/
import Derived.Test.YtljgfacjefebaaaDoorAx7
namespace Go.Proofs.YtljgfacjefebaaaDoor
open Go

section
variable {c : Ctx} {hp : Nat → Row} {nx : Nat} {η : Env} {w w' : World}

theorem updR_at (f : Nat → Row) (p : Nat) (r : Row) : updR f p r p = r := if_pos rfl
theorem updR_ne (f : Nat → Row) {p q : Nat} (r : Row) (h : q ≠ p) : updR f p r q = f q := if_neg h

/-- A row is written where it lies. -/
theorem HS.write (h : HS c hp nx η w) {p g : Nat} {row : Row} (hb : (hp p).blk η = some g) (hv : row.ver = (hp p).ver) (hf : Fr (fun b => b = g) w w')
    (hrow : RowOK w' η (Lset c η hp) row) : HS c (updR hp p row) nx η w' ∧ ∀ x u, Rep w η (Lset c η hp) x u → Rep w' η (Lset c η (updR hp p row)) x u := by
  have hbk : ∀ q, (updR hp p row q).blk η = (hp q).blk η := fun q => by
    by_cases e : q = p
    · subst e; rw [updR_at]; simp only [Row.blk, hv]
    · rw [updR_ne _ _ e]
  have hL : Lset c η (updR hp p row) = Lset c η hp := by
    funext b
    simp only [Lset, hbk]
  have hO : ∀ k, k < w.heap.size → k = g → Lset c η hp k := fun k _ e => .inr ⟨p, by rw [e]; exact hb⟩
  have hkeep : ∀ x u, Rep w η (Lset c η hp) x u → Rep w' η (Lset c η hp) x u := fun x u hx => Rep.keep hf hO (fun _ _ h => h) x η η u (Env.le_refl _) hx
  refine ⟨⟨h.fr.trans' hf ?_, h.lx, fun q => ?_, fun q r v hq hr => ?_, fun q v hq => ?_, fun q r b hq hr => ?_, fun q b hq => ?_, h.fresh, h.env⟩, by rw [hL]; exact hkeep⟩
  · intro k hk e
    subst e
    exact (h.own p k hb).1.resolve_right (by omega)
  · rw [hL]
    by_cases e : q = p
    · subst e; rw [updR_at]; exact hrow
    · rw [updR_ne _ _ e]
      exact RowOK.keep hf (Env.le_refl _) hO (fun _ _ h => h) (fun _ _ => rfl) (fun b hq => by
        refine hf.block b (h.own q b hq).2.2 fun e' => e ?_
        subst e'
        exact h.disj q p b hq hb) (h.rows q)
  · have hver : ∀ q, (updR hp p row q).ver = (hp q).ver := fun q => by
      by_cases e : q = p
      · subst e; rw [updR_at, hv]
      · rw [updR_ne _ _ e]
    rw [hver] at hq hr
    exact h.vers q r v hq hr
  · by_cases e : q = p
    · subst e; rw [updR_at, hv] at hq; exact h.bnd q v hq
    · rw [updR_ne _ _ e] at hq; exact h.bnd q v hq
  · rw [hbk] at hq hr; exact h.disj q r b hq hr
  · rw [hbk] at hq
    exact ⟨(h.own q b hq).1, (h.own q b hq).2.1, Nat.lt_of_lt_of_le (h.own q b hq).2.2 hf.size⟩

/-- A row takes another one's place: where that lay, or in a new block, or nowhere. -/
theorem HS.swap (h : HS c hp nx η w) {p : Nat} {row : Row} {r : Option Nat × Nat} {O : Nat → Prop} (hv : row.ver = some nx) (hf : Fr O w w') (hO : ∀ k, k < w.heap.size → O k → (hp p).blk η = some k)
    (hr : ∀ g, r.1 = some g → (hp p).blk η = some g ∨ (w.heap.size ≤ g ∧ g < w'.heap.size))
    (hrow : (∀ x u, Rep w η (Lset c η hp) x u → Rep w' (layAt η nx r) (Lset c (layAt η nx r) (updR hp p row)) x u) → RowOK w' (layAt η nx r) (Lset c (layAt η nx r) (updR hp p row)) row) :
    HS c (updR hp p row) (nx + 1) (layAt η nx r) w' ∧ ∀ x u, Rep w η (Lset c η hp) x u → Rep w' (layAt η nx r) (Lset c (layAt η nx r) (updR hp p row)) x u := by
  have hn : η nx = none := h.fresh nx (Nat.le_refl _)
  have hle : Env.le η (layAt η nx r) := layAt_le hn
  have hbk : ∀ q b, (updR hp p row q).blk (layAt η nx r) = some b → (q = p ∧ r.1 = some b) ∨ (q ≠ p ∧ (hp q).blk η = some b) := by
    intro q b hb
    by_cases e : q = p
    · subst e
      rw [updR_at] at hb
      simp only [Row.blk, hv, Option.bind_some, layAt_at] at hb
      exact .inl ⟨rfl, hb⟩
    · rw [updR_ne _ _ e] at hb
      refine .inr ⟨e, ?_⟩
      unfold Row.blk at hb ⊢
      cases hq : (hp q).ver with
      | none => rw [hq] at hb; cases hb
      | some v =>
        rw [hq] at hb
        simp only [Option.bind_some] at hb ⊢
        have := h.bnd q v hq
        rwa [layAt_ne (by omega)] at hb
  have hL : ∀ b, b < w.heap.size → Lset c (layAt η nx r) (updR hp p row) b → Lset c η hp b := by
    rintro b hb (hl | ⟨q, hq⟩)
    · exact .inl hl
    · rcases hbk q b hq with ⟨rfl, hg⟩ | ⟨_, hq'⟩
      · rcases hr b hg with h1 | h1
        · exact .inr ⟨q, h1⟩
        · omega
      · exact .inr ⟨q, hq'⟩
  have hOL : ∀ k, k < w.heap.size → O k → Lset c η hp k := fun k hk ho => .inr ⟨p, hO k hk ho⟩
  have hrow := hrow fun x u hx => Rep.keep hf hOL hL x _ _ u hle hx
  refine ⟨⟨h.fr.trans' hf fun k hk ho => (h.own p k (hO k (Nat.lt_of_lt_of_le hk h.fr.size) ho)).1.resolve_right (by omega), h.lx, fun q => ?_, fun q s v hq hs => ?_, fun q v hq => ?_, fun q s b hq hs => ?_, fun q b hq => ?_, fun k hk => ?_, Env.le_trans h.env.1 hle, Nat.le_succ_of_le h.env.2.1, fun k hk h0 => by rw [layAt_ne (by have := h.env.2.1; omega)]; exact h.env.2.2 k hk h0⟩,
    fun x u hx => Rep.keep hf hOL hL x _ _ u hle hx⟩
  · by_cases e : q = p
    · subst e; rw [updR_at]; exact hrow
    · rw [updR_ne _ _ e]
      exact RowOK.keep hf hle hOL hL (fun v hq => layAt_ne (by have := h.bnd q v hq; omega)) (fun b hq => by
        refine hf.block b (h.own q b hq).2.2 fun ho => e ?_
        exact h.disj q p b hq (hO b (h.own q b hq).2.2 ho)) (h.rows q)
  · by_cases e1 : q = p <;> by_cases e2 : s = p
    · rw [e1, e2]
    · subst e1
      rw [updR_at, hv] at hq
      rw [updR_ne _ _ e2] at hs
      obtain rfl : nx = v := by simpa using hq
      have := h.bnd s nx hs; omega
    · subst e2
      rw [updR_at, hv] at hs
      rw [updR_ne _ _ e1] at hq
      obtain rfl : nx = v := by simpa using hs
      have := h.bnd q nx hq; omega
    · rw [updR_ne _ _ e1] at hq
      rw [updR_ne _ _ e2] at hs
      exact h.vers q s v hq hs
  · by_cases e : q = p
    · subst e
      rw [updR_at, hv] at hq
      obtain rfl : nx = v := by simpa using hq
      omega
    · rw [updR_ne _ _ e] at hq
      have := h.bnd q v hq; omega
  · rcases hbk q b hq with ⟨rfl, hg⟩ | ⟨e1, hq'⟩ <;> rcases hbk s b hs with ⟨rfl, hg'⟩ | ⟨e2, hs'⟩
    · rfl
    · rcases hr b hg with h1 | h1
      · exact h.disj q s b h1 hs'
      · have := (h.own s b hs').2.2; omega
    · rcases hr b hg' with h1 | h1
      · exact h.disj q s b hq' h1
      · have := (h.own q b hq').2.2; omega
    · exact h.disj q s b hq' hs'
  · rcases hbk q b hq with ⟨rfl, hg⟩ | ⟨e1, hq'⟩
    · rcases hr b hg with h1 | h1
      · exact ⟨(h.own q b h1).1, (h.own q b h1).2.1, Nat.lt_of_lt_of_le (h.own q b h1).2.2 hf.size⟩
      · refine ⟨.inr (Nat.le_trans h.fr.size h1.1), fun hl => ?_, h1.2⟩
        have := h.lx _ hl
        have := h.fr.size
        omega
    · exact ⟨(h.own q b hq').1, (h.own q b hq').2.1, Nat.lt_of_lt_of_le (h.own q b hq').2.2 hf.size⟩
  · rw [layAt_ne (by omega)]
    exact h.fresh k (by omega)

/-! ### stores -/
def stC (c : Nat → AV) (j k : Nat) (d : Nat → AV) : Nat → AV := fun i => if j ≤ i ∧ i < j + k then d (i - j) else c i
def stE (c : Nat → Nat → AV) (i j k : Nat) (d : Nat → AV) : Nat → Nat → AV := fun a b => if a = i ∧ j ≤ b ∧ b < j + k then d (b - j) else c a b
def sStore (P : Program) (st : AS) (t : TypeId) (x y : AV) (d : Option Tmp) (K : AS → Prop) : Prop :=
  match x, cellsAV y with
  | .pt p ver j, some (k, e) => match st.hp p with
    | .box v ety m cc => (v = ver ∧ P.cellsOf t = k ∧ 0 < k ∧ j + k ≤ m ∧ dstOK st.sz d) ∧ K ⟨updO st.fr d .any, updR st.hp p (.box v ety m (stC cc j k e)), st.sz, st.top, st.nx, st.df⟩
    | _ => False
  | .pe p ver sz i j, some (k, e) => match st.hp p with
    | .sl v ety sz' n cc => (v = ver ∧ sz' = sz ∧ i < n ∧ P.cellsOf t = k ∧ 0 < k ∧ j + k ≤ sz ∧ dstOK st.sz d) ∧ K ⟨updO st.fr d .any, updR st.hp p (.sl v ety sz n (stE cc i j k e)), st.sz, st.top, st.nx, st.df⟩
    | _ => False
  | _, _ => False

theorem fr_setRow (w : World) (g : Nat) (cs : Array Value) : Fr (fun b => b = g) w (w.setRow g cs) :=
  ⟨rfl, rfl, rfl, by simp, fun k _ hk => setRow_other w g k cs hk⟩

theorem splice_at (cur : Array Value) (vs : List Value) (o i : Nat) (h : o + vs.length ≤ cur.size) :
    (cur.toList.take o ++ vs ++ cur.toList.drop (o + vs.length)).toArray[i]? = if o ≤ i ∧ i < o + vs.length then vs[i - o]? else cur[i]? := by
  simp only [List.getElem?_toArray, List.append_assoc]
  have hl : (cur.toList.take o).length = o := by simp; omega
  by_cases h1 : i < o
  · rw [if_neg (by omega), List.getElem?_append_left (by omega), List.getElem?_take, if_pos h1, Array.getElem?_toList]
  · rw [List.getElem?_append_right (by omega), hl]
    by_cases h2 : i < o + vs.length
    · rw [if_pos (by omega), List.getElem?_append_left (by omega)]
    · rw [if_neg (by omega), List.getElem?_append_right (by omega), List.getElem?_drop, Array.getElem?_toList]
      congr 1
      omega

theorem run_store_block {P : Program} {t : TypeId} {v : Value} {g o : Nat} {cur : Array Value} {e : TypeId} (hh : w.heap[g]? = some (.cells cur e (0, 0))) (hk : P.cellsOf t = v.cells.size) (h0 : 0 < v.cells.size)
    (hfit : o + v.cells.size ≤ cur.size) (h1 : ∀ j, j < v.cells.size → ∃ u, v.cells[j]? = some u ∧ u.oneCell' = true) :
    (Instr.storeAt t (.pointer (some ⟨g, o, none⟩)) v).run P w = .ok () (w.setRow g (cur.toList.take o ++ v.cells.toList ++ cur.toList.drop (o + v.cells.toList.length)).toArray) := by
  have hs := run_storeCells_at P g o e v.cells.toList 0 cur w hh (by simpa using hfit) (fun u hu => by
    obtain ⟨i, hi, rfl⟩ := List.mem_iff_getElem.1 hu
    obtain ⟨u', hu', ho⟩ := h1 i (by simpa using hi)
    rw [Array.getElem?_eq_getElem (by simpa using hi)] at hu'
    simp only [Option.some.injEq] at hu'
    simpa [hu'] using ho)
  simp only [Nat.add_zero] at hs
  simp [Instr.storeAt, Instr.sureAddr, storeVar, run_sizeOf' (P := P) (w := w) hk h0]
  simpa using hs

theorem store_wp {P : Program} {st : AS} {o : Oper} {t : TypeId} {x y : Operand} {K : AS → Prop} (ho : o.op = .store t x y) (h : sStore P st t (st.ev x) (st.ev y) o.dst K) : OpW P o st K := by
  intro c η a w next Q hsr hnext
  have hev : ∀ x, Rep w η (Lset c η st.hp) (st.ev x) (a.eval x) := rep_ev hsr.slots
  have fin : ∀ w', (Instr.storeAt t (a.eval x) (a.eval y)).run P w = .ok () w' → next (a.put o.dst undef) w' → o.wp P a w next Q := fun w' hr hn => by
    unfold Oper.wp
    have : (execOp a.eval o).run P w = .ok .skip w' := by
      unfold execOp
      rw [ho]
      simp [hr]
    rw [this]
    exact hn
  have hx := hev x
  have hy := hev y
  unfold sStore at h
  split at h
  · rename_i p ver j k e hxe hye
    rw [hxe] at hx
    split at h
    · rename_i v ety m cc hrow
      obtain ⟨⟨rfl, hk, h0, hm, hd⟩, hK⟩ := h
      obtain ⟨g, cap, hη, hxv⟩ := hx
      have hr := hsr.hs.rows p
      rw [hrow] at hr
      obtain ⟨b, cur, hb, hh, hsz, hc⟩ := hr _ _ hη
      obtain rfl : g = b := by simpa using hb
      obtain ⟨hcs, hcells⟩ := cellsAV_rep hye hy
      have hw := run_store_block (P := P) (t := t) (o := j) hh (by rw [hcs]; exact hk) (by omega) (by omega) (fun q hq => by
        obtain ⟨u, hu, h1, _⟩ := hcells q (by omega); exact ⟨u, hu, h1⟩)
      have hblk : (st.hp p).blk η = some g := by rw [hrow]; simp [Row.blk, Row.ver, hη]
      have hf := fr_setRow w g (cur.toList.take j ++ (a.eval y).cells.toList ++ cur.toList.drop (j + (a.eval y).cells.toList.length)).toArray
      have hO : ∀ k, k < w.heap.size → k = g → Lset c η st.hp k := fun k _ e => .inr ⟨p, by rw [e]; exact hblk⟩
      have hlen : (a.eval y).cells.toList.length = k := by simpa using hcs
      have hwr := hsr.hs.write (row := .box v ety m (stC cc j k e)) hblk (by rw [hrow]; rfl) hf (by
        intro g' cap' he
        rw [hη] at he
        simp only [Option.some.injEq, Prod.mk.injEq] at he
        obtain ⟨rfl, rfl⟩ := he
        refine ⟨_, _, rfl, setRow_heap w g cur _ ety (0, 0) hh, by simp [hcs]; omega, fun i hi => ?_⟩
        rw [splice_at cur _ j i (by omega)]
        unfold stC
        by_cases hji : j ≤ i ∧ i < j + k
        · rw [if_pos (by omega), if_pos hji]
          obtain ⟨u, hu, h1, hrep⟩ := hcells (i - j) (by omega)
          exact ⟨u, by simpa using hu, h1, Rep.keep hf hO (fun _ _ h => h) _ _ _ _ (Env.le_refl _) hrep⟩
        · rw [if_neg (by omega), if_neg hji]
          obtain ⟨u, hu, h1, hrep⟩ := hc i hi
          exact ⟨u, hu, h1, Rep.keep hf hO (fun _ _ h => h) _ _ _ _ (Env.le_refl _) hrep⟩)
      refine fin _ (by rw [hxv]; exact hw) (hnext _ η _ _ (hsr.put (z := .any) hd hwr.1 (fun q hq => ?_) hwr.2 trivial) hK)
      by_cases e : q = p
      · subst e; rw [hsr.dead q hq] at hrow; cases hrow
      · rw [updR_ne _ _ e]; exact hsr.dead q hq
    · exact h.elim
  · rename_i p ver sz i j k e hxe hye
    rw [hxe] at hx
    split at h
    · rename_i v ety sz' n cc hrow
      obtain ⟨⟨rfl, rfl, hi, hk, h0, hm, hd⟩, hK⟩ := h
      obtain ⟨g, cap, hη, hxv⟩ := hx
      have hr := hsr.hs.rows p
      rw [hrow] at hr
      obtain ⟨cur, hh, hsz, hn, hcm, hc⟩ := hr _ _ hη
      obtain ⟨hcs, hcells⟩ := cellsAV_rep hye hy
      have hfit : i * sz' + sz' ≤ cur.size := by
        rw [hsz]
        have : (i + 1) * sz' ≤ cap * sz' := Nat.mul_le_mul_right _ (by omega)
        rwa [Nat.add_mul, Nat.one_mul] at this
      have hw := run_store_block (P := P) (t := t) (o := i * sz' + j) hh (by rw [hcs]; exact hk) (by omega) (by omega) (fun q hq => by
        obtain ⟨u, hu, h1, _⟩ := hcells q (by omega); exact ⟨u, hu, h1⟩)
      have hblk : (st.hp p).blk η = some g := by rw [hrow]; simp [Row.blk, Row.ver, hη]
      have hf := fr_setRow w g (cur.toList.take (i * sz' + j) ++ (a.eval y).cells.toList ++ cur.toList.drop (i * sz' + j + (a.eval y).cells.toList.length)).toArray
      have hO : ∀ k, k < w.heap.size → k = g → Lset c η st.hp k := fun k _ e => .inr ⟨p, by rw [e]; exact hblk⟩
      have hlen : (a.eval y).cells.toList.length = k := by simpa using hcs
      have hwr := hsr.hs.write (row := .sl v ety sz' n (stE cc i j k e)) hblk (by rw [hrow]; rfl) hf (by
        intro g' cap' he
        rw [hη] at he
        simp only [Option.some.injEq, Prod.mk.injEq] at he
        obtain ⟨rfl, rfl⟩ := he
        refine ⟨_, setRow_heap w g cur _ ety (0, 0) hh, by simp [hcs]; omega, hn, hcm, fun a' ha' b' hb' => ?_⟩
        rw [splice_at cur _ (i * sz' + j) _ (by omega)]
        unfold stE
        by_cases hab : a' = i
        · subst hab
          by_cases hjb : j ≤ b' ∧ b' < j + k
          · rw [if_pos (by omega), if_pos (by omega)]
            obtain ⟨u, hu, h1, hrep⟩ := hcells (b' - j) (by omega)
            refine ⟨u, ?_, h1, Rep.keep hf hO (fun _ _ h => h) _ _ _ _ (Env.le_refl _) hrep⟩
            rw [show a' * sz' + b' - (a' * sz' + j) = b' - j by omega]
            simpa using hu
          · rw [if_neg (by omega), if_neg (by omega)]
            obtain ⟨u, hu, h1, hrep⟩ := hc a' ha' b' hb'
            exact ⟨u, hu, h1, Rep.keep hf hO (fun _ _ h => h) _ _ _ _ (Env.le_refl _) hrep⟩
        · have hne : ¬ (i * sz' + j ≤ a' * sz' + b' ∧ a' * sz' + b' < i * sz' + j + k) := by
            rcases Nat.lt_or_gt_of_ne hab with hlt | hlt
            · have : (a' + 1) * sz' ≤ i * sz' := Nat.mul_le_mul_right _ (by omega)
              rw [Nat.add_mul, Nat.one_mul] at this
              omega
            · have : (i + 1) * sz' ≤ a' * sz' := Nat.mul_le_mul_right _ (by omega)
              rw [Nat.add_mul, Nat.one_mul] at this
              omega
          rw [if_neg (by rw [hlen]; exact hne), if_neg (by simp [hab])]
          obtain ⟨u, hu, h1, hrep⟩ := hc a' ha' b' hb'
          exact ⟨u, hu, h1, Rep.keep hf hO (fun _ _ h => h) _ _ _ _ (Env.le_refl _) hrep⟩)
      refine fin _ (by rw [hxv]; exact hw) (hnext _ η _ _ (hsr.put (z := .any) hd hwr.1 (fun q hq => ?_) hwr.2 trivial) hK)
      by_cases e : q = p
      · subst e; rw [hsr.dead q hq] at hrow; cases hrow
      · rw [updR_ne _ _ e]; exact hsr.dead q hq
    · exact h.elim
  · exact h.elim

/-! ### appends -/
theorem cells_list {b off k sz : Nat} {R : Nat → Nat → Value → Prop} (h : ∀ i, i < k → ∀ j, j < sz → ∃ u, w.cell? ⟨b, off + (i * sz + j), none⟩ = some u ∧ u.oneCell' = true ∧ R i j u) :
    ∃ news : List Value, news.length = k * sz ∧ (∀ q u, news[q]? = some u → w.cell? ((⟨b, off, none⟩ : Addr).add q) = some u) ∧ (∀ u ∈ news, u.oneCell' = true) ∧
      ∀ i, i < k → ∀ j, j < sz → ∃ u, news[i * sz + j]? = some u ∧ u.oneCell' = true ∧ R i j u := by
  have hq : ∀ q, q < k * sz → ∃ u, w.cell? ⟨b, off + q, none⟩ = some u ∧ u.oneCell' = true ∧ R (q / sz) (q % sz) u := fun q hq => by
    have hs : 0 < sz := by
      rcases Nat.eq_zero_or_pos sz with e | e
      · rw [e] at hq; simp at hq
      · exact e
    have h1 : q / sz < k := (Nat.div_lt_iff_lt_mul hs).2 hq
    obtain ⟨u, hu, ho, hr⟩ := h (q / sz) h1 (q % sz) (Nat.mod_lt _ hs)
    exact ⟨u, by rw [Nat.mul_comm, Nat.div_add_mod] at hu; exact hu, ho, hr⟩
  refine ⟨(List.range (k * sz)).map fun q => (w.cell? ⟨b, off + q, none⟩).getD undef, by simp, fun q u hu => ?_, fun u hu => ?_, fun i hi j hj => ?_⟩
  · rw [List.getElem?_map] at hu
    by_cases hlt : q < k * sz
    · obtain ⟨v, hv, _⟩ := hq q hlt
      simp [hlt, hv] at hu
      subst hu
      rw [add_off]; exact hv
    · simp [hlt] at hu
  · obtain ⟨q, hq', rfl⟩ := List.mem_map.1 hu
    obtain ⟨v, hv, ho, _⟩ := hq q (by simpa using hq')
    simpa [hv] using ho
  · have hb : i * sz + j < k * sz := by
      have : (i + 1) * sz ≤ k * sz := Nat.mul_le_mul_right _ (by omega)
      rw [Nat.add_mul, Nat.one_mul] at this
      omega
    obtain ⟨u, hu, ho, hr⟩ := h i hi j hj
    exact ⟨u, by simp [hb, hu], ho, hr⟩

/-- What an append adds: how many elements, of how many cells, which. -/
def item : AV → Option (Nat × Nat × (Nat → Nat → AV))
  | .sn k sz d => some (k, sz, d)
  | _ => none
def apC (n : Nat) (c d : Nat → Nat → AV) : Nat → Nat → AV := fun i j => if i < n then c i j else d (i - n) j
def appOK (P : Program) (e : TypeId) (sz n : Nat) : Prop :=
  P.cellsOf e = sz ∧ 0 < sz ∧ 0 < P.bytesOf e ∧ n * P.bytesOf e ≤ 140737488355328 ∧ ∃ z, zeroC P e = some z ∧ z.length = sz
/-- What is appended is told, be it of a row at hand. -/
def vwA (hp : Nat → Row) : AV → Prop
  | .ow p ver n => match hp p with
    | .sl v _ _ n' _ => v = ver ∧ n ≤ n'
    | _ => False
  | _ => True
def sApp (P : Program) (st : AS) (t : TypeId) (x y : AV) (d : Option Tmp) (K : AS → Prop) : Prop :=
  match P.underlying t, x, vw st.hp y with
  | some (.slice e), .ow p ver n, .sn k sz' dd => match st.hp p with
    | .sl v ety sz n' cc => (vwA st.hp y ∧ v = ver ∧ n' = n ∧ ety = e ∧ sz' = sz ∧ dstOK st.sz d ∧ appOK P e sz (n + k)) ∧ K ⟨updO st.fr d (.ow p st.nx (n + k)), updR st.hp p (.sl st.nx e sz (n + k) (apC n cc dd)), st.sz, st.top, st.nx + 1, st.df⟩
    | _ => False
  | some (.slice e), .em, .sn k sz dd => (vwA st.hp y ∧ dstOK st.sz d ∧ appOK P e sz k) ∧ K ⟨updO st.fr d (.ow st.top st.nx k), updR st.hp st.top (.sl st.nx e sz k dd), st.sz, st.top + 1, st.nx + 1, st.df⟩
  | some (.slice e), x, .em => dstOK st.sz d ∧ (∃ b, aLen P t x = some b) ∧ 0 < P.cellsOf e ∧ (∀ w η L v, Rep w η L x v → ∃ a n cap, v = .slice a n cap ∧ n ≤ cap) ∧ K ⟨updO st.fr d x, st.hp, st.sz, st.top, st.nx, st.df⟩
  | _, _, _ => False

theorem run_append_zero {P : Program} {t e ty : TypeId} (ht : P.underlying t = some (.slice e)) {k : Nat} (hk : P.cellsOf e = k) (h0 : 0 < k) {a b : Option Addr} {n cap cap' : Nat} (hn : n ≤ cap) :
    (Builtin.append_ #[t, t] ty #[.slice a n cap, .slice b 0 cap']).run P w = .ok (.slice a n cap) w := by
  cases a <;> cases b <;> simp [Builtin.append_, run_underlying ht, run_sizeOf' (P := P) (w := w) hk h0, Builtin.lenOf, hn, Builtin.firstCells, loadCells, loadCellsFrom, storeCells]

theorem item_rep {L : Nat → Prop} (hrows : ∀ p, RowOK w η L (hp p)) {y : AV} {u : Value} {k sz : Nat} {dd : Nat → Nat → AV} (hy : vw hp y = .sn k sz dd) (hP : vwA hp y) (hr : Rep w η L y u) :
    ∃ a cap, u = .slice a k cap ∧ (0 < k → 0 < sz → ∃ b off, a = some ⟨b, off, none⟩ ∧ ∀ i, i < k → ∀ j, j < sz → ∃ u, w.cell? ⟨b, off + (i * sz + j), none⟩ = some u ∧ u.oneCell' = true ∧ Rep w η L (dd i j) u) := by
  cases y with
  | sn n s d =>
    simp only [vw, vw0, AV.sn.injEq] at hy
    obtain ⟨rfl, rfl, rfl⟩ := hy
    obtain ⟨a, cap, rfl, _, h⟩ := hr
    exact ⟨a, cap, rfl, fun h0 h1 => by obtain ⟨b, off, e, _, hc⟩ := h h0 h1; exact ⟨b, off, e, fun i hi j hj => by obtain ⟨u, h1, h2, h3⟩ := hc i hi j hj; exact ⟨u, h1, h2, Rep.up h3⟩⟩⟩
  | ow p ver n =>
    simp only [vwA] at hP
    simp only [vw, vw0] at hy
    have hrow := hrows p
    split at hP
    · rename_i v ety s n' cc heq
      rw [heq] at hy hrow
      simp only [AV.sn.injEq] at hy
      obtain ⟨rfl, rfl, rfl⟩ := hy
      obtain ⟨rfl, hn⟩ := hP
      obtain ⟨g, cap, hη, hv⟩ := hr
      have hrow := hrow g cap hη
      cases g with
      | none =>
        obtain ⟨rfl, a, rfl⟩ := hv
        exact ⟨a, 0, rfl, fun h => absurd h (by omega)⟩
      | some g =>
        obtain ⟨rfl, hcap⟩ := hv
        obtain ⟨cur, hh, hsz, hnc, hm, hc⟩ := hrow
        refine ⟨_, _, rfl, fun _ _ => ⟨g, 0, rfl, fun i hi j hj => ?_⟩⟩
        obtain ⟨u, hu, h1, hrep⟩ := hc i (by omega) j hj
        exact ⟨u, by rw [cell_heap hh, Nat.zero_add]; exact hu, h1, hrep⟩
    · exact hP.elim
  | pt p ver j => simp only [vw, vw0] at hy; split at hy <;> cases hy
  | pe p ver s i j => simp only [vw, vw0] at hy; split at hy <;> cases hy
  | ag m c => simp only [vw] at hy; cases hy
  | _ => simp only [vw, vw0] at hy; cases hy

theorem info_of {P : Program} {e : TypeId} {z : List Value} (h : zeroC P e = some z) : ∃ i zv, P.info? e = some i ∧ i.zero = some zv ∧ zv.cells = z.toArray ∧ i.size = P.cellsOf e ∧ i.bytes = P.bytesOf e := by
  unfold zeroC at h
  cases hi : P.info? e with
  | none => rw [hi] at h; cases h
  | some i =>
    rw [hi] at h
    cases hz : i.zero with
    | none => simp [hz] at h
    | some zv =>
      simp only [hz, Option.bind_some] at h
      split at h
      · simp only [Option.some.injEq] at h
        exact ⟨i, zv, rfl, hz, by rw [← h], by simp [Program.cellsOf, hi], by simp [Program.bytesOf, hi]⟩
      · cases h

/-- The cells of what was there, and of what is added. -/
theorem apC_cells {η' : Env} {L : Nat → Prop} {n k sz : Nat} {cc dd : Nat → Nat → AV} {olds news : List Value} {cur : Array Value} (ho : olds.length = n * sz)
    (hcur : ∀ q, q < (n + k) * sz → cur[q]? = (olds ++ news)[q]?)
    (hold : ∀ i, i < n → ∀ j, j < sz → ∃ u, olds[i * sz + j]? = some u ∧ u.oneCell' = true ∧ Rep w η' L (cc i j) u)
    (hnew : ∀ i, i < k → ∀ j, j < sz → ∃ u, news[i * sz + j]? = some u ∧ u.oneCell' = true ∧ Rep w η' L (dd i j) u) :
    ∀ i, i < n + k → ∀ j, j < sz → ∃ u, cur[i * sz + j]? = some u ∧ u.oneCell' = true ∧ Rep w η' L (apC n cc dd i j) u := by
  intro i hi j hj
  have hb : i * sz + j < (n + k) * sz := by
    have : (i + 1) * sz ≤ (n + k) * sz := Nat.mul_le_mul_right _ (by omega)
    rw [Nat.add_mul, Nat.one_mul] at this
    omega
  rw [hcur _ hb]
  unfold apC
  by_cases h : i < n
  · have hb' : i * sz + j < n * sz := by
      have : (i + 1) * sz ≤ n * sz := Nat.mul_le_mul_right _ (by omega)
      rw [Nat.add_mul, Nat.one_mul] at this
      omega
    rw [if_pos h, List.getElem?_append_left (by omega)]
    exact hold i h j hj
  · have hge : n * sz ≤ i * sz := Nat.mul_le_mul_right _ (by omega)
    rw [if_neg h, List.getElem?_append_right (by omega), ho]
    have := hnew (i - n) (by omega) j hj
    rwa [Nat.sub_mul, ← Nat.sub_add_comm hge] at this

theorem app_wp {P : Program} {st : AS} {o : Oper} {t t' : TypeId} {x y : Operand} {K : AS → Prop} (ho : o.op = .call ⟨.builtin .append, ⟨[x, y]⟩, ⟨[t, t']⟩⟩) (ht : t' = t)
    (h : sApp P st t (st.ev x) (st.ev y) o.dst K) : OpW P o st K := by
  subst ht
  intro c η a w next Q hsr hnext
  have hev : ∀ x, Rep w η (Lset c η st.hp) (st.ev x) (a.eval x) := rep_ev hsr.slots
  have fin : ∀ v w', (Builtin.append_ #[t', t'] o.type #[a.eval x, a.eval y]).run P w = .ok v w' → next (a.put o.dst v) w' → o.wp P a w next Q := fun v w' hr hn => by
    unfold Oper.wp
    have : (execOp a.eval o).run P w = .ok (.value v) w' := by
      unfold execOp
      rw [ho]
      simp [resolve, invoke, builtin, hr]
    rw [this]
    exact hn
  have hx := hev x
  have hy := hev y
  unfold sApp at h
  split at h
  · -- onto a row at hand
    rename_i e p ver n k sz' dd hu hxe hvw
    rw [hxe] at hx
    split at h
    · rename_i v ety sz n' cc hrow
      obtain ⟨⟨hP, rfl, rfl, rfl, rfl, hd, hsz, h0, hb0, hbytes, zl, hz, hzl⟩, hK⟩ := h
      obtain ⟨i, zv, hi, hiz, hzc, his, hib⟩ := info_of hz
      obtain ⟨b, capb, hyv, hcells⟩ := item_rep hsr.hs.rows hvw hP hy
      obtain ⟨g, cap, hη, hv⟩ := hx
      have hr := hsr.hs.rows p
      rw [hrow] at hr
      have hr := hr g cap hη
      have hdead : ∀ q row, st.top ≤ q → updR st.hp p row q = .dead ∨ q = p := fun q row hq => by
        by_cases e : q = p
        · exact .inr e
        · rw [updR_ne _ _ e]; exact .inl (hsr.dead q hq)
      have hpt : p < st.top := by
        rcases Nat.lt_or_ge p st.top with h | h
        · exact h
        · rw [hsr.dead p h] at hrow; cases hrow
      have finish : ∀ (v' : Value) (w' : World) (r : Option Nat × Nat) (O : Nat → Prop), (Builtin.append_ #[t', t'] o.type #[a.eval x, a.eval y]).run P w = .ok v' w' → Fr O w w' →
          (∀ k, k < w.heap.size → O k → (st.hp p).blk η = some k) → (∀ g, r.1 = some g → (st.hp p).blk η = some g ∨ (w.heap.size ≤ g ∧ g < w'.heap.size)) →
          ((∀ x u, Rep w η (Lset c η st.hp) x u → Rep w' (layAt η st.nx r) (Lset c (layAt η st.nx r) (updR st.hp p (.sl st.nx ety sz' (n' + k) (apC n' cc dd)))) x u) →
            RowOK w' (layAt η st.nx r) (Lset c (layAt η st.nx r) (updR st.hp p (.sl st.nx ety sz' (n' + k) (apC n' cc dd)))) (.sl st.nx ety sz' (n' + k) (apC n' cc dd))) →
          (match r.1 with | none => n' + k = 0 ∧ ∃ a, v' = .slice a 0 0 | some g => v' = .slice (some ⟨g, 0, none⟩) (n' + k) r.2 ∧ n' + k ≤ r.2) → o.wp P a w next Q := by
        intro v' w' r O hrun hf hO hrb hrok hval
        obtain ⟨hs', hkeep⟩ := hsr.hs.swap (p := p) (row := .sl st.nx ety sz' (n' + k) (apC n' cc dd)) (r := r) rfl hf hO hrb hrok
        refine fin v' w' hrun (hnext _ (layAt η st.nx r) _ _ (hsr.put hd hs' (fun q hq => (hdead q _ hq).resolve_right (by omega)) hkeep ?_) hK)
        exact ⟨r.1, r.2, layAt_at _ _ _, hval⟩
      have hmb : (n' + k) * 1 ≤ (n' + k) * P.bytesOf ety := Nat.mul_le_mul_left _ hb0
      by_cases hk0 : k = 0
      · -- nothing is added
        subst hk0
        have hcapn : ∃ av nn cp, a.eval x = .slice av nn cp ∧ nn ≤ cp := by
          cases g with
          | none => obtain ⟨_, av, e⟩ := hv; exact ⟨av, 0, 0, e, Nat.le_refl _⟩
          | some g => obtain ⟨e, hc⟩ := hv; exact ⟨_, _, _, e, hc⟩
        obtain ⟨av, nn, cp, hxv, hcp⟩ := hcapn
        refine finish (a.eval x) w (g, cap) (fun _ => False) (by rw [hxv, hyv]; exact run_append_zero hu hsz h0 hcp) (Fr.refl _ _) (fun _ _ h => h.elim) (fun g' hg' => .inl ?_) (fun hkeep => ?_) ?_
        · simp only at hg'
          rw [hrow]; simp [Row.blk, Row.ver, hη, hg']
        · intro g' cap' he
          rw [layAt_at] at he
          simp only [Option.some.injEq, Prod.mk.injEq] at he
          obtain ⟨rfl, rfl⟩ := he
          cases g with
          | none => simpa using hr
          | some g =>
            obtain ⟨cur, hh, hcs, hnc, hcm, hc⟩ := hr
            refine ⟨cur, hh, hcs, by omega, hcm, fun i hi j hj => ?_⟩
            obtain ⟨u, hu', h1, hrep⟩ := hc i (by omega) j hj
            exact ⟨u, hu', h1, by unfold apC; rw [if_pos (by omega)]; exact hkeep _ _ hrep⟩
        · cases g with
          | none => simpa using hv
          | some g => simpa using hv
      · obtain ⟨bb, off, rfl, hcell⟩ := hcells (by omega) (by rw [← hsz]; omega)
        obtain ⟨news, hnl, hnc, hn1, hnr⟩ := cells_list hcell
        cases g with
        | none =>
          obtain ⟨rfl, av, hxv⟩ := hv
          -- a new block
          have hgrow : ∃ cap', (Builtin.append_ #[t', t'] o.type #[a.eval x, a.eval y]).run P w = .ok (.slice (some ⟨w.heap.size, 0, none⟩) k cap')
              (w.drew.alloc (.cells (news.toArray ++ Builtin.zeroCells zv.cells (cap' - k)) ety)) ∧ k ≤ cap' ∧ cap' ≤ maxLen := by
            have hm : k ≤ maxLen := by simp only [maxLen]; omega
            refine ⟨grownCap w k 0 ety, ?_, grownCap_ge _ _ _ _, grownCap_le_maxLen _ _ _ _ hm⟩
            rw [hxv, hyv]
            have hk48 : k * i.bytes ≤ 281474976710656 := by rw [hib]; simp only [Nat.zero_add] at hbytes; omega
            cases av with
            | none => exact run_append_nil (P := P) w t' o.type ety i zv hu hi hiz _ k capb news (by rw [his, hsz]; exact hnl) hnc (by omega) (by omega) hk48
            | some ad =>
              have := run_append_grow (P := P) w t' o.type ety i zv hu hi hiz ad 0 0 [] (by simp) (by simp) ⟨bb, off, none⟩ k capb news (by rw [his, hsz]; exact hnl) hnc (by omega) (by omega)
                (growslice_fits (by omega) (by rw [hib]; exact hbytes))
              simpa using this
          obtain ⟨cap', hrun, hge, hle⟩ := hgrow
          have hf : Fr (fun _ => False) w (w.drew.alloc (.cells (news.toArray ++ Builtin.zeroCells zv.cells (cap' - k)) ety)) := (Fr.refl _ w).drew.trans (Fr.alloc _ _ _)
          refine finish _ _ (some w.heap.size, cap') (fun _ => False) hrun hf (fun _ _ h => h.elim) (fun g' hg' => .inr ?_) (fun hkeep => ?_) ⟨by rw [Nat.zero_add], by omega⟩
          · simp only [Option.some.injEq] at hg'
            subst hg'
            simp
          · intro g' cap'' he
            rw [layAt_at] at he
            simp only [Option.some.injEq, Prod.mk.injEq] at he
            obtain ⟨rfl, rfl⟩ := he
            refine ⟨_, heap_alloc_new w.drew _, ?_, by omega, hle, ?_⟩
            · simp only [Array.size_append, List.size_toArray, size_zeroCells, hzc, hzl, hnl, ← Nat.add_mul]
              congr 1
              omega
            · refine apC_cells (olds := []) (news := news) (by simp) (fun q hq => ?_) (fun i hi => absurd hi (by omega)) (fun i hi j hj => ?_)
              · rw [Nat.zero_add] at hq
                rw [List.nil_append, Array.getElem?_append_left (by simp only [List.size_toArray]; omega), List.getElem?_toArray]
              · obtain ⟨u, hu', h1, hrep⟩ := hnr i hi j hj
                exact ⟨u, hu', h1, hkeep _ _ hrep⟩
        | some g =>
          obtain ⟨hxv, hcap⟩ := hv
          obtain ⟨cur, hh, hcs, hncap, hcm, hc⟩ := hr
          have hblk : (st.hp p).blk η = some g := by rw [hrow]; simp [Row.blk, Row.ver, hη]
          have hold : (cur.toList.take (n' * sz')).length = n' * sz' := by
            have : n' * sz' ≤ cap * sz' := Nat.mul_le_mul_right _ hncap
            simp; omega
          have holdr : ∀ (w' : World) (η' : Env) (L' : Nat → Prop), (∀ x u, Rep w η (Lset c η st.hp) x u → Rep w' η' L' x u) → ∀ i, i < n' → ∀ j, j < sz' → ∃ u, (cur.toList.take (n' * sz'))[i * sz' + j]? = some u ∧ u.oneCell' = true ∧ Rep w' η' L' (cc i j) u := by
            intro w' η' L' hkeep i hi j hj
            obtain ⟨u, hu', h1, hrep⟩ := hc i hi j hj
            have hb' : i * sz' + j < n' * sz' := by
              have : (i + 1) * sz' ≤ n' * sz' := Nat.mul_le_mul_right _ (by omega)
              rw [Nat.add_mul, Nat.one_mul] at this
              omega
            exact ⟨u, by rw [List.getElem?_take, if_pos hb', Array.getElem?_toList]; exact hu', h1, hkeep _ _ hrep⟩
          by_cases hroom : n' + k ≤ cap
          · -- there is room
            have hrun := run_append_room (P := P) w t' o.type ety i hu hi g n' cap cur hh ⟨bb, off, none⟩ k capb news (by rw [his, hsz]; exact hnl) hnc hn1 hroom (by
              rw [his, hsz, hnl, hcs, ← Nat.add_mul]; exact Nat.mul_le_mul_right _ hroom)
            rw [his, hsz] at hrun
            refine finish _ _ (some g, cap) (fun b => b = g) (by rw [hxv, hyv]; exact hrun) (fr_setRow w g _) (fun k _ e => by rw [e]; exact hblk) (fun g' hg' => .inl (by simp only [Option.some.injEq] at hg'; rw [← hg']; exact hblk)) (fun hkeep => ?_) ⟨rfl, hroom⟩
            intro g' cap'' he
            rw [layAt_at] at he
            simp only [Option.some.injEq, Prod.mk.injEq] at he
            obtain ⟨rfl, rfl⟩ := he
            have hle : n' * sz' + news.length ≤ cur.size := by rw [hnl, hcs, ← Nat.add_mul]; exact Nat.mul_le_mul_right _ hroom
            refine ⟨_, setRow_heap w g cur _ ety (0, 0) hh, ?_, hroom, hcm, ?_⟩
            · simp only [List.size_toArray, List.length_append, List.length_take, List.length_drop, Array.length_toList]
              omega
            · refine apC_cells (olds := cur.toList.take (n' * sz')) (news := news) hold (fun q hq => ?_) (holdr _ _ _ hkeep) (fun i hi j hj => ?_)
              · rw [List.getElem?_toArray]
                rw [List.getElem?_append_left (by rw [List.length_append, hold, hnl, ← Nat.add_mul]; exact hq)]
              · obtain ⟨u, hu', h1, hrep⟩ := hnr i hi j hj
                exact ⟨u, hu', h1, hkeep _ _ hrep⟩
          · -- a new block
            have hrun := run_append_grow (P := P) w t' o.type ety i zv hu hi hiz ⟨g, 0, none⟩ n' cap (cur.toList.take (n' * sz')) (by rw [his, hsz]; exact hold) (fun j v hj => by
                rw [add_off, Nat.zero_add, cell_heap hh, ← Array.getElem?_toList]
                rw [List.getElem?_take] at hj
                split at hj
                · exact hj
                · cases hj) ⟨bb, off, none⟩ k capb news (by rw [his, hsz]; exact hnl) hnc (by omega) (by omega) (growslice_fits (by omega) (by rw [hib]; exact hbytes))
            have hm : n' + k ≤ maxLen := by simp only [maxLen]; omega
            have hge := grownCap_ge w (n' + k) cap ety
            have hle := grownCap_le_maxLen w (n' + k) cap ety hm
            generalize grownCap w (n' + k) cap ety = cap' at hrun hge hle
            have hf : Fr (fun _ => False) w (w.drew.alloc (.cells ((cur.toList.take (n' * sz')).toArray ++ news.toArray ++ Builtin.zeroCells zv.cells (cap' - (n' + k))) ety)) := (Fr.refl _ w).drew.trans (Fr.alloc _ _ _)
            refine finish _ _ (some w.heap.size, cap') (fun _ => False) (by rw [hxv, hyv]; exact hrun) hf (fun _ _ h => h.elim) (fun g' hg' => .inr ?_) (fun hkeep => ?_) ⟨rfl, hge⟩
            · simp only [Option.some.injEq] at hg'
              subst hg'
              simp
            · intro g' cap'' he
              rw [layAt_at] at he
              simp only [Option.some.injEq, Prod.mk.injEq] at he
              obtain ⟨rfl, rfl⟩ := he
              refine ⟨_, heap_alloc_new w.drew _, ?_, hge, hle, ?_⟩
              · simp only [Array.size_append, List.size_toArray, size_zeroCells, hzc, hzl, hnl, hold, ← Nat.add_mul]
                congr 1
                omega
              · refine apC_cells (olds := cur.toList.take (n' * sz')) (news := news) hold (fun q hq => ?_) (holdr _ _ _ hkeep) (fun i hi j hj => ?_)
                · rw [Array.getElem?_append_left (by simp only [Array.size_append, List.size_toArray, hold, hnl, ← Nat.add_mul]; exact hq)]
                  simp only [List.append_toArray, List.getElem?_toArray]
                · obtain ⟨u, hu', h1, hrep⟩ := hnr i hi j hj
                  exact ⟨u, hu', h1, hkeep _ _ hrep⟩
    · exact h.elim
  · -- onto an empty one
    rename_i e k sz' dd hu hxe hvw
    rw [hxe] at hx
    obtain ⟨⟨hP, hd, hsz, h0, hb0, hbytes, zl, hz, hzl⟩, hK⟩ := h
    obtain ⟨i, zv, hi, hiz, hzc, his, hib⟩ := info_of hz
    obtain ⟨b, capb, hyv, hcells⟩ := item_rep hsr.hs.rows hvw hP hy
    obtain ⟨av, hxv⟩ := hx
    have hnone : (st.hp st.top).blk η = none := by rw [hsr.dead _ (Nat.le_refl _)]; rfl
    have finish : ∀ (v' : Value) (w' : World) (r : Option Nat × Nat), (Builtin.append_ #[t', t'] o.type #[a.eval x, a.eval y]).run P w = .ok v' w' → Fr (fun _ => False) w w' →
        (∀ g, r.1 = some g → w.heap.size ≤ g ∧ g < w'.heap.size) →
        ((∀ x u, Rep w η (Lset c η st.hp) x u → Rep w' (layAt η st.nx r) (Lset c (layAt η st.nx r) (updR st.hp st.top (.sl st.nx e sz' k dd))) x u) →
          RowOK w' (layAt η st.nx r) (Lset c (layAt η st.nx r) (updR st.hp st.top (.sl st.nx e sz' k dd))) (.sl st.nx e sz' k dd)) →
        (match r.1 with | none => k = 0 ∧ ∃ a, v' = .slice a 0 0 | some g => v' = .slice (some ⟨g, 0, none⟩) k r.2 ∧ k ≤ r.2) → o.wp P a w next Q := by
      intro v' w' r hrun hf hrb hrok hval
      obtain ⟨hs', hkeep⟩ := hsr.hs.swap (p := st.top) (row := .sl st.nx e sz' k dd) (r := r) rfl hf (fun _ _ h => h.elim) (fun g hg => .inr (hrb g hg)) hrok
      refine fin v' w' hrun (hnext _ (layAt η st.nx r) _ _ (hsr.put hd hs' (fun q hq => ?_) hkeep ?_) hK)
      · rw [updR_ne _ _ (by omega)]; exact hsr.dead q (by omega)
      · exact ⟨r.1, r.2, layAt_at _ _ _, hval⟩
    have hmb : k * 1 ≤ k * P.bytesOf e := Nat.mul_le_mul_left _ hb0
    by_cases hk0 : k = 0
    · subst hk0
      refine finish (a.eval x) w (none, 0) (by rw [hxv, hyv]; exact run_append_zero hu hsz h0 (Nat.le_refl _)) (Fr.refl _ _) (fun g hg => by cases hg) (fun _ => ?_) ⟨rfl, av, hxv⟩
      intro g' cap' he
      rw [layAt_at] at he
      simp only [Option.some.injEq, Prod.mk.injEq] at he
      obtain ⟨rfl, rfl⟩ := he
      rfl
    · obtain ⟨bb, off, rfl, hcell⟩ := hcells (by omega) (by rw [← hsz]; omega)
      obtain ⟨news, hnl, hnc, hn1, hnr⟩ := cells_list hcell
      have hgrow : ∃ cap', (Builtin.append_ #[t', t'] o.type #[a.eval x, a.eval y]).run P w = .ok (.slice (some ⟨w.heap.size, 0, none⟩) k cap')
          (w.drew.alloc (.cells (news.toArray ++ Builtin.zeroCells zv.cells (cap' - k)) e)) ∧ k ≤ cap' ∧ cap' ≤ maxLen := by
        have hm : k ≤ maxLen := by simp only [maxLen]; omega
        refine ⟨grownCap w k 0 e, ?_, grownCap_ge _ _ _ _, grownCap_le_maxLen _ _ _ _ hm⟩
        rw [hxv, hyv]
        have hk48 : k * i.bytes ≤ 281474976710656 := by rw [hib]; omega
        cases av with
        | none => exact run_append_nil (P := P) w t' o.type e i zv hu hi hiz _ k capb news (by rw [his, hsz]; exact hnl) hnc (by omega) (by omega) hk48
        | some ad =>
          have := run_append_grow (P := P) w t' o.type e i zv hu hi hiz ad 0 0 [] (by simp) (by simp) ⟨bb, off, none⟩ k capb news (by rw [his, hsz]; exact hnl) hnc (by omega) (by omega)
            (growslice_fits (by omega) (by rw [hib, Nat.zero_add]; exact hbytes))
          simpa using this
      obtain ⟨cap', hrun, hge, hle⟩ := hgrow
      have hf : Fr (fun _ => False) w (w.drew.alloc (.cells (news.toArray ++ Builtin.zeroCells zv.cells (cap' - k)) e)) := (Fr.refl _ w).drew.trans (Fr.alloc _ _ _)
      refine finish _ _ (some w.heap.size, cap') hrun hf (fun g' hg' => ?_) (fun hkeep => ?_) ⟨rfl, hge⟩
      · simp only [Option.some.injEq] at hg'
        subst hg'
        simp
      · intro g' cap'' he
        rw [layAt_at] at he
        simp only [Option.some.injEq, Prod.mk.injEq] at he
        obtain ⟨rfl, rfl⟩ := he
        refine ⟨_, heap_alloc_new w.drew _, ?_, hge, hle, fun i hi j hj => ?_⟩
        · simp only [Array.size_append, List.size_toArray, size_zeroCells, hzc, hzl, hnl, ← Nat.add_mul]
          congr 1
          omega
        · obtain ⟨u, hu', h1, hrep⟩ := hnr i hi j hj
          have hb' : i * sz' + j < k * sz' := by
            have : (i + 1) * sz' ≤ k * sz' := Nat.mul_le_mul_right _ (by omega)
            rw [Nat.add_mul, Nat.one_mul] at this
            omega
          exact ⟨u, by rw [Array.getElem?_append_left (by simp only [List.size_toArray]; omega), List.getElem?_toArray]; exact hu', h1, hkeep _ _ hrep⟩
  · -- nothing is added
    rename_i e x' hu hvw
    obtain ⟨hd, ⟨b, hb⟩, h0, hcap, hK⟩ := h
    have hyv : ∃ av, a.eval y = .slice av 0 0 := by
      have hyy : vw st.hp (st.ev y) = .em := hvw
      generalize st.ev y = y' at hy hyy
      cases y' with
      | em => exact hy
      | ow p ver n => simp only [vw, vw0] at hyy; split at hyy <;> cases hyy
      | pt p ver j => simp only [vw, vw0] at hyy; split at hyy <;> cases hyy
      | pe p ver s i j => simp only [vw, vw0] at hyy; split at hyy <;> cases hyy
      | ag m c => simp only [vw] at hyy; cases hyy
      | _ => simp only [vw, vw0] at hyy; cases hyy
    obtain ⟨av, hyv⟩ := hyv
    obtain ⟨bv, n, cap, hxv, hn⟩ := hcap _ _ _ _ hx
    exact fin (a.eval x) w (by rw [hxv, hyv]; exact run_append_zero hu rfl h0 hn) (hnext _ η _ _ (hsr.put hd hsr.hs hsr.dead (fun _ _ h => h) hx) hK)
  · exact h.elim
/-- What is made beside all that was there, for good. -/
def sAppF (P : Program) (st : AS) (t : TypeId) (x y : AV) (d : Option Tmp) (K : AS → Prop) : Prop :=
  match P.underlying t, x, vw st.hp y with
  | some (.slice e), .em, .sn k sz dd => (vwP st.hp y ∧ dstOK st.sz d ∧ appOK P e sz k) ∧ K ⟨updO st.fr d (.sn k sz dd), st.hp, st.sz, st.top, st.nx, st.df⟩
  | some (.slice e), .em, .em => (0 < P.cellsOf e ∧ dstOK st.sz d) ∧ K ⟨updO st.fr d .em, st.hp, st.sz, st.top, st.nx, st.df⟩
  | _, _, _ => False
theorem item_flat {L : Nat → Prop} (hrows : ∀ p, RowOK w η L (hp p)) {y : AV} {u : Value} {k sz : Nat} {dd : Nat → Nat → AV} (hy : vw hp y = .sn k sz dd) (hP : vwP hp y) (hr : Rep w η L y u) :
    ∃ a cap, u = .slice a k cap ∧ (0 < k → 0 < sz → ∃ b off, a = some ⟨b, off, none⟩ ∧ ∀ i, i < k → ∀ j, j < sz → ∃ u, w.cell? ⟨b, off + (i * sz + j), none⟩ = some u ∧ u.oneCell' = true ∧ Rep w noEnv L (dd i j) u) := by
  cases y with
  | sn n s d =>
    simp only [vw, vw0, AV.sn.injEq] at hy
    obtain ⟨rfl, rfl, rfl⟩ := hy
    obtain ⟨a, cap, rfl, _, h⟩ := hr
    exact ⟨a, cap, rfl, fun h0 h1 => by obtain ⟨b, off, e, _, hc⟩ := h h0 h1; exact ⟨b, off, e, hc⟩⟩
  | ow p ver n =>
    simp only [vwP, vwP0] at hP
    simp only [vw, vw0] at hy
    have hrow := hrows p
    split at hP
    · rename_i v ety s n' cc heq
      rw [heq] at hy hrow
      simp only [AV.sn.injEq] at hy
      obtain ⟨rfl, rfl, rfl⟩ := hy
      obtain ⟨rfl, hn, hfl⟩ := hP
      obtain ⟨g, cap, hη, hv⟩ := hr
      have hrow := hrow g cap hη
      cases g with
      | none =>
        obtain ⟨rfl, a, rfl⟩ := hv
        exact ⟨a, 0, rfl, fun h => absurd h (by omega)⟩
      | some g =>
        obtain ⟨rfl, hcap⟩ := hv
        obtain ⟨cur, hh, hsz, hnc, hm, hc⟩ := hrow
        refine ⟨_, _, rfl, fun _ _ => ⟨g, 0, rfl, fun i hi j hj => ?_⟩⟩
        obtain ⟨u, hu, h1, hrep⟩ := hc i (by omega) j hj
        exact ⟨u, by rw [cell_heap hh, Nat.zero_add]; exact hu, h1, flat_rep (hfl i hi j hj) hrep⟩
    · exact hP.elim
  | pt p ver j => simp only [vw, vw0] at hy; split at hy <;> cases hy
  | pe p ver s i j => simp only [vw, vw0] at hy; split at hy <;> cases hy
  | ag m c => simp only [vw] at hy; cases hy
  | _ => simp only [vw, vw0] at hy; cases hy
theorem appF_wp {P : Program} {st : AS} {o : Oper} {t t' : TypeId} {x y : Operand} {K : AS → Prop} (ho : o.op = .call ⟨.builtin .append, ⟨[x, y]⟩, ⟨[t, t']⟩⟩) (ht : t' = t)
    (h : sAppF P st t (st.ev x) (st.ev y) o.dst K) : OpW P o st K := by
  subst ht
  intro c η a w next Q hsr hnext
  have hev : ∀ x, Rep w η (Lset c η st.hp) (st.ev x) (a.eval x) := rep_ev hsr.slots
  have fin : ∀ v w', (Builtin.append_ #[t', t'] o.type #[a.eval x, a.eval y]).run P w = .ok v w' → next (a.put o.dst v) w' → o.wp P a w next Q := fun v w' hr hn => by
    unfold Oper.wp
    have : (execOp a.eval o).run P w = .ok (.value v) w' := by
      unfold execOp
      rw [ho]
      simp [resolve, invoke, builtin, hr]
    rw [this]
    exact hn
  have hx := hev x
  have hy := hev y
  unfold sAppF at h
  split at h
  · rename_i e k sz' dd hu hxe hvw
    rw [hxe] at hx
    obtain ⟨⟨hP, hd, hsz, h0, hb0, hbytes, zl, hz, hzl⟩, hK⟩ := h
    obtain ⟨i, zv, hi, hiz, hzc, his, hib⟩ := info_of hz
    obtain ⟨b, capb, hyv, hcells⟩ := item_flat hsr.hs.rows hvw hP hy
    obtain ⟨av, hxv⟩ := hx
    have hmb : k * 1 ≤ k * P.bytesOf e := Nat.mul_le_mul_left _ hb0
    have finish : ∀ (v' : Value) (w' : World), (Builtin.append_ #[t', t'] o.type #[a.eval x, a.eval y]).run P w = .ok v' w' → Fr (fun _ => False) w w' → Rep w' η (Lset c η st.hp) (.sn k sz' dd) v' → o.wp P a w next Q := by
      intro v' w' hrun hf hrep
      exact fin v' w' hrun (hnext _ η _ _ (hsr.put hd (hsr.hs.world hf) hsr.dead (fun x u hx => Rep.keep hf (fun _ _ h => h.elim) (fun _ _ h => h) x η η u (Env.le_refl _) hx) hrep) hK)
    by_cases hk0 : k = 0
    · subst hk0
      refine finish (a.eval x) w (by rw [hxv, hyv]; exact run_append_zero hu hsz h0 (Nat.le_refl _)) (Fr.refl _ _) ?_
      rw [hxv]
      exact ⟨av, 0, rfl, Nat.le_refl _, fun h => absurd h (by omega)⟩
    · obtain ⟨bb, off, rfl, hcell⟩ := hcells (by omega) (by rw [← hsz]; omega)
      obtain ⟨news, hnl, hnc, hn1, hnr⟩ := cells_list hcell
      have hgrow : ∃ cap', (Builtin.append_ #[t', t'] o.type #[a.eval x, a.eval y]).run P w = .ok (.slice (some ⟨w.heap.size, 0, none⟩) k cap')
          (w.drew.alloc (.cells (news.toArray ++ Builtin.zeroCells zv.cells (cap' - k)) e)) ∧ k ≤ cap' := by
        have hm : k ≤ maxLen := by simp only [maxLen]; omega
        refine ⟨grownCap w k 0 e, ?_, grownCap_ge _ _ _ _⟩
        rw [hxv, hyv]
        have hk48 : k * i.bytes ≤ 281474976710656 := by rw [hib]; omega
        cases av with
        | none => exact run_append_nil (P := P) w t' o.type e i zv hu hi hiz _ k capb news (by rw [his, hsz]; exact hnl) hnc (by omega) (by omega) hk48
        | some ad =>
          have := run_append_grow (P := P) w t' o.type e i zv hu hi hiz ad 0 0 [] (by simp) (by simp) ⟨bb, off, none⟩ k capb news (by rw [his, hsz]; exact hnl) hnc (by omega) (by omega)
            (growslice_fits (by omega) (by rw [hib, Nat.zero_add]; exact hbytes))
          simpa using this
      obtain ⟨cap', hrun, hge⟩ := hgrow
      have hf : Fr (fun _ => False) w (w.drew.alloc (.cells (news.toArray ++ Builtin.zeroCells zv.cells (cap' - k)) e)) := (Fr.refl _ w).drew.trans (Fr.alloc _ _ _)
      refine finish _ _ hrun hf ⟨_, cap', rfl, hge, fun _ _ => ⟨w.heap.size, 0, rfl, fun hl => ?_, fun i hi j hj => ?_⟩⟩
      · rcases hl with hl | ⟨q, hq⟩
        · have := hsr.hs.lx _ hl; have := hsr.hs.fr.size; omega
        · have := (hsr.hs.own q _ hq).2.2; omega
      · obtain ⟨u, hu', h1, hrep⟩ := hnr i hi j hj
        have hb' : i * sz' + j < k * sz' := by
          have : (i + 1) * sz' ≤ k * sz' := Nat.mul_le_mul_right _ (by omega)
          rw [Nat.add_mul, Nat.one_mul] at this
          omega
        refine ⟨u, ?_, h1, Rep.keep hf (fun _ _ h => h.elim) (fun _ _ h => h) _ _ _ _ (Env.le_refl _) hrep⟩
        refine (cell_heap (heap_alloc_new w.drew _)).trans ?_
        rw [Nat.zero_add, Array.getElem?_append_left (by simp only [List.size_toArray]; omega), List.getElem?_toArray]
        exact hu'
  · rename_i e hu hxe hvw
    obtain ⟨⟨h0, hd⟩, hK⟩ := h
    rw [hxe] at hx
    have hyv : ∃ av, a.eval y = .slice av 0 0 := by
      have hyy : vw st.hp (st.ev y) = .em := hvw
      generalize st.ev y = y' at hy hyy
      cases y' with
      | em => exact hy
      | ow p ver n => simp only [vw, vw0] at hyy; split at hyy <;> cases hyy
      | pt p ver j => simp only [vw, vw0] at hyy; split at hyy <;> cases hyy
      | pe p ver s i j => simp only [vw, vw0] at hyy; split at hyy <;> cases hyy
      | ag m c => simp only [vw] at hyy; cases hyy
      | _ => simp only [vw, vw0] at hyy; cases hyy
    obtain ⟨av, hyv⟩ := hyv
    obtain ⟨bv, hxv⟩ := hx
    exact fin (a.eval x) w (by rw [hxv, hyv]; exact run_append_zero hu rfl h0 (Nat.le_refl _)) (hnext _ η _ _ (hsr.put (z := .em) hd hsr.hs hsr.dead (fun _ _ h => h) ⟨bv, hxv⟩) hK)
  · exact h.elim
/-- A slice that is written out, of parts of which some are at hand: a row. -/
def sBuild (P : Program) (st : AS) (t : TypeId) (n : Nat) (parts : List (Nat × AV)) (d : Option Tmp) (K : AS → Prop) : Prop :=
  match P.underlying t with
  | some (.slice e) => match zeroC P e, onesOf (P.cellsOf e) 0 parts with
    | some z, some l => (l.length = n ∧ 0 < n ∧ z.length = P.cellsOf e ∧ 0 < P.cellsOf e ∧ n * P.cellsOf e ≤ 16777216 ∧ dstOK st.sz d) ∧
        K ⟨updO st.fr d (.ow st.top st.nx n), updR st.hp st.top (.sl st.nx e (P.cellsOf e) n fun i => l.getD i fun _ => .any), st.sz, st.top + 1, st.nx + 1, st.df⟩
    | _, _ => False
  | _ => False
theorem fill_has {sz m : Nat} : ∀ (parts : List (Nat × AV)) (k : Nat) (c : Nat → AV) (l : List (Nat → AV)), onesOf sz k parts = some l → (k + l.length) * sz ≤ m →
    ∃ c', aFill (fun i => some (i * sz, sz)) m c parts = some c'
  | [], _, c, _, _, _ => ⟨c, rfl⟩
  | (i, x) :: r, k, c, l, ho, hm => by
    unfold onesOf at ho
    cases hx : cellsAV x with
    | none => rw [hx] at ho; cases ho
    | some y =>
      obtain ⟨k', d⟩ := y
      simp only [hx] at ho
      split at ho
      · rename_i e
        obtain ⟨rfl, rfl⟩ := e
        cases hr : onesOf k' (i + 1) r with
        | none => rw [hr] at ho; cases ho
        | some l' =>
          rw [hr] at ho
          simp only [Option.map_some, Option.some.injEq] at ho
          subst ho
          simp only [List.length_cons] at hm
          unfold aFill
          simp only [hx]
          have h1 : (i + 1) * k' ≤ (i + (l'.length + 1)) * k' := Nat.mul_le_mul_right _ (by omega)
          rw [Nat.add_mul] at h1
          rw [if_pos ⟨trivial, by omega⟩]
          exact fill_has r (i + 1) _ l' hr (by rw [show i + 1 + l'.length = i + (l'.length + 1) by omega]; exact hm)
      · cases ho
theorem build_wp {P : Program} {st : AS} {o : Oper} {t : TypeId} {n : Nat} {parts : Array (Nat × Operand)} {K : AS → Prop} (ho : o.op = .buildSlice t n parts)
    (h : sBuild P st t n (parts.toList.map fun a => (a.1, st.ev a.2)) o.dst K) : OpW P o st K := by
  intro c η a w next Q hsr hnext
  have hev : ∀ x, Rep w η (Lset c η st.hp) (st.ev x) (a.eval x) := rep_ev hsr.slots
  unfold sBuild at h
  split at h
  · rename_i e hu
    split at h
    · rename_i zl l hz hones
      obtain ⟨⟨hl, hn0, hzl, hsz, hbig, hd⟩, hK⟩ := h
      subst hl
      obtain ⟨zv, hzr, hzc, hz1⟩ := run_zero (w := w) hz
      obtain ⟨cc, hfill⟩ := fill_has (m := l.length * P.cellsOf e) _ 0 (fun k => kCell (zl.getD (k % zl.length) undef)) l hones (by rw [Nat.zero_add]; exact Nat.le_refl _)
      have hall : All2 (fun (x : Nat × AV) (y : Nat × Value) => x.1 = y.1 ∧ Rep w η (Lset c η st.hp) x.2 y.2) (parts.toList.map fun a => (a.1, st.ev a.2)) (parts.toList.map fun x => (x.1, a.eval x.2)) := by
        have : ∀ (l : List (Nat × Operand)), All2 (fun (x : Nat × AV) (y : Nat × Value) => x.1 = y.1 ∧ Rep w η (Lset c η st.hp) x.2 y.2) (l.map fun a => (a.1, st.ev a.2)) (l.map fun x => (x.1, a.eval x.2)) := by
          intro l
          induction l with
          | nil => exact .nil
          | cons x l ih => exact .cons ⟨rfl, hev _⟩ ih
        exact this _
      obtain ⟨cells', h1, h2, h3⟩ := run_fill (m := l.length * P.cellsOf e) _ _ (fun k => kCell (zl.getD (k % zl.length) undef)) cc ((Array.range (l.length * zl.length)).map fun i => zl.toArray[i % zl.toArray.size]!) hfill (by simp [hzl]) (fun j hj => by
        obtain ⟨u, hu', h1, rfl⟩ := zeroRow (z := zl) (n := l.length) hz1 j (by rw [hzl]; exact hj)
        exact ⟨_, hu', h1, rep_kCell _⟩) hall
      have hf : Fr (fun _ => False) w (w.alloc (.cells cells' e)) := Fr.alloc _ w _
      obtain ⟨hs', hkeep⟩ := hsr.hs.swap (p := st.top) (row := .sl st.nx e (P.cellsOf e) l.length fun i => l.getD i fun _ => .any) (r := (some w.heap.size, l.length)) rfl hf (fun _ _ h => h.elim) (fun g hg => .inr (by
        simp only [Option.some.injEq] at hg
        subst hg
        simp)) (fun hkeep => by
        intro g' cap' he
        rw [layAt_at] at he
        simp only [Option.some.injEq, Prod.mk.injEq] at he
        obtain ⟨rfl, rfl⟩ := he
        have hmx : l.length * 1 ≤ l.length * P.cellsOf e := Nat.mul_le_mul_left _ hsz
        refine ⟨_, heap_alloc_new w _, h2, Nat.le_refl _, by simp only [maxLen]; omega, fun i hi j hj => ?_⟩
        have hb : i * P.cellsOf e + j < l.length * P.cellsOf e := by
          have : (i + 1) * P.cellsOf e ≤ l.length * P.cellsOf e := Nat.mul_le_mul_right _ (by omega)
          rw [Nat.add_mul] at this; omega
        obtain ⟨u, hu', h1, hr⟩ := h3 _ hb
        have := fill_ones _ 0 _ _ l hfill hones i (Nat.zero_le _) (by omega) j hj
        rw [this] at hr
        exact ⟨u, hu', h1, hkeep _ _ hr⟩)
      have hrun : (execOp a.eval o).run P w = .ok (.value (.slice (some ⟨w.heap.size, 0, none⟩) l.length l.length)) (w.alloc (.cells cells' e)) := by
        have e1 : ((parts.map fun (i, x) => (i, a.eval x)).toList) = (parts.toList.map fun x => (x.1, a.eval x.2)) := by cases parts; simp
        have hne : ¬ l.length * P.cellsOf e = 0 := by
          have : 0 < l.length * P.cellsOf e := Nat.mul_pos hn0 hsz
          omega
        rw [hzl] at h1
        simp only [execOp, ho, Instr.buildSlice, Sem.run_bind, run_underlying hu, Result.andThen_ok, run_sizeOf' (P := P) (w := w) rfl hsz]
        rw [if_neg (show ¬ l.length * P.cellsOf e > 2 ^ 24 from Nat.not_lt.2 hbig)]
        simp only [Sem.run_bind, Sem.run_pure, Result.andThen_ok, if_neg hne, hzr, e1, hzc, h1, newRow, run_newObj, World.alloc_eq]
      unfold Oper.wp
      rw [hrun]
      refine hnext _ (layAt η st.nx (some w.heap.size, l.length)) _ _ (hsr.put (z := .ow st.top st.nx l.length) hd hs' (fun q hq => ?_) hkeep ⟨some w.heap.size, l.length, layAt_at _ _ _, rfl, Nat.le_refl _⟩) hK
      rw [updR_ne _ _ (by omega)]; exact hsr.dead q (by omega)
    · exact h.elim
  · exact h.elim
end
end Go.Proofs.YtljgfacjefebaaaDoor