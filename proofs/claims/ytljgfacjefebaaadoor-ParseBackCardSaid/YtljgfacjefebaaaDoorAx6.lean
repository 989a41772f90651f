/-
  One operation that writes nothing that was there: it comes to what is told of it.
-/
import Derived.Test.YtljgfacjefebaaaDoorAx5
namespace Go.Proofs.YtljgfacjefebaaaDoor
open Go

section
variable {P : Program} {Γ : Gam} {c : Ctx} {hp : Nat → Row} {nx : Nat} {η : Env} {w : World}

theorem call_none {f : FuncId} {args : List AV} {pre : Prop} {z : AV} {row : Row} (h : aCall Γ hp f args = some (pre, z, row)) :
    ∃ s, Γ f = some (.spec s) ∧ pre = ((∀ x ∈ args, vwP hp x) ∧ s.pre (args.map (vw hp)) ∧ (args.any vwO = true → scal (s.res (args.map (vw hp))))) ∧ z = s.res (args.map (vw hp)) ∧ row = .dead := by
  unfold aCall at h
  split at h
  · rename_i s hs
    simp only [Option.some.injEq, Prod.mk.injEq] at h
    exact ⟨s, hs, h.1.symm, h.2.1.symm, h.2.2.symm⟩
  · cases h

theorem views {L : Nat → Prop} (hrows : ∀ p, RowOK w η L (hp p)) : ∀ (args : List AV) (vs : List Value), (∀ x ∈ args, vwP hp x) → All2 (Rep w η L) args vs →
    All2 (Rep w noEnv fun _ => False) (args.map (vw hp)) vs
  | [], _, _, .nil => .nil
  | x :: args, _, h, .cons hx hf => .cons (vw_rep hrows (h x (List.mem_cons_self ..)) hx) (views hrows args _ (fun y hy => h y (List.mem_cons_of_mem _ hy)) hf)
theorem flats {L : Nat → Prop} : ∀ (args : List AV) (vs : List Value), (∀ x ∈ args, vwP hp x) → args.any vwO = false → All2 (Rep w η L) args vs → All2 (Rep w noEnv L) (args.map (vw hp)) vs
  | [], _, _, _, .nil => .nil
  | x :: args, _, h, ho, .cons hx hf => by
    simp only [List.any_cons, Bool.or_eq_false_iff] at ho
    exact .cons (vw_flat ho.1 (h x (List.mem_cons_self ..)) hx) (flats args _ (fun y hy => h y (List.mem_cons_of_mem _ hy)) ho.2 hf)

theorem call_wp {f : FuncId} {args : List AV} {vs : List Value} {pre : Prop} {z : AV} {row : Row} (hΓ : GOK P Γ) (hs : HS c hp nx η w) (h : aCall Γ hp f args = some (pre, z, row)) (hpre : pre)
    (hf : All2 (Rep w η (Lset c η hp)) args vs) : Calls P f vs.toArray w fun e w' => ∃ v, e = .returned v ∧ HS c hp nx η w' ∧ Stp c hp η w η w' ∧ Rep w' η (Lset c η hp) z v := by
  obtain ⟨s, hsome, rfl, rfl, _⟩ := call_none h
  obtain ⟨hvw, hsp, hsc⟩ := hpre
  obtain ⟨_, hcall⟩ : SpecOK P f s := hΓ f _ hsome
  have hLb : ∀ b, Lset c η hp b → b < w.heap.size := by
    rintro b (hl | ⟨p, hb⟩)
    · exact Nat.lt_of_lt_of_le (hs.lx b hl) hs.fr.size
    · exact (hs.own p b hb).2.2
  by_cases ho : args.any vwO = true
  · refine (hcall _ hsp w (fun _ => False) vs (fun _ h => h.elim) (views hs.rows args vs hvw hf)).mono ?_
    rintro e w' ⟨v, rfl, hfr, hr⟩
    exact ⟨v, rfl, hs.world hfr, ⟨hfr, Env.le_refl _, fun _ _ h => h⟩, scal_rep (hsc ho) hr⟩
  · refine (hcall _ hsp w (Lset c η hp) vs hLb (flats args vs hvw (by simpa using ho) hf)).mono ?_
    rintro e w' ⟨v, rfl, hfr, hr⟩
    exact ⟨v, rfl, hs.world hfr, ⟨hfr, Env.le_refl _, fun _ _ h => h⟩, Rep.up hr⟩

theorem zeroRow {z : List Value} {n : Nat} (h1 : z.all Value.oneCell' = true) : ∀ k, k < n * z.length → ∃ u, ((Array.range (n * z.length)).map fun i => z.toArray[i % z.toArray.size]!)[k]? = some u ∧ u.oneCell' = true ∧ u = z.getD (k % z.length) undef := by
  intro k hk
  have hz : 0 < z.length := by
    rcases Nat.eq_zero_or_pos z.length with h | h
    · rw [h] at hk; simp at hk
    · exact h
  have hm := Nat.mod_lt k hz
  refine ⟨_, by simp [hk]; rfl, ?_⟩
  have e : z[k % z.length]?.getD default = z[k % z.length] := by simp [List.getElem?_eq_getElem hm]
  exact ⟨by simpa [List.getElem?_eq_getElem hm] using List.all_eq_true.1 h1 _ (List.getElem_mem hm), by simp [List.getD, hm]⟩

theorem aop_wp (hΓ : GOK P Γ) (hs : HS c hp nx η w) {o : Oper} {a : Act} {ev : Operand → AV} (hev : ∀ x, Rep w η (Lset c η hp) (ev x) (a.eval x)) {p ver : Nat} {pre : Prop} {z : AV} {row : Row}
    (h : aop P Γ hp p ver ev o.op = some (pre, z, row)) (hpre : pre) (hrow : row = .dead ∨ (hp p = row ∧ η ver = none ∧ c.n0 ≤ ver)) {K : Act → World → Prop} {Q : Exit → Act → World → Prop}
    (hK : ∀ v η' w', HS c hp nx η' w' → Stp c hp η w η' w' → (∀ k, k ≠ ver ∨ row = .dead → η' k = η k) → Rep w' η' (Lset c η' hp) z v → K (a.put o.dst v) w') : o.wp P a w K Q := by
  have val : ∀ v w', (execOp a.eval o).run P w = .ok (.value v) w' → K (a.put o.dst v) w' → o.wp P a w K Q := fun v w' e hk => by
    unfold Oper.wp
    rw [e]
    exact hk
  unfold aop at h
  split at h
  · -- alloc
    rename_i e hop
    split at h
    · rename_i zl hz
      simp only [Option.some.injEq, Prod.mk.injEq] at h
      obtain ⟨_, rfl, rfl⟩ := h
      rcases hrow with hrow | ⟨hrow, hn, hn0⟩
      · cases hrow
      obtain ⟨zv, hzr, hzc, hz1⟩ := run_zero (w := w) hz
      have hlay := hs.lay (p := p) (ver := ver) (cap := 0) (by rw [hrow]; rfl) hn hn0 (.cells zl.toArray e) (by
        rw [hrow]
        intro g cap he
        rw [layAt_at] at he
        simp only [Option.some.injEq, Prod.mk.injEq] at he
        obtain ⟨rfl, rfl⟩ := he
        exact ⟨_, _, rfl, heap_alloc_new w _, by simp, zC_rep zl hz1⟩)
      refine val (.pointer (some ⟨w.heap.size, 0, none⟩)) (w.alloc (.cells zl.toArray e)) ?_ (hK _ _ _ hlay.1 hlay.2 (fun k hk => layAt_ne (hk.resolve_right (by simp))) ⟨w.heap.size, 0, layAt_at _ _ _, rfl⟩)
      simp [execOp, hop, Instr.alloc, hzr, newVar, newRow, hzc]
    · cases h
  · rename_i e x hop
    split at h
    · rename_i m cc hcl
      simp only [Option.some.injEq, Prod.mk.injEq] at h
      obtain ⟨_, rfl, rfl⟩ := h
      rcases hrow with hrow | ⟨hrow, hn, hn0⟩
      · cases hrow
      have hstep : ∀ (o : Obj), Fr (fun _ => False) w (w.alloc o) := Fr.alloc _ w
      have hL : ∀ b, b < w.heap.size → Lset c (layAt η ver (some w.heap.size, 0)) hp b → Lset c η hp b := by
        rintro b hb (hl | ⟨q, hq⟩)
        · exact .inl hl
        · by_cases e : q = p
          · subst e
            rw [hrow] at hq
            simp only [Row.blk, Row.ver, Option.bind_some, layAt_at, Option.some.injEq] at hq
            omega
          · refine .inr ⟨q, ?_⟩
            unfold Row.blk at hq ⊢
            cases hqv : (hp q).ver with
            | none => rw [hqv] at hq; cases hq
            | some v =>
              rw [hqv] at hq
              simp only [Option.bind_some] at hq ⊢
              rwa [layAt_ne (fun e' => e (hs.vers q p ver (by rw [hqv, e']) (by rw [hrow]; rfl)))] at hq
      obtain ⟨hsz, hcells⟩ := cellsAV_rep hcl (hev x)
      have hlay := hs.lay (p := p) (ver := ver) (cap := 0) (by rw [hrow]; rfl) hn hn0 (.cells (a.eval x).cells e) (by
        rw [hrow]
        intro g cap he
        rw [layAt_at] at he
        simp only [Option.some.injEq, Prod.mk.injEq] at he
        obtain ⟨rfl, rfl⟩ := he
        refine ⟨_, _, rfl, heap_alloc_new w _, hsz, fun j hj => ?_⟩
        obtain ⟨u, hu, h1, hr⟩ := hcells j hj
        exact ⟨u, hu, h1, Rep.keep (hstep _) (fun _ _ h => h.elim) hL _ _ _ _ (layAt_le hn) hr⟩)
      refine val (.pointer (some ⟨w.heap.size, 0, none⟩)) (w.alloc (.cells (a.eval x).cells e)) ?_ (hK _ _ _ hlay.1 hlay.2 (fun k hk => layAt_ne (hk.resolve_right (by simp))) ⟨w.heap.size, 0, layAt_at _ _ _, rfl⟩)
      simp [execOp, hop, Instr.box, newVar, newRow]
    · cases h
  · -- buildSlice
    rename_i t n parts hop
    obtain ⟨z0, hrow0, rfl⟩ := aBuildSlice_row h
    clear h
    have h := hrow0
    have hK := fun v η' w' h1 h2 h3 (h4 : Rep w' η' (Lset c η' hp) z0 v) => hK v η' w' h1 h2 h3 (tidy_le hrow0 h4)
    unfold aBuildRow at h
    split at h
    · rename_i e hu
      split at h
      · rename_i zl hz
        simp only [Option.some.injEq, Prod.mk.injEq] at h
        obtain ⟨rfl, rfl, rfl⟩ := h
        obtain ⟨hparts, hsz⟩ := hpre
        have hnil : parts = #[] := by cases parts; simpa using hparts
        subst hnil
        have hf : Fr (fun _ => False) w (w.alloc (.cells #[] e)) := Fr.alloc _ w _
        refine val (.slice (some ⟨w.heap.size, 0, none⟩) 0 0) (w.alloc (.cells #[] e)) ?_ (hK _ _ _ (hs.world hf) ⟨hf, Env.le_refl _, fun _ _ h => h⟩ (fun _ _ => rfl) ⟨_, rfl⟩)
        have e0 : ∀ f : Nat → Value, (Array.range 0).map f = #[] := fun f => by simp
        simp [execOp, hop, Instr.buildSlice, run_underlying hu, run_sizeOf' (P := P) (w := w) rfl hsz, Instr.fill, newRow, e0]
      · rename_i n zl hz
        split at h
        · rename_i cc hfill
          simp only [Option.some.injEq, Prod.mk.injEq] at h
          obtain ⟨rfl, rfl, rfl⟩ := h
          obtain ⟨hfl, hzl, hsz, hbig⟩ := hpre
          obtain ⟨zv, hzr, hzc, hz1⟩ := run_zero (w := w) hz
          have hall : All2 (fun (x : Nat × AV) (y : Nat × Value) => x.1 = y.1 ∧ Rep w noEnv (Lset c η hp) x.2 y.2) (parts.toList.map fun a => (a.1, ev a.2)) (parts.toList.map fun x => (x.1, a.eval x.2)) := by
            have : ∀ (l : List (Nat × Operand)), (∀ x ∈ l.map fun a => (a.1, ev a.2), flatP x.2) → All2 (fun (x : Nat × AV) (y : Nat × Value) => x.1 = y.1 ∧ Rep w noEnv (Lset c η hp) x.2 y.2) (l.map fun a => (a.1, ev a.2)) (l.map fun x => (x.1, a.eval x.2)) := by
              intro l
              induction l with
              | nil => exact fun _ => .nil
              | cons x l ih => exact fun hx => .cons ⟨rfl, flatP_rep (hx _ (List.mem_cons_self ..)) (hev _)⟩ (ih fun y hy => hx y (List.mem_cons_of_mem _ hy))
            exact this _ hfl
          obtain ⟨cells', h1, h2, h3⟩ := run_fill (m := (n + 1) * P.cellsOf e) _ _ (fun k => kCell (zl.getD (k % zl.length) undef)) cc ((Array.range ((n + 1) * zl.length)).map fun i => zl.toArray[i % zl.toArray.size]!) hfill (by simp [hzl]) (fun j hj => by
            obtain ⟨u, hu', h1, rfl⟩ := zeroRow (z := zl) (n := n + 1) hz1 j (by rw [hzl]; exact hj)
            exact ⟨_, hu', h1, rep_kCell _⟩) hall
          have hf : Fr (fun _ => False) w (w.alloc (.cells cells' e)) := Fr.alloc _ w _
          refine val (.slice (some ⟨w.heap.size, 0, none⟩) (n + 1) (n + 1)) (w.alloc (.cells cells' e)) ?_ (hK _ _ _ (hs.world hf) ⟨hf, Env.le_refl _, fun _ _ h => h⟩ (fun _ _ => rfl) ⟨_, _, rfl, Nat.le_refl _, fun _ _ => ⟨w.heap.size, 0, rfl, fun hl => ?_, fun i hi j hj => ?_⟩⟩)
          · have e1 : ((parts.map fun (i, x) => (i, a.eval x)).toList) = (parts.toList.map fun x => (x.1, a.eval x.2)) := by cases parts; simp
            have hne : ¬ (n + 1) * P.cellsOf e = 0 := by
              have : 0 < (n + 1) * P.cellsOf e := Nat.mul_pos (by omega) hsz
              omega
            rw [hzl] at h1
            simp only [execOp, hop, Instr.buildSlice, Sem.run_bind, run_underlying hu, Result.andThen_ok, run_sizeOf' (P := P) (w := w) rfl hsz]
            rw [if_neg (show ¬ (n + 1) * P.cellsOf e > 2 ^ 24 from Nat.not_lt.2 hbig)]
            simp only [Sem.run_bind, Sem.run_pure, Result.andThen_ok, if_neg hne, hzr, e1, hzc, h1, newRow, run_newObj, World.alloc_eq]
          · rcases hl with hl | ⟨q, hq⟩
            · have := hs.lx _ hl; have := hs.fr.size; omega
            · have := (hs.own q _ hq).2.2; omega
          · have hb : i * P.cellsOf e + j < (n + 1) * P.cellsOf e := by
              have : i * P.cellsOf e ≤ n * P.cellsOf e := Nat.mul_le_mul_right _ (by omega)
              rw [Nat.add_mul]; omega
            obtain ⟨u, hu', h1, hr⟩ := h3 _ hb
            exact ⟨u, by rw [cell_heap (heap_alloc_new w _), Nat.zero_add]; exact hu', h1, Rep.keep hf (fun _ _ h => h.elim) (fun _ _ h => h) _ _ _ _ (Env.le_refl _) hr⟩
        · cases h
      · cases h
    · cases h
  · -- makeSlice
    rename_i t l cp hop
    unfold aMake at h
    split at h
    · rename_i e n m hu hl hc
      split at h
      · rename_i zl hz
        simp only [Option.some.injEq, Prod.mk.injEq] at h
        obtain ⟨rfl, rfl, rfl⟩ := h
        obtain ⟨hn0, hnm, hbig, hby, hzl, hsz⟩ := hpre
        rcases hrow with hrow | ⟨hrow, hn, hn0⟩
        · cases hrow
        obtain ⟨zv, hzr, hzc, hz1⟩ := run_zero (w := w) hz
        have el : a.eval l = .int .i64 n := by have := hev l; rw [hl] at this; exact this
        have ec : a.eval cp = .int .i64 m := by have := hev cp; rw [hc] at this; exact this
        have hm : m ≤ 281474976710656 := by
          have : m * 1 ≤ m * P.bytesOf e := Int.mul_le_mul_of_nonneg_left (by omega) (by omega)
          omega
        have hlay := hs.lay (p := p) (ver := ver) (cap := m.toNat) (by rw [hrow]; rfl) hn hn0 (.cells ((Array.range (m.toNat * zl.length)).map fun i => zl.toArray[i % zl.toArray.size]!) e) (by
          rw [hrow]
          intro g cap he
          rw [layAt_at] at he
          simp only [Option.some.injEq, Prod.mk.injEq] at he
          obtain ⟨rfl, rfl⟩ := he
          refine ⟨_, heap_alloc_new w _, by simp [hzl], by omega, by simp only [maxLen]; omega, fun i hi j hj => ?_⟩
          have hb : i * P.cellsOf e + j < m.toNat * zl.length := by
            rw [hzl]
            have : (i + 1) * P.cellsOf e ≤ m.toNat * P.cellsOf e := Nat.mul_le_mul_right _ (by omega)
            rw [Nat.add_mul] at this; omega
          obtain ⟨u, hu', h1, rfl⟩ := zeroRow (z := zl) (n := m.toNat) hz1 _ hb
          refine ⟨_, hu', h1, ?_⟩
          have e1 : (i * P.cellsOf e + j) % zl.length = j := by rw [hzl, Nat.mul_comm, Nat.mul_add_mod, Nat.mod_eq_of_lt hj]
          rw [e1]
          exact rep_kCell _)
        refine val (.slice (some ⟨w.heap.size, 0, none⟩) n.toNat m.toNat) _ ?_ (hK _ _ _ hlay.1 hlay.2 (fun k hk => layAt_ne (hk.resolve_right (by simp))) ⟨some w.heap.size, m.toNat, layAt_at _ _ _, rfl, by omega⟩)
        obtain ⟨i, hi⟩ : ∃ i, P.info? e = some i := by
          unfold Program.bytesOf at hby
          cases hi : P.info? e with
          | none => rw [hi] at hby; simp at hby
          | some i => exact ⟨i, rfl⟩
        have hby' : P.bytesOf e = i.bytes := by simp [Program.bytesOf, hi]
        have hw1 : IntKind.i64.wrap n = n := wrap_i64 n (by omega)
        have hw2 : IntKind.i64.wrap m = m := wrap_i64 m (by omega)
        rw [hby'] at hbig
        have hle : ¬ ((i.bytes : Int) * m > 2 ^ 48) := by rw [Int.mul_comm]; simpa using hbig
        simp only [execOp, hop, Instr.makeSlice, Sem.run_bind, run_underlying hu, Result.andThen_ok, el, ec, asInt, asIntOf, Sem.run_pure, typeInfo, run_program, hi, hw1, hw2, hle, decide_false, Bool.or_false]
        have hneg : (decide (m < 0)) = false := by simp; omega
        have hneg1 : (decide (n < 0)) = false := by simp; omega
        have hneg2 : (decide (n > m)) = false := by simp; omega
        simp only [hneg, hneg1, hneg2, Bool.or_false, Bool.false_eq_true, if_false, Sem.run_bind, run_askRoom, Result.andThen_ok, run_sizeOf' (P := P) (w := w) rfl hsz]
        by_cases hm0 : m.toNat = 0
        · have e0 : ∀ f : Nat → Value, (Array.range 0).map f = #[] := fun f => by simp
          simp [hm0, newRow, e0]
        · have hne : ¬ m.toNat * P.cellsOf e = 0 := by
            have : 0 < m.toNat * P.cellsOf e := Nat.mul_pos (by omega) hsz
            omega
          simp only [if_neg hne, Sem.run_bind, hzr, Result.andThen_ok, Sem.run_pure, hzc, newRow, run_newObj, World.alloc_eq, hzl]
      · cases h
    · cases h
  · -- makeMap
    rename_i t r hop
    unfold aMakeMap at h
    split at h
    · rename_i kt et hu
      split at h
      · rename_i hhint
        have hm : (execOp a.eval o).run P w = .ok (.value (.map (some w.heap.size))) (w.alloc (.map #[] 0)) := by
          unfold execOp
          rw [hop]
          simp only [Sem.run_bind]
          cases r with
          | none => simp [Instr.makeMap]
          | some x =>
            have hx := hev x
            simp only [Option.map_some] at hhint ⊢
            unfold hintOK at hhint
            split at hhint
            · rename_i hn
              cases hn
            · rename_i k n hn
              simp only [Option.some.injEq] at hn
              rw [hn] at hx
              have hx' : a.eval x = .int k n := hx
              simp [Instr.makeMap, run_underlying hu, hx', asInt, asIntOf]
            · cases hhint
        have lay : ∀ str, hp p = .mp ver str 0 (fun _ => none) → η ver = none → c.n0 ≤ ver → z = .mp p ver → row = .mp ver str 0 (fun _ => none) → o.wp P a w K Q := by
          rintro str hrw hn hn0 rfl rfl
          have hlay := hs.lay (p := p) (ver := ver) (cap := 0) (by rw [hrw]; rfl) hn hn0 (.map #[] 0) (by
            rw [hrw]
            intro g cap he
            rw [layAt_at] at he
            simp only [Option.some.injEq, Prod.mk.injEq] at he
            obtain ⟨rfl, rfl⟩ := he
            exact ⟨_, #[], 0, rfl, heap_alloc_new w _, rfl, fun e he => by simp at he, fun k _ => rfl⟩)
          exact val _ _ hm (hK _ _ _ hlay.1 hlay.2 (fun k hk => layAt_ne (hk.resolve_right (by simp))) ⟨w.heap.size, 0, layAt_at _ _ _, rfl⟩)
        split at h
        · simp only [Option.some.injEq, Prod.mk.injEq] at h
          obtain ⟨_, rfl, rfl⟩ := h
          rcases hrow with hrow | ⟨hrow, hn, hn0⟩
          · cases hrow
          · exact lay true hrow hn hn0 rfl rfl
        · simp only [Option.some.injEq, Prod.mk.injEq] at h
          obtain ⟨_, rfl, rfl⟩ := h
          rcases hrow with hrow | ⟨hrow, hn, hn0⟩
          · cases hrow
          · exact lay false hrow hn hn0 rfl rfl
        · cases h
      · cases h
    · cases h
  · -- a call
    rename_i f xs ts hop
    obtain ⟨s, hsome, _, _, rfl⟩ := call_none h
    have henter := (show SpecOK P f s from hΓ f _ hsome).1 (xs.map a.eval).toArray w
    unfold Oper.wp
    have e : (execOp a.eval o).run P w = .ok (.enter f (xs.map a.eval).toArray) w := by
      have e2 : execOp a.eval o = callFunc f (#[] ++ (⟨xs⟩ : Array Operand).map a.eval ++ #[]) := by unfold execOp; rw [hop]; rfl
      rw [e2]
      simpa using henter
    rw [e]
    simp only [Oper.upon]
    refine (call_wp hΓ hs h hpre (all2_map hev xs)).mono ?_
    rintro e w' ⟨v, rfl, h1, h2, h3⟩
    exact hK v η w' h1 h2 (fun _ _ => rfl) h3
  · -- all that leaves the world alone
    split at h
    · rename_i pre' z' hp'
      simp only [Option.some.injEq, Prod.mk.injEq] at h
      obtain ⟨rfl, rfl, rfl⟩ := h
      obtain ⟨v, hv, hr⟩ := run_apure (o := o) (fun _ => rfl) hs.rows hev hp' hpre
      exact val v w hv (hK v η w hs (Stp.refl _ _ _ _) (fun _ _ => rfl) hr)
    · cases h
end
end Go.Proofs.YtljgfacjefebaaaDoor
