/-
  Regions, code, calls: from a state to a state.
-/
import Derived.Test.YtljgfacjefebaaaDoorAx8
set_option linter.unusedSimpArgs false
namespace Go.Proofs.YtljgfacjefebaaaDoor
open Go Go.MapKept

section
variable {P : Program} {Γ : Gam}

/-! ### maps -/
def valAV : AV → Option Value
  | .val v => some v
  | .st l => some (.string ⟨l.toArray⟩)
  | _ => none
theorem valAV_rep {w : World} {η : Env} {L : Nat → Prop} {x : AV} {u v : Value} (h : valAV x = some u) (hr : Rep w η L x v) : v = u := by
  unfold valAV at h
  split at h
  · simp only [Option.some.injEq] at h; subst h; exact hr
  · simp only [Option.some.injEq] at h; subst h; exact hr
  · cases h
def setKey (f : Key → Option Value) (k : Key) (u : Value) : Key → Option Value := fun k' => if k' = k then some u else f k'
def sMapSet (P : Program) (st : AS) (t : TypeId) (m k x : AV) (d : Option Tmp) (K : AS → Prop) : Prop :=
  match P.underlying t, m, keyAV k, valAV x with
  | some (.map kt _), .mp p ver, some key, some u => match st.hp p with
    | .mp v str n f => (v = ver ∧ key.isStr = str ∧ P.underlying kt = some (kindOf str) ∧ dstOK st.sz d) ∧
        K ⟨updO st.fr d .any, updR st.hp p (.mp v str (if (f key).isSome then n else n + 1) (setKey f key u)), st.sz, st.top, st.nx, st.df⟩
    | _ => False
  | _, _, _, _ => False
theorem key_inj {a b : Key} (h : a.val = b.val) : a = b := by
  cases a <;> cases b <;> simp [Key.val] at h
  · rw [h]
  · rw [h]
theorem mapAt_push {k : Key} (es : List MapEntry) (e : MapEntry) : mapAt (es ++ [e]) k = (mapAt es k).or (mapAt [e] k) := by
  induction es with
  | nil => simp [mapAt]
  | cons x es ih =>
    by_cases h : x.key = k.val
    · simp [mapAt_hit h]
    · simp [mapAt_miss h, ih]
theorem mapAt_modify {k key : Key} {u : Value} {f : MapEntry → MapEntry} (hf : ∀ e, (f e).key = key.val ∧ (f e).val = u) : ∀ (es : List MapEntry) (j : Nat) (e : MapEntry), es[j]? = some e → e.key = key.val → (∀ m x, m < j → es[m]? = some x → x.key ≠ key.val) →
    mapAt (es.modify j f) k = if k = key then some u else mapAt es k
  | [], j, e, h, _, _ => by simp at h
  | x :: es, 0, e, h, he, _ => by
    simp only [List.getElem?_cons_zero, Option.some.injEq] at h
    subst h
    simp only [List.modify_zero_cons]
    by_cases hk : k = key
    · subst hk
      rw [if_pos rfl, mapAt_hit (hf x).1, (hf x).2]
    · rw [if_neg hk, mapAt_miss (fun h => hk (key_inj (((hf x).1.symm.trans h).symm))), mapAt_miss (fun h => hk (key_inj ((he.symm.trans h).symm)))]
  | x :: es, j + 1, e, h, he, hm => by
    simp only [List.modify_succ_cons]
    have hx : x.key ≠ key.val := hm 0 x (by omega) rfl
    have ih := mapAt_modify (k := k) hf es j e (by simpa using h) he (fun m y hmj hy => hm (m + 1) y (by omega) (by simpa using hy))
    by_cases hxk : x.key = k.val
    · rw [mapAt_hit hxk, mapAt_hit hxk, if_neg (fun e => hx (by rw [hxk, e]))]
    · rw [mapAt_miss hxk, mapAt_miss hxk, ih]
theorem fr_setMap (w : World) (g : Nat) (o : Obj) : Fr (fun b => b = g) w { w with heap := w.heap.setIfInBounds g o } :=
  ⟨rfl, rfl, rfl, by simp, fun k _ hk => by simp [Array.getElem?_setIfInBounds_ne (Ne.symm hk)]⟩
theorem mapSet_wp {st : AS} {o : Oper} {t : TypeId} {m k x : Operand} {K : AS → Prop} (ho : o.op = .mapUpdate t m k x) (h : sMapSet P st t (st.ev m) (st.ev k) (st.ev x) o.dst K) : OpW P o st K := by
  intro c η a w next Q hsr hnext
  unfold sMapSet at h
  split at h
  · rename_i kt et p ver key u hu hm hk hx
    split at h
    · rename_i v str n f hrow
      obtain ⟨⟨rfl, rfl, hkt, hd⟩, hK⟩ := h
      have rm := rep_ev hsr.slots m
      rw [show evAV st.fr m = _ from hm] at rm
      obtain ⟨g, cap, he, em⟩ := rm
      have ek := keyAV_rep hk (rep_ev hsr.slots k)
      have ex := valAV_rep hx (rep_ev hsr.slots x)
      have hr := hsr.hs.rows p
      rw [hrow] at hr
      obtain ⟨b, es, clock, hg, hh, hn, hks, hf⟩ := hr _ _ he
      simp only [Option.some.injEq] at hg
      subst hg
      have hall : ∀ x ∈ es.toList, IsKey (kindOf key.isStr) x.key := fun x hx => by
        obtain ⟨k', e1, e2⟩ := hks x (by simpa using hx)
        rw [e1, ← e2]; exact isKey_val k'
      have hck := run_checkKey (P := P) (w := w) hkt (isKey_val key) false 9999
      have hfk := hf key rfl
      have hblk : (st.hp p).blk η = some g := by rw [hrow]; simp [Row.blk, Row.ver, he]
      have fin : ∀ es' clock', (execOp a.eval o).run P w = .ok .skip { w with heap := w.heap.setIfInBounds g (.map es' clock') } → es'.size = (if (f key).isSome then n else n + 1) →
          (∀ e ∈ es', ∃ k : Key, e.key = k.val ∧ k.isStr = key.isStr) → (∀ k : Key, k.isStr = key.isStr → mapAt es'.toList k = setKey f key u k) → o.wp P a w next Q := by
        intro es' clock' hrun hsz hks' hf'
        have hh' := (Go.MapKept.heap_set (o' := .map es' clock') hh).1
        obtain ⟨hs', hkeep⟩ := hsr.hs.write (row := .mp v key.isStr (if (f key).isSome then n else n + 1) (setKey f key u)) hblk (by rw [hrow]; rfl) (fr_setMap w g (.map es' clock')) (by
          intro g' cap' he'
          rw [he] at he'
          simp only [Option.some.injEq, Prod.mk.injEq] at he'
          obtain ⟨rfl, rfl⟩ := he'
          exact ⟨g, es', clock', rfl, hh', hsz, hks', hf'⟩)
        unfold Oper.wp
        rw [hrun]
        simp only [Oper.upon]
        exact hnext _ η _ _ (hsr.put (z := .any) (v := undef) hd hs' (fun q hq => by
          rw [updR_ne _ _ (fun e => by
            subst e
            have := hsr.dead q hq
            rw [hrow] at this; cases this)]
          exact hsr.dead q hq) hkeep trivial) hK
      have e0 : execOp a.eval o = (do Instr.mapUpdate t (a.eval m) (a.eval k) (a.eval x); pure .skip) := by unfold execOp; rw [ho]
      rcases find_map (isKey_val key) es.toList 0 hall with ⟨h1, h2, h3⟩ | ⟨j, e, h1, h2, h3, h4, h5⟩
      · rw [h2] at hfk
        refine fin (es.push { key := key.val, val := u, born := clock }) (clock + 1) ?_ ?_ ?_ ?_
        · rw [e0, em, ek, ex]
          simp [Instr.mapUpdate, run_underlying hu, Go.MapKept.run_getObj_map hh, hck, run_findKey hkt h1, Go.MapKept.run_setObj_map _ hh, Result.andThen]
        · rw [← hfk]; simp [hn]
        · intro e he
          rcases Array.mem_push.1 he with he | rfl
          · exact hks e he
          · exact ⟨key, rfl, rfl⟩
        · intro k' hk'
          rw [Array.toList_push, mapAt_push, hf k' hk']
          unfold setKey
          by_cases e : k' = key
          · subst e
            rw [← hfk, if_pos rfl, mapAt_hit rfl]
            rfl
          · rw [if_neg e, mapAt_miss (fun q => e (key_inj q.symm))]
            simp [mapAt]
      · rw [h4] at hfk
        have hj : es[j]? = some e := by simpa using h2
        have hmk : ∀ e' : MapEntry, ({ e' with key := key.val, val := u } : MapEntry).key = key.val ∧ ({ e' with key := key.val, val := u } : MapEntry).val = u := fun _ => ⟨rfl, rfl⟩
        refine fin (es.modify j fun e => { e with key := key.val, val := u }) clock ?_ ?_ ?_ ?_
        · rw [e0, em, ek, ex]
          simp [Instr.mapUpdate, run_underlying hu, Go.MapKept.run_getObj_map hh, hck, run_findKey hkt h1, hj, h3, run_keyThatStays (isKey_val key), Go.MapKept.run_setObj_map _ hh, Result.andThen]
        · rw [← hfk]; simp [hn]
        · intro e' he'
          have := isKey_modify hall j (fun e => { e with key := key.val, val := u }) (fun e'' he'' => by rw [hj] at he''; cases he''; exact h3.symm) e' (Array.mem_toList_iff.2 he')
          cases hks' : key.isStr with
          | false =>
            rw [hks'] at this
            cases hkey : e'.key with
            | int kk nn => rw [hkey] at this; simp only [kindOf, IsKey] at this; exact ⟨.i nn, by simp [Key.val]; simpa [kindOf, IsKey] using this, rfl⟩
            | _ => rw [hkey] at this; simp [kindOf, IsKey] at this
          | true =>
            rw [hks'] at this
            cases hkey : e'.key with
            | string s => exact ⟨.s s.data.toList, by cases s; simp [Key.val], rfl⟩
            | _ => rw [hkey] at this; simp [kindOf, IsKey] at this
        · intro k' hk'
          rw [Array.toList_modify, mapAt_modify hmk es.toList j e (by simpa using hj) h3 h5, hf k' hk']
          rfl
    · exact h.elim
  · exact h.elim

/-! ### calls that may write -/
theorem meth_wp' (hΓ : GOK P Γ) {st : AS} {o : Oper} {f : FuncId} {xs : List Operand} {ts : Array TypeId} {S : MSpec} {K : AS → Prop} {K0 : AV → (Nat → Row) → Nat → Nat → Prop} (ho : o.op = .call ⟨.value (.func f), ⟨xs⟩, ts⟩) (hS : Γ f = some (.meth S)) (hd : dstOK st.sz o.dst)
    (h : S (xs.map st.ev) st.hp st.top st.nx K0) (hK0 : ∀ r hp' top' nx', K0 r hp' top' nx' → K ⟨updO st.fr o.dst r, hp', st.sz, top', nx', st.df⟩) : OpW P o st K := by
  intro c η a w next Q hsr hnext
  obtain ⟨henter, hcall⟩ : MethOK P f S := hΓ f _ hS
  let c1 : Ctx := ⟨w, η, fun b => ∃ p, (st.hp p).blk η = some b, c.Lx, st.nx⟩
  have hL : ∀ η' hp', Lset c1 η' hp' = Lset c η' hp' := fun _ _ => rfl
  have hs1 : HS c1 st.hp st.nx η w := ⟨Fr.refl _ _, fun b hb => Nat.lt_of_lt_of_le (hsr.hs.lx b hb) hsr.hs.fr.size, hsr.hs.rows, hsr.hs.vers, hsr.hs.bnd, hsr.hs.disj,
    fun p b hb => ⟨.inl ⟨p, hb⟩, (hsr.hs.own p b hb).2.1, (hsr.hs.own p b hb).2.2⟩, hsr.hs.fresh, Env.le_refl _, Nat.le_refl _, fun _ _ h => h⟩
  have hargs : All2 (Rep w η (Lset c1 η st.hp)) (xs.map st.ev) (xs.map a.eval) := all2_map (rep_ev hsr.slots) xs
  have e : (execOp a.eval o).run P w = .ok (.enter f (xs.map a.eval).toArray) w := by
    have e2 : execOp a.eval o = callFunc f (#[] ++ (⟨xs⟩ : Array Operand).map a.eval ++ #[]) := by unfold execOp; rw [ho]; rfl
    rw [e2]
    simpa using henter (xs.map a.eval).toArray w
  unfold Oper.wp
  rw [e]
  simp only [Oper.upon]
  refine (hcall _ st.hp st.top st.nx _ h c1 η w _ hs1 hsr.dead hargs).mono ?_
  rintro e w' ⟨v, r, hp', top', nx', η', rfl, hK, hs', hdead', hr⟩
  have hO : ∀ k, k < w.heap.size → c1.O k → Lset c η st.hp k := fun k _ hk => .inr hk
  have hLk : ∀ k, k < w.heap.size → Lset c η' hp' k → Lset c η st.hp k := by
    rintro k hk (hl | ⟨p, hp⟩)
    · exact .inl hl
    · rcases (hs'.own p k hp).1 with ⟨q, hq⟩ | hge
      · exact .inr ⟨q, hq⟩
      · exact absurd hk (Nat.not_lt.2 hge)
  have hkeep : ∀ x u, Rep w η (Lset c η st.hp) x u → Rep w' η' (Lset c η' hp') x u := fun x u hx => Rep.keep hs'.fr hO hLk x η η' u hs'.env.1 hx
  have hs2 : HS c hp' nx' η' w' := by
    refine ⟨hsr.hs.fr.trans' hs'.fr ?_, hsr.hs.lx, hs'.rows, hs'.vers, hs'.bnd, hs'.disj, fun p b hb => ⟨?_, (hs'.own p b hb).2.1, (hs'.own p b hb).2.2⟩, hs'.fresh, Env.le_trans hsr.hs.env.1 hs'.env.1, Nat.le_trans hsr.hs.env.2.1 hs'.env.2.1, fun k hk h0 => hs'.env.2.2 k (Nat.lt_of_lt_of_le hk hsr.hs.env.2.1) (hsr.hs.env.2.2 k hk h0)⟩
    · rintro k hk ⟨p, hp⟩
      exact (hsr.hs.own p k hp).1.resolve_right (by omega)
    · rcases (hs'.own p b hb).1 with ⟨q, hq⟩ | hge
      · exact (hsr.hs.own q b hq).1
      · exact .inr (Nat.le_trans hsr.hs.fr.size hge)
  exact hnext _ η' _ w' (hsr.put (z := r) (v := v) hd hs2 hdead' hkeep hr) (hK0 _ _ _ _ hK)
theorem meth_wp (hΓ : GOK P Γ) {st : AS} {o : Oper} {f : FuncId} {xs : List Operand} {ts : Array TypeId} {S : MSpec} {K : AS → Prop} (ho : o.op = .call ⟨.value (.func f), ⟨xs⟩, ts⟩) (hS : Γ f = some (.meth S)) (hd : dstOK st.sz o.dst)
    (h : S (xs.map st.ev) st.hp st.top st.nx fun r hp' top' nx' => K ⟨updO st.fr o.dst r, hp', st.sz, top', nx', st.df⟩) : OpW P o st K := meth_wp' hΓ ho hS hd h fun _ _ _ _ h => h

/-- An operation that writes: into a row at hand, or such as isn't told here. -/
def bop (P : Program) (Γ : Gam) (st : AS) (o : Oper) (K : AS → Prop) : Prop :=
  match o.op with
  | .mapUpdate t m k x => sMapSet P st t (st.ev m) (st.ev k) (st.ev x) o.dst K
  | .call ⟨.value (.func f), ⟨xs⟩, _⟩ => match Γ f with
    | some (.meth S) => dstOK st.sz o.dst ∧ S (xs.map st.ev) st.hp st.top st.nx fun r hp' top' nx' => K ⟨updO st.fr o.dst r, hp', st.sz, top', nx', st.df⟩
    | _ => OpW P o st K
  | .store t x y => sStore P st t (st.ev x) (st.ev y) o.dst K
  | .call ⟨.builtin .append, ⟨[x, y]⟩, ⟨[t, t']⟩⟩ => t' = t ∧ sApp P st t (st.ev x) (st.ev y) o.dst K
  | .buildSlice t n parts => sBuild P st t n (parts.toList.map fun a => (a.1, st.ev a.2)) o.dst K
  | .defer ⟨.value (.func f), ⟨[]⟩, _⟩ => o.dst = none ∧ K ⟨st.fr, st.hp, st.sz, st.top, st.nx, ⟨.fn (.func f) #[], #[]⟩ :: st.df⟩
  | _ => OpW P o st K
theorem bop_wp (hΓ : GOK P Γ) {st : AS} {o : Oper} {K : AS → Prop} (h : bop P Γ st o K) : OpW P o st K := by
  unfold bop at h
  split at h
  · rename_i t m k x ho
    exact mapSet_wp ho h
  · rename_i f xs ts ho
    split at h
    · rename_i S hS
      exact meth_wp hΓ ho hS h.1 h.2
    · exact h
  · rename_i t x y ho
    exact store_wp ho h
  · rename_i x y t t' ho
    exact app_wp ho h.1 h.2
  · rename_i t n parts ho
    exact build_wp ho h
  · rename_i f ts ho
    intro c η a w next Q hsr hnext
    obtain ⟨hd, hK⟩ := h
    unfold Oper.wp
    have e : (execOp a.eval o).run P w = .ok (.defer ⟨.fn (.func f) #[], #[]⟩) w := by
      unfold execOp
      rw [ho]
      simp [resolve, Deferred.ofValue, Act.eval]
    rw [e]
    refine hnext ⟨st.fr, st.hp, st.sz, st.top, st.nx, ⟨.fn (.func f) #[], #[]⟩ :: st.df⟩ η _ _ ⟨hsr.hs, hsr.dead, ?_, ?_, ?_⟩ hK
    · rw [put_size]; exact hsr.size
    · intro t; rw [hd]; exact hsr.slots t
    · rw [put_defers]; simp only; rw [hsr.defs]
  · exact h

/-- Operations one behind the other. -/
def xOps (P : Program) (Γ : Gam) (ops : Array Oper) : List Oper → AS → (AS → Prop) → Prop
  | [], st, K => K st
  | o :: r, st, K => match gop P Γ ops st o with
    | some (pre, z, row) => (dstOK st.sz o.dst ∧ pre) ∧ xOps P Γ ops r (st.put o.dst z row) K
    | none => o.guard = none ∧ bop P Γ st o fun st' => xOps P Γ ops r st' K

theorem xOps_seq (hΓ : GOK P Γ) {ops : Array Oper} {Q : Exit → Act → World → Prop} : ∀ (l : List Oper) (c : Ctx) (st : AS) (K : AS → Prop) (η : Env) (a : Act) (w : World), SR c st η a w → xOps P Γ ops l st K →
    (∀ st' η' a' w', SR c st' η' a' w' → K st' → Q .normal a' w') → wpList P ops Q l a w
  | [], _, _, _, η, a, w, hsr, h, hQ => hQ _ η a w hsr h
  | o :: r, c, st, K, η, a, w, hsr, h, hQ => by
    unfold xOps at h
    split at h
    · rename_i pre z row hg
      refine wpList_step fun KK hKK => gop_wp hΓ hsr hg h.1.2 h.1.1 fun η' a' w' hsr' => hKK _ _ (xOps_seq hΓ r c _ K η' a' w' hsr' h.2 hQ)
    · refine wpList_step fun KK hKK => ?_
      rw [if_pos (by simp [Region.wanted, h.1])]
      exact bop_wp hΓ h.2 c η a w KK Q hsr fun st' η' a' w' hsr' hx => hKK _ _ (xOps_seq hΓ r c st' K η' a' w' hsr' hx hQ)

/-! ### code -/
/-- From this state on, the code comes to a state of which this holds. -/
def AW (P : Program) (code : Code) (Q : Exit → AS → Prop) (st : AS) : Prop :=
  ∀ (c : Ctx) (η : Env) (a : Act) (w : World), SR c st η a w → code.wp P (fun e a' w' => ∃ st' η', Q e st' ∧ SR c st' η' a' w') a w

def thenA (K : AS → Prop) (Q : Exit → AS → Prop) : Exit → AS → Prop
  | .normal, st => K st
  | e, st => Q e st
def inA (id : Nat) (Q : Exit → AS → Prop) : Exit → AS → Prop
  | .exit id', st => if id' = id then Q .normal st else Q (.exit id') st
  | e, st => Q e st

variable {Q : Exit → AS → Prop} {st : AS}

theorem AW.seq {x y : Code} (h : ∀ K : AS → Prop, (∀ st, AW P y Q st → K st) → AW P x (thenA K Q) st) : AW P (.seq x y) Q st := by
  intro c η a w hsr
  refine wp_seq (wp_mono (h _ (fun _ h => h) c η a w hsr) ?_)
  rintro e a' w' ⟨st', η', hq, hsr'⟩
  cases e with
  | normal => exact hq c η' a' w' hsr'
  | _ => exact ⟨st', η', hq, hsr'⟩
theorem AW.region (hΓ : GOK P Γ) {id : Nat} {l : List Oper} (h : xOps P Γ l.toArray l st (Q .normal)) : AW P (.region id l.toArray false) Q st := by
  intro c η a w hsr
  exact wp_region_lit (xOps_seq hΓ l c st _ η a w hsr h fun st' η' a' w' hsr' hq => ⟨st', η', hq, hsr'⟩)
theorem AW.cond {o : Operand} {x y : Code} {b : Bool} (he : st.ev o = .val (.bool b)) (ht : b = true → AW P x Q st) (hf : b = false → AW P y Q st) : AW P (.cond o x y) Q st := by
  intro c η a w hsr
  have hv : a.eval o = .bool b := by
    have := rep_ev hsr.slots o
    unfold AS.ev at he
    rw [he] at this
    exact this
  cases b with
  | true => exact wp_cond_true hv (ht rfl c η a w hsr)
  | false => exact wp_cond_false hv (hf rfl c η a w hsr)
theorem AW.condM {o : Operand} {x y : Code} {q : Prop} (he : st.ev o = .mb q) (ht : q → AW P x Q st) (hf : AW P y Q st) : AW P (.cond o x y) Q st := by
  intro c η a w hsr
  have hv := rep_ev hsr.slots o
  unfold AS.ev at he
  rw [he] at hv
  obtain ⟨b, hv, hq⟩ := hv
  cases b with
  | true => exact wp_cond_true hv (ht (hq rfl) c η a w hsr)
  | false => exact wp_cond_false hv (hf c η a w hsr)
theorem AW.block {id : Nat} {x : Code} (h : AW P x (inA id Q) st) : AW P (.block id x) Q st := by
  intro c η a w hsr
  refine wp_block (wp_mono (h c η a w hsr) ?_)
  rintro e a' w' ⟨st', η', hq, hsr'⟩
  cases e with
  | exit id' =>
    simp only [inA] at hq
    simp only [Exit.inBlock]
    split at hq
    · rename_i e; rw [if_pos e]; exact ⟨st', η', hq, hsr'⟩
    · rename_i e; rw [if_neg e]; exact ⟨st', η', hq, hsr'⟩
  | _ => exact ⟨st', η', hq, hsr'⟩
theorem AW.scope {x : Code} (h : AW P x (fun e st => match e with | .goto _ => False | e => Q e st) st) : AW P (.scope x) Q st := by
  intro c η a w hsr
  refine wp_scope_straight (wp_mono (h c η a w hsr) ?_)
  rintro e a' w' ⟨st', η', hq, hsr'⟩
  cases e with
  | goto l => exact hq.elim
  | _ => exact ⟨st', η', hq, hsr'⟩
theorem AW.skip (h : Q .normal st) : AW P .skip Q st := fun _ η _ _ hsr => wp_skip ⟨st, η, h, hsr⟩
theorem AW.exit {id : Nat} (h : Q (.exit id) st) : AW P (.exit id) Q st := fun _ η _ _ hsr => wp_exit ⟨st, η, h, hsr⟩
theorem AW.ret (h : Q .ret st) : AW P .ret Q st := fun _ η _ _ hsr => wp_ret ⟨st, η, h, hsr⟩

/-- What holds of one state holds of another one, of which less is known. -/
def ASle (st st' : AS) : Prop := ∀ (c : Ctx) (η : Env) (a : Act) (w : World), SR c st η a w → ∃ η', SR c st' η' a w
theorem ASle.refl (st : AS) : ASle st st := fun _ η _ _ h => ⟨η, h⟩
theorem ASle.trans {a b d : AS} (h : ASle a b) (k : ASle b d) : ASle a d := fun c η x w hs => let ⟨η', h'⟩ := h c η x w hs; k c η' x w h'
theorem AW.le {code : Code} {st' : AS} (hle : ASle st st') (h : AW P code Q st') : AW P code Q st := by
  intro c η a w hsr
  obtain ⟨η', hsr'⟩ := hle c η a w hsr
  exact h c η' a w hsr'

/-- A loop: what holds at each round's head, of states of which no more is asked; a measure. -/
theorem AW.loop {x : Code} {α : Type} (I : α → AS) (μ : α → Nat) (i₀ : α) (h₀ : ASle st (I i₀))
    (round : ∀ i, AW P x (thenA (fun st' => ∃ j, ASle st' (I j) ∧ μ j < μ i) Q) (I i)) : AW P (.loop x) Q st := by
  intro c η a w hsr
  obtain ⟨η₀, hsr₀⟩ := h₀ c η a w hsr
  intro b k cs
  have key : ∀ n i η a w, μ i = n → SR c (I i) η a w →
      ∃ e a' w', (∃ st' η', Q e st' ∧ SR c st' η' a' w') ∧ Arrives P (lone (b.at a (.code x :: .inLoop x :: k)) cs w) b k cs e a' w' := by
    intro n
    induction n using Nat.strongRecOn with
    | _ n ih =>
      intro i η a w hn hs
      obtain ⟨e, a₁, w₁, ⟨st', η', hq, hs'⟩, harr⟩ := round i c η a w hs b (.inLoop x :: k) cs
      cases e with
      | normal =>
        obtain ⟨j, hle, hlt⟩ := hq
        obtain ⟨η₂, hs₂⟩ := hle c η' a₁ w₁ hs'
        obtain ⟨e₂, a₂, w₂, hq₂, harr₂⟩ := ih (μ j) (hn ▸ hlt) j η₂ a₁ w₁ rfl hs₂
        exact ⟨e₂, a₂, w₂, hq₂, .of_steps (Steps.trans harr (.one step_inLoop)) harr₂⟩
      | exit id => exact ⟨_, a₁, w₁, ⟨st', η', hq, hs'⟩, .pass (x := .inLoop x) rfl (fun _ _ => .inl (by simp)) harr⟩
      | goto l => exact ⟨_, a₁, w₁, ⟨st', η', hq, hs'⟩, .pass (x := .inLoop x) rfl (fun _ _ => .inl (by simp)) harr⟩
      | ret => exact ⟨_, a₁, w₁, ⟨st', η', hq, hs'⟩, .pass (x := .inLoop x) rfl (fun _ _ => .inl (by simp)) harr⟩
      | panic ch => exact ⟨_, a₁, w₁, ⟨st', η', hq, hs'⟩, .pass (x := .inLoop x) rfl (fun _ _ => .inl (by simp)) harr⟩
      | outgrown => exact ⟨_, a₁, w₁, ⟨st', η', hq, hs'⟩, .pass (x := .inLoop x) rfl (fun _ _ => .inl (by simp)) harr⟩
  obtain ⟨e, a', w', hq, harr⟩ := key _ i₀ η₀ a w rfl hsr₀
  exact ⟨e, a', w', hq, .of_steps (.one step_loop) harr⟩
end
end Go.Proofs.YtljgfacjefebaaaDoor
