/-
  What a function does with the rows that it is handed, it does beside others.
-/
import Derived.Test.YtljgfacjefebaaaDoorAxj
import Derived.Test.YtljgfacjefebaaaDoorAxl
namespace Go.Proofs.YtljgfacjefebaaaDoor
open Go
/-- Beside other rows: those of 'π' are handed on. -/
def framed (S : MSpec) : MSpec := fun args hp top nx K => ∃ (π : List Nat) (args' : List AV) (hp1 : Nat → Row), π.Nodup ∧ (∀ p ∈ π, p < top) ∧ All2 AVle args args' ∧ (∀ (i p : Nat), π[i]? = some p → RowLe (hp p) (hp1 i)) ∧ (∀ i, π.length ≤ i → hp1 i = .dead) ∧
  S args' hp1 π.length nx fun r hp1' _ nx' => ∃ r' hp', AVle r r' ∧ (∀ (i p : Nat), π[i]? = some p → RowLe (hp1' i) (hp' p)) ∧ (∀ p, ¬ p ∈ π → hp' p = hp p) ∧ (∀ p ∈ π, ∀ v, (hp' p).ver = some v → (hp p).ver = some v ∨ nx ≤ v) ∧ K r' hp' top nx'
theorem ver_blk {r r' : Row} {η : Env} (h : r'.ver = r.ver) : r'.blk η = r.blk η := by unfold Row.blk; rw [h]
theorem All2.le {w : World} {η : Env} {L L' : Nat → Prop} (hL : ∀ b, L' b → L b) : ∀ {xs ys : List AV} {vs : List Value}, All2 AVle xs ys → All2 (Rep w η L) xs vs → All2 (Rep w η L') ys vs
  | _, _, _, .nil, .nil => .nil
  | _, _, _, .cons h hs, .cons k ks => .cons (h _ _ _ _ (Rep.less (fun b _ hb => hL b hb) k)) (All2.le hL hs ks)
theorem MethOK.frame {P : Program} {f : FuncId} {S : MSpec} (h : MethOK P f S) : MethOK P f (framed S) := by
  refine ⟨h.1, fun args hp top nx K hS c η w vs hs hdead hargs => ?_⟩
  obtain ⟨π, args', hp1, hnd, hlt, hle, hrow, hd1, hS1⟩ := hS
  have hget : ∀ p ∈ π, ∃ i, π[i]? = some p := fun p hp => by
    obtain ⟨i, hi, e⟩ := List.getElem_of_mem hp
    exact ⟨i, by rw [List.getElem?_eq_getElem hi, e]⟩
  have hinj : ∀ i j p, π[i]? = some p → π[j]? = some p → i = j := fun i j p hi hj => by
    obtain ⟨h1, e1⟩ := List.getElem?_eq_some_iff.1 hi
    obtain ⟨h2, e2⟩ := List.getElem?_eq_some_iff.1 hj
    rcases Nat.lt_trichotomy i j with g | g | g
    · exact absurd (e1.trans e2.symm) (List.pairwise_iff_getElem.1 hnd i j h1 h2 g)
    · exact g
    · exact absurd (e2.trans e1.symm) (List.pairwise_iff_getElem.1 hnd j i h2 h1 g)
  have hidx : ∀ i, (∃ p, π[i]? = some p ∧ p ∈ π) ∨ hp1 i = .dead := fun i => by
    rcases Nat.lt_or_ge i π.length with g | g
    · exact .inl ⟨π[i], List.getElem?_eq_getElem g, List.getElem_mem g⟩
    · exact .inr (hd1 i g)
  have hb1 : ∀ i b, (hp1 i).blk η = some b → ∃ p, π[i]? = some p ∧ p ∈ π ∧ (hp p).blk η = some b := fun i b hb => by
    rcases hidx i with ⟨p, h1, h2⟩ | e
    · exact ⟨p, h1, h2, by rw [← ver_blk (hrow i p h1).1]; exact hb⟩
    · rw [e] at hb; cases hb
  have hv1 : ∀ i v, (hp1 i).ver = some v → ∃ p, π[i]? = some p ∧ p ∈ π ∧ (hp p).ver = some v := fun i v hv => by
    rcases hidx i with ⟨p, h1, h2⟩ | e
    · exact ⟨p, h1, h2, by rw [← (hrow i p h1).1]; exact hv⟩
    · rw [e] at hv; cases hv
  let c1 : Ctx := ⟨w, η, fun b => ∃ p, p ∈ π ∧ (hp p).blk η = some b, fun b => c.Lx b ∨ ∃ p, ¬ p ∈ π ∧ (hp p).blk η = some b, nx⟩
  have hL1 : ∀ b, Lset c1 η hp1 b → Lset c η hp b := by
    rintro b ((hl | ⟨p, _, hp⟩) | ⟨i, hi⟩)
    · exact .inl hl
    · exact .inr ⟨p, hp⟩
    · obtain ⟨p, _, _, h3⟩ := hb1 i b hi
      exact .inr ⟨p, h3⟩
  have hs1 : HS c1 hp1 nx η w := by
    refine ⟨Fr.refl _ _, ?_, fun i => ?_, fun i j v hi hj => ?_, fun i v hi => ?_, fun i j b hi hj => ?_, fun i b hi => ?_, hs.fresh, Env.le_refl _, Nat.le_refl _, fun _ _ h => h⟩
    · rintro b (hl | ⟨p, _, hp⟩)
      · exact Nat.lt_of_lt_of_le (hs.lx b hl) hs.fr.size
      · exact (hs.own p b hp).2.2
    · rcases hidx i with ⟨p, h1, _⟩ | e
      · exact (hrow i p h1).2 w η _ (RowOK.less hL1 (hs.rows p))
      · rw [e]; trivial
    · obtain ⟨p, h1, _, h3⟩ := hv1 i v hi
      obtain ⟨q, g1, _, g3⟩ := hv1 j v hj
      obtain rfl := hs.vers p q v h3 g3
      exact hinj i j p h1 g1
    · obtain ⟨p, _, _, h3⟩ := hv1 i v hi
      exact hs.bnd p v h3
    · obtain ⟨p, h1, _, h3⟩ := hb1 i b hi
      obtain ⟨q, g1, _, g3⟩ := hb1 j b hj
      obtain rfl := hs.disj p q b h3 g3
      exact hinj i j p h1 g1
    · obtain ⟨p, h1, h2, h3⟩ := hb1 i b hi
      refine ⟨.inl ⟨p, h2, h3⟩, ?_, (hs.own p b h3).2.2⟩
      rintro (hl | ⟨q, hq, hb⟩)
      · exact (hs.own p b h3).2.1 hl
      · obtain rfl := hs.disj p q b h3 hb
        exact hq h2
  refine (h.2 args' hp1 π.length nx _ hS1 c1 η w vs hs1 hd1 (All2.le hL1 hle hargs)).mono ?_
  rintro e w' ⟨v, r, hp1', top1', nx', η', rfl, ⟨r', hp', hr', hrow', hsame, hver, hK⟩, hs', hdead', hrep⟩
  have hn0 : ∀ k, k < nx → η k = none → η' k = none := hs'.env.2.2
  have heq : ∀ p v, (hp p).ver = some v → η' v = η v := fun p v hv => by
    cases hη : η v with
    | none => exact hn0 v (hs.bnd p v hv) hη
    | some x => exact hs'.env.1 v x hη
  have hbo : ∀ p b, ¬ p ∈ π → (hp' p).blk η' = some b → (hp p).blk η = some b := fun p b hnp hb => by
    rw [hsame p hnp] at hb
    unfold Row.blk at hb ⊢
    cases hv : (hp p).ver with
    | none => rw [hv] at hb; cases hb
    | some v => rw [hv] at hb; simp only [Option.bind_some] at hb ⊢; rwa [heq p v hv] at hb
  have hbi : ∀ p b, p ∈ π → (hp' p).blk η' = some b → ∃ i, π[i]? = some p ∧ (hp1' i).blk η' = some b := fun p b hp hb => by
    obtain ⟨i, hi⟩ := hget p hp
    exact ⟨i, hi, by rw [← ver_blk (hrow' i p hi).1]; exact hb⟩
  have hL2 : ∀ b, Lset c η' hp' b → Lset c1 η' hp1' b := by
    rintro b (hl | ⟨p, hb⟩)
    · exact .inl (.inl hl)
    · by_cases hp : p ∈ π
      · obtain ⟨i, _, h2⟩ := hbi p b hp hb
        exact .inr ⟨i, h2⟩
      · exact .inl (.inr ⟨p, hp, hbo p b hp hb⟩)
  have hL3 : ∀ b, b < w.heap.size → Lset c1 η' hp1' b → Lset c η hp b := by
    rintro b hlt ((hl | ⟨p, _, hb⟩) | ⟨i, hi⟩)
    · exact .inl hl
    · exact .inr ⟨p, hb⟩
    · rcases (hs'.own i b hi).1 with ⟨p, _, hb⟩ | hge
      · exact .inr ⟨p, hb⟩
      · exact absurd hlt (Nat.not_lt.2 hge)
  refine ⟨v, r', hp', top, nx', η', rfl, hK, ?_, fun p hp => ?_, hr' _ _ _ _ (Rep.less (fun b _ hb => hL2 b hb) hrep)⟩
  · refine ⟨hs.fr.trans' hs'.fr ?_, hs.lx, fun p => ?_, fun p q u hp hq => ?_, fun p u hp => ?_, fun p q b hp hq => ?_, fun p b hb => ?_, hs'.fresh, Env.le_trans hs.env.1 hs'.env.1, Nat.le_trans hs.env.2.1 hs'.env.2.1, fun k hk h0 => hs'.env.2.2 k (Nat.lt_of_lt_of_le hk hs.env.2.1) (hs.env.2.2 k hk h0)⟩
    · rintro k hk ⟨p, _, hp⟩
      exact (hs.own p k hp).1.resolve_right (by omega)
    · by_cases hp : p ∈ π
      · obtain ⟨i, hi⟩ := hget p hp
        exact (hrow' i p hi).2 w' η' _ (RowOK.less hL2 (hs'.rows i))
      · rw [hsame p hp]
        refine RowOK.keep hs'.fr hs'.env.1 (fun k _ hk => ?_) (fun k hk hl => hL3 k hk (hL2 k hl)) (fun v hv => heq p v hv) (fun b hb => hs'.fr.block b (hs.own p b hb).2.2 ?_) (hs.rows p)
        · obtain ⟨q, _, hq⟩ := hk
          exact .inr ⟨q, hq⟩
        · rintro ⟨q, hq, hqb⟩
          obtain rfl := hs.disj p q b hb hqb
          exact hp hq
    · have mixed : ∀ p q, p ∈ π → ¬ q ∈ π → (hp' p).ver = some u → (hp' q).ver = some u → p = q := fun p q h1 h2 hpv hqv => by
        rw [hsame q h2] at hqv
        rcases hver p h1 u hpv with g | g
        · exact hs.vers p q u g hqv
        · have := hs.bnd q u hqv; omega
      by_cases h1 : p ∈ π <;> by_cases h2 : q ∈ π
      · obtain ⟨i, hi⟩ := hget p h1
        obtain ⟨j, hj⟩ := hget q h2
        have := hs'.vers i j u (by rw [← (hrow' i p hi).1]; exact hp) (by rw [← (hrow' j q hj).1]; exact hq)
        subst this
        rw [hi] at hj
        exact Option.some.inj hj
      · exact mixed p q h1 h2 hp hq
      · exact (mixed q p h2 h1 hq hp).symm
      · rw [hsame p h1] at hp
        rw [hsame q h2] at hq
        exact hs.vers p q u hp hq
    · by_cases h1 : p ∈ π
      · obtain ⟨i, hi⟩ := hget p h1
        exact hs'.bnd i u (by rw [← (hrow' i p hi).1]; exact hp)
      · rw [hsame p h1] at hp
        exact Nat.lt_of_lt_of_le (hs.bnd p u hp) hs'.env.2.1
    · have mixed : ∀ p q, p ∈ π → ¬ q ∈ π → (hp' p).blk η' = some b → (hp' q).blk η' = some b → p = q := fun p q h1 h2 hpv hqv => by
        obtain ⟨i, _, hi⟩ := hbi p b h1 hpv
        exact absurd (.inr ⟨q, h2, hbo q b h2 hqv⟩) (hs'.own i b hi).2.1
      by_cases h1 : p ∈ π <;> by_cases h2 : q ∈ π
      · obtain ⟨i, hi, g1⟩ := hbi p b h1 hp
        obtain ⟨j, hj, g2⟩ := hbi q b h2 hq
        have := hs'.disj i j b g1 g2
        subst this
        rw [hi] at hj
        exact Option.some.inj hj
      · exact mixed p q h1 h2 hp hq
      · exact (mixed q p h2 h1 hq hp).symm
      · exact hs.disj p q b (hbo p b h1 hp) (hbo q b h2 hq)
    · by_cases h1 : p ∈ π
      · obtain ⟨i, _, hi⟩ := hbi p b h1 hb
        obtain ⟨o1, o2, o3⟩ := hs'.own i b hi
        refine ⟨?_, fun hl => o2 (.inl hl), o3⟩
        rcases o1 with ⟨q, _, hq⟩ | hge
        · exact (hs.own q b hq).1
        · exact .inr (Nat.le_trans hs.fr.size hge)
      · obtain ⟨o1, o2, o3⟩ := hs.own p b (hbo p b h1 hb)
        exact ⟨o1, o2, Nat.lt_of_lt_of_le o3 hs'.fr.size⟩
  · rw [hsame p (fun hm => by have := hlt p hm; omega)]
    exact hdead p hp
theorem AVle.ow {p q ver n : Nat} : AVle (.ow p ver n) (.ow q ver n) := fun _ _ _ _ h => h
theorem AVle.pt {p q ver n : Nat} : AVle (.pt p ver n) (.pt q ver n) := fun _ _ _ _ h => h
theorem RowLe.vers {r r' : Row} (h : RowLe r r') : r'.ver = r.ver := h.1
theorem one_row {p : Nat} {hp : Nat → Row} {r : Row} (h : RowLe (hp p) r) : ∀ (i q : Nat), [p][i]? = some q → RowLe (hp q) (rws [(0, r)] i) := by
  intro i q hq
  cases i with
  | zero =>
    simp only [List.getElem?_cons_zero, Option.some.injEq] at hq
    subst hq
    exact h
  | succ i => simp at hq
theorem RowLe.trans {r s t : Row} (h : RowLe r s) (k : RowLe s t) : RowLe r t := by
  unfold RowLe at *
  exact ⟨k.1.trans h.1, fun w η L hr => k.2 w η L (h.2 w η L hr)⟩
theorem rowE {α : Type} {E : El α} {v t s n : Nat} {l : List α} {d : α} (hs : s = E.sz) (hd : d = E.dflt) (h : n = l.length) : RowLe (.sl v t s n fun i => E.enc (l.getD i d)) (rowL v t E l) := by
  subst hs hd h
  exact RowLe.refl _
theorem box_st {v e m : Nat} {c d : Nat → AV} : RowLe (.box v e m (stC c 0 m d)) (.box v e m d) := by
  refine RowLe.box fun j hj => AVle.of_eq ?_
  simp only [stC]
  rw [if_pos ⟨by omega, by omega⟩, Nat.sub_zero]
section
variable {P : Program} {Γ : Gam} {ops : Array Oper} {st : AS} {o : Oper} {r : List Oper} {K : AS → Prop} {Q : Exit → AS → Prop}
theorem bopT_new {z : Bool} : bopT P Γ z st o K = match o.op with
  | .mapUpdate t m k x => sMapSet P st t (st.ev m) (st.ev k) (st.ev x) o.dst K
  | .call ⟨.value (.func f), ⟨xs⟩, _⟩ => match Γ f with
    | some (.meth S) => dstOK st.sz o.dst ∧ S (xs.map st.ev) st.hp st.top st.nx (methK st o.dst K)
    | _ => False
  | .store t x y => sStore P st t (st.ev x) (st.ev y) o.dst K
  | .call ⟨.builtin .append, ⟨[x, y]⟩, ⟨[t, t']⟩⟩ => t' = t ∧ (if z = true then sAppF P st t (st.ev x) (st.ev y) o.dst K else sApp P st t (st.ev x) (st.ev y) o.dst K)
  | .buildSlice t n parts => sBuild P st t n (parts.toList.map fun a => (a.1, st.ev a.2)) o.dst K
  | _ => False := rflN rfl
def apF (P : Program) (st : AS) (y : AV) (d : Option Tmp) (K : AS → Prop) : Option TypeDesc → AV → AV → Prop
  | some (.slice e), .em, .sn k sz dd => (vwP st.hp y ∧ dstOK st.sz d ∧ appOK P e sz k) ∧ K ⟨updO st.fr d (.sn k sz dd), st.hp, st.sz, st.top, st.nx, st.df⟩
  | some (.slice e), .em, .em => (0 < P.cellsOf e ∧ dstOK st.sz d) ∧ K ⟨updO st.fr d .em, st.hp, st.sz, st.top, st.nx, st.df⟩
  | _, _, _ => False
theorem sAppF_new {t : TypeId} {x y : AV} {d : Option Tmp} : sAppF P st t x y d K = apF P st y d K (P.underlying t) x (vw st.hp y) := rflN rfl
theorem apF_sn {e : TypeId} {y : AV} {d : Option Tmp} {k sz : Nat} {dd : Nat → Nat → AV} : apF P st y d K (some (.slice e)) .em (.sn k sz dd) = ((vwP st.hp y ∧ dstOK st.sz d ∧ appOK P e sz k) ∧ K ⟨updO st.fr d (.sn k sz dd), st.hp, st.sz, st.top, st.nx, st.df⟩) := rflN rfl
theorem apF_em {e : TypeId} {y : AV} {d : Option Tmp} : apF P st y d K (some (.slice e)) .em .em = ((0 < P.cellsOf e ∧ dstOK st.sz d) ∧ K ⟨updO st.fr d .em, st.hp, st.sz, st.top, st.nx, st.df⟩) := rflN rfl
theorem apF_sL {α : Type} {E : El α} {l : List α} {e : TypeId} {y : AV} {d : Option Tmp} : apF P st y d K (some (.slice e)) .em (sL E l) = ((vwP st.hp y ∧ dstOK st.sz d ∧ appOK P e E.sz l.length) ∧ K ⟨updO st.fr d (sL E l), st.hp, st.sz, st.top, st.nx, st.df⟩) := rflN rfl
theorem deadS_eq {fr : Nat → AV} {hp : Nat → Row} {sz top nx : Nat} {df : List Deferred} : deadS ⟨fr, hp, sz, top, nx, df⟩ = ⟨fr, fun _ => .dead, sz, top, nx, df⟩ := rflN rfl
theorem dkS_t : dkS true st = deadS st := rflN rfl
theorem dkS_f : dkS false st = st := rflN rfl
/-! a drawn region -/
variable {E G Z : Nat → Bool} {n j : Nat} {kp : List (Nat × AV × Row)}
def contT (P : Program) (Γ : Gam) (ops : Array Oper) (E Z : Nat → Bool) (j : Nat) (kp : List (Nat × AV × Row)) (r : List Oper) (K : AS → Prop) : AS → Prop := fun st => keeps j kp st ∧ xT P Γ ops E Z (j + 1) r st kp K
theorem contT_app : contT P Γ ops E Z j kp r K st = (keeps j kp st ∧ xT P Γ ops E Z (j + 1) r st kp K) := rflN rfl
def startT (P : Program) (Γ : Gam) (ops : Array Oper) (E Z : Nat → Bool) (l : List Oper) (K : AS → Prop) : AS → List (Nat × AV × Row) → Prop := fun st kp => xT P Γ ops E Z 0 l st kp K
theorem startT_app {l : List Oper} : startT P Γ ops E Z l K st kp = xT P Γ ops E Z 0 l st kp K := rflN rfl
def goT (P : Program) (Γ : Gam) (ops : Array Oper) (E Z : Nat → Bool) (j : Nat) (o : Oper) (r : List Oper) (kp : List (Nat × AV × Row)) (K : AS → Prop) (st : AS) : AOut → Prop
  | some (pre, z, row) => (o.guard = none ∧ dstOK st.sz o.dst ∧ pre) ∧ xT P Γ ops E Z (j + 1) r (st.put o.dst z row) kp K
  | none => o.guard = none ∧ bopT P Γ (Z j) st o (contT P Γ ops E Z j kp r K)
theorem goT_some {pre : Prop} {z : AV} {row : Row} : goT P Γ ops E Z j o r kp K st (some (pre, z, row)) = ((o.guard = none ∧ dstOK st.sz o.dst ∧ pre) ∧ xT P Γ ops E Z (j + 1) r (st.put o.dst z row) kp K) := rflN rfl
theorem goT_none : goT P Γ ops E Z j o r kp K st none = (o.guard = none ∧ bopT P Γ (Z j) st o (contT P Γ ops E Z j kp r K)) := rflN rfl
theorem xT_nil : xT P Γ ops E Z j [] st kp K = K st := rflN rfl
theorem xT_cons : xT P Γ ops E Z j (o :: r) st kp K = if E j = true then xT P Γ ops E Z (j + 1) r st kp K else goT P Γ ops E Z j o r kp K st (gop P Γ ops st o) := rflN rfl
variable {KE : AS → List (Nat × AV × Row) → Prop}
def goE (P : Program) (Γ : Gam) (ops : Array Oper) (E G : Nat → Bool) (n j : Nat) (o : Oper) (r : List Oper) (kp : List (Nat × AV × Row)) (KE : AS → List (Nat × AV × Row) → Prop) (st : AS) : AOut → Prop
  | some (pre, z, row) => ((G j = true → o.guard = none ∧ row = .dead) ∧ dstOK st.sz o.dst ∧ pre) ∧ xE P Γ ops E G n (j + 1) r (st.put o.dst z row) (if n ≤ j then (j, z, row) :: kp else kp) KE
  | none => False
theorem goE_some {pre : Prop} {z : AV} {row : Row} : goE P Γ ops E G n j o r kp KE st (some (pre, z, row)) = (((G j = true → o.guard = none ∧ row = .dead) ∧ dstOK st.sz o.dst ∧ pre) ∧ xE P Γ ops E G n (j + 1) r (st.put o.dst z row) (if n ≤ j then (j, z, row) :: kp else kp) KE) := rflN rfl
theorem goE_none : goE P Γ ops E G n j o r kp KE st none = False := rflN rfl
theorem xE_nil : xE P Γ ops E G n j [] st kp KE = KE st kp := rflN rfl
theorem xE_cons : xE P Γ ops E G n j (o :: r) st kp KE = if E j = true then goE P Γ ops E G n j o r kp KE st (gop P Γ ops (dkS (G j) st) o) else xE P Γ ops E G n (j + 1) r st kp KE := rflN rfl
theorem AW.drawZ (hΓ : GOK P Γ) (hm : P.follows .mixedOrders = true) {id : Nat} {l : List Oper} (n : Nat) (F G Z : List Nat) (hchk : okG l n F G = true)
    (h : xE P Γ l.toArray (eb n F) (gb G) n 0 l st [] (startT P Γ l.toArray (eb n F) (gb Z) l (Q .normal))) : AW P (.region id l.toArray true) Q st := AW.drawG hΓ hm n F G Z hchk h
theorem AW.drawT (hΓ : GOK P Γ) (hm : P.follows .mixedOrders = true) {id : Nat} {l : List Oper} (n : Nat) (F : List Nat) (hchk : okG l n F [] = true)
    (h : xE P Γ l.toArray (eb n F) (gb []) n 0 l st [] (startT P Γ l.toArray (eb n F) (gb []) l (Q .normal))) : AW P (.region id l.toArray true) Q st := AW.drawG hΓ hm n F [] [] hchk h
end
attribute [go_sem high] xT_cons xE_cons bopT_new
attribute [go_sem] sAppF_new apF_sn apF_em apF_sL deadS_eq dkS_t dkS_f gb contT_app startT_app goT_some goT_none goE_some goE_none xT_nil xE_nil
attribute [go_sem] keeps keep1 eb List.contains_cons List.contains_nil Bool.or_false Bool.false_or Bool.true_or Bool.or_true
attribute [go_sem] aBuild.eq_def aFill.eq_1 aFill.eq_2
end Go.Proofs.YtljgfacjefebaaaDoor
