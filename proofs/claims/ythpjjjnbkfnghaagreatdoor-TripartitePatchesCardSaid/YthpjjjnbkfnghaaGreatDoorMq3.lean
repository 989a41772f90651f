/-
  Part 3 of what the proof rests on: values that are told, code that is walked, what comes out.
-/
import Derived.Test.YthpjjjnbkfnghaaGreatDoorMq2
import Derived.Lib.ItoaNum
import Derived.Lib.Atoi
import Derived.Lib.IndexMore
import Derived.Lib.Strings
import Derived.Lib.AppendStr
import Derived.ProofKit
import Derived.OpenShut
import Derived.SizedLaws
import Derived.Laws.Runes
import Derived.Laws.BytesArg
import Derived.Shelf.Strings.Builder1
import Derived.Shelf.Strings.Builder2
import Derived.Shelf.Strings.OnBuilder
import Derived.Shelf.Small.Strs
import Derived.Shelf.Strings.BuilderF
import Derived.Shelf.Strconv.Atoi
import Derived.Shelf.Strconv.Itoa0
import Derived.Shelf.Strconv.Itoa1
import Derived.Shelf.LaysM
import Derived.Shelf.Strconv.Itoa2
import Derived.Shelf.Strconv.Itoa3
import Derived.Shelf.Strings.Search1
import Derived.Shelf.Strings.Search2
import Derived.Shelf.Strings.Search3
import Derived.Shelf.Strings.Cut
import Derived.Shelf.Strings.Count
import Derived.Shelf.Strings.Shaped
import Derived.Shelf.Strings.Prefix
import Derived.Shelf.Strings.Split
import Derived.Shelf.Strings.Replace
import Derived.Shelf.Strings.SplitShaped
import Derived.Shelf.Bits.Mul64
import Derived.Shelf.Strings.Repeat
import Derived.Shelf.Unicode.DecodeSlow
import Derived.Test.YthpjjjnbkfnghaaGreatDoorProg
import Derived.Test.YthpjjjnbkfnghaaGreatDoorChecked
import Derived.WalkKit
import Derived.Tactics
import Derived.Tactics2
import Derived.StillTactics
import Derived.Laws.Pointers
import Derived.Laws.Externs
import Derived.Laws.Entries
import Derived.Lib.Builder
import Derived.Lib.UnsafeStr
import Derived.KernelRfl
namespace Go.Proofs.YthpjjjnbkfnghaaGreatDoor
open Go
def framed (S : MSpec) : MSpec := fun args hp top nx K => ∃ (π : List Nat) (args' : List AV) (hp1 : Nat → Row), π.Nodup ∧ (∀ p ∈ π, p < top) ∧ All2 AVle args args' ∧ (∀ (i p : Nat), π[i]? = some p → RowLe (hp p) (hp1 i)) ∧ (∀ i, π.length ≤ i → hp1 i = .dead) ∧
  S args' hp1 π.length nx fun r hp1' _ nx' => ∃ r' hp', AVle r r' ∧ (∀ (i p : Nat), π[i]? = some p → RowLe (hp1' i) (hp' p)) ∧ (∀ p, ¬ p ∈ π → hp' p = hp p) ∧ (∀ p ∈ π, ∀ v, (hp' p).ver = some v → (hp p).ver = some v ∨ nx ≤ v) ∧ K r' hp' top nx'
theorem ver_blk {r r' : Row} {η : Env} (h : r'.ver = r.ver) : r'.blk η = r.blk η := by unfold Row.blk; rw [h]
theorem All2.le {w : World} {η : Env} {L L' : Nat → Prop} (hL : ∀ b, L' b → L b) : ∀ {xs ys : List AV} {vs : List Value}, All2 AVle xs ys → All2 (Rep w η L) xs vs → All2 (Rep w η L') ys vs
  | _, _, _, .nil, .nil => .nil
  | _, _, _, .cons h hs, .cons k ks => .cons (h _ _ _ _ (Rep.less (fun b _ hb => hL b hb) k)) (All2.le hL hs ks)
theorem MethOK.frame {P : Program} {f : FuncId} {S : MSpec} (h : MethOK P f S) : MethOK P f (framed S) := by
  refine ⟨h.1, fun args hp top nx K hS c η w vs hs hdead hargs => ?_⟩
  obtain ⟨π, args', hp1, hnd, hlt, hle, hrow, hd1, hS1⟩ := hS
  have hget : ∀ p ∈ π, ∃ i, π[i]? = some p := fun p hp => by
    obtain ⟨i, hi, e⟩ := List.getElem_of_mem hp
    exact ⟨i, by rw [List.getElem?_eq_getElem hi, e]⟩
  have hinj : ∀ i j p, π[i]? = some p → π[j]? = some p → i = j := fun i j p hi hj => by
    obtain ⟨h1, e1⟩ := List.getElem?_eq_some_iff.1 hi
    obtain ⟨h2, e2⟩ := List.getElem?_eq_some_iff.1 hj
    rcases Nat.lt_trichotomy i j with g | g | g
    · exact absurd (e1.trans e2.symm) (List.pairwise_iff_getElem.1 hnd i j h1 h2 g)
    · exact g
    · exact absurd (e2.trans e1.symm) (List.pairwise_iff_getElem.1 hnd j i h2 h1 g)
  have hidx : ∀ i, (∃ p, π[i]? = some p ∧ p ∈ π) ∨ hp1 i = .dead := fun i => by
    rcases Nat.lt_or_ge i π.length with g | g
    · exact .inl ⟨π[i], List.getElem?_eq_getElem g, List.getElem_mem g⟩
    · exact .inr (hd1 i g)
  have hb1 : ∀ i b, (hp1 i).blk η = some b → ∃ p, π[i]? = some p ∧ p ∈ π ∧ (hp p).blk η = some b := fun i b hb => by
    rcases hidx i with ⟨p, h1, h2⟩ | e
    · exact ⟨p, h1, h2, by rw [← ver_blk (hrow i p h1).1]; exact hb⟩
    · rw [e] at hb; cases hb
  have hv1 : ∀ i v, (hp1 i).ver = some v → ∃ p, π[i]? = some p ∧ p ∈ π ∧ (hp p).ver = some v := fun i v hv => by
    rcases hidx i with ⟨p, h1, h2⟩ | e
    · exact ⟨p, h1, h2, by rw [← (hrow i p h1).1]; exact hv⟩
    · rw [e] at hv; cases hv
  let c1 : Ctx := ⟨w, η, fun b => ∃ p, p ∈ π ∧ (hp p).blk η = some b, fun b => c.Lx b ∨ ∃ p, ¬ p ∈ π ∧ (hp p).blk η = some b, nx⟩
  have hL1 : ∀ b, Lset c1 η hp1 b → Lset c η hp b := by
    rintro b ((hl | ⟨p, _, hp⟩) | ⟨i, hi⟩)
    · exact .inl hl
    · exact .inr ⟨p, hp⟩
    · obtain ⟨p, _, _, h3⟩ := hb1 i b hi
      exact .inr ⟨p, h3⟩
  have hs1 : HS c1 hp1 nx η w := by
    refine ⟨Fr.refl _ _, ?_, fun i => ?_, fun i j v hi hj => ?_, fun i v hi => ?_, fun i j b hi hj => ?_, fun i b hi => ?_, hs.fresh, Env.le_refl _, Nat.le_refl _, fun _ _ h => h⟩
    · refine ⟨?_, fun b o ho => ⟨(hs.tab b o ho).1, fun ⟨p, _, hp⟩ => (hs.tab b o ho).2 ⟨p, hp⟩⟩⟩
      rintro b (hl | ⟨p, _, hp⟩)
      · exact Nat.lt_of_lt_of_le (hs.lx.lt b hl) hs.fr.size
      · exact (hs.own p b hp).2.2
    · rcases hidx i with ⟨p, h1, _⟩ | e
      · exact (hrow i p h1).2 w η _ (RowOK.less hL1 (hs.rows p))
      · rw [e]; trivial
    · obtain ⟨p, h1, _, h3⟩ := hv1 i v hi
      obtain ⟨q, g1, _, g3⟩ := hv1 j v hj
      obtain rfl := hs.vers p q v h3 g3
      exact hinj i j p h1 g1
    · obtain ⟨p, _, _, h3⟩ := hv1 i v hi
      exact hs.bnd p v h3
    · obtain ⟨p, h1, _, h3⟩ := hb1 i b hi
      obtain ⟨q, g1, _, g3⟩ := hb1 j b hj
      obtain rfl := hs.disj p q b h3 g3
      exact hinj i j p h1 g1
    · obtain ⟨p, h1, h2, h3⟩ := hb1 i b hi
      refine ⟨.inl ⟨p, h2, h3⟩, ?_, (hs.own p b h3).2.2⟩
      rintro (hl | ⟨q, hq, hb⟩)
      · exact (hs.own p b h3).2.1 hl
      · obtain rfl := hs.disj p q b h3 hb
        exact hq h2
  refine (h.2 args' hp1 π.length nx _ hS1 c1 η w vs hs1 hd1 (All2.le hL1 hle hargs)).mono ?_
  rintro e w' ⟨v, r, hp1', top1', nx', η', rfl, ⟨r', hp', hr', hrow', hsame, hver, hK⟩, hs', hdead', hrep⟩
  have hn0 : ∀ k, k < nx → η k = none → η' k = none := hs'.env.2.2
  have heq : ∀ p v, (hp p).ver = some v → η' v = η v := fun p v hv => by
    cases hη : η v with
    | none => exact hn0 v (hs.bnd p v hv) hη
    | some x => exact hs'.env.1 v x hη
  have hbo : ∀ p b, ¬ p ∈ π → (hp' p).blk η' = some b → (hp p).blk η = some b := fun p b hnp hb => by
    rw [hsame p hnp] at hb
    unfold Row.blk at hb ⊢
    cases hv : (hp p).ver with
    | none => rw [hv] at hb; cases hb
    | some v => rw [hv] at hb; simp only [Option.bind_some] at hb ⊢; rwa [heq p v hv] at hb
  have hbi : ∀ p b, p ∈ π → (hp' p).blk η' = some b → ∃ i, π[i]? = some p ∧ (hp1' i).blk η' = some b := fun p b hp hb => by
    obtain ⟨i, hi⟩ := hget p hp
    exact ⟨i, hi, by rw [← ver_blk (hrow' i p hi).1]; exact hb⟩
  have hL2 : ∀ b, Lset c η' hp' b → Lset c1 η' hp1' b := by
    rintro b (hl | ⟨p, hb⟩)
    · exact .inl (.inl hl)
    · by_cases hp : p ∈ π
      · obtain ⟨i, _, h2⟩ := hbi p b hp hb
        exact .inr ⟨i, h2⟩
      · exact .inl (.inr ⟨p, hp, hbo p b hp hb⟩)
  have hL3 : ∀ b, b < w.heap.size → Lset c1 η' hp1' b → Lset c η hp b := by
    rintro b hlt ((hl | ⟨p, _, hb⟩) | ⟨i, hi⟩)
    · exact .inl hl
    · exact .inr ⟨p, hb⟩
    · rcases (hs'.own i b hi).1 with ⟨p, _, hb⟩ | hge
      · exact .inr ⟨p, hb⟩
      · exact absurd hlt (Nat.not_lt.2 hge)
  refine ⟨v, r', hp', top, nx', η', rfl, hK, ?_, fun p hp => ?_, hr' _ _ _ _ (Rep.less (fun b _ hb => hL2 b hb) hrep)⟩
  · refine ⟨hs.fr.trans' hs'.fr ?_, hs.lx, fun p => ?_, fun p q u hp hq => ?_, fun p u hp => ?_, fun p q b hp hq => ?_, fun p b hb => ?_, hs'.fresh, Env.le_trans hs.env.1 hs'.env.1, Nat.le_trans hs.env.2.1 hs'.env.2.1, fun k hk h0 => hs'.env.2.2 k (Nat.lt_of_lt_of_le hk hs.env.2.1) (hs.env.2.2 k hk h0)⟩
    · rintro k hk ⟨p, _, hp⟩
      exact (hs.own p k hp).1.resolve_right (by omega)
    · by_cases hp : p ∈ π
      · obtain ⟨i, hi⟩ := hget p hp
        exact (hrow' i p hi).2 w' η' _ (RowOK.less hL2 (hs'.rows i))
      · rw [hsame p hp]
        refine RowOK.keep hs'.fr hs'.env.1 (fun k _ hk => ?_) (fun k hk hl => hL3 k hk (hL2 k hl)) (fun v hv => heq p v hv) (fun b hb => hs'.fr.block b (hs.own p b hb).2.2 ?_) (hs.rows p)
        · obtain ⟨q, _, hq⟩ := hk
          exact .inr ⟨q, hq⟩
        · rintro ⟨q, hq, hqb⟩
          obtain rfl := hs.disj p q b hb hqb
          exact hp hq
    · have mixed : ∀ p q, p ∈ π → ¬ q ∈ π → (hp' p).ver = some u → (hp' q).ver = some u → p = q := fun p q h1 h2 hpv hqv => by
        rw [hsame q h2] at hqv
        rcases hver p h1 u hpv with g | g
        · exact hs.vers p q u g hqv
        · have := hs.bnd q u hqv; omega
      by_cases h1 : p ∈ π <;> by_cases h2 : q ∈ π
      · obtain ⟨i, hi⟩ := hget p h1
        obtain ⟨j, hj⟩ := hget q h2
        have := hs'.vers i j u (by rw [← (hrow' i p hi).1]; exact hp) (by rw [← (hrow' j q hj).1]; exact hq)
        subst this
        rw [hi] at hj
        exact Option.some.inj hj
      · exact mixed p q h1 h2 hp hq
      · exact (mixed q p h2 h1 hq hp).symm
      · rw [hsame p h1] at hp
        rw [hsame q h2] at hq
        exact hs.vers p q u hp hq
    · by_cases h1 : p ∈ π
      · obtain ⟨i, hi⟩ := hget p h1
        exact hs'.bnd i u (by rw [← (hrow' i p hi).1]; exact hp)
      · rw [hsame p h1] at hp
        exact Nat.lt_of_lt_of_le (hs.bnd p u hp) hs'.env.2.1
    · have mixed : ∀ p q, p ∈ π → ¬ q ∈ π → (hp' p).blk η' = some b → (hp' q).blk η' = some b → p = q := fun p q h1 h2 hpv hqv => by
        obtain ⟨i, _, hi⟩ := hbi p b h1 hpv
        exact absurd (.inr ⟨q, h2, hbo q b h2 hqv⟩) (hs'.own i b hi).2.1
      by_cases h1 : p ∈ π <;> by_cases h2 : q ∈ π
      · obtain ⟨i, hi, g1⟩ := hbi p b h1 hp
        obtain ⟨j, hj, g2⟩ := hbi q b h2 hq
        have := hs'.disj i j b g1 g2
        subst this
        rw [hi] at hj
        exact Option.some.inj hj
      · exact mixed p q h1 h2 hp hq
      · exact (mixed q p h2 h1 hq hp).symm
      · exact hs.disj p q b (hbo p b h1 hp) (hbo q b h2 hq)
    · by_cases h1 : p ∈ π
      · obtain ⟨i, _, hi⟩ := hbi p b h1 hb
        obtain ⟨o1, o2, o3⟩ := hs'.own i b hi
        refine ⟨?_, fun hl => o2 (.inl hl), o3⟩
        rcases o1 with ⟨q, _, hq⟩ | hge
        · exact (hs.own q b hq).1
        · exact .inr (Nat.le_trans hs.fr.size hge)
      · obtain ⟨o1, o2, o3⟩ := hs.own p b (hbo p b h1 hb)
        exact ⟨o1, o2, Nat.lt_of_lt_of_le o3 hs'.fr.size⟩
  · rw [hsame p (fun hm => by have := hlt p hm; omega)]
    exact hdead p hp
theorem AVle.ow {p q ver n : Nat} : AVle (.ow p ver n) (.ow q ver n) := fun _ _ _ _ h => h
theorem AVle.pt {p q ver n : Nat} : AVle (.pt p ver n) (.pt q ver n) := fun _ _ _ _ h => h
theorem RowLe.vers {r r' : Row} (h : RowLe r r') : r'.ver = r.ver := h.1
theorem one_row {p : Nat} {hp : Nat → Row} {r : Row} (h : RowLe (hp p) r) : ∀ (i q : Nat), [p][i]? = some q → RowLe (hp q) (rws [(0, r)] i) := by
  intro i q hq
  cases i with
  | zero =>
    simp only [List.getElem?_cons_zero, Option.some.injEq] at hq
    subst hq
    exact h
  | succ i => simp at hq
theorem RowLe.trans {r s t : Row} (h : RowLe r s) (k : RowLe s t) : RowLe r t := by
  unfold RowLe at *
  exact ⟨k.1.trans h.1, fun w η L hr => k.2 w η L (h.2 w η L hr)⟩
theorem rowE {α : Type} {E : El α} {v t s n : Nat} {l : List α} {d : α} (hs : s = E.sz) (hd : d = E.dflt) (h : n = l.length) : RowLe (.sl v t s n fun i => E.enc (l.getD i d)) (rowL v t E l) := by
  subst hs hd h
  exact RowLe.refl _
theorem box_st {v e m : Nat} {c d : Nat → AV} : RowLe (.box v e m (stC c 0 m d)) (.box v e m d) := by
  refine RowLe.box fun j hj => AVle.of_eq ?_
  simp only [stC]
  rw [if_pos ⟨by omega, by omega⟩, Nat.sub_zero]
section
variable {P : Program} {Γ : Gam} {ops : Array Oper} {st : AS} {o : Oper} {r : List Oper} {K : AS → Prop} {Q : Exit → AS → Prop}
theorem bopT_new {z : Bool} : bopT P Γ z st o K = match o.op with
  | .mapUpdate t m k x => sMapSet P st t (st.ev m) (st.ev k) (st.ev x) o.dst K
  | .call ⟨.value (.func f), ⟨xs⟩, _⟩ => match Γ f with
    | some (.meth S) => dstOK st.sz o.dst ∧ S (xs.map st.ev) st.hp st.top st.nx (methK st o.dst K)
    | _ => False
  | .store t x y => sStore P st t (st.ev x) (st.ev y) o.dst K
  | .call ⟨.builtin .append, ⟨[x, y]⟩, ⟨[t, t']⟩⟩ => t' = t ∧ (if z = true then sAppF P st t (st.ev x) (st.ev y) o.dst K else sApp P st t (st.ev x) (st.ev y) o.dst K)
  | .buildSlice t n parts => sBuild P st t n (parts.toList.map fun a => (a.1, st.ev a.2)) o.dst K
  | _ => OpM P o st K := rflN rfl
def apF (P : Program) (st : AS) (y : AV) (d : Option Tmp) (K : AS → Prop) : Option TypeDesc → AV → AV → Prop
  | some (.slice e), .em, .sn k sz dd => (vwP st.hp y ∧ dstOK st.sz d ∧ appOK P e sz k) ∧ K ⟨updO st.fr d (.sn k sz dd), st.hp, st.sz, st.top, st.nx, st.df⟩
  | some (.slice e), .em, .em => (0 < P.cellsOf e ∧ dstOK st.sz d) ∧ K ⟨updO st.fr d .em, st.hp, st.sz, st.top, st.nx, st.df⟩
  | _, _, _ => False
theorem sAppF_new {t : TypeId} {x y : AV} {d : Option Tmp} : sAppF P st t x y d K = apF P st y d K (P.underlying t) x (vw st.hp y) := rflN rfl
theorem apF_sn {e : TypeId} {y : AV} {d : Option Tmp} {k sz : Nat} {dd : Nat → Nat → AV} : apF P st y d K (some (.slice e)) .em (.sn k sz dd) = ((vwP st.hp y ∧ dstOK st.sz d ∧ appOK P e sz k) ∧ K ⟨updO st.fr d (.sn k sz dd), st.hp, st.sz, st.top, st.nx, st.df⟩) := rflN rfl
theorem apF_em {e : TypeId} {y : AV} {d : Option Tmp} : apF P st y d K (some (.slice e)) .em .em = ((0 < P.cellsOf e ∧ dstOK st.sz d) ∧ K ⟨updO st.fr d .em, st.hp, st.sz, st.top, st.nx, st.df⟩) := rflN rfl
theorem apF_sL {α : Type} {E : El α} {l : List α} {e : TypeId} {y : AV} {d : Option Tmp} : apF P st y d K (some (.slice e)) .em (sL E l) = ((vwP st.hp y ∧ dstOK st.sz d ∧ appOK P e E.sz l.length) ∧ K ⟨updO st.fr d (sL E l), st.hp, st.sz, st.top, st.nx, st.df⟩) := rflN rfl
variable {hk : Nat → Row} {Pk : List Nat}
theorem deadS_eq {fr : Nat → AV} {hp : Nat → Row} {sz top nx : Nat} {df : List Deferred} : deadS hk ⟨fr, hp, sz, top, nx, df⟩ = ⟨fr, hk, sz, top, nx, df⟩ := rflN rfl
theorem dkS_t : dkS hk true st = deadS hk st := rflN rfl
theorem dkS_f : dkS hk false st = st := rflN rfl
variable {E G Z : Nat → Bool} {n j : Nat} {kp : List (Nat × AV × Row)}
def contT (hk : Nat → Row) (Pk : List Nat) (P : Program) (Γ : Gam) (ops : Array Oper) (E Z : Nat → Bool) (j : Nat) (kp : List (Nat × AV × Row)) (r : List Oper) (K : AS → Prop) : AS → Prop := fun st => (keepK hk st.hp Pk ∧ keeps j kp st) ∧ xT hk Pk P Γ ops E Z (j + 1) r st kp K
theorem contT_app : contT hk Pk P Γ ops E Z j kp r K st = ((keepK hk st.hp Pk ∧ keeps j kp st) ∧ xT hk Pk P Γ ops E Z (j + 1) r st kp K) := rflN rfl
def startT (hk : Nat → Row) (Pk : List Nat) (P : Program) (Γ : Gam) (ops : Array Oper) (E Z : Nat → Bool) (l : List Oper) (K : AS → Prop) : AS → List (Nat × AV × Row) → Prop := fun st kp => xT hk Pk P Γ ops E Z 0 l st kp K
theorem startT_app {l : List Oper} : startT hk Pk P Γ ops E Z l K st kp = xT hk Pk P Γ ops E Z 0 l st kp K := rflN rfl
def goT (hk : Nat → Row) (Pk : List Nat) (P : Program) (Γ : Gam) (ops : Array Oper) (E Z : Nat → Bool) (j : Nat) (o : Oper) (r : List Oper) (kp : List (Nat × AV × Row)) (K : AS → Prop) (st : AS) : AOut → Prop
  | some (pre, z, row) => (o.guard = none ∧ dstOK st.sz o.dst ∧ pre) ∧ xT hk Pk P Γ ops E Z (j + 1) r (st.put o.dst z row) kp K
  | none => o.guard = none ∧ bopT P Γ (Z j) st o (contT hk Pk P Γ ops E Z j kp r K)
theorem goT_some {pre : Prop} {z : AV} {row : Row} : goT hk Pk P Γ ops E Z j o r kp K st (some (pre, z, row)) = ((o.guard = none ∧ dstOK st.sz o.dst ∧ pre) ∧ xT hk Pk P Γ ops E Z (j + 1) r (st.put o.dst z row) kp K) := rflN rfl
theorem goT_none : goT hk Pk P Γ ops E Z j o r kp K st none = (o.guard = none ∧ bopT P Γ (Z j) st o (contT hk Pk P Γ ops E Z j kp r K)) := rflN rfl
theorem xT_nil : xT hk Pk P Γ ops E Z j [] st kp K = K st := rflN rfl
theorem xT_cons : xT hk Pk P Γ ops E Z j (o :: r) st kp K = if E j = true then xT hk Pk P Γ ops E Z (j + 1) r st kp K else goT hk Pk P Γ ops E Z j o r kp K st (gop P Γ ops st o) := rflN rfl
variable {KE : AS → List (Nat × AV × Row) → Prop}
def goE (hk : Nat → Row) (P : Program) (Γ : Gam) (ops : Array Oper) (E G : Nat → Bool) (n j : Nat) (o : Oper) (r : List Oper) (kp : List (Nat × AV × Row)) (KE : AS → List (Nat × AV × Row) → Prop) (st : AS) : AOut → Prop
  | some (pre, z, row) => ((G j = true → gOK ops st.fr o.guard ∧ row = .dead) ∧ dstOK st.sz o.dst ∧ pre) ∧ xE hk P Γ ops E G n (j + 1) r (st.put o.dst z row) (if n ≤ j then (j, z, row) :: kp else kp) KE
  | none => False
theorem goE_some {pre : Prop} {z : AV} {row : Row} : goE hk P Γ ops E G n j o r kp KE st (some (pre, z, row)) = (((G j = true → gOK ops st.fr o.guard ∧ row = .dead) ∧ dstOK st.sz o.dst ∧ pre) ∧ xE hk P Γ ops E G n (j + 1) r (st.put o.dst z row) (if n ≤ j then (j, z, row) :: kp else kp) KE) := rflN rfl
theorem goE_none : goE hk P Γ ops E G n j o r kp KE st none = False := rflN rfl
theorem xE_nil : xE hk P Γ ops E G n j [] st kp KE = KE st kp := rflN rfl
theorem xE_cons : xE hk P Γ ops E G n j (o :: r) st kp KE = if E j = true then goE hk P Γ ops E G n j o r kp KE st (gop P Γ ops (dkS hk (G j) st) o) else xE hk P Γ ops E G n (j + 1) r st kp KE := rflN rfl
theorem AW.drawZ (hΓ : GOK P Γ) (hm : P.follows .mixedOrders = true) {id : Nat} {l : List Oper} (n : Nat) (F G Z : List Nat) (hchk : okG l n F G = true)
    (h : xE (hkS [] st.hp) P Γ l.toArray (eb n F) (gb G) n 0 l st [] (startT (hkS [] st.hp) [] P Γ l.toArray (eb n F) (gb Z) l (Q .normal))) : AW P (.region id l.toArray true) Q st := AW.drawG hΓ hm n F G Z [] hchk h
theorem AW.drawK (hΓ : GOK P Γ) (hm : P.follows .mixedOrders = true) {id : Nat} {l : List Oper} (n : Nat) (F G Z Pk : List Nat) (hchk : okG l n F G = true)
    (h : xE (hkS Pk st.hp) P Γ l.toArray (eb n F) (gb G) n 0 l st [] (startT (hkS Pk st.hp) Pk P Γ l.toArray (eb n F) (gb Z) l (Q .normal))) : AW P (.region id l.toArray true) Q st := AW.drawG hΓ hm n F G Z Pk hchk h
theorem AW.drawT (hΓ : GOK P Γ) (hm : P.follows .mixedOrders = true) {id : Nat} {l : List Oper} (n : Nat) (F : List Nat) (hchk : okG l n F [] = true)
    (h : xE (hkS [] st.hp) P Γ l.toArray (eb n F) (gb []) n 0 l st [] (startT (hkS [] st.hp) [] P Γ l.toArray (eb n F) (gb []) l (Q .normal))) : AW P (.region id l.toArray true) Q st := AW.drawG hΓ hm n F [] [] [] hchk h
end
attribute [go_sem high] xT_cons xE_cons bopT_new
theorem keepK_nil {hk hp : Nat → Row} : keepK hk hp [] = True := rfl
theorem keepK_cons {hk hp : Nat → Row} {p : Nat} {r : List Nat} : keepK hk hp (p :: r) = (hp p = hk p ∧ keepK hk hp r) := rfl
attribute [go_sem] keepK_nil keepK_cons hkS gOK_none gOK_some gOKd_some
attribute [go_sem] sAppF_new apF_sn apF_em apF_sL deadS_eq dkS_t dkS_f gb contT_app startT_app goT_some goT_none goE_some goE_none xT_nil xE_nil
attribute [go_sem] keeps keep1 eb List.contains_cons List.contains_nil Bool.or_false Bool.false_or Bool.true_or Bool.or_true
attribute [go_sem] aBuild.eq_def aFill.eq_1 aFill.eq_2
end Go.Proofs.YthpjjjnbkfnghaaGreatDoor
namespace Go.Proofs.YthpjjjnbkfnghaaGreatDoor
open Go
@[go_sem high] theorem aIsNil_sL {α : Type} (E : El α) (l : List α) {P : Program} {t : TypeId} : aIsNil P t (sL E l) = match P.underlying t with
    | some (.slice _) => some (0 < E.sz, .mb (l.length = 0))
    | _ => none := by
  unfold aIsNil sL
  generalize P.underlying t = u
  cases u with
  | none => rfl
  | some d => cases d <;> rfl
attribute [go_sem low] aIsNil.eq_def
@[go_sem high] theorem sApp_sL {α : Type} (E : El α) (l : List α) {P : Program} {st : AS} {t : TypeId} {x : AV} {d : Option Tmp} {K : AS → Prop} : sApp P st t x (sL E l) d K = sApp P st t x (.sn l.length E.sz fun i => E.enc (l.getD i E.dflt)) d K := rfl
@[go_sem] theorem apK_sL {α : Type} (E : El α) (l : List α) {P : Program} {st : AS} {t : TypeId} {x y : AV} {d : Option Tmp} {K : AS → Prop} {u : Option TypeDesc} : apK P st t y d K u x (sL E l) = apK P st t y d K u x (.sn l.length E.sz fun i => E.enc (l.getD i E.dflt)) := rfl
theorem stE_le {α : Type} {E : El α} {f : Nat → Nat → AV} {k s n : Nat} {c : Nat → AV} {x d : α} {l : List α} (hk : k < l.length) (h : ∀ i, i < n → ∀ j, j < s → AVle (f i j) (E.enc (l.getD i d) j)) (hc : ∀ j, j < s → AVle (c j) (E.enc x j)) :
    ∀ i, i < n → ∀ j, j < s → AVle (stE f k 0 s c i j) (E.enc ((l.set k x).getD i d) j) := fun i hi j hj => by
  simp only [stE]
  by_cases e : i = k
  · subst e
    rw [if_pos ⟨rfl, by omega, by omega⟩, Nat.sub_zero]
    have e : (l.set i x).getD i d = x := by simp [List.getD, hk]
    rw [e]
    exact hc j hj
  · rw [if_neg (fun hh => e hh.1)]
    have e : (l.set k x).getD i d = l.getD i d := by simp [List.getD, List.getElem?_set_ne (Ne.symm e)]
    rw [e]
    exact h i hi j hj
theorem stM_le {n : Nat} {args args' : List AV} {hp : Nat → Row} {top nx : Nat} (h : All2 AVle args args') : ASle (stM n args hp top nx) (stM n args' hp top nx) := by
  refine fun c η a w hs => ⟨η, hs.hs, hs.dead, hs.size, fun t => ?_, hs.defs⟩
  refine (?_ : AVle (args.getD t .any) (args'.getD t .any)) _ _ _ _ (hs.slots t)
  clear hs
  induction h generalizing t with
  | nil => exact AVle.refl _
  | cons h _ ih =>
    cases t with
    | zero => simpa using h
    | succ t => simpa using ih t
theorem ASle.perm {st st' : AS} (σ : Nat → Nat) (hsz : st'.sz = st.sz) (hdf : st'.df = st.df) (hfr : ∀ t, AVle (st.fr t) (st'.fr t)) (hhp : ∀ p, st'.hp p = .dead ∨ RowLe (st.hp (σ p)) (st'.hp p))
    (hinj : ∀ p q, st'.hp p ≠ .dead → st'.hp q ≠ .dead → σ p = σ q → p = q) (htop : ∀ p, st'.top ≤ p → st'.hp p = .dead) (hnx : st.nx ≤ st'.nx) : ASle st st' := by
  intro c η a w h
  have hver : ∀ p v, (st'.hp p).ver = some v → (st.hp (σ p)).ver = some v ∧ st'.hp p ≠ .dead := fun p v hv => by
    rcases hhp p with e | e
    · rw [e] at hv; cases hv
    · exact ⟨by rw [← e.1]; exact hv, fun e => by rw [e] at hv; cases hv⟩
  have hblk : ∀ p b, (st'.hp p).blk η = some b → (st.hp (σ p)).blk η = some b ∧ st'.hp p ≠ .dead := fun p b hb => by
    rcases hhp p with e | e
    · rw [e] at hb; cases hb
    · refine ⟨?_, fun e => by rw [e] at hb; cases hb⟩
      unfold Row.blk at hb ⊢
      rw [e.1] at hb
      exact hb
  have hL : ∀ b, Lset c η st'.hp b → Lset c η st.hp b := by
    rintro b (hl | ⟨p, hp⟩)
    · exact .inl hl
    · exact .inr ⟨σ p, (hblk p b hp).1⟩
  refine ⟨η, ⟨⟨h.hs.fr, h.hs.lx, fun p => ?_, fun p q v hp hq => hinj p q (hver p v hp).2 (hver q v hq).2 (h.hs.vers _ _ v (hver p v hp).1 (hver q v hq).1), fun p v hp => Nat.lt_of_lt_of_le (h.hs.bnd _ v (hver p v hp).1) hnx,
    fun p q b hp hq => hinj p q (hblk p b hp).2 (hblk q b hq).2 (h.hs.disj _ _ b (hblk p b hp).1 (hblk q b hq).1), fun p b hp => h.hs.own _ b (hblk p b hp).1, fun v hv => h.hs.fresh v (Nat.le_trans hnx hv), h.hs.env.1, Nat.le_trans h.hs.env.2.1 hnx, h.hs.env.2.2⟩, htop, by rw [hsz]; exact h.size,
    fun t => hfr t _ _ _ _ (Rep.less (fun b _ hb => hL b hb) (h.slots t)), by rw [hdf]; exact h.defs⟩⟩
  rcases hhp p with e | e
  · rw [e]; trivial
  · exact e.2 _ _ _ (RowOK.less hL (h.hs.rows _))
def Sh.fitsV (σ : Nat → Nat) (s : Sh) (st : AS) : Prop :=
  ((s.sz = st.sz ∧ s.df = st.df) ∧ st.nx ≤ s.nx) ∧ (∀ p ∈ s.fr, AVle (st.fr p.1) p.2) ∧ (∀ p ∈ s.hp, RowLe (st.hp (σ p.1)) p.2) ∧ (∀ p ∈ s.hp, p.1 < s.top) ∧ ∀ p ∈ s.hp, ∀ q ∈ s.hp, σ p.1 = σ q.1 → p.1 = q.1
theorem rws_mem : ∀ {l : List (Nat × Row)} {t : Nat}, rws l t ≠ .dead → ∃ p ∈ l, p.1 = t ∧ rws l t = p.2
  | [], _, h => absurd rfl h
  | (d, x) :: r, t, h => by
    by_cases e : t = d
    · exact ⟨(d, x), List.mem_cons_self .., e.symm, if_pos e⟩
    · have h' : rws r t ≠ .dead := fun hh => h ((if_neg e).trans hh)
      obtain ⟨p, h1, h2, h3⟩ := rws_mem h'
      exact ⟨p, List.mem_cons_of_mem _ h1, h2, (if_neg e).trans h3⟩
theorem Sh.fitsV.le {s : Sh} {st : AS} {σ : Nat → Nat} (h : s.fitsV σ st) : ASle st ⟨frm s.fr, rws s.hp, s.sz, s.top, s.nx, s.df⟩ := by
  obtain ⟨⟨⟨h1, h2⟩, h3⟩, h4, h5, h6, h7⟩ := h
  refine ASle.perm σ h1 h2 (frm_le h4) (fun p => ?_) (fun p q hp hq e => ?_) (rws_top h6) h3
  · by_cases hd : rws s.hp p = .dead
    · exact .inl hd
    · obtain ⟨x, hx, e1, e2⟩ := rws_mem hd
      subst e1
      refine .inr (?_ : RowLe (st.hp (σ x.1)) (rws s.hp x.1))
      rw [e2]
      exact h5 x hx
  · obtain ⟨x, hx, e1, _⟩ := rws_mem hp
    obtain ⟨y, hy, e2, _⟩ := rws_mem hq
    subst e1 e2
    exact h7 x hx y hy e
theorem toFitsV {st : AS} (σ : Nat → Nat) {l : List (Nat × AV)} {r : List (Nat × Row)} {sz top nx : Nat} {df : List Deferred} (h : (Sh.mk l r sz top nx df).fitsV σ st) : ASle st ⟨frm l, rws r, sz, top, nx, df⟩ := h.le
theorem AW.cutV {P : Program} {x : Code} {Q : Exit → AS → Prop} {st : AS} (σ : Nat → Nat) (s : Sh) (h : s.fitsV σ st) (k : AW P x Q s.st) : AW P x Q st := AW.le h.le k
attribute [go_sem] Sh.fitsV
def againL {α : Type} (I : α → AS) (μ : α → Nat) (i : α) (Q : Exit → AS → Prop) : Exit → AS → Prop
  | .normal, st => ∃ j, ASle st (I j) ∧ μ j < μ i
  | e, st => Q e st
section
variable {P : Program} {x : Code} {Q : Exit → AS → Prop} {st : AS} {α : Type} {I : α → AS} {μ : α → Nat} {i : α} {id : Nat}
@[go_sem] theorem againL_normal : againL I μ i Q .normal st = ∃ j, ASle st (I j) ∧ μ j < μ i := rflN rfl
@[go_sem] theorem againL_exit : againL I μ i Q (.exit id) st = Q (.exit id) st := rflN rfl
@[go_sem] theorem againL_ret : againL I μ i Q .ret st = Q .ret st := rflN rfl
theorem AW.roundL (I : α → AS) (μ : α → Nat) (i₀ : α) (h₀ : ASle st (I i₀)) (h : ∀ i, AW P x (againL I μ i Q) (I i)) : AW P (.loop x) Q st := by
  refine AW.loop I μ i₀ h₀ fun i c η a w hsr => ?_
  refine wp_mono (h i c η a w hsr) ?_
  rintro e a' w' ⟨st', η', hq, hs'⟩
  cases e with
  | normal =>
    obtain ⟨j, hf, hm⟩ := hq
    exact ⟨st', η', ⟨j, hf, hm⟩, hs'⟩
  | _ => exact ⟨st', η', hq, hs'⟩
end
theorem HS.same {c : Ctx} {hp : Nat → Row} {nx : Nat} {η : Env} {w : World} (h : HS c hp nx η w) {p : Nat} {row : Row} (hv : row.ver = (hp p).ver) (hrow : RowOK w η (Lset c η hp) row) :
    HS c (updR hp p row) nx η w ∧ Lset c η (updR hp p row) = Lset c η hp := by
  have hver : ∀ q, (updR hp p row q).ver = (hp q).ver := fun q => by
    by_cases e : q = p
    · subst e; rw [updR_at, hv]
    · rw [updR_ne _ _ e]
  have hbk : ∀ q, (updR hp p row q).blk η = (hp q).blk η := fun q => by
    unfold Row.blk
    rw [hver]
  have hL : Lset c η (updR hp p row) = Lset c η hp := by
    funext b
    simp only [Lset, hbk]
  refine ⟨⟨h.fr, h.lx, fun q => ?_, fun q r v hq hr => ?_, fun q v hq => ?_, fun q r b hq hr => ?_, fun q b hq => ?_, h.fresh, h.env⟩, hL⟩
  · rw [hL]
    by_cases e : q = p
    · subst e; rw [updR_at]; exact hrow
    · rw [updR_ne _ _ e]; exact h.rows q
  · rw [hver] at hq hr; exact h.vers q r v hq hr
  · rw [hver] at hq; exact h.bnd q v hq
  · rw [hbk] at hq hr; exact h.disj q r b hq hr
  · rw [hbk] at hq; exact h.own q b hq
theorem ASle.adoptB {st : AS} {q v m : Nat} {ety : TypeId} {cs : Nat → AV} (j : Nat) (e : TypeId) (sz : Nat) (cc : Nat → Nat → AV) (h : st.hp q = .box v ety m cs) (hj : cs j = .em) :
    ASle st ⟨st.fr, updR (updR st.hp st.top (.sl st.nx e sz 0 cc)) q (.box v ety m fun i => if i = j then .ow st.top st.nx 0 else cs i), st.sz, st.top + 1, st.nx + 1, st.df⟩ := by
  intro c η a w hsr
  have hqt : q ≠ st.top := fun e => by
    have := hsr.dead q (by omega)
    rw [h] at this
    cases this
  obtain ⟨hs', hkeep⟩ := hsr.hs.swap (p := st.top) (row := .sl st.nx e sz 0 cc) (r := (none, 0)) rfl (Fr.refl (fun _ => False) w) (fun _ _ h => h.elim) (fun g hg => by cases hg) (fun _ => by
    intro g cap he
    rw [layAt_at] at he
    simp only [Option.some.injEq, Prod.mk.injEq] at he
    obtain ⟨rfl, rfl⟩ := he
    rfl)
  have hrow := hs'.rows q
  rw [updR_ne _ _ hqt, h] at hrow
  have hrow0 := hsr.hs.rows q
  rw [h] at hrow0
  have hvn : v ≠ st.nx := fun e => by
    have := hsr.hs.bnd q v (by rw [h]; rfl)
    omega
  obtain ⟨hs2, hL⟩ := hs'.same (p := q) (row := .box v ety m fun i => if i = j then .ow st.top st.nx 0 else cs i) (by rw [updR_ne _ _ hqt, h]; rfl) (by
    intro g cap he
    obtain ⟨b, cur, h1, h2, h3, h4⟩ := hrow g cap he
    refine ⟨b, cur, h1, h2, h3, fun i hi => ?_⟩
    obtain ⟨u, hu, ho, hr⟩ := h4 i hi
    refine ⟨u, hu, ho, ?_⟩
    by_cases e' : i = j
    · subst e'
      rw [hj] at hr
      simp only [if_true]
      obtain ⟨x, hr⟩ := hr
      exact ⟨none, 0, layAt_at _ _ _, rfl, x, hr⟩
    · simp only [if_neg e']
      exact hr)
  refine ⟨layAt η st.nx (none, 0), hs2, fun p hp => ?_, hsr.size, fun t => ?_, hsr.defs⟩
  · simp only at hp ⊢
    rw [updR_ne _ _ (fun e => by
      subst e
      have := hsr.dead p (by omega)
      rw [h] at this
      cases this), updR_ne _ _ (by omega)]
    exact hsr.dead p (by omega)
  · simp only
    rw [hL]
    exact hkeep _ _ (hsr.slots t)
theorem AW.adoptB {P : Program} {x : Code} {Q : Exit → AS → Prop} {st : AS} {q v m : Nat} {ety : TypeId} {cs : Nat → AV} (j : Nat) (e : TypeId) (sz : Nat) (cc : Nat → Nat → AV) (h : st.hp q = .box v ety m cs) (hj : cs j = .em)
    (k : AW P x Q ⟨st.fr, updR (updR st.hp st.top (.sl st.nx e sz 0 cc)) q (.box v ety m fun i => if i = j then .ow st.top st.nx 0 else cs i), st.sz, st.top + 1, st.nx + 1, st.df⟩) : AW P x Q st := AW.le (ASle.adoptB j e sz cc h hj) k
end Go.Proofs.YthpjjjnbkfnghaaGreatDoor
set_option linter.unusedSimpArgs false
set_option linter.unusedVariables false
set_option maxRecDepth 100000
set_option maxHeartbeats 2000000
namespace Go.Proofs.YthpjjjnbkfnghaaGreatDoor
open Go
attribute [local irreducible] AW AVle ASle RowLe
theorem st_sz : (eP eI (eL eS)).sz = 2 := rfl
theorem st_d : (eP eI (eL eS)).dflt = ((0 : Int), ([] : List (List UInt8))) := rfl
theorem sp0 (s : Int × List (List UInt8)) : (eP eI (eL eS)).enc s 0 = .val (.int .i64 s.1) := rfl
theorem sp1 (s : Int × List (List UInt8)) : (eP eI (eL eS)).enc s 1 = sL eS s.2 := rfl
theorem stC20 (c d : Nat → AV) : stC c 0 2 d 0 = d 0 := rfl
theorem stC21 (c d : Nat → AV) : stC c 0 2 d 1 = d 1 := rfl
def sFollows : Spec := Spec.f2 kI kI (fun _ _ => True) (fun x y => kB.enc (followsB x y))
theorem okFollows : SpecOK Tryz.prog 102 sFollows := by
  refine SpecOK.f2 Tryz.func102 rfl (by decide) Tryz.results102 Tryz.ntmps102 (by decide) fun x y _ => ?_
  have hΓ : GOK Tryz.prog (gam []) := GOK.nil
  refine AW.of hΓ mixed [] _ _ _ rfl ?_
  simp only [go_sem]
  refine ⟨fun h1 h2 => by simp [h1, h2], rfl⟩
theorem countL_snoc (k : Int) (l : List (Int × List (List UInt8))) (s : Int × List (List UInt8)) : countL k (l ++ [s]) = countL k l + if s.1 = k then s.2.length else 0 := by
  unfold countL
  rw [List.flatMap_append, List.length_append]
  by_cases h : s.1 = k <;> simp [h]
theorem countL_le {l : List (Int × List (List UInt8))} {m : Nat} (h : ∀ s ∈ l, s.2.length ≤ m) (k : Int) : countL k l ≤ l.length * m := by
  induction l with
  | nil => simp [countL]
  | cons s l ih =>
    have h1 := h s (List.mem_cons_self ..)
    have h2 := ih fun t ht => h t (List.mem_cons_of_mem _ ht)
    have e : countL k (s :: l) = (if s.1 = k then s.2.length else 0) + countL k l := by
      unfold countL
      rw [List.flatMap_cons, List.length_append]
      by_cases h : s.1 = k <;> simp [h]
    rw [e, List.length_cons, Nat.succ_mul]
    split <;> omega
theorem take_snocE {α : Type} (l : List α) (d : α) {i : Nat} (h : i < l.length) : l.take (i + 1) = l.take i ++ [l.getD i d] := by
  rw [List.take_succ_eq_append_getElem h, gd_lt l d h]
def sCountsE : Spec := Spec.f1 (kL (eP eI (eL eS))) (fun l => l.length < 10000 ∧ ∀ s ∈ l, s.2.length ≤ 10000) (fun l => tu3 (kI.enc (countL 0 l)) (kI.enc (countL 1 l)) (kI.enc (countL 2 l)))
theorem okCountsE : SpecOK Tryz.prog 108 sCountsE := by
  refine SpecOK.f1 Tryz.func108 rfl (by decide) Tryz.results108 Tryz.ntmps108 (by decide) fun l ⟨hl, hs⟩ => ?_
  have hΓ : GOK Tryz.prog (gam []) := GOK.nil
  refine AW.of hΓ mixed [] _ _ _ rfl ?_
  simp only [go_sem, st_sz]
  refine AW.round (α := { x : Nat × Nat // x.1 ≤ l.length })
    (fun x => ⟨[(5, .val (.int .i64 (countL 0 (l.take x.1.1)))), (6, .val (.int .i64 (countL 1 (l.take x.1.1)))), (7, .val (.int .i64 (countL 2 (l.take x.1.1)))), (10, sL (eP eI (eL eS)) l), (11, .val (.int .i64 l.length)), (12, .val (.int .i64 x.1.1))], [], 43, 0, x.1.2, []⟩) (fun x => l.length - x.1.1) ⟨(0, 0), Nat.zero_le _⟩ ?_ ?_
  · simp only [go_sem]
    simp [countL]
  · rintro ⟨⟨i, nx⟩, hi⟩
    simp only at hi
    have hb : ∀ k, countL k (l.take i) ≤ 10000 * 10000 := fun k => Nat.le_trans (countL_le (fun s h => hs s (List.mem_of_mem_take h)) k) (Nat.mul_le_mul_right _ (by simp; omega))
    have hb0 := hb 0
    have hb1 := hb 1
    have hb2 := hb 2
    refine AW.of hΓ mixed [99999] _ _ _ rfl ?_
    simp only [go_sem, st_sz, stC20, stC21, sp0, sp1, st_d]
    have e : ∀ k, i < l.length → countL k (l.take (i + 1)) = countL k (l.take i) + if (l.getD i (0, [])).1 = k then (l.getD i (0, [])).2.length else 0 := fun k h => by rw [take_snocE l (0, []) h, countL_snoc]
    have hg : i < l.length → (l.getD i (0, [])).2.length ≤ 10000 := fun h => by
      rw [gd_lt l _ h]
      exact hs _ (List.getElem_mem _)
    generalize l.getD i (0, []) = g at *
    refine ⟨fun hlt => ?_, fun hge => ?_⟩
    · have hlt' : i < l.length := by omega
      have e0 := e 0 hlt'
      have e1 := e 1 hlt'
      have e2 := e 2 hlt'
      have hg' := hg hlt'
      refine ⟨by omega, fun h => ?_, fun h => ⟨fun h1 => ?_, fun h1 => ⟨fun h2 => ?_, fun h2 => ?_⟩⟩⟩
      · rw [if_pos h] at e0
        rw [if_neg (by omega)] at e1 e2
        exact ⟨by omega, by omega, ⟨(i + 1, nx + 1), by dsimp only; omega⟩, ⟨Nat.le_refl _, by dsimp only; omega, by dsimp only; omega, by dsimp only; omega, by dsimp only; omega⟩, by dsimp only; omega⟩
      · rw [if_pos h1] at e1
        rw [if_neg (by omega)] at e0 e2
        exact ⟨by omega, by omega, ⟨(i + 1, nx + 1), by dsimp only; omega⟩, ⟨Nat.le_refl _, by dsimp only; omega, by dsimp only; omega, by dsimp only; omega, by dsimp only; omega⟩, by dsimp only; omega⟩
      · rw [if_pos h2] at e2
        rw [if_neg (by omega)] at e0 e1
        exact ⟨by omega, by omega, ⟨(i + 1, nx + 1), by dsimp only; omega⟩, ⟨Nat.le_refl _, by dsimp only; omega, by dsimp only; omega, by dsimp only; omega, by dsimp only; omega⟩, by dsimp only; omega⟩
      · rw [if_neg (by omega)] at e0 e1 e2
        exact ⟨by omega, ⟨(i + 1, nx + 1), by dsimp only; omega⟩, ⟨Nat.le_refl _, by dsimp only; omega, by dsimp only; omega, by dsimp only; omega, by dsimp only; omega⟩, by dsimp only; omega⟩
    · obtain rfl : i = l.length := by omega
      rw [List.take_length]
      exact ⟨rfl, rfl, rfl⟩
def sEqualS : Spec := Spec.f2 (kL eS) (kL eS) (fun a b => a.length < 1000000000 ∧ b.length < 1000000000) (fun a b => kB.enc (decide (a = b)))
theorem okEqualS : SpecOK Tryz.prog 51 sEqualS := by
  refine SpecOK.f2 Tryz.func51 rfl (by decide) Tryz.results51 Tryz.ntmps51 (by decide) fun a b ⟨ha, hb⟩ => ?_
  have hΓ : GOK Tryz.prog (gam []) := GOK.nil
  refine AW.of hΓ mixed [] _ _ _ rfl ?_
  simp only [go_sem]
  refine ⟨fun h => ?_, fun h => ?_⟩
  · exact fun e => h (by rw [e])
  refine AW.round (α := { x : Nat × Nat // x.1 ≤ a.length ∧ ∀ k, k < x.1 → a.getD k [] = b.getD k [] })
    (fun x => ⟨[(0, sL eS a), (1, sL eS b), (12, .val (.int .i64 a.length)), (13, .val (.int .i64 x.1.1))], [], 26, 0, x.1.2, []⟩) (fun x => a.length - x.1.1) ⟨(0, 0), Nat.zero_le _, fun k hk => absurd hk (Nat.not_lt_zero _)⟩ ?_ ?_
  · simp only [go_sem]
  · rintro ⟨⟨i, nx⟩, hi, hk⟩
    simp only at hi hk
    refine AW.of hΓ mixed [99999] _ _ _ rfl ?_
    simp only [go_sem]
    refine ⟨fun hlt => ⟨by omega, by omega, fun hne e => hne (by rw [e]), fun he => ⟨by omega, ⟨(i + 1, nx), by dsimp only; omega, fun k hk' => ?_⟩, ⟨Nat.le_refl _, rfl⟩, by dsimp only; omega⟩⟩, fun hge => list_ext_getD [] (by omega) fun k hk' => hk k (by omega)⟩
    rcases Nat.lt_or_ge k i with g | g
    · exact hk k g
    · dsimp only at hk'
      obtain rfl : k = i := by omega
      exact Decidable.not_not.1 he
def sCloneS : MSpec := fun args hp top nx K => ∃ x l, args = [x] ∧ AVle x (sL eS l) ∧ l.length < 1000000000 ∧ ∀ ver nx', nx ≤ ver → ver < nx' → K (.ow top ver l.length) (updR hp top (rowL ver 9 eS l)) (top + 1) nx'
theorem okCloneS : MethOK Tryz.prog 103 sCloneS := by
  refine MethOK.mk Tryz.func103 rfl (by decide) Tryz.results103 Tryz.ntmps103 ?_
  rintro args hp top nx K ⟨x, l, rfl, hx, hl, hK⟩
  have hΓ : GOK Tryz.prog (gam []) := GOK.nil
  refine ⟨Nat.le_of_ble_eq_true rfl, ?_⟩
  refine AW.le (stM_le (.cons hx .nil)) ?_
  refine AW.of hΓ mixed [2, 99999] _ _ _ rfl ?_
  simp only [go_sem]
  refine ⟨fun h0 => ?_, ?_⟩
  · refine AW.adopt 2 9 1 (fun i => eS.enc (l.getD i [])) rfl ?_
    refine AW.of hΓ mixed [] _ _ _ rfl ?_
    simp only [go_sem]
    obtain rfl := List.length_eq_zero_iff.1 h0
    exact hK nx (nx + 1) (Nat.le_refl _) (Nat.lt_succ_self _)
  · exact ⟨by omega, hK nx (nx + 1) (Nat.le_refl _) (Nat.lt_succ_self _)⟩
def sRightE : Spec := Spec.f1 (kL (eP eI (eL eS))) (fun l => l.length < 10000 ∧ ∀ s ∈ l, s.2.length ≤ 10000) (fun l => kB.enc (rightE (-1) l))
def lastK (l : List (Int × List (List UInt8))) : Nat → Int
  | 0 => -1
  | i + 1 => (l.getD i (0, [])).1
theorem okRightE : SpecOK Tryz.prog 42 sRightE := by
  refine SpecOK.f1 Tryz.func42 rfl (by decide) Tryz.results42 Tryz.ntmps42 (by decide) fun l ⟨hl, hs⟩ => ?_
  have hΓ : GOK Tryz.prog (gam [(102, sFollows)]) := (.cons okFollows .nil)
  refine AW.of hΓ mixed [] _ _ _ rfl ?_
  simp only [go_sem, sFollows, st_sz]
  refine AW.round (α := { x : Nat × Nat // x.1 ≤ l.length ∧ rightE (-1) l = rightE (lastK l x.1) (l.drop x.1) })
    (fun x => ⟨[(0, sL (eP eI (eL eS)) l), (5, sL (eP eI (eL eS)) l), (6, .val (.int .i64 l.length)), (7, .val (.int .i64 x.1.1))], [], 41, 0, x.1.2, []⟩) (fun x => l.length - x.1.1) ⟨(0, 0), Nat.zero_le _, rfl⟩ ?_ ?_
  · simp only [go_sem, sFollows]
  · rintro ⟨⟨i, nx⟩, hi, hr⟩
    simp only at hi hr
    refine AW.of hΓ mixed [99999] _ _ _ rfl ?_
    simp only [go_sem, sFollows, st_sz, stC20, stC21, sp0, sp1, st_d]
    obtain ⟨k, ts, hg⟩ : ∃ k ts, l.getD i (0, []) = (k, ts) := ⟨_, _, rfl⟩
    have hd : i < l.length → l.drop i = (k, ts) :: l.drop (i + 1) := fun h => by
      rw [List.drop_eq_getElem_cons h, ← gd_lt l (0, []) h, hg]
    have hbad : (decide (k < 0) || decide (2 < k) || decide ((ts.length : Int) = 0)) = !stepOK (k, ts) := by
      rw [Bool.eq_iff_iff]
      simp only [stepOK, Bool.or_eq_true, decide_eq_true_eq, Bool.not_eq_true', decide_eq_false_iff_not]
      omega
    have hp : 0 < i → (l.getD ((i : Int) - 1).toNat (0, [])).1 = lastK l i := fun h => by
      cases i with
      | zero => omega
      | succ i => rw [show ((i + 1 : Nat) : Int) - 1 = (i : Nat) by omega, Int.toNat_natCast]; rfl
    rw [hg]
    dsimp only
    rw [hbad]
    refine ⟨fun hlt => ?_, fun hge => ?_⟩
    · rw [hd (by omega), rightE] at hr
      dsimp only at hr
      refine ⟨by omega, fun h => by rw [decide_eq_false h]; rfl, fun h => by rw [h]; rfl, fun h => ?_, fun h => ⟨fun _ => by omega, fun _ => by omega, fun ⟨h0, h1⟩ => ?_, fun h1 => ⟨by omega, ⟨(i + 1, nx + 1), by dsimp only; omega, ?_⟩, ⟨Nat.le_refl _, rfl⟩, by dsimp only; omega⟩⟩⟩
      · rw [Bool.not_eq_true'] at h
        rw [hr, h, Bool.false_and]
      · rw [hp (by omega), Bool.not_eq_true'] at h1
        rw [hr, h1, Bool.false_and, Bool.and_false]
      · rw [Bool.not_eq_false'] at h
        have hfo : followsB (lastK l i) k = true := by
          rcases Nat.eq_zero_or_pos i with h0 | h0
          · subst h0
            simp only [stepOK, decide_eq_true_eq] at h
            have e : lastK l 0 = -1 := rfl
            rw [e, followsB, decide_eq_true (show (-1 : Int) ≠ k by omega)]
            rfl
          · have := h1 (by omega)
            rw [hp h0, Bool.not_eq_false'] at this
            exact this
        rw [hr, h, hfo, Bool.true_and, Bool.true_and]
        show _ = rightE (l.getD i (0, [])).1 _
        rw [hg]
    · obtain rfl : i = l.length := by omega
      rw [hr, List.drop_length]
      rfl
theorem lessL_snoc (k : Int) (l : List (Int × List (List UInt8))) (s : Int × List (List UInt8)) : lessL k (l ++ [s]) = lessL k l ++ if s.1 = k then [] else s.2 := by
  unfold lessL
  rw [List.flatMap_append]
  by_cases h : s.1 = k <;> simp [h]
theorem lessL_le {l : List (Int × List (List UInt8))} {m : Nat} (h : ∀ s ∈ l, s.2.length ≤ m) (k : Int) : (lessL k l).length ≤ l.length * m := by
  induction l with
  | nil => simp [lessL]
  | cons s l ih =>
    have h1 := h s (List.mem_cons_self ..)
    have h2 := ih fun t ht => h t (List.mem_cons_of_mem _ ht)
    have e : lessL k (s :: l) = (if s.1 = k then [] else s.2) ++ lessL k l := by
      unfold lessL
      rw [List.flatMap_cons]
    rw [e, List.length_append, List.length_cons, Nat.succ_mul]
    by_cases hk : s.1 = k
    · rw [if_pos hk, List.length_nil]; omega
    · rw [if_neg hk]; omega
theorem cells_ag (m : Nat) (c : Nat → AV) : cellsAV (.ag m c) = some (m, c) := rfl
theorem kA_st (s : Int × List (List UInt8)) : (kA (eP eI (eL eS))).enc s = .ag 2 ((eP eI (eL eS)).enc s) := rfl
def sTurnedE : Spec := Spec.f1 (kA (eP eI (eL eS))) (fun s => s.2.length ≤ 10000) (fun s => (kA (eP eI (eL eS))).enc (turnS s))
theorem okTurnedE : SpecOK Tryz.prog 93 sTurnedE := by
  refine SpecOK.f1 Tryz.func93 rfl (by decide) Tryz.results93 Tryz.ntmps93 (by decide) fun s hs => ?_
  have hΓ : GOK Tryz.prog (gam [(103, sCloneS)]) := (.cons okCloneS .nil)
  obtain ⟨k, ts⟩ := s
  simp only at hs
  have hk : turnS (k, ts) = (turnK k, ts) := rfl
  rw [hk]
  refine AW.of hΓ mixed [99999] _ _ _ rfl ?_
  simp only [go_sem, sCloneS, st_sz, stC20, stC21, sp0, sp1, st_d, kA_st, cells_ag]
  refine ⟨fun h => ⟨_, ts, rfl, AVle.refl _, by omega, fun ver nx' _ _ => AVle.ag fun j hj => ?_⟩, fun h => ⟨fun h2 => ⟨_, ts, rfl, AVle.refl _, by omega, fun ver nx' _ _ => AVle.ag fun j hj => ?_⟩, fun h2 => ⟨_, ts, rfl, AVle.refl _, by omega, fun ver nx' _ _ => AVle.ag fun j hj => ?_⟩⟩⟩
  · rw [turnK, if_pos h]
    match j, hj with
    | 0, _ => exact AVle.refl _
    | 1, _ => exact AVle.refl _
  · rw [turnK, if_neg h, if_pos h2]
    match j, hj with
    | 0, _ => exact AVle.refl _
    | 1, _ => exact AVle.refl _
  · rw [turnK, if_neg h, if_neg h2]
    match j, hj with
    | 0, _ => exact AVle.refl _
    | 1, _ => exact AVle.refl _
end Go.Proofs.YthpjjjnbkfnghaaGreatDoor
set_option linter.unusedSimpArgs false
set_option linter.unusedVariables false
set_option maxRecDepth 100000
set_option maxHeartbeats 2000000
namespace Go.Proofs.YthpjjjnbkfnghaaGreatDoor
open Go
attribute [local irreducible] AW AVle ASle RowLe
theorem backL_two {l : List (Int × List (List UInt8))} {i : Nat} (h : i + 1 < l.length) (h1 : (l.getD i (0, [])).1 = 1) (h2 : (l.getD (i + 1) (0, [])).1 = 2) :
    backL (l.drop i) = [turnS (l.getD (i + 1) (0, [])), turnS (l.getD i (0, []))] ++ backL (l.drop (i + 2)) := by
  rw [List.drop_eq_getElem_cons (show i < l.length by omega), List.drop_eq_getElem_cons h, ← gd_lt l (0, []) (show i < l.length by omega), ← gd_lt l (0, []) h, backL, if_pos ⟨h1, h2⟩]
  rfl
theorem backL_one {l : List (Int × List (List UInt8))} {i : Nat} (h : i < l.length) (h1 : ¬ (i + 1 < l.length ∧ (l.getD i (0, [])).1 = 1 ∧ (l.getD (i + 1) (0, [])).1 = 2)) :
    backL (l.drop i) = [turnS (l.getD i (0, []))] ++ backL (l.drop (i + 1)) := by
  rw [List.drop_eq_getElem_cons h, ← gd_lt l (0, []) h]
  by_cases h2 : i + 1 < l.length
  · rw [List.drop_eq_getElem_cons h2, ← gd_lt l (0, []) h2, backL, if_neg (fun hh => h1 ⟨h2, hh⟩)]
    rfl
  · rw [List.drop_eq_nil_of_le (by omega)]
    rfl
theorem vwO_sp (s : Int × List (List UInt8)) : vwO (.ag 2 ((eP eI (eL eS)).enc s)) = false := rfl
theorem dec_st (hp : Nat → Row) (s : Int × List (List UInt8)) : (kA (eP eI (eL eS))).dec (.ag 2 fun j => if j < 2 then vw0 hp ((eP eI (eL eS)).enc s j) else .any) = s := by
  show (s.1, gL eS (sL eS s.2)) = s
  rw [gL_sL]
theorem ok_st (hp : Nat → Row) (s : Int × List (List UInt8)) : (kA (eP eI (eL eS))).ok (.ag 2 fun j => if j < 2 then vw0 hp ((eP eI (eL eS)).enc s j) else .any) = True := by
  refine eq_true ?_
  unfold Kd.ok
  rw [dec_st]
  refine AVle.ag fun j hj => ?_
  match j, hj with
  | 0, _ => exact AVle.refl _
  | 1, _ => exact AVle.refl _
def sBackE : Spec := Spec.f1 (kL (eP eI (eL eS))) (fun l => l.length < 10000 ∧ (∀ s ∈ l, s.2.length ≤ 10000)) (fun l => sL (eP eI (eL eS)) (backL l))
theorem okBackE : SpecOK Tryz.prog 33 sBackE := by
  refine SpecOK.f1 Tryz.func33 rfl (by decide) Tryz.results33 Tryz.ntmps33 (by decide) fun l ⟨hl, hs⟩ => ?_
  have hΓ : GOK Tryz.prog (gam [(93, sTurnedE)]) := (.cons okTurnedE .nil)
  refine AW.of hΓ mixed [] _ _ _ rfl ?_
  simp only [go_sem, sTurnedE]
  refine AW.adopt 3 86 2 (fun i => (eP eI (eL eS)).enc (([] : List (Int × List (List UInt8))).getD i (0, []))) rfl ?_
  refine AW.round (α := { x : Nat × List (Int × List (List UInt8)) × Nat × Nat // x.1 ≤ l.length ∧ x.2.1.length ≤ x.1 ∧ backL l = x.2.1 ++ backL (l.drop x.1) })
    (fun x => ⟨[(0, sL (eP eI (eL eS)) l), (3, .ow 0 x.1.2.2.1 x.1.2.1.length), (4, .val (.int .i64 x.1.1))], [(0, rowL x.1.2.2.1 86 (eP eI (eL eS)) x.1.2.1)], 58, 1, x.1.2.2.2, []⟩) (fun x => l.length - x.1.1) ⟨(0, [], 0, 1), Nat.zero_le _, Nat.le_refl _, rfl⟩ ?_ ?_
  · simp only [go_sem, sTurnedE, st_sz]
    exact RowLe.refl _
  · rintro ⟨⟨i, d, v, nx⟩, hi, hdl, hb⟩
    simp only at hi hdl hb
    have hg : ∀ k, k < l.length → (l.getD k (0, [])).2.length ≤ 10000 := fun k h => by
      rw [gd_lt l _ h]
      exact hs _ (List.getElem_mem _)
    refine AW.of hΓ mixed [99999] _ _ _ rfl ?_
    simp only [go_sem, sTurnedE, st_sz, sp0, sp1, st_d, kA_st, vwO_sp, dec_st, ok_st]
    refine ⟨fun hlt => ⟨by omega, fun _ => by omega, fun _ => by omega, fun _ => by omega, fun h => ?_, fun h => ?_⟩, fun hge => ?_⟩
    · obtain ⟨⟨h1, h2⟩, h3⟩ := h
      have e := backL_two (l := l) (i := i) (by omega) h2 h3
      have g1 := hg i (by omega)
      have g2 := hg (i + 1) (by omega)
      refine ⟨by omega, by omega, g2, by omega, g1, by omega, by omega, by omega,
        ⟨(i + 2, d ++ [turnS (l.getD (i + 1) (0, [])), turnS (l.getD i (0, []))], nx, nx + 1), by dsimp only; omega, by simp; omega, by dsimp only; rw [hb, e, List.append_assoc]⟩, ⟨Nat.le_refl _, ⟨⟨rfl, by simp⟩, by dsimp only; omega⟩, ?_⟩, by dsimp only; omega⟩
      refine row_app (E := eP eI (eL eS)) rfl rfl rfl rfl (by simp) fun i' hi' j hj => ?_
      match i', hi' with
      | 0, _ => exact AVle.refl _
      | 1, _ => exact AVle.refl _
    · have e := backL_one (l := l) (i := i) (by omega) (fun hh => h ⟨by omega, hh.2.1⟩ hh.2.2)
      have g1 := hg i (by omega)
      refine ⟨by omega, g1, by omega, by omega,
        ⟨(i + 1, d ++ [turnS (l.getD i (0, []))], nx, nx + 1), by dsimp only; omega, by simp; omega, by dsimp only; rw [hb, e, List.append_assoc]⟩, ⟨Nat.le_refl _, ⟨⟨rfl, by simp⟩, by dsimp only; omega⟩, ?_⟩, by dsimp only; omega⟩
      refine row_app (E := eP eI (eL eS)) rfl rfl rfl rfl (by simp) fun i' hi' j hj => ?_
      match i', hi' with
      | 0, _ => exact AVle.refl _
    · obtain rfl : i = l.length := by omega
      rw [List.drop_length] at hb
      have e : backL l = d := by rw [hb]; exact List.append_nil _
      rw [e]
      exact AVle.refl _
end Go.Proofs.YthpjjjnbkfnghaaGreatDoor
namespace Go.Proofs.YthpjjjnbkfnghaaGreatDoor
open Go
def lateE (P : Program) (l : List ResultVar) (K : AV → (Nat → Row) → Nat → Nat → Prop) (st : AS) : Prop := ∃ st', ASle st st' ∧ endM P l K st'
def lateM (P : Program) (l : List ResultVar) (K : AV → (Nat → Row) → Nat → Nat → Prop) : Exit → AS → Prop
  | .normal, st => lateE P l K st
  | .ret, st => lateE P l K st
  | _, _ => False
@[go_sem] theorem lateM_normal {P : Program} {l : List ResultVar} {K : AV → (Nat → Row) → Nat → Nat → Prop} {st : AS} : lateM P l K .normal st = lateE P l K st := rflN rfl
@[go_sem] theorem lateM_ret {P : Program} {l : List ResultVar} {K : AV → (Nat → Row) → Nat → Nat → Prop} {st : AS} : lateM P l K .ret st = lateE P l K st := rflN rfl
theorem AW.late {P : Program} {l : List ResultVar} {K : AV → (Nat → Row) → Nat → Nat → Prop} {x : Code} {st : AS} (h : AW P x (lateM P l K) st) : AW P x (retM P l K) st := by
  intro c η a w hsr
  refine wp_mono (h c η a w hsr) ?_
  rintro e a' w' ⟨st', η', hq, hs'⟩
  cases e with
  | normal =>
    obtain ⟨s, h1, h2⟩ := hq
    obtain ⟨η'', h''⟩ := h1 c η' a' w' hs'
    exact ⟨s, η'', h2, h''⟩
  | ret =>
    obtain ⟨s, h1, h2⟩ := hq
    obtain ⟨η'', h''⟩ := h1 c η' a' w' hs'
    exact ⟨s, η'', h2, h''⟩
  | _ => exact hq.elim
end Go.Proofs.YthpjjjnbkfnghaaGreatDoor
set_option linter.unusedSimpArgs false
set_option linter.unusedVariables false
namespace Go.Proofs.YthpjjjnbkfnghaaGreatDoor
open Go
section
variable {P : Program} {Γ : Gam} {ops : Array Oper} {st : AS} {K : AS → Prop} {d : Tmp}
theorem wanted_none {o : Oper} {f : Nat → Option Bool} (h : o.guard = none) : Region.wanted o f = true := by simp [Region.wanted, h]
end
end Go.Proofs.YthpjjjnbkfnghaaGreatDoor
set_option linter.unusedSimpArgs false
set_option linter.unusedVariables false
set_option maxRecDepth 100000
set_option maxHeartbeats 2000000
namespace Go.Proofs.YthpjjjnbkfnghaaGreatDoor
open Go
attribute [local irreducible] AW AVle ASle RowLe
def sumL (l : List (Int × List (List UInt8))) : Nat := (l.map fun s => s.2.length).sum
theorem sumL_snoc (l : List (Int × List (List UInt8))) (s : Int × List (List UInt8)) : sumL (l ++ [s]) = sumL l + s.2.length := by simp [sumL]
end Go.Proofs.YthpjjjnbkfnghaaGreatDoor
set_option linter.unusedSimpArgs false
set_option linter.unusedVariables false
set_option maxRecDepth 100000
set_option maxHeartbeats 2000000
namespace Go.Proofs.YthpjjjnbkfnghaaGreatDoor
open Go
attribute [local irreducible] AW AVle ASle RowLe
def lastT (l : List (Int × List (List UInt8))) : List (List UInt8) := (l.getD (l.length - 1) (0, [])).2
def stepC (l : List (Int × List (List UInt8))) (tv : Nat) : Nat → Nat → AV := fun i j => if i + 1 = l.length ∧ j = 1 then .ow 1 tv (lastT l).length else (eP eI (eL eS)).enc (l.getD i (0, [])) j
def rowP (v tv : Nat) (l : List (Int × List (List UInt8))) : Row := .sl v 86 2 l.length (stepC l tv)
theorem lastT_snoc (m : List (Int × List (List UInt8))) (s : Int × List (List UInt8)) : lastT (m ++ [s]) = s.2 := by simp [lastT, List.getD]
theorem snoc_get (m : List (Int × List (List UInt8))) (s : Int × List (List UInt8)) : (m ++ [s]).getD m.length (0, []) = s := by simp [List.getD]
theorem snoc_lt {m : List (Int × List (List UInt8))} {s : Int × List (List UInt8)} {i : Nat} (h : i < m.length) : (m ++ [s]).getD i (0, []) = m.getD i (0, []) := by simp [List.getD, List.getElem?_append_left h]
theorem stepC0 (l : List (Int × List (List UInt8))) (tv i : Nat) : stepC l tv i 0 = .val (.int .i64 (l.getD i (0, [])).1) := by
  unfold stepC
  rw [if_neg (fun h => absurd h.2 (by decide))]
  rfl
theorem stepC1 (m : List (Int × List (List UInt8))) (s : Int × List (List UInt8)) (tv : Nat) : stepC (m ++ [s]) tv m.length 1 = .ow 1 tv s.2.length := by
  unfold stepC
  rw [if_pos ⟨by simp, rfl⟩, lastT_snoc]
theorem stepC_lt {l : List (Int × List (List UInt8))} {tv i j : Nat} (h : i + 1 < l.length) : stepC l tv i j = (eP eI (eL eS)).enc (l.getD i (0, [])) j := by
  unfold stepC
  rw [if_neg (fun hh => by omega)]
theorem putL_nil (l : List (Int × List (List UInt8))) (k : Int) : putL l k [] = l := by rfl
theorem putL_first {k : Int} {ts : List (List UInt8)} (h : ts.length ≠ 0) : putL [] k ts = [(k, ts)] := by
  unfold putL
  rw [if_neg h]
  rfl
theorem putL_same {m : List (Int × List (List UInt8))} {s : Int × List (List UInt8)} {k : Int} {ts : List (List UInt8)} (h : ts.length ≠ 0) (hk : s.1 = k) : putL (m ++ [s]) k ts = m ++ [(k, s.2 ++ ts)] := by
  unfold putL
  rw [if_neg h]
  simp [hk]
theorem putL_new {m : List (Int × List (List UInt8))} {s : Int × List (List UInt8)} {k : Int} {ts : List (List UInt8)} (h : ts.length ≠ 0) (hk : ¬ s.1 = k) : putL (m ++ [s]) k ts = m ++ [s] ++ [(k, ts)] := by
  unfold putL
  rw [if_neg h]
  simp [hk]
theorem stepC_same {m : List (Int × List (List UInt8))} {s : Int × List (List UInt8)} {k : Int} {ts : List (List UInt8)} {tv nx : Nat} (hk : s.1 = k) : ∀ i, i < m.length + 1 → ∀ j, j < 2 →
    AVle (stE (stepC (m ++ [s]) tv) m.length 1 1 (fun _ => AV.ow 1 nx (s.2.length + ts.length)) i j) (stepC (m ++ [(k, s.2 ++ ts)]) nx i j) := fun i hi j hj => by
  simp only [stE]
  by_cases e : i = m.length
  · subst e
    match j, hj with
    | 0, _ =>
      rw [if_neg (by omega), stepC0, stepC0, snoc_get, snoc_get, hk]
      exact AVle.refl _
    | 1, _ =>
      rw [if_pos (by omega), stepC1]
      simp only [List.length_append]
      exact AVle.refl _
  · rw [if_neg (fun h => e h.1), stepC_lt (by simp; omega), stepC_lt (by simp; omega), snoc_lt (by omega), snoc_lt (by omega)]
    exact AVle.refl _
theorem stepC_first {k : Int} {ts : List (List UInt8)} {c d : Nat → Nat → AV} {v : Nat} (h0 : d 0 0 = .val (.int .i64 k)) (h1 : d 0 1 = .ow 2 v ts.length) : ∀ i, i < 1 → ∀ j, j < 2 → AVle (apC 0 c d i j) (stepC [(k, ts)] v i j) := fun i hi j hj => by
  obtain rfl : i = 0 := by omega
  show AVle (d 0 j) _
  match j, hj with
  | 0, _ =>
    rw [h0, stepC0]
    exact AVle.refl _
  | 1, _ =>
    rw [h1, show stepC [(k, ts)] v 0 1 = _ from stepC1 [] (k, ts) v]
    exact AVle.ow
theorem stepC_new {m : List (Int × List (List UInt8))} {s : Int × List (List UInt8)} {k : Int} {ts : List (List UInt8)} {d : Nat → Nat → AV} {tv v : Nat} (h0 : d 0 0 = .val (.int .i64 k)) (h1 : d 0 1 = .ow 2 v ts.length) :
    ∀ i, i < m.length + 1 + 1 → ∀ j, j < 2 → AVle (fz 1 tv (lastT (m ++ [s])).length 1 (fun i => eS.enc ((lastT (m ++ [s])).getD i [])) (apC (m.length + 1) (stepC (m ++ [s]) tv) d i j)) (stepC (m ++ [s] ++ [(k, ts)]) v i j) := fun i hi j hj => by
  rw [lastT_snoc]
  simp only [apC]
  by_cases e : i < m.length + 1
  · rw [if_pos e, stepC_lt (l := m ++ [s] ++ [(k, ts)]) (by simp; omega), snoc_lt (m := m ++ [s]) (by simp; omega)]
    by_cases e2 : i = m.length
    · subst e2
      rw [snoc_get]
      match j, hj with
      | 0, _ =>
        rw [stepC0, snoc_get]
        exact AVle.refl _
      | 1, _ =>
        rw [stepC1]
        simp only [fz, and_self, if_true, Nat.le_refl]
        exact AVle.refl _
    · rw [stepC_lt (by simp; omega)]
      match j, hj with
      | 0, _ => exact AVle.refl _
      | 1, _ => exact AVle.refl _
  · obtain rfl : i = m.length + 1 := by omega
    rw [if_neg (by omega), Nat.sub_self]
    match j, hj with
    | 0, _ =>
      rw [h0, stepC0]
      simp only [fz]
      rw [show (m ++ [s] ++ [(k, ts)]).getD (m.length + 1) (0, []) = (k, ts) by simp [List.getD]]
      exact AVle.refl _
    | 1, _ =>
      rw [h1, show stepC (m ++ [s] ++ [(k, ts)]) v (m.length + 1) 1 = _ by simpa using stepC1 (m ++ [s]) (k, ts) v]
      simp only [fz]
      exact AVle.ow
def sPut0 : MSpec := fun args hp top nx K => ∃ l v tv k y ts, args = [.ow 0 v l.length, kI.enc k, y] ∧ AVle y (sL eS ts) ∧ hp = rws [(0, rowP v tv l), (1, rowL tv 9 eS (lastT l))] ∧ top = 2 ∧ l.length < 100000000 ∧ (lastT l).length + ts.length < 1000000000 ∧
  ∀ v' tv' nx', (v' = v ∨ nx ≤ v') → (tv' = tv ∨ nx ≤ tv') → nx ≤ nx' → K (.ow 0 v' (putL l k ts).length) (rws [(0, rowP v' tv' (putL l k ts)), (1, rowL tv' 9 eS (lastT (putL l k ts)))]) 2 nx'
theorem okPut0 : MethOK Tryz.prog 82 sPut0 := by
  refine MethOK.mk Tryz.func82 rfl (by decide) Tryz.results82 Tryz.ntmps82 ?_
  rintro args hp top nx K ⟨l, v, tv, k, y, ts, rfl, hy, rfl, rfl, hl, ht, hK⟩
  have hΓ : GOK Tryz.prog (gam [(103, sCloneS)]) := (.cons okCloneS .nil)
  refine ⟨Nat.le_of_ble_eq_true rfl, AW.late ?_⟩
  refine AW.le (stM_le (.cons (AVle.refl _) (.cons (AVle.refl _) (.cons hy .nil)))) ?_
  by_cases h0 : ts.length = 0
  · obtain rfl := List.length_eq_zero_iff.1 h0
    refine AW.of hΓ mixed [99999] _ _ _ rfl ?_
    simp only [go_sem, sCloneS, rowP, st_sz]
    refine ⟨by omega, _, ASle.refl _, ?_⟩
    simp only [go_sem, sCloneS]
    exact hK v tv nx (.inl rfl) (.inl rfl) (Nat.le_refl _)
  have hts : ((ts.length : Int) = 0) = False := eq_false (by omega)
  rcases l.eq_nil_or_concat with rfl | ⟨m, s, hms⟩
  · refine AW.of hΓ mixed [99999] _ _ _ rfl ?_
    simp only [go_sem, sCloneS, rowP, st_sz, stepC0, hts]
    refine ⟨sL eS ts, ts, rfl, AVle.refl _, by omega, fun ver nx' h1 h2 => ⟨_, toFitsV (fun p => if p = 1 then 2 else p) (l := [(6, .ow 0 (nx' + 1) 1)]) (r := [(0, rowP (nx' + 1) ver (putL [] k ts)), (1, rowL ver 9 eS (lastT (putL [] k ts)))]) (sz := 47) (top := 2) (nx := nx' + 1 + 1) (df := []) ?_, ?_⟩⟩
    · rw [putL_first h0]
      simp only [go_sem, sCloneS, rowP]
      exact ⟨RowLe.sl rfl (stepC_first rfl rfl), RowLe.refl _⟩
    · simp only [go_sem, sCloneS]
      have := hK (nx' + 1) ver (nx' + 1 + 1) (.inr (by omega)) (.inr h1) (by omega)
      rwa [show (putL [] k ts).length = 1 by rw [putL_first h0]; rfl] at this
  · rw [List.concat_eq_append] at hms
    subst hms
    have e1 : (((m.length + 1 : Nat) : Int) - 1) = (m.length : Int) := by omega
    have e2 : (0 ≤ (m.length : Int)) = True := eq_true (by omega)
    refine AW.of hΓ mixed [99999] _ _ _ rfl ?_
    simp only [go_sem, sCloneS, rowP, st_sz, stepC0, stepC1, snoc_get, hts, e1, e2]
    have hlm : m.length + 1 < 100000000 := by simpa using hl
    rw [lastT_snoc] at ht
    refine ⟨by omega, by omega, by omega, fun hk => ⟨by omega, by omega, ⟨by rw [lastT_snoc], by omega⟩, by omega, by omega, ?_⟩, fun hk => ?_⟩
    · refine ⟨_, toFitsV (fun p => p) (l := [(6, .ow 0 v (m.length + 1))]) (r := [(0, rowP v nx (putL (m ++ [s]) k ts)), (1, rowL nx 9 eS (lastT (putL (m ++ [s]) k ts)))]) (sz := 47) (top := 2) (nx := nx + 1) (df := []) ?_, ?_⟩
      · rw [putL_same h0 hk, lastT_snoc, lastT_snoc]
        simp only [go_sem, sCloneS, rowP]
        refine ⟨RowLe.sl rfl (stepC_same hk), ?_⟩
        exact row_app (E := eS) rfl rfl rfl rfl (by simp) fun i hi j hj => AVle.refl _
      · simp only [go_sem, sCloneS]
        have := hK v nx (nx + 1) (.inl rfl) (.inr (Nat.le_refl _)) (by omega)
        rwa [show (putL (m ++ [s]) k ts).length = m.length + 1 by rw [putL_same h0 hk]; simp] at this
    · refine ⟨sL eS ts, ts, rfl, AVle.refl _, by omega, fun ver nx' h1 h2 => ⟨by omega, _, (ASle.freeze 1 tv 9 1 (lastT (m ++ [s])).length (fun i => eS.enc ((lastT (m ++ [s])).getD i [])) rfl fun i _ j _ => rfl).trans (toFitsV (fun p => if p = 1 then 2 else p) (l := [(6, .ow 0 (nx' + 1) (m.length + 1 + 1))]) (r := [(0, rowP (nx' + 1) ver (putL (m ++ [s]) k ts)), (1, rowL ver 9 eS (lastT (putL (m ++ [s]) k ts)))]) (sz := 47) (top := 2) (nx := nx' + 1 + 1) (df := []) ?_), ?_⟩⟩
      · rw [putL_new h0 hk, lastT_snoc (m := m ++ [s])]
        simp only [go_sem, sCloneS, rowP]
        exact ⟨RowLe.sl rfl (stepC_new rfl rfl), RowLe.refl _⟩
      · simp only [go_sem, sCloneS]
        have := hK (nx' + 1) ver (nx' + 1 + 1) (.inr (by omega)) (.inr h1) (by omega)
        rwa [show (putL (m ++ [s]) k ts).length = m.length + 1 + 1 by rw [putL_new h0 hk]; simp] at this
end Go.Proofs.YthpjjjnbkfnghaaGreatDoor
namespace Go.Proofs.YthpjjjnbkfnghaaGreatDoor
def rgt (a b : List Int) : Int → Int → List (Int × Int) → Bool
  | _, _, [] => true
  | u, v, p :: l => decide (u < p.1 ∧ v < p.2 ∧ p.1 < a.length ∧ p.2 < b.length ∧ a.getD p.1.toNat 0 = b.getD p.2.toNat 0) && rgt a b p.1 p.2 l
end Go.Proofs.YthpjjjnbkfnghaaGreatDoor
set_option linter.unusedSimpArgs false
set_option linter.unusedVariables false
set_option maxRecDepth 100000
set_option maxHeartbeats 2000000
namespace Go.Proofs.YthpjjjnbkfnghaaGreatDoor
open Go
attribute [local irreducible] AW AVle ASle RowLe
theorem pp_sz : (eP eI eI).sz = 2 := rfl
theorem pp0 (p : Int × Int) : (eP eI eI).enc p 0 = .val (.int .i64 p.1) := rfl
theorem pp1 (p : Int × Int) : (eP eI eI).enc p 1 = .val (.int .i64 p.2) := rfl
def sLcsRight : Spec := Spec.f3 (kL eI) (kL eI) (kL (eP eI eI)) (fun a b l => a.length < 100000000 ∧ b.length < 100000000 ∧ l.length < 100000000) (fun a b l => kB.enc (rgt a b (-1) (-1) l))
theorem okLcsRight : SpecOK Tryz.prog 81 sLcsRight := by
  refine SpecOK.f3 Tryz.func81 rfl (by decide) Tryz.results81 Tryz.ntmps81 (by decide) fun a b l ⟨ha, hb, hl⟩ => ?_
  have hΓ : GOK Tryz.prog (gam []) := GOK.nil
  refine AW.of hΓ mixed [] _ _ _ rfl ?_
  simp only [go_sem, pp_sz]
  refine AW.round (α := { x : Nat × Int × Int × Nat // x.1 ≤ l.length ∧ rgt a b (-1) (-1) l = rgt a b x.2.1 x.2.2.1 (l.drop x.1) ∧ -1 ≤ x.2.1 ∧ -1 ≤ x.2.2.1 })
    (fun x => ⟨[(0, sL eI a), (1, sL eI b), (7, .pt 0 0 0), (12, sL (eP eI eI) l), (13, .val (.int .i64 l.length)), (14, .val (.int .i64 x.1.1))], [(0, .box 0 129 2 fun j => if j = 0 then .val (.int .i64 x.1.2.1) else .val (.int .i64 x.1.2.2.1))], 61, 1, x.1.2.2.2, []⟩) (fun x => l.length - x.1.1) ⟨(0, -1, -1, 1), Nat.zero_le _, rfl, Int.le_refl _, Int.le_refl _⟩ ?_ ?_
  · simp only [go_sem]
    refine RowLe.box fun j hj => AVle.of_eq ?_
    match j, hj with
    | 0, _ => rfl
    | 1, _ => rfl
  · rintro ⟨⟨i, u, v, nx⟩, hi, hr, hu, hv⟩
    simp only at hi hr hu hv
    refine AW.of hΓ mixed [4, 99999] _ _ _ rfl ?_
    simp only [go_sem, pp_sz]
    refine ⟨fun hlt => ?_, fun hge => ?_⟩
    · obtain ⟨x, y, hxy⟩ : ∃ x y, l.getD i (0, 0) = (x, y) := ⟨_, _, rfl⟩
      have hd : l.drop i = (x, y) :: l.drop (i + 1) := by
        rw [List.drop_eq_getElem_cons (by omega), ← gd_lt l (0, 0) (by omega), hxy]
      rw [hd, rgt] at hr
      dsimp only at hr
      refine ⟨by omega, ?_⟩
      refine AW.cut ⟨[(0, sL eI a), (1, sL eI b), (7, .pt 0 0 0), (9, .pt 1 nx 0), (12, sL (eP eI eI) l), (13, .val (.int .i64 l.length)), (14, .val (.int .i64 i))], [(0, .box 0 129 2 fun j => if j = 0 then .val (.int .i64 u) else .val (.int .i64 v)), (1, .box nx 129 2 fun j => if j = 0 then .val (.int .i64 x) else .val (.int .i64 y))], 61, 2, nx + 1, []⟩ ?_ ?_
      · simp only [go_sem]
        refine ⟨RowLe.refl _, RowLe.box fun j hj => AVle.of_eq ?_⟩
        match j, hj with
        | 0, _ => show (eP eI eI).enc (l.getD i (0, 0)) 0 = _; rw [hxy]; rfl
        | 1, _ => show (eP eI eI).enc (l.getD i (0, 0)) 1 = _; rw [hxy]; rfl
      · refine AW.of hΓ mixed [99999] _ _ _ rfl ?_
        simp only [go_sem]
        by_cases c : u < x ∧ v < y ∧ x < a.length ∧ y < b.length
        · obtain ⟨c1, c2, c3, c4⟩ := c
          have c5 : ¬ (a.length : Int) ≤ x := by omega
          have c6 : ¬ (b.length : Int) ≤ y := by omega
          simp only [c1, c2, c3, c4, c5, c6, decide_true, decide_false, Bool.and_true, Bool.not_true, Bool.or_false, Bool.not_false, true_and, false_implies, forall_const] at hr ⊢
          simp only [Bool.false_or, decide_eq_true_eq, decide_eq_false_iff_not, Decidable.not_not]
          refine ⟨⟨by omega, trivial⟩, ⟨by omega, trivial⟩, fun h => ?_, fun h => ⟨by omega, ⟨(i + 1, x, y, nx + 1), by dsimp only; omega, ?_, by dsimp only; omega, by dsimp only; omega⟩, ⟨Nat.le_refl _, rfl, box_st⟩, by dsimp only; omega⟩⟩
          · rw [hr, decide_eq_false h, Bool.false_and]
          · rw [hr, decide_eq_true h, Bool.true_and]
        · have d : (!(decide (u < x) && decide (v < y)) || decide ((a.length : Int) ≤ x) || decide ((b.length : Int) ≤ y)) = true := by
            cases h : (!(decide (u < x) && decide (v < y)) || decide ((a.length : Int) ≤ x) || decide ((b.length : Int) ≤ y)) with
            | true => rfl
            | false =>
              simp only [Bool.or_eq_false_iff, Bool.not_eq_false', Bool.and_eq_true, decide_eq_true_eq, decide_eq_false_iff_not] at h
              omega
          have hr2 : rgt a b (-1) (-1) l = false := by
            rw [hr, decide_eq_false (fun h => c ⟨h.1, h.2.1, h.2.2.1, h.2.2.2.1⟩), Bool.false_and]
          refine ⟨fun h => by rw [h]; rfl, fun h => by rw [h]; rfl, fun h => by rw [d] at h; exact absurd h (by decide), fun h => by rw [d] at h; exact absurd h (by decide), fun h => by rw [d] at h; exact absurd h (by decide), fun _ => hr2.symm, fun h => by rw [d, Bool.true_or] at h; exact absurd h (by decide)⟩
    · obtain rfl : i = l.length := by omega
      rw [List.drop_length] at hr
      exact hr.symm
theorem pp_d : (eP eI eI).dflt = ((0 : Int), (0 : Int)) := rfl
end Go.Proofs.YthpjjjnbkfnghaaGreatDoor
set_option linter.unusedSimpArgs false
set_option linter.unusedVariables false
set_option maxRecDepth 100000
namespace Go.Proofs.YthpjjjnbkfnghaaGreatDoor
open Go
attribute [local irreducible] AW AVle ASle RowLe
def sNumber : Spec := Spec.f1 (kL (eL eS)) (fun l => l.length ≤ 1000000 ∧ ∀ f ∈ l, f.length ≤ 10000000) (fun l => sL (eL eI) (numF [] l))
theorem numF_snoc (ks : List (List UInt8)) (fs : List (List (List UInt8))) (f : List (List UInt8)) : numF ks (fs ++ [f]) = numF ks fs ++ [(numL (fs.foldl (fun k f => (numL k f).1) ks) f).2] := by
  rw [numF_app]; rfl
theorem take_snoc {α : Type} (l : List α) (d : α) {i : Nat} (h : i < l.length) : l.take (i + 1) = l.take i ++ [l.getD i d] := by
  rw [List.take_add_one, gd_lt _ _ h]; simp [h]
theorem numL_snoc (ks f : List (List UInt8)) {k : Nat} (h : k < f.length) : numL ks (f.take (k + 1)) =
    (if f.getD k [] ∈ (numL ks (f.take k)).1 then (numL ks (f.take k)).1 else (numL ks (f.take k)).1 ++ [f.getD k []], (numL ks (f.take k)).2 ++ [((numL ks (f.take k)).1.idxOf (f.getD k []) : Int)]) := by
  rw [take_snoc f [] h, numL_app]
  simp [numL]
theorem okNumber : SpecOK Tryz.prog 27 sNumber := by
  refine SpecOK.f1 Tryz.func27 rfl (by decide) Tryz.results27 Tryz.ntmps27 (by decide) fun fs ⟨hl, hf⟩ => ?_
  have hΓ : GOK Tryz.prog (gam []) := GOK.nil
  refine AW.of hΓ mixed [] _ _ _ rfl ?_
  simp only [go_sem]
  refine ⟨by omega, ?_⟩
  refine AW.round (α := { x : Nat × Nat × Nat // x.1 ≤ fs.length ∧ x.2.1 < x.2.2 })
    (fun x => ⟨[(3, .mp 0 0), (4, .ow 1 x.1.2.1 x.1.1), (16, sL (eL eS) fs), (17, .val (.int .i64 fs.length)), (18, .val (.int .i64 x.1.1))],
      [(0, .mp 0 true ((fs.take x.1.1).foldl (fun k f => (numL k f).1) []).length (mapS ((fs.take x.1.1).foldl (fun k f => (numL k f).1) []))), (1, rowL x.1.2.1 63 (eL eI) (numF [] (fs.take x.1.1)))], 55, 2, x.1.2.2, []⟩) (fun x => fs.length - x.1.1) ⟨(0, 1, 2), by simp⟩ ?_ ?_
  · simp only [go_sem]
    refine ⟨RowLe.of_eq ?_, row_nil rfl⟩
    simp [mapS]
    funext k
    cases k <;> simp [mapS]
  · rintro ⟨⟨i, v, nx⟩, hi, hv⟩
    simp only at hi hv
    refine AW.of hΓ mixed [7] _ _ _ rfl ?_
    simp only [go_sem]
    refine ⟨fun hil => ?_, fun hil => ?_⟩
    · have hlt : i < fs.length := by omega
      have hfi := hf _ (gd_lt fs [] hlt ▸ List.getElem_mem hlt)
      generalize hfe : fs.getD i [] = f at *
      generalize hke : (fs.take i).foldl (fun k f => (numL k f).1) [] = ks0
      refine ⟨by omega, by omega, ?_⟩
      refine AW.to (fun x : { x : Nat // nx < x } => Sh.st ⟨[(3, .mp 0 0), (4, .ow 1 v i), (7, sL eI (numL ks0 f).2), (16, sL (eL eS) fs), (17, .val (.int .i64 fs.length)), (18, .val (.int .i64 i))],
        [(0, .mp 0 true (numL ks0 f).1.length (mapS (numL ks0 f).1)), (1, rowL v 63 (eL eI) (numF [] (fs.take i)))], 55, 3, x.1, []⟩) ?_ ?_
      · refine AW.block (AW.round (α := { x : Nat × Nat × Nat // x.1 ≤ f.length ∧ x.2.1 < x.2.2 ∧ nx < x.2.2 })
          (fun x => ⟨[(3, .mp 0 0), (4, .ow 1 v i), (7, .ow 2 x.1.2.1 x.1.1), (16, sL (eL eS) fs), (17, .val (.int .i64 fs.length)), (18, .val (.int .i64 i)), (25, sL eS f), (26, .val (.int .i64 f.length)), (27, .val (.int .i64 x.1.1))],
          [(0, .mp 0 true (numL ks0 (f.take x.1.1)).1.length (mapS (numL ks0 (f.take x.1.1)).1)), (1, rowL v 63 (eL eI) (numF [] (fs.take i))), (2, rowL x.1.2.1 3 eI (numL ks0 (f.take x.1.1)).2)], 55, 3, x.1.2.2, []⟩) (fun x => f.length - x.1.1) ⟨(0, nx, nx + 1), by simp⟩ ?_ ?_)
        · simp only [go_sem, hke]
          exact ⟨RowLe.of_eq (by simp [numL]), RowLe.refl _, row_nil (by simp [numL])⟩
        · rintro ⟨⟨k, u, nx'⟩, hk, hu, hnx⟩
          simp only at hk hu hnx
          have hlen : (numL ks0 (f.take k)).2.length = k := by rw [numL_len]; simp; omega
          have hkl : (numL ks0 (f.take k)).1.length ≤ ks0.length + k := by
            have := numL_ks ks0 (f.take k)
            simp at this; omega
          by_cases hkf : k < f.length
          · have hs := numL_snoc ks0 f hkf
            have hkc : (k : Int) < f.length := by omega
            generalize hx : f.getD k [] = x at *
            generalize (numL ks0 (f.take k)).1 = ks at *
            generalize (numL ks0 (f.take k)).2 = ns at *
            by_cases hb : x ∈ ks
            · rw [if_pos hb] at hs
              refine AW.of hΓ mixed [99999] _ _ _ rfl ?_
              simp only [go_sem, hb, hx, hkc]
              refine ⟨by omega, ⟨by omega, by omega⟩, by omega, ⟨(k + 1, nx', nx' + 1), by dsimp only; omega, by dsimp only; omega, by dsimp only; omega⟩, ⟨Nat.le_refl _, ⟨⟨rfl, rfl⟩, by dsimp only; omega⟩, ?_, RowLe.refl _, ?_⟩, by dsimp only; omega⟩
              · rw [hs]; exact RowLe.refl _
              · rw [hs]; exact row_app1 rfl rfl hlen.symm rfl rfl fun _ _ => AVle.refl _
            · rw [if_neg hb] at hs
              refine AW.of hΓ mixed [99999] _ _ _ rfl ?_
              simp only [go_sem, hb, hx, hkc]
              have hidx : ks.idxOf x = ks.length := List.idxOf_eq_length hb
              refine ⟨by omega, ⟨by omega, by omega⟩, by omega, ⟨(k + 1, nx', nx' + 1), by dsimp only; omega, by dsimp only; omega, by dsimp only; omega⟩, ⟨Nat.le_refl _, ⟨⟨rfl, rfl⟩, by dsimp only; omega⟩, ?_, RowLe.refl _, ?_⟩, by dsimp only; omega⟩
              · rw [hs, mapS_push ks x hb]; exact RowLe.of_eq (by simp)
              · rw [hs, hidx]; exact row_app1 rfl rfl hlen.symm rfl rfl fun _ _ => AVle.refl _
          · obtain rfl : k = f.length := by omega
            refine AW.of hΓ mixed [99999] _ _ _ rfl ?_
            simp only [go_sem]
            have hlf : (numL ks0 f).2.length = f.length := numL_len ks0 f
            refine ⟨⟨nx', hnx⟩, ASle.trans (ASle.freeze 2 u 3 1 _ _ rfl fun _ _ _ _ => rfl) (toFits ?_)⟩
            simp only [go_sem, hlf]
            exact ⟨vw_all rfl rfl hlf.symm, RowLe.refl _, RowLe.refl _⟩
      · rintro ⟨nx', hnx⟩
        simp only [go_sem]
        have hft : fs.take (i + 1) = fs.take i ++ [f] := by rw [take_snoc fs [] hlt, hfe]
        refine ⟨⟨by rw [numF_len]; simp; omega, by omega⟩, by omega, ⟨(i + 1, nx', nx' + 1), by dsimp only; omega, by dsimp only; omega⟩, ⟨Nat.le_refl _, ⟨⟨rfl, rfl⟩, by dsimp only; omega⟩, ?_, ?_⟩, by dsimp only; omega⟩
        · dsimp only
          rw [hft, List.foldl_append, hke]
          exact RowLe.refl _
        · dsimp only
          rw [hft, numF_snoc, hke]
          exact row_app1 rfl rfl (by rw [numF_len]; simp; omega) rfl (by simp [numF_len]) fun _ _ => AVle.refl _
    · obtain rfl : i = fs.length := by omega
      refine ⟨by rw [numF_len]; simp, ?_⟩
      rw [List.take_length]
      exact vw_all rfl rfl (by rw [numF_len])
end Go.Proofs.YthpjjjnbkfnghaaGreatDoor
set_option linter.unusedSimpArgs false
set_option linter.unusedVariables false
set_option maxRecDepth 100000
set_option maxHeartbeats 2000000
namespace Go.Proofs.YthpjjjnbkfnghaaGreatDoor
open Go
attribute [local irreducible] AW AVle ASle RowLe
def sPut : MSpec := framed sPut0
theorem okPut : MethOK Tryz.prog 82 sPut := okPut0.frame
theorem two_row {hp : Nat → Row} {r s : Row} (h : RowLe (hp 0) r) (h2 : RowLe (hp 1) s) : ∀ (i q : Nat), [0, 1][i]? = some q → RowLe (hp q) (rws [(0, r), (1, s)] i) := by
  intro i q hq
  match i with
  | 0 =>
    simp only [List.getElem?_cons_zero, Option.some.injEq] at hq
    subst hq
    exact h
  | 1 =>
    simp only [List.getElem?_cons_succ, List.getElem?_cons_zero, Option.some.injEq] at hq
    subst hq
    exact h2
  | i + 2 => simp at hq
theorem put_go {l : List (Int × List (List UInt8))} {v tv n : Nat} {k : Int} {y : AV} {ts : List (List UInt8)} {hp : Nat → Row} {top nx : Nat} {K : AV → (Nat → Row) → Nat → Nat → Prop} (hn : n = l.length) (hy : AVle y (sL eS ts))
    (hr : RowLe (hp 0) (rowP v tv l)) (hr2 : RowLe (hp 1) (rowL tv 9 eS (lastT l))) (ht : 1 < top) (hl : l.length < 100000000) (hl2 : (lastT l).length + ts.length < 1000000000)
    (hK : ∀ v' tv' nx', nx ≤ nx' → K (.ow 0 v' (putL l k ts).length) (updR (updR hp 0 (rowP v' tv' (putL l k ts))) 1 (rowL tv' 9 eS (lastT (putL l k ts)))) top nx') :
    sPut [.ow 0 v n, .val (.int .i64 k), y] hp top nx K := by
  subst hn
  have e1 : (hp 0).ver = some v := hr.vers.symm
  have e2 : (hp 1).ver = some tv := hr2.vers.symm
  refine ⟨[0, 1], [.ow 0 v l.length, kI.enc k, y], rws [(0, rowP v tv l), (1, rowL tv 9 eS (lastT l))], by decide, by simp; omega, .cons (AVle.refl _) (.cons (AVle.refl _) (.cons (AVle.refl _) .nil)), two_row hr hr2, fun i hi => rws_top (top := 2) (by simp) i (by simpa using hi), l, v, tv, k, y, ts, rfl, hy, rfl, rfl, hl, hl2, fun v' tv' nx' h1 h2 h3 => ?_⟩
  refine ⟨_, _, AVle.refl _, fun i q hq => ?_, fun q hq => ?_, fun q hq w hv => ?_, hK v' tv' nx' h3⟩
  · match i with
    | 0 =>
      simp only [List.getElem?_cons_zero, Option.some.injEq] at hq
      subst hq
      exact RowLe.refl _
    | 1 =>
      simp only [List.getElem?_cons_succ, List.getElem?_cons_zero, Option.some.injEq] at hq
      subst hq
      exact RowLe.refl _
    | i + 2 => simp at hq
  · simp only [List.mem_cons, List.not_mem_nil, or_false, not_or] at hq
    rw [updR_ne _ _ hq.2, updR_ne _ _ hq.1]
  · simp only [List.mem_cons, List.not_mem_nil, or_false] at hq
    rcases hq with rfl | rfl
    · have : some v' = some w := hv
      obtain rfl := Option.some.inj this
      rcases h1 with rfl | h1
      · exact .inl e1
      · exact .inr h1
    · have : some tv' = some w := hv
      obtain rfl := Option.some.inj this
      rcases h2 with rfl | h2
      · exact .inl e2
      · exact .inr h2
theorem stepC_fz (l : List (Int × List (List UInt8))) (tv : Nat) : ∀ i, i < l.length → ∀ j, j < 2 → AVle (fz 1 tv (lastT l).length 1 (fun i => eS.enc ((lastT l).getD i [])) (stepC l tv i j)) ((eP eI (eL eS)).enc (l.getD i (0, [])) j) := by
  rcases l.eq_nil_or_concat with rfl | ⟨m, s, rfl⟩
  · exact fun i hi => absurd hi (Nat.not_lt_zero _)
  · rw [List.concat_eq_append, lastT_snoc]
    intro i hi j hj
    by_cases e2 : i = m.length
    · subst e2
      rw [snoc_get]
      match j, hj with
      | 0, _ =>
        rw [stepC0, snoc_get]
        exact AVle.refl _
      | 1, _ =>
        rw [stepC1]
        simp only [fz, and_self, if_true, Nat.le_refl]
        exact AVle.refl _
    · have hi2 : i + 1 < (m ++ [s]).length := by simp at hi ⊢; omega
      rw [stepC_lt hi2]
      match j, hj with
      | 0, _ => exact AVle.refl _
      | 1, _ => exact AVle.refl _
def cutL {α : Type} (a : List α) (i j : Nat) : List α := (a.take j).drop i
def ofG (a b : List (List UInt8)) : List (Int × Int) → Nat → Nat → List (Int × List (List UInt8)) → List (Int × List (List UInt8))
  | [], i, k, s => putL (putL s 1 (a.drop i)) 2 (b.drop k)
  | p :: l, i, k, s => ofG a b l (p.1.toNat + 1) (p.2.toNat + 1) (putL (putL (putL s 1 (cutL a i p.1.toNat)) 2 (cutL b k p.2.toNat)) 0 (cutL a p.1.toNat (p.1.toNat + 1)))
theorem putL_len (l : List (Int × List (List UInt8))) (k : Int) (ts : List (List UInt8)) : (putL l k ts).length ≤ l.length + 1 := by
  by_cases h : ts.length = 0
  · unfold putL
    rw [if_pos h]
    omega
  · rcases l.eq_nil_or_concat with rfl | ⟨m, s, rfl⟩
    · rw [putL_first h]; simp
    · rw [List.concat_eq_append]
      by_cases hk : s.1 = k
      · rw [putL_same h hk]; simp
      · rw [putL_new h hk]; simp
theorem putL_sum (l : List (Int × List (List UInt8))) (k : Int) (ts : List (List UInt8)) : sumL (putL l k ts) = sumL l + ts.length := by
  by_cases h : ts.length = 0
  · unfold putL
    rw [if_pos h]
    omega
  · rcases l.eq_nil_or_concat with rfl | ⟨m, s, rfl⟩
    · rw [putL_first h]; simp [sumL]
    · rw [List.concat_eq_append]
      by_cases hk : s.1 = k
      · rw [putL_same h hk, sumL_snoc, sumL_snoc]; simp; omega
      · rw [putL_new h hk, sumL_snoc]
theorem lastT_le (l : List (Int × List (List UInt8))) : (lastT l).length ≤ sumL l := by
  rcases l.eq_nil_or_concat with rfl | ⟨m, s, rfl⟩
  · simp [lastT]
  · rw [List.concat_eq_append, lastT_snoc, sumL_snoc]
    omega
theorem cutL_len {α : Type} (a : List α) {i j : Nat} (h : j ≤ a.length) : (cutL a i j).length = j - i := by simp [cutL]; omega
theorem cutL_end {α : Type} (a : List α) (i : Nat) : cutL a i a.length = a.drop i := by simp [cutL]
theorem cut_map {a : List (List UInt8)} {i j : Nat} (h : j ≤ a.length) : cutL a i j = (List.range (j - i)).map fun t => a.getD (i + t) [] := by
  refine list_ext_getD [] (by rw [cutL_len a h]; simp) fun t ht => ?_
  rw [cutL_len a h] at ht
  simp [cutL, List.getD, ht, List.getElem?_take, show i + t < j by omega]
theorem cut_le {a : List (List UInt8)} {i j : Nat} (h : j ≤ a.length) : AVle (.sn (j - i) 1 fun t => eS.enc (a.getD (i + t) [])) (sL eS (cutL a i j)) :=
  sn_le (E := eS) (j - i) (fun t => a.getD (i + t) []) _ (cut_map h)
def numA (a b : List (List UInt8)) : List Int := (numF [] [a, b]).getD 0 []
def numB (a b : List (List UInt8)) : List Int := (numF [] [a, b]).getD 1 []
theorem numA_len (a b : List (List UInt8)) : (numA a b).length = a.length := by
  simp [numA, numF, numL_len]
theorem numB_len (a b : List (List UInt8)) : (numB a b).length = b.length := by
  simp [numB, numF, numL_len]
def sOfE : Spec := Spec.f3 (kL eS) (kL eS) (kL (eP eI eI)) (fun a b l => a.length ≤ 1000000 ∧ b.length ≤ 1000000 ∧ l.length < 100000000)
  (fun a b l => if rgt (numA a b) (numB a b) (-1) (-1) l then tu2 (sL (eP eI (eL eS)) (ofG a b l 0 0 [])) (kI.enc 0) else tu2 .em (kI.enc 12))
theorem okOfE : SpecOK Tryz.prog 29 sOfE := by
  refine SpecOK.f3 Tryz.func29 rfl (by decide) Tryz.results29 Tryz.ntmps29 (by decide) fun a b l ⟨ha, hb, hl⟩ => ?_
  have hΓ : GOK Tryz.prog (gam [(27, sNumber), (81, sLcsRight), (82, sPut)]) := (.cons okNumber (.cons okLcsRight (.cons okPut .nil)))
  refine AW.of hΓ mixed [5] _ _ _ rfl ?_
  simp only [go_sem, sNumber, sLcsRight, sPut, st_sz, pp_sz]
  have hn2 : (numF [] [a, b]).length = 2 := rfl
  have hna := numA_len a b
  have hnb := numB_len a b
  unfold numA numB at *
  refine ⟨⟨by omega, by omega⟩, by omega, by omega, ⟨by omega, by omega, hl⟩, ?_⟩
  rcases hq : rgt ((numF [] [a, b]).getD 0 []) ((numF [] [a, b]).getD 1 []) (-1) (-1) l with _ | _
  · refine ⟨fun _ => ?_, fun h => absurd h (by decide)⟩
    simp only [go_sem, sNumber, sLcsRight, sPut]
  refine ⟨fun h => absurd h (by decide), fun _ => ?_⟩
  refine AW.adopt 9 86 2 (fun i => (eP eI (eL eS)).enc (([] : List (Int × List (List UInt8))).getD i (0, []))) rfl ?_
  refine AW.adopt 6 9 1 (fun i => eS.enc (([] : List (List UInt8)).getD i [])) rfl ?_
  refine AW.of hΓ mixed [6, 15] _ _ _ rfl ?_
  simp only [go_sem, sNumber, sLcsRight, sPut, st_sz, pp_sz]
  generalize hA : (numF [] [a, b]).getD 0 [] = na at *
  generalize hB : (numF [] [a, b]).getD 1 [] = nb at *
  refine AW.block (AW.round (α := { x : Nat × Nat × Nat × List (Int × List (List UInt8)) × Nat × Nat × Nat // x.1 ≤ l.length ∧ x.2.1 ≤ a.length ∧ x.2.2.1 ≤ b.length ∧ rgt na nb ((x.2.1 : Int) - 1) ((x.2.2.1 : Int) - 1) (l.drop x.1) = true ∧
      ofG a b l 0 0 [] = ofG a b (l.drop x.1) x.2.1 x.2.2.1 x.2.2.2.1 ∧ x.2.2.2.1.length ≤ 3 * x.1 ∧ x.1 ≤ x.2.1 ∧ sumL x.2.2.2.1 ≤ x.2.1 + x.2.2.1 })
    (fun x => ⟨[(0, sL eS a), (1, sL eS b), (9, .ow 0 x.1.2.2.2.2.1 x.1.2.2.2.1.length), (10, .val (.int .i64 x.1.2.1)), (11, .val (.int .i64 x.1.2.2.1)), (27, sL (eP eI eI) l), (28, .val (.int .i64 l.length)), (29, .val (.int .i64 x.1.1))],
      [(0, rowP x.1.2.2.2.2.1 x.1.2.2.2.2.2.1 x.1.2.2.2.1), (1, rowL x.1.2.2.2.2.2.1 9 eS (lastT x.1.2.2.2.1))], 74, 2, x.1.2.2.2.2.2.2, []⟩) (fun x => l.length - x.1.1) ⟨(0, 0, 0, [], 0, 1, 2), Nat.zero_le _, Nat.zero_le _, Nat.zero_le _, by simpa using hq, rfl, by simp, by simp, by simp [sumL]⟩ ?_ ?_)
  · simp only [go_sem, sNumber, sLcsRight, sPut, rowP]
    exact ⟨RowLe.sl rfl fun i hi => absurd hi (Nat.not_lt_zero _), RowLe.sl rfl fun i hi => absurd hi (Nat.not_lt_zero _)⟩
  · rintro ⟨⟨i, u, w, s, v, tv, nx⟩, hi, hu, hw, hr, he, hs1, hs2, hs3⟩
    simp only at hi hu hw hr he hs1 hs2 hs3
    have hlt := lastT_le s
    refine AW.of hΓ mixed [8, 15, 99999] _ _ _ rfl ?_
    simp only [go_sem, sNumber, sLcsRight, sPut, pp_sz, pp0, pp1, pp_d]
    refine ⟨fun hil => ?_, fun hil => ?_⟩
    · obtain ⟨x, y, hxy⟩ : ∃ x y, l.getD i (0, 0) = (x, y) := ⟨_, _, rfl⟩
      have hd : l.drop i = (x, y) :: l.drop (i + 1) := by
        rw [List.drop_eq_getElem_cons (by omega), ← gd_lt l (0, 0) (by omega), hxy]
      rw [hd, rgt] at hr
      rw [hd, ofG] at he
      simp only [Bool.and_eq_true, decide_eq_true_eq] at hr
      dsimp only at he
      obtain ⟨⟨c1, c2, c3, c4, _⟩, hr⟩ := hr
      refine ⟨by omega, ?_⟩
      refine AW.cut ⟨[(0, sL eS a), (1, sL eS b), (9, .ow 0 v s.length), (10, .val (.int .i64 u)), (11, .val (.int .i64 w)), (13, .pt 2 nx 0), (27, sL (eP eI eI) l), (28, .val (.int .i64 l.length)), (29, .val (.int .i64 i))],
        [(0, rowP v tv s), (1, rowL tv 9 eS (lastT s)), (2, .box nx 129 2 fun j => if j = 0 then .val (.int .i64 x) else .val (.int .i64 y))], 74, 3, nx + 1, []⟩ ?_ ?_
      · simp only [go_sem]
        refine ⟨RowLe.refl _, RowLe.refl _, RowLe.box fun j hj => AVle.of_eq ?_⟩
        match j, hj with
        | 0, _ => show (eP eI eI).enc (l.getD i (0, 0)) 0 = _; rw [hxy]; rfl
        | 1, _ => show (eP eI eI).enc (l.getD i (0, 0)) 1 = _; rw [hxy]; rfl
      · obtain ⟨p, rfl⟩ : ∃ p : Nat, x = p := ⟨x.toNat, by omega⟩
        obtain ⟨q, rfl⟩ : ∃ q : Nat, y = q := ⟨y.toNat, by omega⟩
        simp only [Int.toNat_natCast] at he
        have g1 := cutL_len a (i := u) (j := p) (by omega)
        have g2 := cutL_len b (i := w) (j := q) (by omega)
        have g3 := cutL_len a (i := p) (j := p + 1) (by omega)
        have k1 := putL_len s 1 (cutL a u p)
        have j1 := putL_sum s 1 (cutL a u p)
        refine AW.of hΓ mixed [99999] _ _ _ rfl ?_
        simp only [go_sem, sNumber, sLcsRight, sPut]
        refine ⟨by omega, put_go rfl (cut_le (a := a) (by omega)) (RowLe.refl _) (RowLe.refl _) (by decide) (by omega) (by omega) fun v1 tv1 n1 h1 => ?_⟩
        generalize putL s 1 (cutL a u p) = s1 at *
        have l1 := lastT_le s1
        have k2 := putL_len s1 2 (cutL b w q)
        have j2 := putL_sum s1 2 (cutL b w q)
        simp only [go_sem, sNumber, sLcsRight, sPut]
        refine ⟨by omega, put_go rfl (cut_le (a := b) (by omega)) (RowLe.refl _) (RowLe.refl _) (by decide) (by omega) (by omega) fun v2 tv2 n2 h2 => ?_⟩
        generalize putL s1 2 (cutL b w q) = s2 at *
        have l2 := lastT_le s2
        have k3 := putL_len s2 0 (cutL a p (p + 1))
        have j3 := putL_sum s2 0 (cutL a p (p + 1))
        simp only [go_sem, sNumber, sLcsRight, sPut]
        refine ⟨by omega, by omega, put_go rfl (cut_le (a := a) (by omega)) (RowLe.refl _) (RowLe.refl _) (by decide) (by omega) (by omega) fun v3 tv3 n3 h3 => ?_⟩
        generalize putL s2 0 (cutL a p (p + 1)) = s3 at *
        simp only [go_sem, sNumber, sLcsRight, sPut, rowP]
        refine ⟨by omega, by omega, by omega, ⟨(i + 1, p + 1, q + 1, s3, v3, tv3, n3), by dsimp only; omega, by dsimp only; omega, by dsimp only; omega, ?_, he, by dsimp only; omega, by dsimp only; omega, by dsimp only; omega⟩, ?_, by dsimp only; omega⟩
        · dsimp only
          rw [show ((p + 1 : Nat) : Int) - 1 = (p : Int) by omega, show ((q + 1 : Nat) : Int) - 1 = (q : Int) by omega]
          exact hr
        · exact ⟨Nat.le_refl _, ⟨⟨rfl, rfl⟩, by dsimp only; omega, by dsimp only; omega, by dsimp only; omega⟩, RowLe.refl _, RowLe.refl _⟩
    · obtain rfl : i = l.length := by omega
      have g1 := cutL_len a (i := u) (j := a.length) (by omega)
      have g2 := cutL_len b (i := w) (j := b.length) (by omega)
      have k1 := putL_len s 1 (cutL a u a.length)
      have j1 := putL_sum s 1 (cutL a u a.length)
      rw [List.drop_length, ofG, ← cutL_end a, ← cutL_end b] at he
      refine ⟨by omega, put_go rfl (cut_le (a := a) (Nat.le_refl _)) (RowLe.refl _) (RowLe.refl _) (by decide) (by omega) (by omega) fun v1 tv1 n1 h1 => ?_⟩
      generalize putL s 1 (cutL a u a.length) = s1 at *
      have l1 := lastT_le s1
      have k2 := putL_len s1 2 (cutL b w b.length)
      have j2 := putL_sum s1 2 (cutL b w b.length)
      simp only [go_sem, sNumber, sLcsRight, sPut]
      refine ⟨by omega, put_go rfl (cut_le (a := b) (Nat.le_refl _)) (RowLe.refl _) (RowLe.refl _) (by decide) (by omega) (by omega) fun v2 tv2 n2 h2 => ?_⟩
      generalize putL s1 2 (cutL b w b.length) = s2 at *
      simp only [go_sem, sNumber, sLcsRight, sPut]
      refine AW.freeze 1 tv2 9 1 (lastT s2).length (fun i => eS.enc ((lastT s2).getD i [])) rfl (fun _ _ _ _ => rfl) ?_
      refine AW.cut ⟨[(9, .ow 0 v2 s2.length)], [(0, rowL v2 86 (eP eI (eL eS)) s2)], 74, 2, n2, []⟩ ?_ ?_
      · simp only [go_sem, sNumber, sLcsRight, sPut, st_sz, rowP]
        exact RowLe.sl rfl (stepC_fz s2 tv2)
      · refine AW.of hΓ mixed [] _ _ _ rfl ?_
        simp only [go_sem, sNumber, sLcsRight, sPut, st_sz]
        rw [he]
        exact ⟨fun i hi => ⟨rfl, rfl⟩, AVle.refl _⟩
end Go.Proofs.YthpjjjnbkfnghaaGreatDoor
set_option linter.unusedSimpArgs false
set_option linter.unusedVariables false
set_option maxRecDepth 100000
set_option maxHeartbeats 2000000
namespace Go.Proofs.YthpjjjnbkfnghaaGreatDoor
open Go
attribute [local irreducible] AW AVle ASle RowLe
theorem cutL_more {a : List (List UInt8)} {i j : Nat} (h : i ≤ j) (hj : j < a.length) : cutL a i (j + 1) = cutL a i j ++ [a.getD j []] := by
  unfold cutL
  rw [take_snocE a [] hj, List.drop_append_of_le_length (by simp; omega)]
theorem cutL_self {a : List (List UInt8)} {i : Nat} : cutL a i i = [] := by
  unfold cutL
  exact List.drop_eq_nil_of_le (by simp; omega)
end Go.Proofs.YthpjjjnbkfnghaaGreatDoor
set_option linter.unusedSimpArgs false
set_option linter.unusedVariables false
namespace Go.Proofs.YthpjjjnbkfnghaaGreatDoor
theorem num_pre : ∀ (l ks : List (List UInt8)), ∃ m, (numL ks l).1 = ks ++ m
  | [], ks => ⟨[], by simp [numL]⟩
  | x :: l, ks => by
    obtain ⟨m, hm⟩ := num_pre l (if x ∈ ks then ks else ks ++ [x])
    by_cases h : x ∈ ks
    · rw [if_pos h] at hm
      exact ⟨m, by simp only [numL]; rw [if_pos h]; exact hm⟩
    · rw [if_neg h] at hm
      exact ⟨[x] ++ m, by simp only [numL]; rw [if_neg h, hm, List.append_assoc]⟩
theorem num_at : ∀ (l ks : List (List UInt8)) (i : Nat), i < l.length → l.getD i [] ∈ (numL ks l).1 ∧ (numL ks l).2.getD i 0 = ((numL ks l).1.idxOf (l.getD i []) : Int)
  | x :: l, ks, 0, _ => by
    obtain ⟨m, hm⟩ := num_pre l (if x ∈ ks then ks else ks ++ [x])
    simp only [numL, List.getD_cons_zero]
    rw [hm]
    by_cases h : x ∈ ks
    · rw [if_pos h]
      exact ⟨List.mem_append_left _ h, by rw [List.idxOf_append, if_pos h]⟩
    · rw [if_neg h]
      refine ⟨by simp, ?_⟩
      rw [List.append_assoc, List.idxOf_append, if_neg h, List.idxOf_eq_length h]
      simp
  | x :: l, ks, i + 1, h => by
    simp only [numL, List.getD_cons_succ]
    exact num_at l _ i (by simpa using h)
theorem num_eq {a b : List (List UInt8)} {p q : Nat} (hp : p < a.length) (hq : q < b.length) (h : (numA a b).getD p 0 = (numB a b).getD q 0) : a.getD p [] = b.getD q [] := by
  obtain ⟨h1, h2⟩ := num_at a [] p hp
  obtain ⟨h3, h4⟩ := num_at b (numL [] a).1 q hq
  have e1 : numA a b = (numL [] a).2 := rfl
  have e2 : numB a b = (numL (numL [] a).1 b).2 := rfl
  rw [e1, e2, h2, h4] at h
  obtain ⟨m, hm⟩ := num_pre b (numL [] a).1
  have h5 : (numL (numL [] a).1 b).1.idxOf (a.getD p []) = (numL [] a).1.idxOf (a.getD p []) := by rw [hm, List.idxOf_append, if_pos h1]
  have h6 : a.getD p [] ∈ (numL (numL [] a).1 b).1 := by rw [hm]; exact List.mem_append_left _ h1
  rw [← h5] at h
  have h7 : (numL (numL [] a).1 b).1.idxOf (a.getD p []) = (numL (numL [] a).1 b).1.idxOf (b.getD q []) := by omega
  have g1 := List.getElem_idxOf (List.idxOf_lt_length_of_mem h6)
  have g2 := List.getElem_idxOf (List.idxOf_lt_length_of_mem h3)
  rw [← g1, ← g2]
  simp only [h7]
theorem lessL_put (s : List (Int × List (List UInt8))) (k j : Int) (ts : List (List UInt8)) : lessL j (putL s k ts) = lessL j s ++ if k = j then [] else ts := by
  by_cases h : ts.length = 0
  · obtain rfl := List.length_eq_zero_iff.1 h
    rw [putL_nil]
    simp
  · rcases s.eq_nil_or_concat with rfl | ⟨m, x, rfl⟩
    · rw [putL_first h]
      simp [lessL]
    · rw [List.concat_eq_append]
      by_cases hk : x.1 = k
      · rw [putL_same h hk, lessL_snoc, lessL_snoc, hk]
        by_cases e : k = j
        · simp [e]
        · simp [e]
      · rw [putL_new h hk, lessL_snoc]
theorem countL_put (s : List (Int × List (List UInt8))) (k j : Int) (ts : List (List UInt8)) : countL j (putL s k ts) = countL j s + if k = j then ts.length else 0 := by
  by_cases h : ts.length = 0
  · obtain rfl := List.length_eq_zero_iff.1 h
    rw [putL_nil]
    simp
  · rcases s.eq_nil_or_concat with rfl | ⟨m, x, rfl⟩
    · rw [putL_first h]
      by_cases e : k = j
      · simp [countL, e]
      · simp [countL, e]
    · rw [List.concat_eq_append]
      by_cases hk : x.1 = k
      · rw [putL_same h hk, countL_snoc, countL_snoc, hk]
        by_cases e : k = j
        · simp [e]; omega
        · simp [e]
      · rw [putL_new h hk, countL_snoc]
theorem cutL_drop {α : Type} (a : List α) {i j : Nat} (h : i ≤ j) : cutL a i j ++ a.drop j = a.drop i := by
  unfold cutL
  rw [List.drop_take]
  have : a.drop j = (a.drop i).drop (j - i) := by rw [List.drop_drop]; congr 1; omega
  rw [this, List.take_append_drop]
theorem drop_one {a : List (List UInt8)} {i : Nat} (h : i < a.length) : a.drop i = a.getD i [] :: a.drop (i + 1) := by
  rw [List.drop_eq_getElem_cons h, ← gd_lt a [] h]
theorem cutL_one {a : List (List UInt8)} {i : Nat} (h : i < a.length) : cutL a i (i + 1) = [a.getD i []] := by rw [cutL_more (Nat.le_refl _) h, cutL_self, List.nil_append]
theorem of_leads {a b : List (List UInt8)} : ∀ (l : List (Int × Int)) (u w : Nat) (s : List (Int × List (List UInt8))), u ≤ a.length → w ≤ b.length → rgt (numA a b) (numB a b) ((u : Int) - 1) ((w : Int) - 1) l = true →
    lessL 2 (ofG a b l u w s) = lessL 2 s ++ a.drop u ∧ lessL 1 (ofG a b l u w s) = lessL 1 s ++ b.drop w ∧ countL 0 (ofG a b l u w s) = countL 0 s + l.length ∧
      countL 0 (ofG a b l u w s) + countL 1 (ofG a b l u w s) = countL 0 s + countL 1 s + (a.length - u) ∧ countL 0 (ofG a b l u w s) + countL 2 (ofG a b l u w s) = countL 0 s + countL 2 s + (b.length - w)
  | [], u, w, s, hu, hw, _ => by
    refine ⟨?_, ?_, ?_, ?_, ?_⟩
    · simp [ofG, lessL_put]
    · simp [ofG, lessL_put]
    · simp [ofG, countL_put]
    · simp [ofG, countL_put]; omega
    · simp [ofG, countL_put]; omega
  | (x, y) :: l, u, w, s, hu, hw, h => by
    rw [rgt] at h
    simp only [Bool.and_eq_true, decide_eq_true_eq] at h
    obtain ⟨⟨c1, c2, c3, c4, c5⟩, h⟩ := h
    obtain ⟨p, rfl⟩ : ∃ p : Nat, x = p := ⟨x.toNat, by omega⟩
    obtain ⟨q, rfl⟩ : ∃ q : Nat, y = q := ⟨y.toNat, by omega⟩
    rw [numA_len] at c3
    rw [numB_len] at c4
    have hp : p < a.length := by omega
    have hq : q < b.length := by omega
    simp only [Int.toNat_natCast] at c5
    have he := num_eq hp hq c5
    obtain ⟨i1, i2, i3, i4, i5⟩ := of_leads (a := a) (b := b) l (p + 1) (q + 1) (putL (putL (putL s 1 (cutL a u p)) 2 (cutL b w q)) 0 (cutL a p (p + 1))) (by omega) (by omega) (by
      rw [show ((p + 1 : Nat) : Int) - 1 = (p : Int) by omega, show ((q + 1 : Nat) : Int) - 1 = (q : Int) by omega]; exact h)
    rw [ofG]
    simp only [Int.toNat_natCast]
    have g1 := cutL_len a (i := u) (j := p) (by omega)
    have g2 := cutL_len b (i := w) (j := q) (by omega)
    rw [i4, i5, i1, i2, i3]
    rw [cutL_one hp]
    refine ⟨?_, ?_, ?_, ?_, ?_⟩
    · simp only [lessL_put]
      rw [← cutL_drop a (i := u) (j := p) (by omega), drop_one hp]
      simp
    · simp only [lessL_put]
      rw [← cutL_drop b (i := w) (j := q) (by omega), drop_one hq, he]
      simp
    · simp only [countL_put, List.length_cons]
      simp
      omega
    · simp only [countL_put]
      simp
      omega
    · simp only [countL_put]
      simp
      omega
theorem of_all {a b : List (List UInt8)} {l : List (Int × Int)} (h : rgt (numA a b) (numB a b) (-1) (-1) l = true) :
    lessL 2 (ofG a b l 0 0 []) = a ∧ lessL 1 (ofG a b l 0 0 []) = b ∧ countL 0 (ofG a b l 0 0 []) = l.length ∧ countL 0 (ofG a b l 0 0 []) + countL 1 (ofG a b l 0 0 []) = a.length ∧ countL 0 (ofG a b l 0 0 []) + countL 2 (ofG a b l 0 0 []) = b.length := by
  have := of_leads (a := a) (b := b) l 0 0 [] (Nat.zero_le _) (Nat.zero_le _) h
  simpa [lessL, countL] using this
def hk : List (Int × List (List UInt8)) → Int
  | [] => -1
  | t :: _ => t.1
theorem backL_cons {s : Int × List (List UInt8)} : ∀ {l : List (Int × List (List UInt8))}, ¬ (s.1 = 1 ∧ hk l = 2) → backL (s :: l) = turnS s :: backL l
  | [], _ => rfl
  | t :: l, h => by
    rw [backL]
    exact if_neg h
theorem backL_pair {s t : Int × List (List UInt8)} {l : List (Int × List (List UInt8))} (h : s.1 = 1) (h2 : t.1 = 2) : backL (s :: t :: l) = turnS t :: turnS s :: backL l := by
  rw [backL, if_pos ⟨h, h2⟩]
theorem turnK2 (k : Int) : turnK (turnK k) = k := by
  unfold turnK
  by_cases h : k = 1
  · subst h; rfl
  · by_cases h2 : k = 2
    · subst h2; rfl
    · rw [if_neg h, if_neg h2, if_neg h, if_neg h2]
theorem turnS2 (s : Int × List (List UInt8)) : turnS (turnS s) = s := by
  unfold turnS
  rw [turnK2]
theorem turnK_eq1 {k : Int} : turnK k = 1 ↔ k = 2 := by
  unfold turnK
  by_cases h : k = 1
  · subst h; simp
  · by_cases h2 : k = 2
    · subst h2; simp
    · rw [if_neg h, if_neg h2]; simp [h, h2]
theorem turnK_eq2 {k : Int} : turnK k = 2 ↔ k = 1 := by
  unfold turnK
  by_cases h : k = 1
  · subst h; simp
  · by_cases h2 : k = 2
    · subst h2; simp
    · rw [if_neg h, if_neg h2]; simp [h, h2]
theorem lessL_cons (j : Int) (s : Int × List (List UInt8)) (l : List (Int × List (List UInt8))) : lessL j (s :: l) = (if s.1 = j then [] else s.2) ++ lessL j l := rfl
theorem back_less : ∀ (n : Nat) (l : List (Int × List (List UInt8))), l.length ≤ n → lessL 2 (backL l) = lessL 1 l ∧ lessL 1 (backL l) = lessL 2 l ∧ (backL l).length = l.length ∧ ∀ x ∈ backL l, turnS x ∈ l
  | _, [], _ => ⟨rfl, rfl, rfl, fun x hx => by cases hx⟩
  | 0, s :: l, h => by simp at h
  | n + 1, s :: l, h => by
    by_cases c : s.1 = 1 ∧ hk l = 2
    · match l, c, h with
      | t :: l, ⟨c1, c2⟩, h =>
        have c2 : t.1 = 2 := c2
        obtain ⟨i1, i2, i3, i4⟩ := back_less n l (by simp at h; omega)
        rw [backL_pair c1 c2]
        have e1 : (turnS s).1 = 2 := turnK_eq2.2 c1
        have e2 : (turnS t).1 = 1 := turnK_eq1.2 c2
        refine ⟨?_, ?_, by simp [i3], fun x hx => ?_⟩
        · simp only [lessL_cons, e1, e2, c1, c2, i1]
          rfl
        · simp only [lessL_cons, e1, e2, c1, c2, i2]
          simp [turnS]
        · rcases List.mem_cons.1 hx with rfl | hx
          · rw [turnS2]; simp
          · rcases List.mem_cons.1 hx with rfl | hx
            · rw [turnS2]; simp
            · exact List.mem_cons_of_mem _ (List.mem_cons_of_mem _ (i4 x hx))
    · obtain ⟨i1, i2, i3, i4⟩ := back_less n l (by simp at h; omega)
      rw [backL_cons c]
      refine ⟨?_, ?_, by simp [i3], fun x hx => ?_⟩
      · simp only [lessL_cons, i1]
        congr 1
        show (if turnK s.1 = 2 then [] else s.2) = _
        simp only [turnK_eq2]
      · simp only [lessL_cons, i2]
        congr 1
        show (if turnK s.1 = 1 then [] else s.2) = _
        simp only [turnK_eq1]
      · rcases List.mem_cons.1 hx with rfl | hx
        · rw [turnS2]; simp
        · exact List.mem_cons_of_mem _ (i4 x hx)
theorem hk_back0 {l : List (Int × List (List UInt8))} (h : hk l = 0) : hk (backL l) = 0 := by
  match l, h with
  | s :: l, h =>
    have h : s.1 = 0 := h
    rw [backL_cons (fun c => by omega)]
    show turnK s.1 = 0
    rw [h]
    rfl
theorem followsB_iff {x y : Int} : followsB x y = true ↔ x ≠ y ∧ ¬ (x = 2 ∧ y = 1) := by
  unfold followsB
  by_cases h1 : x = 2 <;> by_cases h2 : y = 1 <;> simp [h1, h2]
theorem stepOK_iff {s : Int × List (List UInt8)} : stepOK s = true ↔ (s.1 = 0 ∨ s.1 = 1 ∨ s.1 = 2) ∧ s.2.length ≠ 0 := by
  unfold stepOK
  rw [decide_eq_true_eq]
  omega
theorem rightE_cons {k : Int} {s : Int × List (List UInt8)} {l : List (Int × List (List UInt8))} : rightE k (s :: l) = true ↔ ((s.1 = 0 ∨ s.1 = 1 ∨ s.1 = 2) ∧ s.2.length ≠ 0) ∧ (k ≠ s.1 ∧ ¬ (k = 2 ∧ s.1 = 1)) ∧ rightE s.1 l = true := by
  rw [rightE, Bool.and_eq_true, Bool.and_eq_true, stepOK_iff, followsB_iff]
theorem rightE_hk {k : Int} {l : List (Int × List (List UInt8))} (h : rightE k l = true) (hl : l ≠ []) : (hk l = 0 ∨ hk l = 1 ∨ hk l = 2) ∧ k ≠ hk l ∧ ¬ (k = 2 ∧ hk l = 1) := by
  match l, hl, h with
  | s :: l, _, h =>
    obtain ⟨h1, h2, _⟩ := rightE_cons.1 h
    exact ⟨h1.1, h2⟩
theorem back_right : ∀ (n : Nat) (l : List (Int × List (List UInt8))), l.length ≤ n → (∀ k, (k = 0 ∨ k = -1) → rightE k l = true → rightE k (backL l) = true ∧ backL (backL l) = l) ∧
    (∀ k k', rightE k l = true → (l = [] ∨ hk l = 0) → k' ≠ 0 → rightE k' (backL l) = true ∧ backL (backL l) = l)
  | _, [], _ => ⟨fun _ _ _ => ⟨rfl, rfl⟩, fun _ _ _ _ _ => ⟨rfl, rfl⟩⟩
  | 0, s :: l, h => by simp at h
  | n + 1, s :: l, h => by
    have hl : l.length ≤ n := by simp at h; omega
    obtain ⟨ihB, ihA⟩ := back_right n l hl
    have zero : ∀ k', s.1 = 0 → s.2.length ≠ 0 → rightE s.1 l = true → k' ≠ 0 → rightE k' (backL (s :: l)) = true ∧ backL (backL (s :: l)) = s :: l := fun k' h0 hne hr hk' => by
      rw [backL_cons (fun c => by omega)]
      rw [h0] at hr
      obtain ⟨j1, j2⟩ := ihB 0 (.inl rfl) hr
      have e : (turnS s).1 = 0 := by show turnK s.1 = 0; rw [h0]; rfl
      refine ⟨rightE_cons.2 ⟨⟨.inl e, hne⟩, ⟨by omega, by omega⟩, by rw [e]; exact j1⟩, ?_⟩
      rw [backL_cons (fun c => by omega), turnS2, j2]
    refine ⟨fun k hk0 hr => ?_, fun k k' hr h0 hk' => ?_⟩
    · obtain ⟨⟨hs, hne⟩, hf, hr⟩ := rightE_cons.1 hr
      rcases hs with hs | hs | hs
      · exact zero k hs hne hr (by omega)
      · by_cases c : hk l = 2
        · match l, c, hr, ihA, hl with
          | t :: r, c, hr, _, hl =>
            have c : t.1 = 2 := c
            obtain ⟨⟨_, hne2⟩, _, hr2⟩ := rightE_cons.1 hr
            obtain ⟨_, ihA2⟩ := back_right n r (by simp at hl; omega)
            rw [c] at hr2
            have h0 : r = [] ∨ hk r = 0 := by
              rcases r with _ | ⟨x, r⟩
              · exact .inl rfl
              · have := rightE_hk hr2 (by simp)
                exact .inr (by omega)
            have e1 : (turnS s).1 = 2 := turnK_eq2.2 hs
            have e2 : (turnS t).1 = 1 := turnK_eq1.2 c
            obtain ⟨j1, j2⟩ := ihA2 2 2 hr2 h0 (by decide)
            rw [backL_pair hs c]
            refine ⟨rightE_cons.2 ⟨⟨.inr (.inl e2), hne2⟩, ⟨by omega, by omega⟩, rightE_cons.2 ⟨⟨.inr (.inr e1), hne⟩, ⟨by omega, by omega⟩, by rw [e1]; exact j1⟩⟩, ?_⟩
            rw [backL_pair e2 e1, turnS2, turnS2, j2]
        · have h0 : l = [] ∨ hk l = 0 := by
            rcases l with _ | ⟨x, r⟩
            · exact .inl rfl
            · have := rightE_hk hr (by simp)
              exact .inr (by omega)
          rw [backL_cons (fun hh => c hh.2)]
          have e1 : (turnS s).1 = 2 := turnK_eq2.2 hs
          obtain ⟨j1, j2⟩ := ihA s.1 2 hr h0 (by decide)
          refine ⟨rightE_cons.2 ⟨⟨.inr (.inr e1), hne⟩, ⟨by omega, by omega⟩, by rw [e1]; exact j1⟩, ?_⟩
          rw [backL_cons (fun hh => by omega), turnS2, j2]
      · have h0 : l = [] ∨ hk l = 0 := by
          rcases l with _ | ⟨x, r⟩
          · exact .inl rfl
          · have := rightE_hk hr (by simp)
            exact .inr (by omega)
        rw [backL_cons (fun hh => by omega)]
        have e1 : (turnS s).1 = 1 := turnK_eq1.2 hs
        obtain ⟨j1, j2⟩ := ihA s.1 1 hr h0 (by decide)
        refine ⟨rightE_cons.2 ⟨⟨.inr (.inl e1), hne⟩, ⟨by omega, by omega⟩, by rw [e1]; exact j1⟩, ?_⟩
        rw [backL_cons (fun hh => by
          rcases h0 with rfl | h0
          · have := hh.2
            simp [backL, hk] at this
          · have := hk_back0 h0
            omega), turnS2, j2]
    · obtain ⟨⟨hs, hne⟩, hf, hr⟩ := rightE_cons.1 hr
      have h0 : s.1 = 0 := by
        rcases h0 with h0 | h0
        · cases h0
        · exact h0
      exact zero k' h0 hne hr hk'
theorem back_all {l : List (Int × List (List UInt8))} (h : rightE (-1) l = true) : rightE (-1) (backL l) = true ∧ backL (backL l) = l := (back_right l.length l (Nat.le_refl _)).1 (-1) (.inr rfl) h
theorem right_kinds {k : Int} : ∀ {l : List (Int × List (List UInt8))}, rightE k l = true → ∀ s ∈ l, 0 ≤ s.1 ∧ s.1 ≤ 2 := by
  intro l
  induction l generalizing k with
  | nil => exact fun _ s hs => by cases hs
  | cons t l ih =>
    intro h s hs
    obtain ⟨⟨ht, _⟩, _, hr⟩ := rightE_cons.1 h
    rcases List.mem_cons.1 hs with rfl | hs
    · omega
    · exact ih hr s hs
theorem back_l2 (l : List (Int × List (List UInt8))) : lessL 2 (backL l) = lessL 1 l := (back_less l.length l (Nat.le_refl _)).1
theorem back_l1 (l : List (Int × List (List UInt8))) : lessL 1 (backL l) = lessL 2 l := (back_less l.length l (Nat.le_refl _)).2.1
end Go.Proofs.YthpjjjnbkfnghaaGreatDoor
set_option linter.unusedSimpArgs false
set_option linter.unusedVariables false
namespace Go.Proofs.YthpjjjnbkfnghaaGreatDoor
abbrev StE := Int × List (List UInt8)
abbrev Hk := Int × Int × List StE
def appP (l : List StE) (k : Int) (ts : List (List UInt8)) : List StE := if ts.length = 0 then l else l ++ [(k, ts)]
def chgP (l : List StE) : Bool := l.any fun s => decide (s.1 ≠ 0)
def clsP (hs : List Hk) (o : Hk) : List Hk := if chgP o.2.2 = true then hs ++ [o] else hs
def pasA (s : StE) : Int := if s.1 = 2 then 0 else s.2.length
def pasB (s : StE) : Int := if s.1 = 1 then 0 else s.2.length
abbrev Os := List Hk × Hk × Int × Int
def bhP (n : Nat) (f : Bool) (s : StE) : Nat := if f = true then 0 else min s.2.length n
def ahP (n : Nat) (t : Bool) (s : StE) : Nat := if t = true then 0 else min s.2.length n
def stepPt (n : Nat) (f t : Bool) (s : StE) (q : Os) : Os :=
  if s.1 ≠ 0 then (q.1, (q.2.1.1, q.2.1.2.1, appP q.2.1.2.2 s.1 s.2), q.2.2.1 + pasA s, q.2.2.2 + pasB s)
  else if f = false ∧ t = false ∧ s.2.length ≤ 2 * n then (q.1, (q.2.1.1, q.2.1.2.1, appP q.2.1.2.2 0 s.2), q.2.2.1 + s.2.length, q.2.2.2 + s.2.length)
  else (clsP q.1 (q.2.1.1, q.2.1.2.1, appP q.2.1.2.2 0 (s.2.take (bhP n f s))),
    (q.2.2.1 + s.2.length - ahP n t s, q.2.2.2 + s.2.length - ahP n t s, appP [] 0 (s.2.drop (s.2.length - ahP n t s))), q.2.2.1 + s.2.length, q.2.2.2 + s.2.length)
def ofI (L : List StE) (n : Nat) : Nat → Os
  | 0 => ([], (0, 0, []), 0, 0)
  | i + 1 => stepPt n (decide (i = 0)) (decide (i + 1 = L.length)) (L.getD i (0, [])) (ofI L n i)
def ofP (L : List StE) (n : Nat) : List Hk := clsP (ofI L n L.length).1 (ofI L n L.length).2.1
def enddL (l : List (List UInt8)) : Bool := decide (l = []) || endsL (l.getD (l.length - 1) [])
def whlP (l : List StE) (last : Bool) : Bool := wholeL (lessL 2 l) && (wholeL (lessL 1 l) && (last || (enddL (lessL 2 l) && enddL (lessL 1 l))))
def hunkP (h : Hk) (last : Bool) (next shift : Int) : Bool := (rightE (-1) h.2.2 && (chgP h.2.2 && whlP h.2.2 last)) && decide (next ≤ h.1 ∧ h.1 ≤ 999999 ∧ h.2.1 = h.1 + shift)
def rightP : List Hk → Int → Int → Bool
  | [], _, _ => true
  | h :: r, next, shift => hunkP h (decide (r = [])) next shift && rightP r (h.1 + countL 0 h.2.2 + countL 1 h.2.2) (shift + (countL 2 h.2.2 - countL 1 h.2.2))
def appR (old : List (List UInt8)) : List Hk → Nat → List (List UInt8) → Int → List UInt8 × Int × Int
  | [], at', ch, i => if wholeL (ch ++ old.drop at') = true then ((ch ++ old.drop at').flatten, 0, -1) else ([], 12, i - 1)
  | h :: r, at', ch, i => if ((lessL 2 h.2.2).length : Int) > old.length - h.1 ∨ lessL 2 h.2.2 ≠ cutL old h.1.toNat (h.1.toNat + (lessL 2 h.2.2).length) then ([], 12, i)
    else appR old r (h.1.toNat + (lessL 2 h.2.2).length) (ch ++ cutL old at' h.1.toNat ++ lessL 1 h.2.2) (i + 1)
theorem appP_nil (l : List StE) (k : Int) : appP l k [] = l := rfl
theorem appP_ne {l : List StE} {k : Int} {ts : List (List UInt8)} (h : ts.length ≠ 0) : appP l k ts = l ++ [(k, ts)] := by unfold appP; rw [if_neg h]
theorem lessL_appP (j : Int) (l : List StE) (k : Int) (ts : List (List UInt8)) : lessL j (appP l k ts) = lessL j l ++ if k = j then [] else ts := by
  by_cases h : ts.length = 0
  · obtain rfl := List.length_eq_zero_iff.1 h
    rw [appP_nil]; simp
  · rw [appP_ne h, lessL_snoc]
theorem chgP_snoc (l : List StE) (s : StE) : chgP (l ++ [s]) = (chgP l || decide (s.1 ≠ 0)) := by simp [chgP]
theorem chgP_app0 (l : List StE) (ts : List (List UInt8)) : chgP (appP l 0 ts) = chgP l := by
  by_cases h : ts.length = 0
  · obtain rfl := List.length_eq_zero_iff.1 h
    rw [appP_nil]
  · rw [appP_ne h, chgP_snoc]; simp
theorem keep_less {l : List StE} (h : chgP l = false) : lessL 2 l = lessL 1 l := by
  induction l with
  | nil => rfl
  | cons s l ih =>
    unfold chgP at h ih
    rw [List.any_cons, Bool.or_eq_false_iff] at h
    have h0 : s.1 = 0 := by simpa using h.1
    rw [lessL_cons, lessL_cons, ih h.2, h0]
    rfl
theorem right_pre {u v : List StE} : ∀ {k : Int}, rightE k (u ++ v) = true → rightE k u = true := by
  induction u with
  | nil => exact fun _ => rfl
  | cons s u ih =>
    intro k h
    rw [List.cons_append, rightE_cons] at h
    exact rightE_cons.2 ⟨h.1, h.2.1, ih h.2.2⟩
theorem right_cut {u r : List StE} {k0 : Int} {ts ts' : List (List UInt8)} (hne : ts'.length ≠ 0) : ∀ {k : Int}, rightE k (u ++ (k0, ts) :: r) = true → rightE k (u ++ [(k0, ts')]) = true := by
  induction u with
  | nil =>
    intro k h
    rw [List.nil_append, rightE_cons] at h
    exact rightE_cons.2 ⟨⟨h.1.1, hne⟩, h.2.1, rfl⟩
  | cons s u ih =>
    intro k h
    rw [List.cons_append, rightE_cons] at h
    exact rightE_cons.2 ⟨h.1, h.2.1, ih h.2.2⟩
theorem right_app {u r : List StE} {k : Int} {ts ts' : List (List UInt8)} (h : rightE k (u ++ (0, ts) :: r) = true) : rightE k (appP u 0 ts') = true := by
  by_cases hn : ts'.length = 0
  · obtain rfl := List.length_eq_zero_iff.1 hn
    rw [appP_nil]
    exact right_pre h
  · rw [appP_ne hn]
    exact right_cut hn h
theorem right_suf {u r : List StE} {s : StE} : ∀ {k : Int}, rightE k (u ++ s :: r) = true → (s.1 = 0 ∨ s.1 = 1 ∨ s.1 = 2) ∧ s.2.length ≠ 0 ∧ rightE s.1 r = true := by
  induction u with
  | nil =>
    intro k h
    rw [List.nil_append, rightE_cons] at h
    exact ⟨h.1.1, h.1.2, h.2.2⟩
  | cons t u ih =>
    intro k h
    rw [List.cons_append, rightE_cons] at h
    exact ih h.2.2
theorem right_first {r : List StE} (h : rightE 0 r = true) : rightE (-1) r = true := by
  cases r with
  | nil => rfl
  | cons s r =>
    rw [rightE_cons] at h ⊢
    obtain ⟨h1, h2, h3⟩ := h
    exact ⟨h1, ⟨by omega, by omega⟩, h3⟩
theorem right_new {r : List StE} (h : rightE 0 r = true) (ts : List (List UInt8)) : rightE (-1) (appP [] 0 ts ++ r) = true := by
  by_cases hn : ts.length = 0
  · obtain rfl := List.length_eq_zero_iff.1 hn
    rw [appP_nil]
    exact right_first h
  · rw [appP_ne hn]
    exact rightE_cons.2 ⟨⟨.inl rfl, hn⟩, ⟨by omega, by omega⟩, h⟩
theorem count_less {k : Int} : ∀ {l : List StE}, rightE k l = true → ((countL 0 l : Nat) : Int) + countL 1 l = (lessL 2 l).length ∧ ((countL 0 l : Nat) : Int) + countL 2 l = (lessL 1 l).length := by
  intro l
  induction l generalizing k with
  | nil => intro _; exact ⟨rfl, rfl⟩
  | cons s l ih =>
    intro h
    rw [rightE_cons] at h
    obtain ⟨⟨h1, _⟩, _, h3⟩ := h
    obtain ⟨i1, i2⟩ := ih h3
    have c : ∀ j, countL j (s :: l) = (if s.1 = j then s.2.length else 0) + countL j l := fun j => by
      unfold countL
      rw [List.flatMap_cons, List.length_append]
      congr 1
      split <;> simp
    rw [lessL_cons, lessL_cons, c, c, c, List.length_append, List.length_append]
    rcases h1 with e | e | e <;> rw [e] <;> simp <;> omega
theorem cut_app {α : Type} (a : List α) {i j k : Nat} (h1 : i ≤ j) (h2 : j ≤ k) : cutL a i j ++ cutL a j k = cutL a i k := by
  unfold cutL
  have e : a.take j = (a.take k).take j := by rw [List.take_take]; congr 1; omega
  rw [e]
  generalize a.take k = b
  rw [List.drop_take]
  have : b.drop j = (b.drop i).drop (j - i) := by rw [List.drop_drop]; congr 1; omega
  rw [this, List.take_append_drop]
theorem cut_take {α : Type} (a : List α) (j : Nat) : cutL a 0 j = a.take j := by simp [cutL]
theorem cut_of_drop {a l r : List (List UInt8)} {i : Nat} (h : a.drop i = l ++ r) : cutL a i (i + l.length) = l ∧ a.drop (i + l.length) = r := by
  unfold cutL
  constructor
  · rw [List.drop_take, h, Nat.add_sub_cancel_left, List.take_left']
    rfl
  · rw [← List.drop_drop, h, List.drop_left']
    rfl
theorem cut_mem_at {a : List (List UInt8)} {i j k : Nat} (h : k < (cutL a i j).length) : (cutL a i j).getD k [] = a.getD (i + k) [] ∧ i + k < j ∧ i + k < a.length := by
  unfold cutL at h ⊢
  rw [List.length_drop, List.length_take] at h
  refine ⟨?_, by omega, by omega⟩
  simp only [List.getD, List.getElem?_drop, List.getElem?_take]
  rw [if_pos (by omega)]
theorem whole_cutP {a : List (List UInt8)} (h : wholeL a = true) (i j : Nat) : wholeL (cutL a i j) = true := by
  rw [wholeL_iff] at h ⊢
  intro k hk
  obtain ⟨e, k1, k2⟩ := cut_mem_at hk
  rw [e]
  obtain ⟨h1, h2⟩ := h (i + k) k2
  refine ⟨h1, fun hk' => h2 ?_⟩
  obtain ⟨_, _, k3⟩ := cut_mem_at hk'
  omega
theorem endd_cut {a : List (List UInt8)} (h : wholeL a = true) {i j : Nat} (hj : j < a.length) : enddL (cutL a i j) = true := by
  unfold enddL
  rw [Bool.or_eq_true, decide_eq_true_eq]
  rcases Nat.eq_zero_or_pos (cutL a i j).length with h0 | h0
  · exact .inl (List.length_eq_zero_iff.1 h0)
  · right
    obtain ⟨e, k1, k2⟩ := cut_mem_at (a := a) (i := i) (j := j) (k := (cutL a i j).length - 1) (by omega)
    rw [e]
    exact ((wholeL_iff a).1 h _ k2).2 (by omega)
def QP (x y : List (List UInt8)) (hs : List Hk) (p q : Nat) (e : Bool) : Prop :=
  ∃ at' : Nat, ∃ sh : Int, ∃ ch : List (List UInt8), at' ≤ p ∧ sh = (q : Int) - p ∧ ch ++ cutL x at' p = y.take q ∧ rightP hs 0 0 = true ∧
    (e = true → ∀ t, t ≠ [] → rightP (hs ++ t) 0 0 = rightP t at' sh) ∧ (∀ t, appR x (hs ++ t) 0 [] 0 = appR x t at' ch hs.length) ∧ ∀ h ∈ hs, 0 ≤ h.1 ∧ 0 ≤ h.2.1 ∧ h.2.1 ≤ y.length
theorem Q_start (x y : List (List UInt8)) : QP x y [] 0 0 true := ⟨0, 0, [], Nat.le_refl _, by omega, by simp [cutL], rfl, fun _ _ _ => rfl, fun _ => rfl, fun h hh => by cases hh⟩
theorem Q_less {x y : List (List UInt8)} {hs : List Hk} {p q : Nat} (h : QP x y hs p q true) : QP x y hs p q false := by
  obtain ⟨a, sh, ch, h1, h2, h3, h4, h5, h6, h7⟩ := h
  exact ⟨a, sh, ch, h1, h2, h3, h4, (fun h => by cases h), h6, h7⟩
theorem Q_gap {x y : List (List UInt8)} {hs : List Hk} {p q d : Nat} {e : Bool} (h : QP x y hs p q e) (hc : cutL x p (p + d) = cutL y q (q + d)) : QP x y hs (p + d) (q + d) e := by
  obtain ⟨a, sh, ch, h1, h2, h3, h4, h5, h6, h7⟩ := h
  refine ⟨a, sh, ch, by omega, by omega, ?_, h4, h5, h6, h7⟩
  rw [← cut_app x h1 (Nat.le_add_right p d), ← List.append_assoc, h3, hc, ← cut_take y q, cut_app y (Nat.zero_le _) (Nat.le_add_right q d), cut_take]
theorem Q_close {x y : List (List UInt8)} (wx : wholeL x = true) (wy : wholeL y = true) (hbig : x.length ≤ 999999) {hs : List Hk} {p q p' q' : Nat} {st : List StE} (h : QP x y hs p q true)
    (hp : p ≤ p') (hp' : p' ≤ x.length) (hq : q ≤ q') (hq' : q' ≤ y.length) (hx : lessL 2 st = cutL x p p') (hy : lessL 1 st = cutL y q q') (hr : rightE (-1) st = true) {e : Bool}
    (he : e = true → chgP st = true → p' < x.length ∧ q' < y.length) : QP x y (clsP hs ((p : Int), (q : Int), st)) p' q' e := by
  have lx := congrArg List.length hx
  have ly := congrArg List.length hy
  rw [cutL_len _ hp'] at lx
  rw [cutL_len _ hq'] at ly
  cases hc : chgP st with
  | false =>
    have k := keep_less hc
    have e1 : clsP hs ((p : Int), (q : Int), st) = hs := by unfold clsP; rw [if_neg (by rw [hc]; simp)]
    rw [e1]
    rw [k] at lx hx
    obtain ⟨d, rfl⟩ : ∃ d, p' = p + d := ⟨p' - p, by omega⟩
    obtain rfl : q' = q + d := by omega
    have := Q_gap h (hx.symm.trans hy)
    cases e with
    | true => exact this
    | false => exact Q_less this
  | true =>
    have e1 : clsP hs ((p : Int), (q : Int), st) = hs ++ [((p : Int), (q : Int), st)] := by unfold clsP; rw [if_pos hc]
    rw [e1]
    obtain ⟨a, sh, ch, h1, h2, h3, h4, h5, h6, h7⟩ := h
    obtain ⟨c1, c2⟩ := count_less hr
    have hH : ∀ last : Bool, (last = false → p' < x.length ∧ q' < y.length) → hunkP ((p : Int), (q : Int), st) last a sh = true := fun last hl => by
      unfold hunkP whlP
      rw [hr, hc, hx, hy, whole_cutP wx, whole_cutP wy]
      simp only [Bool.true_and, Bool.and_eq_true, Bool.or_eq_true, decide_eq_true_eq]
      refine ⟨?_, by omega, by omega, by omega⟩
      cases last with
      | true => exact .inl rfl
      | false =>
        obtain ⟨g1, g2⟩ := hl rfl
        exact .inr ⟨endd_cut wx g1, endd_cut wy g2⟩
    refine ⟨p', (q' : Int) - p', y.take q', Nat.le_refl _, rfl, by simp [cutL], ?_, fun het t ht => ?_, fun t => ?_, fun h hh => ?_⟩
    · rw [h5 rfl _ (by simp), rightP, hH _ (fun g => by simp at g)]
      rfl
    · rw [List.append_assoc, h5 rfl _ (by simp)]
      show rightP (((p : Int), (q : Int), st) :: t) _ _ = _
      rw [rightP, hH _ (fun _ => he het hc), Bool.true_and]
      congr 1 <;> dsimp only <;> omega
    · rw [List.append_assoc, h6]
      show appR x (((p : Int), (q : Int), st) :: t) _ _ _ = _
      rw [appR]
      dsimp only
      have hn : (p : Int).toNat = p := by omega
      have ep : p + (lessL 2 st).length = p' := by omega
      rw [hn, ep, if_neg]
      · congr 1
        · rw [h3, hy, ← cut_take y q, cut_app y (Nat.zero_le _) hq, cut_take]
        · simp
      · rw [← hx]
        simp only [ne_eq, not_true_eq_false, or_false]
        omega
    · rcases List.mem_append.1 hh with hh | hh
      · exact h7 h hh
      · rw [List.mem_singleton] at hh
        subst hh
        exact ⟨by dsimp only; omega, by dsimp only; omega, by dsimp only; omega⟩
def JP (x y : List (List UInt8)) (n : Nat) (r : List StE) (s : Os) : Prop :=
  ∃ p q a b : Nat, ∃ e : Bool, s.2.1.1 = p ∧ s.2.1.2.1 = q ∧ s.2.2.1 = a ∧ s.2.2.2 = b ∧ p ≤ a ∧ q ≤ b ∧ QP x y s.1 p q e ∧ (e = true ∨ (s.2.1.2.2 = [] ∧ r = [])) ∧
    rightE (-1) (s.2.1.2.2 ++ r) = true ∧ lessL 2 s.2.1.2.2 = cutL x p a ∧ lessL 1 s.2.1.2.2 = cutL y q b ∧ x.drop a = lessL 2 r ∧ y.drop b = lessL 1 r ∧ a ≤ x.length ∧ b ≤ y.length
theorem less_own {j : Int} {s : StE} {r : List StE} (h : s.1 ≠ j) : lessL j (s :: r) = s.2 ++ lessL j r := by rw [lessL_cons, if_neg h]
theorem less_not {j : Int} {s : StE} {r : List StE} (h : s.1 = j) : lessL j (s :: r) = lessL j r := by rw [lessL_cons, if_pos h, List.nil_append]
theorem drop_lens {x l r : List (List UInt8)} {a : Nat} (h : x.drop a = l ++ r) (ha : a ≤ x.length) : a + l.length ≤ x.length := by
  have := congrArg List.length h
  rw [List.length_drop, List.length_append] at this
  omega
theorem J_step {x y : List (List UInt8)} (wx : wholeL x = true) (wy : wholeL y = true) (hbig : x.length ≤ 999999) {n : Nat} {r : List StE} {s : StE} {o : Os} {f : Bool} (hf : f = true → o.2.1.2.2 = [] ∧ o.1 = [])
    (h : JP x y n (s :: r) o) : JP x y n r (stepPt n f (decide (r = [])) s o) := by
  obtain ⟨p, q, a, b, e, e1, e2, e3, e4, h1, h2, hQ, he, hr, hx, hy, dx, dy, ha, hb⟩ := h
  have he : e = true := he.elim id fun g => by cases g.2
  subst he
  obtain ⟨hs, ⟨oa, ob, st⟩, ca, cb⟩ := o
  dsimp only at e1 e2 e3 e4 hQ hr hx hy
  subst e1 e2 e3 e4
  obtain ⟨k0, ts⟩ := s
  obtain ⟨sk, sn, sr⟩ := right_suf hr
  dsimp only at sk sn sr
  have hass : ∀ k, st ++ [(k, ts)] ++ r = st ++ (k, ts) :: r := fun k => by simp
  by_cases hk : k0 = 0
  · subst hk
    rw [less_own (by dsimp only; omega)] at dx dy
    dsimp only at dx dy
    have ax := drop_lens dx ha
    have bx := drop_lens dy hb
    obtain ⟨cx, dx'⟩ := cut_of_drop dx
    obtain ⟨cy, dy'⟩ := cut_of_drop dy
    by_cases hin : f = false ∧ decide (r = []) = false ∧ ts.length ≤ 2 * n
    · have es : stepPt n f (decide (r = [])) (0, ts) (hs, ((p : Int), (q : Int), st), (a : Int), (b : Int)) = (hs, ((p : Int), (q : Int), appP st 0 ts), (a : Int) + ts.length, (b : Int) + ts.length) := by
        unfold stepPt
        rw [if_neg (by simp), if_pos hin]
      rw [es]
      refine ⟨p, q, a + ts.length, b + ts.length, true, rfl, rfl, by simp, by simp, by omega, by omega, hQ, .inl rfl, ?_, ?_, ?_, dx', dy', ax, bx⟩
      · dsimp only
        rw [appP_ne sn, hass]; exact hr
      · dsimp only
        rw [lessL_appP, if_neg (by omega), hx, ← cut_app x h1 (Nat.le_add_right a _), cx]
      · dsimp only
        rw [lessL_appP, if_neg (by omega), hy, ← cut_app y h2 (Nat.le_add_right b _), cy]
    · have hbh : bhP n f (0, ts) ≤ ts.length := by unfold bhP; split <;> (try dsimp only) <;> omega
      have hah : ahP n (decide (r = [])) (0, ts) ≤ ts.length := by unfold ahP; split <;> (try dsimp only) <;> omega
      have hsum : bhP n f (0, ts) + ahP n (decide (r = [])) (0, ts) ≤ ts.length := by
        unfold bhP ahP
        dsimp only
        cases f with
        | true => first | (rw [if_pos rfl]; split <;> (try dsimp only) <;> omega) | (split <;> (try dsimp only) <;> omega) | omega
        | false =>
          cases hd : decide (r = []) with
          | true =>
            show min ts.length n + 0 ≤ ts.length
            omega
          | false =>
            have : ¬ ts.length ≤ 2 * n := fun g => hin ⟨rfl, hd, g⟩
            show min ts.length n + min ts.length n ≤ ts.length
            omega
      have hlast : decide (r = []) = false → chgP (appP st 0 (ts.take (bhP n f (0, ts)))) = true → bhP n f (0, ts) < ts.length := fun hd hc => by
        rw [chgP_app0] at hc
        cases f with
        | true =>
          have := (hf rfl).1
          dsimp only at this
          rw [this] at hc
          cases hc
        | false =>
          have : ¬ ts.length ≤ 2 * n := fun g => hin ⟨rfl, hd, g⟩
          unfold bhP
          dsimp only
          rw [if_neg (by simp)]
          omega
      have es : stepPt n f (decide (r = [])) (0, ts) (hs, ((p : Int), (q : Int), st), (a : Int), (b : Int)) = (clsP hs ((p : Int), (q : Int), appP st 0 (ts.take (bhP n f (0, ts)))),
          ((a : Int) + ts.length - ahP n (decide (r = [])) (0, ts), (b : Int) + ts.length - ahP n (decide (r = [])) (0, ts), appP [] 0 (ts.drop (ts.length - ahP n (decide (r = [])) (0, ts)))), (a : Int) + ts.length, (b : Int) + ts.length) := by
        unfold stepPt
        rw [if_neg (by simp), if_neg hin]
      rw [es]
      generalize hB : bhP n f (0, ts) = B at *
      generalize hA : ahP n (decide (r = [])) (0, ts) = A at *
      have lB : (ts.take B).length = B := by rw [List.length_take]; omega
      have lA : (ts.drop (ts.length - A)).length = A := by rw [List.length_drop]; omega
      -- what is taken behind
      have dxB : x.drop a = ts.take B ++ (ts.drop B ++ lessL 2 r) := by rw [← List.append_assoc, List.take_append_drop]; exact dx
      have dyB : y.drop b = ts.take B ++ (ts.drop B ++ lessL 1 r) := by rw [← List.append_assoc, List.take_append_drop]; exact dy
      obtain ⟨cxB, dxB'⟩ := cut_of_drop dxB
      obtain ⟨cyB, dyB'⟩ := cut_of_drop dyB
      rw [lB] at cxB cyB dxB' dyB'
      have Q1 : QP x y (clsP hs ((p : Int), (q : Int), appP st 0 (ts.take B))) (a + B) (b + B) (!decide (r = [])) :=
        Q_close wx wy hbig hQ (by omega) (by omega) (by omega) (by omega)
          (by rw [lessL_appP, if_neg (by omega), hx, ← cut_app x h1 (Nat.le_add_right a _), cxB])
          (by rw [lessL_appP, if_neg (by omega), hy, ← cut_app y h2 (Nat.le_add_right b _), cyB]) (right_app hr)
          (fun g c => by
            have := hlast (by simpa using g) c
            omega)
      -- what is left out
      have hgap : ts.drop B = (ts.drop B).take (ts.length - A - B) ++ ts.drop (ts.length - A) := by
        have := List.take_append_drop (ts.length - A - B) (ts.drop B)
        rw [List.drop_drop, show B + (ts.length - A - B) = ts.length - A by omega] at this
        exact this.symm
      have lG : ((ts.drop B).take (ts.length - A - B)).length = ts.length - A - B := by rw [List.length_take, List.length_drop]; omega
      rw [hgap, List.append_assoc] at dxB' dyB'
      obtain ⟨cxG, dxG⟩ := cut_of_drop dxB'
      obtain ⟨cyG, dyG⟩ := cut_of_drop dyB'
      rw [lG] at cxG cyG dxG dyG
      have Q2 := Q_gap Q1 (cxG.trans cyG.symm)
      obtain ⟨cxA, _⟩ := cut_of_drop dxG
      obtain ⟨cyA, _⟩ := cut_of_drop dyG
      rw [lA] at cxA cyA
      have ea : a + B + (ts.length - A - B) + A = a + ts.length := by omega
      have eb : b + B + (ts.length - A - B) + A = b + ts.length := by omega
      rw [ea] at cxA
      rw [eb] at cyA
      refine ⟨a + B + (ts.length - A - B), b + B + (ts.length - A - B), a + ts.length, b + ts.length, (!decide (r = [])), by dsimp only; omega, by dsimp only; omega, by simp, by simp, by omega, by omega, Q2, ?_, ?_, ?_, ?_, dx', dy', ax, bx⟩
      · by_cases hre : r = []
        · right
          refine ⟨?_, hre⟩
          have : A = 0 := by
            rw [← hA]
            unfold ahP
            rw [if_pos (by simp [hre])]
          dsimp only
          rw [this, Nat.sub_zero, List.drop_length, appP_nil]
        · left; simp [hre]
      · exact right_new sr _
      · dsimp only
        rw [lessL_appP, if_neg (by omega), cxA]
        rfl
      · dsimp only
        rw [lessL_appP, if_neg (by omega), cyA]
        rfl
  · have es : stepPt n f (decide (r = [])) (k0, ts) (hs, ((p : Int), (q : Int), st), (a : Int), (b : Int)) = (hs, ((p : Int), (q : Int), appP st k0 ts), (a : Int) + pasA (k0, ts), (b : Int) + pasB (k0, ts)) := by
      unfold stepPt
      rw [if_pos hk]
    rw [es]
    have hR : rightE (-1) (appP st k0 ts ++ r) = true := by rw [appP_ne sn, hass]; exact hr
    rcases sk with g | g | g
    · exact absurd g hk
    · subst g
      rw [less_own (by dsimp only; omega)] at dx
      rw [less_not (j := 1) (s := (1, ts)) rfl] at dy
      dsimp only at dx
      have ax := drop_lens dx ha
      obtain ⟨cx, dx'⟩ := cut_of_drop dx
      refine ⟨p, q, a + ts.length, b, true, rfl, rfl, by simp [pasA], by simp [pasB], by omega, h2, hQ, .inl rfl, hR, ?_, ?_, dx', dy, ax, hb⟩
      · dsimp only
        rw [lessL_appP, if_neg (by omega), hx, ← cut_app x h1 (Nat.le_add_right a _), cx]
      · dsimp only
        rw [lessL_appP, if_pos rfl, List.append_nil, hy]
    · subst g
      rw [less_own (by dsimp only; omega)] at dy
      rw [less_not (j := 2) (s := (2, ts)) rfl] at dx
      dsimp only at dy
      have bx := drop_lens dy hb
      obtain ⟨cy, dy'⟩ := cut_of_drop dy
      refine ⟨p, q, a, b + ts.length, true, rfl, rfl, by simp [pasA], by simp [pasB], h1, by omega, hQ, .inl rfl, hR, ?_, ?_, dx, dy', ha, bx⟩
      · dsimp only
        rw [lessL_appP, if_pos rfl, List.append_nil, hx]
      · dsimp only
        rw [lessL_appP, if_neg (by omega), hy, ← cut_app y h2 (Nat.le_add_right b _), cy]
theorem drop_step {L : List StE} {i : Nat} (h : i < L.length) : L.drop i = L.getD i (0, []) :: L.drop (i + 1) := by
  rw [List.drop_eq_getElem_cons h]
  simp [List.getD, List.getElem?_eq_getElem h]
theorem J_at {L : List StE} {x y : List (List UInt8)} (hr : rightE (-1) L = true) (hx : lessL 2 L = x) (hy : lessL 1 L = y) (wx : wholeL x = true) (wy : wholeL y = true) (hbig : x.length ≤ 999999) (n : Nat) : ∀ i, i ≤ L.length → JP x y n (L.drop i) (ofI L n i)
  | 0, _ => ⟨0, 0, 0, 0, true, rfl, rfl, rfl, rfl, Nat.le_refl _, Nat.le_refl _, Q_start x y, .inl rfl, hr, rfl, rfl, by simp [hx], by simp [hy], Nat.zero_le _, Nat.zero_le _⟩
  | i + 1, h => by
    have ih := J_at hr hx hy wx wy hbig n i (by omega)
    rw [drop_step (by omega)] at ih
    have hd : (decide (i + 1 = L.length)) = decide (L.drop (i + 1) = []) := by
      rw [decide_eq_decide, List.drop_eq_nil_iff]
      omega
    rw [ofI, hd]
    refine J_step wx wy hbig (fun g => ?_) ih
    have : i = 0 := by simpa using g
    subst this
    exact ⟨rfl, rfl⟩
theorem ofP_all {L : List StE} {x y : List (List UInt8)} (hr : rightE (-1) L = true) (hx : lessL 2 L = x) (hy : lessL 1 L = y) (wx : wholeL x = true) (wy : wholeL y = true) (hbig : x.length ≤ 999999) (n : Nat) :
    rightP (ofP L n) 0 0 = true ∧ appR x (ofP L n) 0 [] 0 = (y.flatten, 0, -1) ∧ ∀ h ∈ ofP L n, 0 ≤ h.1 ∧ 0 ≤ h.2.1 ∧ h.2.1 ≤ y.length := by
  have hJ := J_at hr hx hy wx wy hbig n L.length (Nat.le_refl _)
  rw [List.drop_length] at hJ
  unfold ofP
  generalize ofI L n L.length = o at *
  obtain ⟨hs, ⟨oa, ob, st⟩, ca, cb⟩ := o
  obtain ⟨p, q, a, b, e, e1, e2, e3, e4, h1, h2, hQ, he, hR, hcx, hcy, dx, dy, ha, hb⟩ := hJ
  dsimp only at e1 e2 e3 e4 hQ he hR hcx hcy ⊢
  subst e1 e2 e3 e4
  rw [List.append_nil] at hR
  have a1 : a = x.length := by
    have := congrArg List.length dx
    rw [List.length_drop] at this
    have e0 : (lessL 2 ([] : List StE)).length = 0 := rfl
    omega
  have b1 : b = y.length := by
    have := congrArg List.length dy
    rw [List.length_drop] at this
    have e0 : (lessL 1 ([] : List StE)).length = 0 := rfl
    omega
  subst a1 b1
  have Q : QP x y (clsP hs ((p : Int), (q : Int), st)) x.length y.length false := by
    cases e with
    | true => exact Q_close wx wy hbig hQ h1 (Nat.le_refl _) h2 (Nat.le_refl _) hcx hcy hR (fun g => by cases g)
    | false =>
      have hst : st = [] := he.elim (fun g => by cases g) fun g => g.1
      subst hst
      have e1 : clsP hs ((p : Int), (q : Int), []) = hs := rfl
      rw [e1]
      have lx := congrArg List.length hcx
      have ly := congrArg List.length hcy
      rw [cutL_len _ (Nat.le_refl _)] at lx ly
      have e0 : (lessL 2 ([] : List StE)).length = 0 := rfl
      have e0' : (lessL 1 ([] : List StE)).length = 0 := rfl
      obtain rfl : p = x.length := by omega
      obtain rfl : q = y.length := by omega
      exact hQ
  obtain ⟨at', sh, ch, g1, g2, g3, g4, _, g6, g7⟩ := Q
  refine ⟨g4, ?_, g7⟩
  have := g6 []
  rw [List.append_nil] at this
  rw [this, appR]
  rw [cutL_end, List.take_length] at g3
  rw [g3, if_pos wy]
theorem cls_len (hs : List Hk) (o : Hk) : (clsP hs o).length = if chgP o.2.2 = true then hs.length + 1 else hs.length := by
  unfold clsP
  split <;> simp
theorem right_ne {k : Int} : ∀ {L : List StE}, rightE k L = true → ∀ s ∈ L, s.2.length ≠ 0 := by
  intro L
  induction L generalizing k with
  | nil => intro _ s hs; cases hs
  | cons t L ih =>
    intro h s hs
    rw [rightE_cons] at h
    rcases List.mem_cons.1 hs with rfl | hs
    · exact h.1.2
    · exact ih h.2.2 s hs
end Go.Proofs.YthpjjjnbkfnghaaGreatDoor
set_option linter.unusedSimpArgs false
set_option linter.unusedVariables false
namespace Go.Proofs.YthpjjjnbkfnghaaGreatDoor
open Go
def noEndB : List UInt8 := [92, 32, 110, 111, 32, 101, 110, 100, 10]
def opnB : List UInt8 := [37, 37, 32, 45]
def btwB : List UInt8 := [32, 43]
def clsB : List UInt8 := [32, 37, 37, 10]
def sgnB (k : Int) : UInt8 := [32, 45, 43].getD k.toNat 0
def lineP (k : Int) (s : List UInt8) : List UInt8 := sgnB k :: s ++ (if endsL s = true then [] else 10 :: noEndB)
def placeP (a : Int) (n : Int) : List UInt8 := Lib.itoa (a + 1) ++ [44] ++ Lib.itoa n
def headP (h : Hk) : List UInt8 := opnB ++ placeP h.1 (countL 0 h.2.2 + countL 1 h.2.2) ++ btwB ++ placeP h.2.1 (countL 0 h.2.2 + countL 2 h.2.2) ++ clsB
def stepT (s : StE) : List UInt8 := (s.2.map (lineP s.1)).flatten
def hunkT (h : Hk) : List UInt8 := headP h ++ (h.2.2.map stepT).flatten
def txtH (l : List Hk) : List UInt8 := (l.map hunkT).flatten
def textP0 (l : List Hk) : List UInt8 := if rightP l 0 0 = true then txtH l else []
def rdIn (line : List UInt8) : List UInt8 := Lib.trimSuffix (Lib.trimPrefix line opnB) clsB
def rdX (line : List UInt8) : List UInt8 × List UInt8 × Bool := Lib.cut (rdIn line) btwB
def rdA (line : List UInt8) : List UInt8 × List UInt8 × Bool := Lib.cut (rdX line).1 [44]
def rdB (line : List UInt8) : List UInt8 × List UInt8 × Bool := Lib.cut (rdX line).2.1 [44]
def rdOK (line : List UInt8) : Bool := (rdX line).2.2 && ((rdA line).2.2 && (rdB line).2.2)
def rdH (line : List UInt8) : Hk := (((Lib.atoi (rdA line).1).getD 0) - 1, ((Lib.atoi (rdB line).1).getD 0) - 1, [])
def numOK (line : List UInt8) : Prop := rdOK line = true → ((rdA line).1.length ≤ 18 ∧ (Lib.atoi (rdA line).1).isSome = true) ∧ ((rdB line).1.length ≤ 18 ∧ (Lib.atoi (rdB line).1).isSome = true)
def isHd (line : List UInt8) : Bool := Lib.hasPrefix line opnB
def addS (l : List StE) (k : Int) (t : List UInt8) : List StE := match l.getLast? with
  | some s => if s.1 = k then l.dropLast ++ [(k, s.2 ++ [t])] else l ++ [(k, [t])]
  | none => [(k, [t])]
def cutS0 (l : List StE) : List StE := match l.getLast? with
  | some s => l.dropLast ++ [(s.1, s.2.dropLast ++ [Lib.trimSuffix (s.2.getLast?.getD []) [10]])]
  | none => []
def kindB (line : List UInt8) : Int := Lib.indexByte [32, 45, 43] (line.getD 0 0)
def rdS (l : List StE) (line : List UInt8) : Option (List StE) :=
  if line = noEndB then (if l = [] then none else some (cutS0 l)) else if kindB line < 0 then none else some (addS l (kindB line) (line.drop 1))
def rdL (l : List Hk) (line : List UInt8) : Option (List Hk) := match l.getLast? with
  | none => none
  | some h => (rdS h.2.2 line).map fun st => l.dropLast ++ [(h.1, h.2.1, st)]
def rd1 (l : List Hk) (line : List UInt8) : Option (List Hk) := if isHd line = true then (if rdOK line = true then some (l ++ [rdH line]) else none) else rdL l line
def rdAll : List (List UInt8) → List Hk → Option (List Hk)
  | [], l => some l
  | x :: r, l => match rd1 l x with
    | none => none
    | some m => rdAll r m
def parseP (s : List UInt8) : List Hk × Int := match rdAll (splitL s) [] with
  | none => ([], 11)
  | some l => if rightP l 0 0 = true ∧ textP0 l = s then (l, 0) else ([], 11)
theorem dec_dig : ∀ (m u : Nat), u ≤ m → (∀ c ∈ Lib.decDigits u, 48 ≤ c.toNat ∧ c.toNat ≤ 57) ∧ Lib.decDigits u ≠ [] ∧ Lib.decFrom 0 (Lib.decDigits u) = some u := by
  have app : ∀ (a b : List UInt8) (acc n : Nat), Lib.decFrom acc a = some n → Lib.decFrom acc (a ++ b) = Lib.decFrom n b := by
    intro a
    induction a with
    | nil => intro b acc n h; simp only [Lib.decFrom, Option.some.injEq] at h; rw [h]; rfl
    | cons c a ih =>
      intro b acc n h
      rw [List.cons_append]
      simp only [Lib.decFrom] at h ⊢
      cases hd : Lib.digitVal c with
      | none => rw [hd] at h; cases h
      | some d => rw [hd] at h; exact ih b _ n h
  have dv : ∀ d : Nat, d < 10 → Lib.digitVal (UInt8.ofNat (48 + d)) = some d ∧ 48 ≤ (UInt8.ofNat (48 + d)).toNat ∧ (UInt8.ofNat (48 + d)).toNat ≤ 57 := by decide
  intro m
  induction m with
  | zero =>
    intro u hu
    obtain rfl : u = 0 := by omega
    rw [Lib.decDigits, dif_pos (by omega)]
    refine ⟨fun c hc => ?_, by simp, by decide⟩
    rw [List.mem_singleton] at hc
    subst hc
    exact (dv 0 (by omega)).2
  | succ m ih =>
    intro u hu
    by_cases h : u < 10
    · rw [Lib.decDigits, dif_pos h]
      refine ⟨fun c hc => ?_, by simp, ?_⟩
      · rw [List.mem_singleton] at hc
        subst hc
        exact (dv u h).2
      · simp only [Lib.decFrom, (dv u h).1]
        simp
    · rw [Lib.decDigits, dif_neg h]
      obtain ⟨i1, i2, i3⟩ := ih (u / 10) (by omega)
      refine ⟨fun c hc => ?_, by simp, ?_⟩
      · rcases List.mem_append.1 hc with hc | hc
        · exact i1 c hc
        · rw [List.mem_singleton] at hc
          subst hc
          exact (dv (u % 10) (Nat.mod_lt _ (by omega))).2
      · rw [app _ _ _ _ i3]
        simp only [Lib.decFrom, (dv (u % 10) (Nat.mod_lt _ (by omega))).1]
        simp
        omega
theorem itoa_dig {n : Int} (h : 0 ≤ n) : (∀ c ∈ Lib.itoa n, 48 ≤ c.toNat ∧ c.toNat ≤ 57) ∧ Lib.itoa n ≠ [] ∧ Lib.atoi (Lib.itoa n) = some n := by
  obtain ⟨k, rfl⟩ := Int.eq_ofNat_of_zero_le h
  have e : Lib.itoa (k : Int) = Lib.decDigits k := by unfold Lib.itoa; rw [if_neg (by omega)]; rfl
  obtain ⟨h1, h2, h3⟩ := dec_dig k k (Nat.le_refl _)
  rw [e]
  refine ⟨h1, h2, ?_⟩
  cases hl : Lib.decDigits k with
  | nil => exact absurd hl h2
  | cons b r =>
    have hb := h1 b (by rw [hl]; simp)
    have n1 : (b == 45) = false := by
      rw [beq_eq_false_iff_ne]
      intro e
      have := congrArg UInt8.toNat e
      have e2 : (45 : UInt8).toNat = 45 := rfl
      omega
    have n2 : (b == 43) = false := by
      rw [beq_eq_false_iff_ne]
      intro e
      have := congrArg UInt8.toNat e
      have e2 : (43 : UInt8).toNat = 43 := rfl
      omega
    unfold Lib.atoi
    dsimp only
    rw [n1, n2]
    unfold Lib.decNat
    rw [hl] at h3
    simp [h3]
theorem dec_len : ∀ (k u : Nat), 1 ≤ k → u < 10 ^ k → (Lib.decDigits u).length ≤ k
  | 0, _, h, _ => by omega
  | k + 1, u, _, h => by
    by_cases h1 : u < 10
    · rw [Lib.decDigits, dif_pos h1]; simp
    · rw [Lib.decDigits, dif_neg h1, List.length_append]
      have hk : 1 ≤ k := by
        rcases Nat.eq_zero_or_pos k with e | e
        · subst e; omega
        · exact e
      have := dec_len k (u / 10) hk (by rw [Nat.pow_succ] at h; omega)
      simp only [List.length_cons, List.length_nil]
      omega
theorem itoa_len {n : Int} (h : 0 ≤ n) (h2 : n < 100000000) : (Lib.itoa n).length ≤ 8 := by
  obtain ⟨k, rfl⟩ := Int.eq_ofNat_of_zero_le h
  unfold Lib.itoa
  rw [if_neg (by omega)]
  exact dec_len 8 _ (by omega) (by rw [Int.toNat_natCast]; have : (10 : Nat) ^ 8 = 100000000 := by decide
                                   omega)
theorem index_at {c : UInt8} {t : List UInt8} : ∀ (a b : List UInt8), c ∉ a → Lib.index (a ++ ((c :: t) ++ b)) (c :: t) = a.length
  | [], b, _ => by
    rw [List.nil_append, List.cons_append, Lib.index, if_pos]
    · rfl
    · exact List.isPrefixOf_iff_prefix.2 (by rw [← List.cons_append]; exact List.prefix_append _ _)
  | x :: a, b, h => by
    rw [List.mem_cons, not_or] at h
    rw [List.cons_append, Lib.index, if_neg, index_at a b h.2, if_neg]
    · simp
    · rw [beq_iff_eq]; omega
    · rw [List.isPrefixOf_cons_cons]
      simp [h.1]
theorem cut_at {c : UInt8} {t a b : List UInt8} (h : c ∉ a) : Lib.cut (a ++ ((c :: t) ++ b)) (c :: t) = (a, b, true) := by
  unfold Lib.cut
  rw [index_at a b h, if_pos (by omega), Int.toNat_natCast, List.take_left' rfl]
  congr 2
  rw [← List.append_assoc, List.drop_left' (by simp)]
theorem trimP_at (p r : List UInt8) : Lib.trimPrefix (p ++ r) p = r := by
  unfold Lib.trimPrefix Lib.hasPrefix
  rw [if_pos (List.isPrefixOf_iff_prefix.2 (List.prefix_append _ _)), List.drop_left' rfl]
theorem trimS_at (p r : List UInt8) : Lib.trimSuffix (r ++ p) p = r := by
  unfold Lib.trimSuffix Lib.hasSuffix
  rw [if_pos (List.isSuffixOf_iff_suffix.2 (List.suffix_append _ _)), List.length_append, Nat.add_sub_cancel, List.take_left' rfl]
theorem not_dig {c : UInt8} {l : List UInt8} (h : ∀ x ∈ l, 48 ≤ x.toNat ∧ x.toNat ≤ 57) (hc : c.toNat < 48) : c ∉ l := fun hm => by
  have := h c hm
  omega
theorem place_no {c : UInt8} {a n : Int} (ha : 0 ≤ a + 1) (hn : 0 ≤ n) (hc : c.toNat < 48) (h44 : c.toNat ≠ 44) : c ∉ placeP a n := by
  unfold placeP
  simp only [List.mem_append, List.mem_singleton, not_or]
  refine ⟨⟨not_dig (itoa_dig ha).1 hc, fun e => ?_⟩, not_dig (itoa_dig hn).1 hc⟩
  subst e
  exact h44 rfl
theorem head_read (h : Hk) (hA : 0 ≤ h.1) (hA2 : h.1 ≤ 999999) (hB : 0 ≤ h.2.1) (hB2 : h.2.1 ≤ 9999999) : rdOK (headP h) = true ∧ rdH (headP h) = (h.1, h.2.1, []) ∧ numOK (headP h) ∧ isHd (headP h) = true := by
  have e1 : rdIn (headP h) = placeP h.1 (countL 0 h.2.2 + countL 1 h.2.2) ++ ((32 :: [43]) ++ placeP h.2.1 (countL 0 h.2.2 + countL 2 h.2.2)) := by
    unfold rdIn headP
    rw [List.append_assoc, List.append_assoc, List.append_assoc, trimP_at, ← List.append_assoc, ← List.append_assoc, trimS_at, List.append_assoc]
    rfl
  have e2 : rdX (headP h) = (placeP h.1 (countL 0 h.2.2 + countL 1 h.2.2), placeP h.2.1 (countL 0 h.2.2 + countL 2 h.2.2), true) := by
    unfold rdX
    rw [e1]
    exact cut_at (place_no (by omega) (by omega) (by decide) (by decide))
  have e3 : ∀ (a n : Int), 0 ≤ a + 1 → Lib.cut (placeP a n) [44] = (Lib.itoa (a + 1), Lib.itoa n, true) := fun a n ha => by
    unfold placeP
    rw [List.append_assoc]
    exact cut_at (t := []) (not_dig (itoa_dig ha).1 (by decide))
  have e4 : rdA (headP h) = (Lib.itoa (h.1 + 1), Lib.itoa (countL 0 h.2.2 + countL 1 h.2.2), true) := by
    unfold rdA; rw [e2]; exact e3 _ _ (by omega)
  have e5 : rdB (headP h) = (Lib.itoa (h.2.1 + 1), Lib.itoa (countL 0 h.2.2 + countL 2 h.2.2), true) := by
    unfold rdB; rw [e2]; exact e3 _ _ (by omega)
  refine ⟨by unfold rdOK; rw [e2, e4, e5]; rfl, ?_, fun _ => ?_, ?_⟩
  · unfold rdH
    rw [e4, e5, (itoa_dig (show 0 ≤ h.1 + 1 by omega)).2.2, (itoa_dig (show 0 ≤ h.2.1 + 1 by omega)).2.2]
    simp <;> omega
  · rw [e4, e5]
    dsimp only
    rw [(itoa_dig (show 0 ≤ h.1 + 1 by omega)).2.2, (itoa_dig (show 0 ≤ h.2.1 + 1 by omega)).2.2]
    have l1 := itoa_len (show 0 ≤ h.1 + 1 by omega) (by omega)
    have l2 := itoa_len (show 0 ≤ h.2.1 + 1 by omega) (by omega)
    exact ⟨⟨by omega, rfl⟩, by omega, rfl⟩
  · unfold isHd headP Lib.hasPrefix
    rw [List.append_assoc, List.append_assoc, List.append_assoc]
    exact List.isPrefixOf_iff_prefix.2 (List.prefix_append _ _)
def lnsP (k : Int) (t : List UInt8) : List (List UInt8) := if endsL t = true then [sgnB k :: t] else [sgnB k :: (t ++ [10]), noEndB]
def stepLs (s : StE) : List (List UInt8) := s.2.flatMap (lnsP s.1)
def hunkLs (h : Hk) : List (List UInt8) := headP h :: h.2.2.flatMap stepLs
def linesH (l : List Hk) : List (List UInt8) := l.flatMap hunkLs
theorem lns_flat (k : Int) (t : List UInt8) : (lnsP k t).flatten = lineP k t := by
  unfold lnsP lineP
  split
  · simp
  · simp
theorem flatMap_flat {α : Type} {f : α → List (List UInt8)} {g : α → List UInt8} (h : ∀ x, (f x).flatten = g x) : ∀ l : List α, (l.flatMap f).flatten = (l.map g).flatten
  | [] => rfl
  | x :: l => by rw [List.flatMap_cons, List.flatten_append, h, flatMap_flat h l]; rfl
theorem lines_flat (l : List Hk) : (linesH l).flatten = txtH l :=
  flatMap_flat (fun h => by
    unfold hunkLs hunkT
    rw [List.flatten_cons, flatMap_flat (f := stepLs) (g := stepT) (fun s => flatMap_flat (fun t => lns_flat s.1 t) s.2)]) l
theorem one_cases {t : List UInt8} (h : oneL t = true) : ∃ p : List UInt8, (10 : UInt8) ∉ p ∧ ((t = p ++ [10] ∧ endsL t = true) ∨ (t = p ∧ p ≠ [] ∧ endsL t = false)) := by
  rcases idx_cases t with ⟨_, hno⟩ | ⟨p, r, rfl, hp, _⟩
  · refine ⟨t, hno, .inr ⟨rfl, ?_, endsL_no t hno⟩⟩
    rintro rfl
    simp [oneL, splitL] at h
  · rw [oneL_cut p r hp] at h
    have : r = [] := by simpa using h
    subst this
    exact ⟨p, hp, .inl ⟨rfl, by simp [endsL]⟩⟩
theorem sgn_ten (k : Int) (hk : k = 0 ∨ k = 1 ∨ k = 2) : (10 : UInt8) ≠ sgnB k := by
  rcases hk with rfl | rfl | rfl <;> decide
def linedP (x : List UInt8) : Prop := ∃ p : List UInt8, (10 : UInt8) ∉ p ∧ x = p ++ [10]
theorem split_ends : ∀ (l : List (List UInt8)), (∀ x ∈ l, linedP x) → splitL l.flatten = l
  | [], _ => by simp [splitL]
  | x :: l, h => by
    obtain ⟨p, hp, rfl⟩ := h x (List.mem_cons_self ..)
    have e : ((p ++ [10]) :: l).flatten = p ++ 10 :: l.flatten := by simp
    rw [e, splitL_cut p _ hp, split_ends l fun y hy => h y (List.mem_cons_of_mem _ hy)]
def okHk (h : Hk) : Prop := (0 ≤ h.1 ∧ h.1 ≤ 999999 ∧ 0 ≤ h.2.1 ∧ h.2.1 ≤ 9999999) ∧ rightE (-1) h.2.2 = true ∧ ∀ s ∈ h.2.2, ∀ t ∈ s.2, oneL t = true
theorem right_kind {k : Int} {l : List StE} (h : rightE k l = true) : ∀ s ∈ l, (s.1 = 0 ∨ s.1 = 1 ∨ s.1 = 2) := fun s hs => by
  have := right_kinds h s hs
  omega
theorem lns_lined {k : Int} {t : List UInt8} (hk : k = 0 ∨ k = 1 ∨ k = 2) (ht : oneL t = true) : ∀ x ∈ lnsP k t, linedP x := by
  obtain ⟨p, hp, ⟨rfl, he⟩ | ⟨rfl, _, he⟩⟩ := one_cases ht
  · unfold lnsP
    rw [if_pos he]
    intro x hx
    rw [List.mem_singleton] at hx
    subst hx
    exact ⟨sgnB k :: p, by rw [List.mem_cons, not_or]; exact ⟨sgn_ten k hk, hp⟩, rfl⟩
  · unfold lnsP
    rw [if_neg (by rw [he]; simp)]
    intro x hx
    rcases List.mem_cons.1 hx with rfl | hx
    · exact ⟨sgnB k :: t, by rw [List.mem_cons, not_or]; exact ⟨sgn_ten k hk, hp⟩, rfl⟩
    · rw [List.mem_singleton] at hx
      subst hx
      exact ⟨[92, 32, 110, 111, 32, 101, 110, 100], by decide, rfl⟩
theorem head_lined {h : Hk} (hA : 0 ≤ h.1) (hB : 0 ≤ h.2.1) : linedP (headP h) := by
  refine ⟨opnB ++ placeP h.1 (countL 0 h.2.2 + countL 1 h.2.2) ++ btwB ++ placeP h.2.1 (countL 0 h.2.2 + countL 2 h.2.2) ++ [32, 37, 37], ?_, ?_⟩
  · simp only [List.mem_append, not_or]
    exact ⟨⟨⟨⟨by decide, place_no (by omega) (by omega) (by decide) (by decide)⟩, by decide⟩, place_no (by omega) (by omega) (by decide) (by decide)⟩, by decide⟩
  · unfold headP
    rw [List.append_assoc _ [32, 37, 37] [10]]
    rfl
theorem split_txt {l : List Hk} (h : ∀ x ∈ l, okHk x) : splitL (txtH l) = linesH l := by
  rw [← lines_flat]
  refine split_ends _ fun x hx => ?_
  unfold linesH at hx
  obtain ⟨k, hk, hx⟩ := List.mem_flatMap.1 hx
  obtain ⟨⟨h1, h2, h3, h4⟩, hr, ho⟩ := h k hk
  rcases List.mem_cons.1 hx with rfl | hx
  · exact head_lined h1 h3
  · obtain ⟨s, hs, hx⟩ := List.mem_flatMap.1 hx
    unfold stepLs at hx
    obtain ⟨t, ht, hx⟩ := List.mem_flatMap.1 hx
    exact lns_lined (right_kind hr s hs) (ho s hs t ht) x hx
theorem rdAll_app : ∀ (xs ys : List (List UInt8)) (l m : List Hk), rdAll xs l = some m → rdAll (xs ++ ys) l = rdAll ys m
  | [], ys, l, m, h => by rw [rdAll, Option.some.injEq] at h; rw [h]; rfl
  | x :: xs, ys, l, m, h => by
    rw [List.cons_append, rdAll]
    rw [rdAll] at h
    cases h1 : rd1 l x with
    | none => rw [h1] at h; cases h
    | some l' => rw [h1] at h; exact rdAll_app xs ys l' m h
theorem rdL_snoc (l : List Hk) (h : Hk) (line : List UInt8) : rdL (l ++ [h]) line = (rdS h.2.2 line).map fun st => l ++ [(h.1, h.2.1, st)] := by
  unfold rdL
  rw [List.getLast?_append, List.getLast?_singleton, Option.some_or]
  simp
theorem sgn_facts {k : Int} (hk : k = 0 ∨ k = 1 ∨ k = 2) (t : List UInt8) : isHd (sgnB k :: t) = false ∧ sgnB k :: t ≠ noEndB ∧ kindB (sgnB k :: t) = k := by
  have hh : ∀ c : UInt8, c ≠ 37 → isHd (c :: t) = false := fun c hc => by
    unfold isHd Lib.hasPrefix opnB
    rw [List.isPrefixOf_cons_cons]
    simp [Ne.symm hc]
  have hn : ∀ c : UInt8, c ≠ 92 → c :: t ≠ noEndB := fun c hc e => by
    unfold noEndB at e
    injection e with e1 e2
    exact hc e1
  rcases hk with rfl | rfl | rfl
  · exact ⟨hh 32 (by decide), hn 32 (by decide), by unfold kindB; rw [List.getD_cons_zero]; decide⟩
  · exact ⟨hh 45 (by decide), hn 45 (by decide), by unfold kindB; rw [List.getD_cons_zero]; decide⟩
  · exact ⟨hh 43 (by decide), hn 43 (by decide), by unfold kindB; rw [List.getD_cons_zero]; decide⟩
theorem rdS_sgn {k : Int} (hk : k = 0 ∨ k = 1 ∨ k = 2) (st : List StE) (t : List UInt8) : rdS st (sgnB k :: t) = some (addS st k t) := by
  obtain ⟨h1, h2, h3⟩ := sgn_facts hk t
  unfold rdS
  rw [if_neg h2, if_neg (by rw [h3]; omega), h3]
  rfl
theorem addS_ne (st : List StE) (k : Int) (t : List UInt8) : ∃ m ts, addS st k t = m ++ [(k, ts ++ [t])] ∧ ∀ t', addS st k t' = m ++ [(k, ts ++ [t'])] := by
  unfold addS
  cases hl : st.getLast? with
  | none => exact ⟨[], [], rfl, fun _ => rfl⟩
  | some s =>
    by_cases h : s.1 = k
    · exact ⟨st.dropLast, s.2, by simp [h], fun t' => by simp [h]⟩
    · exact ⟨st, [], by simp [h], fun t' => by simp [h]⟩
theorem rd_lns {k : Int} (hk : k = 0 ∨ k = 1 ∨ k = 2) {t : List UInt8} (ht : oneL t = true) (l : List Hk) (A B : Int) (st : List StE) : rdAll (lnsP k t) (l ++ [(A, B, st)]) = some (l ++ [(A, B, addS st k t)]) := by
  have one : ∀ (t : List UInt8), rd1 (l ++ [(A, B, st)]) (sgnB k :: t) = some (l ++ [(A, B, addS st k t)]) := fun t => by
    unfold rd1
    rw [if_neg (by rw [(sgn_facts hk t).1]; simp), rdL_snoc]
    dsimp only
    rw [rdS_sgn hk]
    rfl
  by_cases he : endsL t = true
  · unfold lnsP
    rw [if_pos he, rdAll, one]
    rfl
  · unfold lnsP
    rw [if_neg he, rdAll, one]
    dsimp only
    have e2 : rd1 (l ++ [(A, B, addS st k (t ++ [10]))]) noEndB = some (l ++ [(A, B, addS st k t)]) := by
      obtain ⟨m, ts, e, e'⟩ := addS_ne st k (t ++ [10])
      unfold rd1
      rw [if_neg (by decide), rdL_snoc]
      dsimp only
      unfold rdS
      rw [if_pos rfl, e, if_neg (by simp), e' t]
      unfold cutS0
      rw [List.getLast?_append, List.getLast?_singleton, Option.some_or]
      dsimp only
      rw [List.dropLast_concat, List.dropLast_concat, List.getLast?_append, List.getLast?_singleton, Option.some_or]
      simp only [Option.getD_some, Option.map_some]
      rw [trimS_at]
    rw [rdAll, e2]
    rfl
theorem rd_texts {k : Int} (hk : k = 0 ∨ k = 1 ∨ k = 2) (l : List Hk) (A B : Int) : ∀ (ts : List (List UInt8)) (st : List StE), (∀ t ∈ ts, oneL t = true) → rdAll (ts.flatMap (lnsP k)) (l ++ [(A, B, st)]) = some (l ++ [(A, B, ts.foldl (fun s t => addS s k t) st)])
  | [], st, _ => by rw [List.flatMap_nil, rdAll]; rfl
  | t :: ts, st, h => by
    rw [List.flatMap_cons, rdAll_app _ _ _ _ (rd_lns hk (h t (List.mem_cons_self ..)) l A B st), rd_texts hk l A B ts _ fun x hx => h x (List.mem_cons_of_mem _ hx)]
    rfl
theorem add_same (st : List StE) (k : Int) : ∀ (ts us : List (List UInt8)), ts.foldl (fun s t => addS s k t) (st ++ [(k, us)]) = st ++ [(k, us ++ ts)]
  | [], us => by simp
  | t :: ts, us => by
    rw [List.foldl_cons]
    have : addS (st ++ [(k, us)]) k t = st ++ [(k, us ++ [t])] := by
      unfold addS
      rw [List.getLast?_append, List.getLast?_singleton, Option.some_or]
      simp
    rw [this, add_same st k ts (us ++ [t]), List.append_assoc]
    rfl
theorem add_new {st : List StE} {k : Int} (h : ∀ s ∈ st.getLast?, s.1 ≠ k) {ts : List (List UInt8)} (hn : ts.length ≠ 0) : ts.foldl (fun s t => addS s k t) st = st ++ [(k, ts)] := by
  cases ts with
  | nil => simp at hn
  | cons t ts =>
    rw [List.foldl_cons]
    have : addS st k t = st ++ [(k, [t])] := by
      unfold addS
      cases hl : st.getLast? with
      | none =>
        rw [List.getLast?_eq_none_iff] at hl
        subst hl
        rfl
      | some s =>
        dsimp only
        rw [if_neg (h s (by rw [hl]; rfl))]
    rw [this, add_same]
    rfl
theorem rd_steps (l : List Hk) (A B : Int) : ∀ (r st : List StE) (k : Int), rightE k r = true → (∀ s ∈ st.getLast?, s.1 = k) → (∀ s ∈ r, ∀ t ∈ s.2, oneL t = true) → rdAll (r.flatMap stepLs) (l ++ [(A, B, st)]) = some (l ++ [(A, B, st ++ r)])
  | [], st, k, _, _, _ => by rw [List.flatMap_nil, rdAll, List.append_nil]
  | s :: r, st, k, h, hl, ho => by
    rw [rightE_cons] at h
    obtain ⟨⟨h1, h2⟩, ⟨h3, _⟩, h4⟩ := h
    rw [List.flatMap_cons]
    unfold stepLs
    rw [rdAll_app _ _ _ _ (rd_texts h1 l A B s.2 st (ho s (List.mem_cons_self ..))), add_new (fun x hx => by rw [hl x hx]; exact h3) h2]
    have := rd_steps l A B r (st ++ [(s.1, s.2)]) s.1 h4 (fun x hx => by
      rw [List.getLast?_append, List.getLast?_singleton, Option.some_or] at hx
      cases hx
      rfl) fun x hx => ho x (List.mem_cons_of_mem _ hx)
    unfold stepLs at this
    rw [this, List.append_assoc]
    rfl
theorem rd_back : ∀ (r l : List Hk), (∀ x ∈ r, okHk x) → rdAll (linesH r) l = some (l ++ r)
  | [], l, _ => by unfold linesH; rw [List.flatMap_nil, rdAll, List.append_nil]
  | h :: r, l, ho => by
    obtain ⟨⟨h1, h2, h3, h4⟩, hr, hone⟩ := ho h (List.mem_cons_self ..)
    obtain ⟨g1, g2, g3, g4⟩ := head_read h h1 h2 h3 h4
    have e1 : rdAll (hunkLs h) l = some (l ++ [h]) := by
      unfold hunkLs
      have : rd1 l (headP h) = some (l ++ [(h.1, h.2.1, [])]) := by
        unfold rd1
        rw [if_pos g4, if_pos g1, g2]
      rw [rdAll, this]
      exact rd_steps l h.1 h.2.1 h.2.2 [] (-1) hr (fun s hs => by cases hs) hone
    have ih := rd_back r (l ++ [h]) fun x hx => ho x (List.mem_cons_of_mem _ hx)
    unfold linesH at ih ⊢
    rw [List.flatMap_cons, rdAll_app _ _ _ _ e1, ih, List.append_assoc]
    rfl
theorem parse_txt {l : List Hk} (hr : rightP l 0 0 = true) (h : ∀ x ∈ l, okHk x) : parseP (textP0 l) = (l, 0) := by
  have e : textP0 l = txtH l := by unfold textP0; rw [if_pos hr]
  unfold parseP
  rw [e, split_txt h, rd_back l [] h, List.nil_append]
  dsimp only
  rw [if_pos ⟨hr, e⟩]
theorem mem_less {j : Int} {l : List StE} {s : StE} (hs : s ∈ l) (hj : s.1 ≠ j) {t : List UInt8} (ht : t ∈ s.2) : t ∈ lessL j l := by
  unfold lessL
  exact List.mem_flatMap.2 ⟨s, hs, by rw [if_neg hj]; exact ht⟩
theorem whole_one {l : List (List UInt8)} (h : wholeL l = true) {t : List UInt8} (ht : t ∈ l) : oneL t = true := by
  obtain ⟨i, hi, e⟩ := List.mem_iff_getElem.1 ht
  have := ((wholeL_iff l).1 h i hi).1
  rw [gd_lt l _ hi, e] at this
  exact this
theorem right_ok : ∀ {l : List Hk} {n s : Int}, rightP l n s = true → ∀ h ∈ l, rightE (-1) h.2.2 = true ∧ h.1 ≤ 999999 ∧ ∀ s ∈ h.2.2, ∀ t ∈ s.2, oneL t = true
  | h :: r, n, s, hr, x, hx => by
    rw [rightP, Bool.and_eq_true] at hr
    obtain ⟨h1, h2⟩ := hr
    rcases List.mem_cons.1 hx with rfl | hx
    · unfold hunkP whlP at h1
      simp only [Bool.and_eq_true, decide_eq_true_eq] at h1
      obtain ⟨⟨g1, _, g2, g3, _⟩, _, g4, _⟩ := h1
      refine ⟨g1, g4, fun s hs t ht => ?_⟩
      by_cases e : s.1 = 2
      · exact whole_one g3 (mem_less hs (by omega) ht)
      · exact whole_one g2 (mem_less hs e ht)
    · exact right_ok h2 x hx
end Go.Proofs.YthpjjjnbkfnghaaGreatDoor
set_option linter.unusedSimpArgs false
set_option linter.unusedVariables false
namespace Go.Proofs.YthpjjjnbkfnghaaGreatDoor
open Go
section
variable {α β : Type} {A : El α} {B : El β}
@[go_sem] theorem eP_sz : (eP A B).sz = A.sz + B.sz := rfl
@[go_sem] theorem kA_enc (a : α) : (kA A).enc a = .ag A.sz (A.enc a) := rfl
@[go_sem] theorem eP_enc0 (p : α × β) (h : 0 < A.sz) : (eP A B).enc p 0 = A.enc p.1 0 := if_pos h
@[go_sem] theorem eP_encL (p : α × β) (n : Nat) (h : n < A.sz) : (eP A B).enc p n = A.enc p.1 n := if_pos h
@[go_sem] theorem eP_encR (p : α × β) (n : Nat) (h : A.sz ≤ n) : (eP A B).enc p n = B.enc p.2 (n - A.sz) := if_neg (Nat.not_lt.2 h)
@[go_sem] theorem stC_in {c d : Nat → AV} {j k i : Nat} (h : j ≤ i) (h2 : i < j + k) : stC c j k d i = d (i - j) := if_pos ⟨h, h2⟩
@[go_sem] theorem stC_lo {c d : Nat → AV} {j k i : Nat} (h : i < j) : stC c j k d i = c i := if_neg fun hh => by omega
@[go_sem] theorem stC_hi {c d : Nat → AV} {j k i : Nat} (h : j + k ≤ i) : stC c j k d i = c i := if_neg fun hh => by omega
@[go_sem] theorem zC_head (v : Value) (l : List Value) : zC (v :: l) 0 = kCell v := rfl
@[go_sem] theorem zC_cons (v : Value) (l : List Value) (n : Nat) (h : 0 < n) : zC (v :: l) n = zC l (n - 1) := by
  cases n with
  | zero => omega
  | succ n => rfl
@[go_sem] theorem kCell_int (k : IntKind) (n : Int) : kCell (.int k n) = .val (.int k n) := rfl
@[go_sem] theorem kCell_bool (b : Bool) : kCell (.bool b) = .val (.bool b) := rfl
@[go_sem] theorem eP_dec (c : Nat → AV) : (eP A B).dec c = (A.dec c, B.dec fun j => c (A.sz + j)) := rfl
@[go_sem] theorem eI_dec (c : Nat → AV) : eI.dec c = kI.dec (c 0) := rfl
@[go_sem] theorem eB_dec (c : Nat → AV) : eB.dec c = kB.dec (c 0) := rfl
@[go_sem] theorem eS_dec (c : Nat → AV) : eS.dec c = kS.dec (c 0) := rfl
@[go_sem] theorem eL_dec (c : Nat → AV) : (eL A).dec c = (kL A).dec (c 0) := rfl
@[go_sem] theorem kA_dec (n : Nat) (c : Nat → AV) : (kA A).dec (.ag n c) = A.dec c := rfl
theorem okc_1 {E : El α} {K : Kd α} (hs : E.sz = 1) (hd : ∀ c, E.dec c = K.dec (c 0)) (he : ∀ a, E.enc a 0 = K.enc a) (c : Nat → AV) : E.okc c = K.ok (c 0) := by
  refine propext ⟨fun h => ?_, fun h j hj => ?_⟩
  · have := h 0 (by omega)
    rw [hd, he] at this
    exact this
  · obtain rfl : j = 0 := by omega
    rw [hd, he]
    exact h
@[go_sem] theorem eI_okc (c : Nat → AV) : eI.okc c = kI.ok (c 0) := okc_1 rfl (fun _ => rfl) (fun _ => rfl) c
@[go_sem] theorem eB_okc (c : Nat → AV) : eB.okc c = kB.ok (c 0) := okc_1 rfl (fun _ => rfl) (fun _ => rfl) c
@[go_sem] theorem eS_okc (c : Nat → AV) : eS.okc c = kS.ok (c 0) := okc_1 rfl (fun _ => rfl) (fun _ => rfl) c
@[go_sem] theorem eL_okc (c : Nat → AV) : (eL A).okc c = (kL A).ok (c 0) := okc_1 rfl (fun _ => rfl) (fun _ => rfl) c
@[go_sem] theorem eP_okc (c : Nat → AV) : (eP A B).okc c = (A.okc c ∧ B.okc fun j => c (A.sz + j)) := by
  have e : ∀ j, (eP A B).enc ((eP A B).dec c) j = if j < A.sz then A.enc (A.dec c) j else B.enc (B.dec fun j => c (A.sz + j)) (j - A.sz) := fun _ => rfl
  refine propext ⟨fun h => ⟨fun j hj => ?_, fun j hj => ?_⟩, fun ⟨h1, h2⟩ j hj => ?_⟩
  · have := h j (Nat.lt_add_right _ hj)
    rw [e, if_pos hj] at this
    exact this
  · have := h (A.sz + j) (Nat.add_lt_add_left hj _)
    rw [e, if_neg (by omega), Nat.add_sub_cancel_left] at this
    exact this
  · rw [e]
    by_cases hA : j < A.sz
    · rw [if_pos hA]
      exact h1 j hA
    · rw [if_neg hA]
      have hj : j < A.sz + B.sz := hj
      have h3 : AVle (c (A.sz + (j - A.sz))) _ := h2 (j - A.sz) (by omega)
      have e2 : A.sz + (j - A.sz) = j := by omega
      rw [e2] at h3
      exact h3
@[go_sem] theorem kA_ok (n : Nat) (c : Nat → AV) (h : A.sz = n) (h2 : A.okc c) : (kA A).ok (.ag n c) = True := by
  subst h
  exact eq_true (AVle.ag h2)
def andO : Option Bool → Option Bool → Option Bool
  | some a, some b => some (a && b)
  | _, _ => none
@[go_sem] theorem andO_some (a b : Bool) : andO (some a) (some b) = some (a && b) := rfl
def eqLf (u : Option TypeDesc) : AV → AV → Option Bool := fun x y => match u, x, y with
  | some .bool, .val (.bool a), .val (.bool b) => some (decide (a = b))
  | some (.int _), .val (.int .i64 a), .val (.int .i64 b) => some (decide (a = b))
  | some (.int _), .val (.int .u8 a), .val (.int .u8 b) => some (decide (a = b))
  | some .string, .st a, .st b => some (decide (a = b))
  | _, _, _ => none
@[go_sem] theorem eqLf_int (k : IntKind) (a b : Int) : eqLf (some (.int k)) (.val (.int .i64 a)) (.val (.int .i64 b)) = some (decide (a = b)) := rfl
@[go_sem] theorem eqLf_bool (a b : Bool) : eqLf (some .bool) (.val (.bool a)) (.val (.bool b)) = some (decide (a = b)) := rfl
@[go_sem] theorem eqLf_string (a b : List UInt8) : eqLf (some .string) (.st a) (.st b) = some (decide (a = b)) := rfl
def eqI (P : Program) (d m : Nat) (x y : Nat → AV) (o : Nat) (u : TypeId) (k : Nat) : Option Bool := if 0 < k ∧ o + k ≤ m then aEq P d u k (fun j => x (o + j)) (fun j => y (o + j)) else none
@[go_sem] theorem eqI_in {P : Program} {d m o k : Nat} {x y : Nat → AV} {u : TypeId} (h : 0 < k) (h2 : o + k ≤ m) : eqI P d m x y o u k = aEq P d u k (fun j => x (o + j)) (fun j => y (o + j)) := if_pos ⟨h, h2⟩
def eqA (P : Program) (d m : Nat) (x y : Nat → AV) : List (Nat × TypeId) → Option Bool := fun l => eqAll (fun o u => eqI P d m x y o u (P.cellsOf u)) l
@[go_sem] theorem eqA_nil {P : Program} {d m : Nat} {x y : Nat → AV} : eqA P d m x y [] = some true := rfl
@[go_sem] theorem eqA_cons {P : Program} {d m : Nat} {x y : Nat → AV} {o : Nat} {u : TypeId} {r : List (Nat × TypeId)} : eqA P d m x y ((o, u) :: r) = andO (eqI P d m x y o u (P.cellsOf u)) (eqA P d m x y r) := by
  unfold eqA
  simp only [eqAll]
  cases eqI P d m x y o u (P.cellsOf u) with
  | none => rfl
  | some a => cases eqAll (fun o u => eqI P d m x y o u (P.cellsOf u)) r <;> rfl
def aEqK (P : Program) (d : Nat) (t : TypeId) (m : Nat) (x y : Nat → AV) : Option (List (Nat × TypeId)) → Option Bool
  | some l => eqA P d m x y l
  | none => if 0 < m then eqLf (P.underlying t) (x 0) (y 0) else none
@[go_sem] theorem aEqK_some {P : Program} {d m : Nat} {t : TypeId} {x y : Nat → AV} {l : List (Nat × TypeId)} : aEqK P d t m x y (some l) = eqA P d m x y l := rfl
@[go_sem] theorem aEqK_none {P : Program} {d m : Nat} {t : TypeId} {x y : Nat → AV} (h : 0 < m) : aEqK P d t m x y none = eqLf (P.underlying t) (x 0) (y 0) := if_pos h
@[go_sem] theorem aEq_step {P : Program} {d m : Nat} {t : TypeId} {x y : Nat → AV} (h : 0 < d) : aEq P d t m x y = aEqK P (d - 1) t m x y (eqParts P t) := by
  cases d with
  | zero => omega
  | succ d =>
    unfold aEq aEqK
    cases eqParts P t with
    | none => rfl
    | some l => rfl
end
end Go.Proofs.YthpjjjnbkfnghaaGreatDoor
set_option linter.unusedSimpArgs false
set_option linter.unusedVariables false
namespace Go.Proofs.YthpjjjnbkfnghaaGreatDoor
open Go
theorem ASle.still {st : AS} (s q v e m : Nat) (c : Nat → AV) (hs : st.fr s = .pt q v 0) (hrow : st.hp q = .box v e m c) (hfl : ∀ j, j < m → (c j).flat = true) :
    ASle st ⟨updA st.fr s (.ps m c), updR st.hp q .dead, st.sz, st.top, st.nx, st.df⟩ := by
  intro ct η a w h
  have hver : ∀ p u, (updR st.hp q .dead p).ver = some u → (st.hp p).ver = some u ∧ p ≠ q := fun p u hv => by
    by_cases e : p = q
    · subst e; rw [updR_at] at hv; cases hv
    · rw [updR_ne _ _ e] at hv; exact ⟨hv, e⟩
  have hblk : ∀ p b, (updR st.hp q .dead p).blk η = some b → (st.hp p).blk η = some b ∧ p ≠ q := fun p b hb => by
    by_cases e : p = q
    · subst e; rw [updR_at] at hb; cases hb
    · rw [updR_ne _ _ e] at hb; exact ⟨hb, e⟩
  have hL : ∀ b, Lset ct η (updR st.hp q .dead) b → Lset ct η st.hp b := by
    rintro b (hl | ⟨p, hp⟩)
    · exact .inl hl
    · exact .inr ⟨p, (hblk p b hp).1⟩
  have less : ∀ {x u}, Rep w η (Lset ct η st.hp) x u → Rep w η (Lset ct η (updR st.hp q .dead)) x u := fun h => Rep.less (fun b _ hb => hL b hb) h
  have lessN : ∀ {x u}, Rep w noEnv (Lset ct η st.hp) x u → Rep w noEnv (Lset ct η (updR st.hp q .dead)) x u := fun h => Rep.less (fun b _ hb => hL b hb) h
  refine ⟨η, ⟨⟨h.hs.fr, h.hs.lx, fun p => ?_, fun p p' u hp hq => h.hs.vers p p' u (hver p u hp).1 (hver p' u hq).1, fun p u hp => h.hs.bnd p u (hver p u hp).1,
    fun p p' b hp hq => h.hs.disj p p' b (hblk p b hp).1 (hblk p' b hq).1, fun p b hp => h.hs.own p b (hblk p b hp).1, h.hs.fresh, h.hs.env⟩, fun p hp => ?_, h.size,
    fun t => ?_, h.defs⟩⟩
  · show RowOK w η (Lset ct η (updR st.hp q .dead)) (if p = q then .dead else st.hp p)
    by_cases e : p = q
    · rw [if_pos e]; trivial
    · rw [if_neg e]
      exact RowOK.less hL (h.hs.rows p)
  · show (if p = q then Row.dead else st.hp p) = .dead
    by_cases e : p = q
    · rw [if_pos e]
    · rw [if_neg e]
      exact h.dead p hp
  · by_cases et : t = s
    · subst et
      show Rep w η (Lset ct η (updR st.hp q .dead)) (if t = t then .ps m c else st.fr t) _
      rw [if_pos rfl]
      have hr := h.slots t
      rw [hs] at hr
      obtain ⟨g, cap, hη, hv⟩ := hr
      have hrr := h.hs.rows q
      rw [hrow] at hrr
      obtain ⟨b, cur, hg, hh, hsz, hc⟩ := hrr (some g) cap hη
      have hg : g = b := Option.some.inj hg
      subst hg
      have hbk : (st.hp q).blk η = some g := by rw [hrow]; simp [Row.blk, Row.ver, hη]
      refine ⟨g, 0, hv, fun _ => ?_, fun j hj => ?_⟩
      · rintro (hl | ⟨p', hp'⟩)
        · exact (h.hs.own q g hbk).2.1 hl
        · obtain ⟨h1, h2⟩ := hblk p' g hp'
          exact h2 (h.hs.disj p' q g h1 hbk)
      · obtain ⟨u, hu, h1, hrep⟩ := hc j hj
        exact ⟨u, by rw [cell_heap hh, Nat.zero_add]; exact hu, h1, lessN (flat_rep (hfl j hj) hrep)⟩
    · show Rep w η (Lset ct η (updR st.hp q .dead)) (if t = s then .ps m c else st.fr t) _
      rw [if_neg et]
      exact less (h.slots t)
theorem AW.still {P : Program} {x : Code} {Q : Exit → AS → Prop} {st : AS} (s q v e m : Nat) (c : Nat → AV) (hs : st.fr s = .pt q v 0) (hrow : st.hp q = .box v e m c) (hfl : ∀ j, j < m → (c j).flat = true)
    (k : AW P x Q ⟨updA st.fr s (.ps m c), updR st.hp q .dead, st.sz, st.top, st.nx, st.df⟩) : AW P x Q st := AW.le (ASle.still s q v e m c hs hrow hfl) k
section
variable {α β γ δ ε ζ : Type}
def Spec.f5 (A : Kd α) (B : Kd β) (C : Kd γ) (D : Kd δ) (E : Kd ε) (dom : α → β → γ → δ → ε → Prop) (out : α → β → γ → δ → ε → AV) : Spec where
  pre | [x, y, z, u, v] => A.ok x ∧ B.ok y ∧ C.ok z ∧ D.ok u ∧ E.ok v ∧ dom (A.dec x) (B.dec y) (C.dec z) (D.dec u) (E.dec v)
      | _ => False
  res | [x, y, z, u, v] => out (A.dec x) (B.dec y) (C.dec z) (D.dec u) (E.dec v)
      | _ => .any
variable {P : Program} {f : FuncId} {fn : Func} {code : Code} {l : List ResultVar}
theorem SpecOK.f5 {A : Kd α} {B : Kd β} {C : Kd γ} {D : Kd δ} {E : Kd ε} {dom : α → β → γ → δ → ε → Prop} {out : α → β → γ → δ → ε → AV} (hf : P.funcs[f]? = some fn) (hb : fn.body = some code) (hn : (fn.name == "runtime.NumGoroutine") = false) (hl : fn.results = l.toArray) {n : Nat} (ht : fn.ntmps = n) (hm : 5 ≤ n)
    (h : ∀ a b c d e, dom a b c d e → AW P code (retQ P l (out a b c d e)) (st0 n [A.enc a, B.enc b, C.enc c, D.enc d, E.enc e])) : SpecOK P f (Spec.f5 A B C D E dom out) := by
  subst ht
  refine SpecOK.mk hf hb hn hl fun args hp => ?_
  match args, hp with
  | [x, y, z, u, v], hp => exact ⟨hm, AW.le (st0_le (.cons hp.1 (.cons hp.2.1 (.cons hp.2.2.1 (.cons hp.2.2.2.1 (.cons hp.2.2.2.2.1 .nil)))))) (h _ _ _ _ _ hp.2.2.2.2.2)⟩
end
attribute [go_sem] Spec.f5
end Go.Proofs.YthpjjjnbkfnghaaGreatDoor
set_option linter.unusedSimpArgs false
set_option linter.unusedVariables false
namespace Go.Proofs.YthpjjjnbkfnghaaGreatDoor
open Go
section
variable {P : Program} {Γ : Gam} {ops : Array Oper} {st : AS} {K : AS → Prop}
def xOpsO (P : Program) (Γ : Gam) (ops : Array Oper) : List Bool → List Oper → AS → (AS → Prop) → Prop
  | _, [], st, K => K st
  | true :: W, o :: r, st, K => o.guard = none ∧ OpW P o st fun st' => xOpsO P Γ ops W r st' K
  | false :: W, o :: r, st, K => match gop P Γ ops st o with
    | some (pre, z, row) => (dstOK st.sz o.dst ∧ pre) ∧ xOpsO P Γ ops W r (st.put o.dst z row) K
    | none => o.guard = none ∧ bop P Γ st o fun st' => xOpsO P Γ ops W r st' K
  | [], l, st, K => xOps P Γ ops l st K
theorem xOpsO_seq (hΓ : GOK P Γ) {ops : Array Oper} {Q : Exit → Act → World → Prop} : ∀ (W : List Bool) (l : List Oper) (c : Ctx) (st : AS) (K : AS → Prop) (η : Env) (a : Act) (w : World), SR c st η a w → xOpsO P Γ ops W l st K →
    (∀ st' η' a' w', SR c st' η' a' w' → K st' → Q .normal a' w') → wpList P ops Q l a w
  | [], [], _, _, _, η, a, w, hsr, h, hQ => hQ _ η a w hsr h
  | _ :: _, [], _, _, _, η, a, w, hsr, h, hQ => hQ _ η a w hsr (by unfold xOpsO at h; exact h)
  | [], o :: r, c, st, K, η, a, w, hsr, h, hQ => xOps_seq hΓ (o :: r) c st K η a w hsr h hQ
  | true :: W, o :: r, c, st, K, η, a, w, hsr, h, hQ => by
    unfold xOpsO at h
    refine wpList_step fun KK hKK => ?_
    rw [if_pos (wanted_none h.1)]
    exact h.2 c η a w KK Q hsr fun st' η' a' w' hsr' hx => hKK _ _ (xOpsO_seq hΓ W r c st' K η' a' w' hsr' hx hQ)
  | false :: W, o :: r, c, st, K, η, a, w, hsr, h, hQ => by
    unfold xOpsO at h
    split at h
    · rename_i pre z row hg
      refine wpList_step fun KK hKK => gop_wp hΓ hsr hg h.1.2 h.1.1 fun η' a' w' hsr' => hKK _ _ (xOpsO_seq hΓ W r c _ K η' a' w' hsr' h.2 hQ)
    · refine wpList_step fun KK hKK => ?_
      rw [if_pos (wanted_none h.1)]
      exact bop_wp hΓ h.2 c η a w KK Q hsr fun st' η' a' w' hsr' hx => hKK _ _ (xOpsO_seq hΓ W r c st' K η' a' w' hsr' hx hQ)
def contO (P : Program) (Γ : Gam) (ops : Array Oper) (W : List Bool) (r : List Oper) (K : AS → Prop) : AS → Prop := fun st => xOpsO P Γ ops W r st K
theorem contO_app {W : List Bool} {r : List Oper} : contO P Γ ops W r K st = xOpsO P Γ ops W r st K := rflN rfl
def goO (P : Program) (Γ : Gam) (ops : Array Oper) (W : List Bool) (o : Oper) (r : List Oper) (K : AS → Prop) (st : AS) : AOut → Prop
  | some (pre, z, row) => (dstOK st.sz o.dst ∧ pre) ∧ xOpsO P Γ ops W r (st.put o.dst z row) K
  | none => o.guard = none ∧ bop P Γ st o (contO P Γ ops W r K)
theorem goO_some {W : List Bool} {o : Oper} {r : List Oper} {pre : Prop} {z : AV} {row : Row} : goO P Γ ops W o r K st (some (pre, z, row)) = ((dstOK st.sz o.dst ∧ pre) ∧ xOpsO P Γ ops W r (st.put o.dst z row) K) := rflN rfl
theorem goO_none {W : List Bool} {o : Oper} {r : List Oper} : goO P Γ ops W o r K st none = (o.guard = none ∧ bop P Γ st o (contO P Γ ops W r K)) := rflN rfl
theorem xOpsO_nil {W : List Bool} : xOpsO P Γ ops W [] st K = K st := rflN (by cases W with
  | nil => rfl
  | cons b W => cases b <;> rfl)
theorem xOpsO_out {o : Oper} {r : List Oper} : xOpsO P Γ ops [] (o :: r) st K = xOps P Γ ops (o :: r) st K := rflN rfl
theorem xOpsO_f {W : List Bool} {o : Oper} {r : List Oper} : xOpsO P Γ ops (false :: W) (o :: r) st K = goO P Γ ops W o r K st (gop P Γ ops st o) := rflN rfl
theorem xOpsO_t {W : List Bool} {o : Oper} {r : List Oper} : xOpsO P Γ ops (true :: W) (o :: r) st K = (o.guard = none ∧ OpW P o st (contO P Γ ops W r K)) := rflN rfl
theorem AW.regionO (hΓ : GOK P Γ) {Q : Exit → AS → Prop} {id : Nat} {l : List Oper} (W : List Bool) (h : xOpsO P Γ l.toArray W l st (Q .normal)) : AW P (.region id l.toArray false) Q st := by
  intro c η a w hsr
  exact wp_region_lit (xOpsO_seq hΓ W l c st _ η a w hsr h fun st' η' a' w' hsr' hq => ⟨st', η', hq, hsr'⟩)
end
attribute [go_sem high] xOpsO_f xOpsO_t
attribute [go_sem] contO_app goO_some goO_none xOpsO_nil xOpsO_out
section
variable {w : World}
theorem run_append_empty {P : Program} {t t' e ty : TypeId} (ht : P.underlying t = some (.slice e)) (hu : P.underlying t' = some .string) {k : Nat} (hk : P.cellsOf e = k) (h0 : 0 < k) {a : Option Addr} {n cap : Nat} (hn : n ≤ cap) :
    (Builtin.append_ #[t, t'] ty #[.slice a n cap, .string ⟨#[]⟩]).run P w = .ok (.slice a n cap) w := by
  have e0 : ByteArray.size ⟨#[]⟩ = 0 := rfl
  have hf := Lib.run_firstCells_string (P := P) w k ⟨#[]⟩
  rw [e0] at hf
  have e1 : Lib.strCells ⟨#[]⟩ = [] := rfl
  rw [e1] at hf
  cases a <;> simp [Builtin.append_, run_underlying ht, run_underlying hu, run_sizeOf' (P := P) (w := w) hk h0, Builtin.lenOf, e0, hn, hf, storeCells]
def byteC (s : List UInt8) : Nat → Nat → AV := fun i _ => .val (.int .u8 (s.getD i 0).toNat)
theorem strCells_at (s : List UInt8) {η : Env} {L : Nat → Prop} (i : Nat) (hi : i < s.length) (j : Nat) (hj : j < 1) :
    ∃ u, (Lib.strCells ⟨s.toArray⟩)[i * 1 + j]? = some u ∧ u.oneCell' = true ∧ Rep w η L (byteC s i j) u := by
  obtain rfl : j = 0 := by omega
  refine ⟨.int .u8 (s.getD i 0).toNat, ?_, rfl, rfl⟩
  simp [Lib.strCells, List.getD, hi]
theorem strCells_len (s : List UInt8) : (Lib.strCells ⟨s.toArray⟩).length = s.length := by
  rw [Lib.strCells_length]
  simp [ByteArray.size]
theorem appS_wp {P : Program} {st : AS} {o : Oper} {t t' e : TypeId} {x y : Operand} {K : AS → Prop} {p v n : Nat} {cc : Nat → Nat → AV} {s : List UInt8} (ho : o.op = .call ⟨.builtin .append, ⟨[x, y]⟩, ⟨[t, t']⟩⟩) (hu : P.underlying t = some (.slice e)) (hu' : P.underlying t' = some .string)
    (hxe : st.ev x = .ow p v n) (hye : st.ev y = .st s) (hrow : st.hp p = .sl v e 1 n cc) (hd : dstOK st.sz o.dst) (hok : appOK P e 1 (n + s.length))
    (hK : K ⟨updO st.fr o.dst (.ow p st.nx (n + s.length)), updR st.hp p (.sl st.nx e 1 (n + s.length) (apC n cc (byteC s))), st.sz, st.top, st.nx + 1, st.df⟩) : OpW P o st K := by
  intro c η a w next Q hsr hnext
  have hev : ∀ x, Rep w η (Lset c η st.hp) (st.ev x) (a.eval x) := rep_ev hsr.slots
  have fin : ∀ v w', (Builtin.append_ #[t, t'] o.type #[a.eval x, a.eval y]).run P w = .ok v w' → next (a.put o.dst v) w' → o.wp P a w next Q := fun v w' hr hn => by
    unfold Oper.wp
    have : (execOp a.eval o).run P w = .ok (.value v) w' := by
      unfold execOp
      rw [ho]
      simp [resolve, invoke, builtin, hr]
    rw [this]
    exact hn
  have hx := hev x
  have hyv : a.eval y = .string ⟨s.toArray⟩ := by
    have hy := hev y
    rw [hye] at hy
    exact hy
  rw [hxe] at hx
  obtain ⟨hsz, h0, hb0, hbytes, zl, hz, hzl⟩ := hok
  obtain ⟨i, zv, hi, hiz, hzc, his, hib⟩ := info_of hz
  have hisz : i.size = 1 := by rw [his, hsz]
  have hss : (⟨s.toArray⟩ : ByteArray).size = s.length := by simp [ByteArray.size]
  obtain ⟨g, cap, hη, hv⟩ := hx
  have hr := hsr.hs.rows p
  rw [hrow] at hr
  have hr := hr g cap hη
  have hdead : ∀ q row, st.top ≤ q → updR st.hp p row q = .dead ∨ q = p := fun q row hq => by
    by_cases e : q = p
    · exact .inr e
    · rw [updR_ne _ _ e]; exact .inl (hsr.dead q hq)
  have hpt : p < st.top := by
    rcases Nat.lt_or_ge p st.top with h | h
    · exact h
    · rw [hsr.dead p h] at hrow; cases hrow
  have finish : ∀ (v' : Value) (w' : World) (r : Option Nat × Nat) (O : Nat → Prop), (Builtin.append_ #[t, t'] o.type #[a.eval x, a.eval y]).run P w = .ok v' w' → Fr O w w' →
      (∀ k, k < w.heap.size → O k → (st.hp p).blk η = some k) → (∀ g, r.1 = some g → (st.hp p).blk η = some g ∨ (w.heap.size ≤ g ∧ g < w'.heap.size)) →
      ((∀ x u, Rep w η (Lset c η st.hp) x u → Rep w' (layAt η st.nx r) (Lset c (layAt η st.nx r) (updR st.hp p (.sl st.nx e 1 (n + s.length) (apC n cc (byteC s))))) x u) →
        RowOK w' (layAt η st.nx r) (Lset c (layAt η st.nx r) (updR st.hp p (.sl st.nx e 1 (n + s.length) (apC n cc (byteC s))))) (.sl st.nx e 1 (n + s.length) (apC n cc (byteC s)))) →
      (match r.1 with | none => n + s.length = 0 ∧ ∃ a, v' = .slice a 0 0 | some g => v' = .slice (some ⟨g, 0, none⟩) (n + s.length) r.2 ∧ n + s.length ≤ r.2) → o.wp P a w next Q := by
    intro v' w' r O hrun hf hO hrb hrok hval
    obtain ⟨hs', hkeep⟩ := hsr.hs.swap (p := p) (row := .sl st.nx e 1 (n + s.length) (apC n cc (byteC s))) (r := r) rfl hf hO hrb hrok
    refine fin v' w' hrun (hnext _ (layAt η st.nx r) _ _ (hsr.put hd hs' (fun q hq => (hdead q _ hq).resolve_right (by omega)) hkeep ?_) hK)
    exact ⟨r.1, r.2, layAt_at _ _ _, hval⟩
  have hmb : (n + s.length) * 1 ≤ (n + s.length) * P.bytesOf e := Nat.mul_le_mul_left _ hb0
  by_cases hk0 : s.length = 0
  · -- nothing is added
    obtain rfl := List.length_eq_zero_iff.1 hk0
    have hcapn : ∃ av nn cp, a.eval x = .slice av nn cp ∧ nn ≤ cp := by
      cases g with
      | none => obtain ⟨_, av, e⟩ := hv; exact ⟨av, 0, 0, e, Nat.le_refl _⟩
      | some g => obtain ⟨e, hc⟩ := hv; exact ⟨_, _, _, e, hc⟩
    obtain ⟨av, nn, cp, hxv, hcp⟩ := hcapn
    refine finish (a.eval x) w (g, cap) (fun _ => False) (by rw [hxv, hyv]; exact run_append_empty hu hu' hsz h0 hcp) (Fr.refl _ _) (fun _ _ h => h.elim) (fun g' hg' => .inl ?_) (fun hkeep => ?_) ?_
    · simp only at hg'
      rw [hrow]; simp [Row.blk, Row.ver, hη, hg']
    · intro g' cap' he
      rw [layAt_at] at he
      simp only [Option.some.injEq, Prod.mk.injEq] at he
      obtain ⟨rfl, rfl⟩ := he
      cases g with
      | none => simpa using hr
      | some g =>
        obtain ⟨cur, hh, hcs, hnc, hcm, hc⟩ := hr
        refine ⟨cur, hh, hcs, by simp; omega, hcm, fun i hi j hj => ?_⟩
        have hi : i < n := by simpa using hi
        obtain ⟨u, hu', h1, hrep⟩ := hc i hi j hj
        exact ⟨u, hu', h1, by unfold apC; rw [if_pos hi]; exact hkeep _ _ hrep⟩
    · cases g with
      | none => simpa using hv
      | some g => simpa using hv
  · have hnl := strCells_len s
    have hmx : n + s.length ≤ maxLen := by simp only [maxLen]; omega
    cases g with
    | none =>
      obtain ⟨rfl, av, hxv⟩ := hv
      have hgrow : ∃ cap', (Builtin.append_ #[t, t'] o.type #[a.eval x, a.eval y]).run P w = .ok (.slice (some ⟨w.heap.size, 0, none⟩) s.length cap')
          (w.drew.alloc (.cells ((Lib.strCells ⟨s.toArray⟩).toArray ++ Builtin.zeroCells zv.cells (cap' - s.length)) e)) ∧ s.length ≤ cap' ∧ cap' ≤ maxLen := by
        refine ⟨grownCap w s.length 0 e, ?_, grownCap_ge _ _ _ _, grownCap_le_maxLen _ _ _ _ (by omega)⟩
        rw [hxv, hyv]
        cases av with
        | none =>
          have hr := run_append_nil_string (P := P) w t t' o.type e i zv hu hu' hi hiz ⟨s.toArray⟩ (by rw [hss]; omega) (by rw [hss]; omega) (by rw [hss, hib]; simp only [Nat.zero_add] at hbytes; omega)
          have e1 : ((⟨s.toArray⟩ : ByteArray).data.map fun b => Value.int .u8 b.toNat) = (Lib.strCells ⟨s.toArray⟩).toArray := by
            apply Array.ext'
            simp [Lib.strCells]
          rw [hss] at hr
          rw [← e1]
          exact hr
        | some ad =>
          have := Lib.run_append_grow_string (P := P) w t t' o.type e i zv hu hu' hi hiz ad 0 0 [] (by simp) (by simp) ⟨s.toArray⟩ (by rw [hss]; omega) (by rw [hss]; omega) (growslice_fits (by rw [hss]; omega) (by rw [hss, hib]; exact hbytes))
          rw [hss] at this
          simpa using this
      obtain ⟨cap', hrun, hge, hle⟩ := hgrow
      have hf : Fr (fun _ => False) w (w.drew.alloc (.cells ((Lib.strCells ⟨s.toArray⟩).toArray ++ Builtin.zeroCells zv.cells (cap' - s.length)) e)) := (Fr.refl _ w).drew.trans (Fr.alloc _ _ _)
      refine finish _ _ (some w.heap.size, cap') (fun _ => False) hrun hf (fun _ _ h => h.elim) (fun g' hg' => .inr ?_) (fun hkeep => ?_) ⟨by rw [Nat.zero_add], by omega⟩
      · simp only [Option.some.injEq] at hg'
        subst hg'
        simp
      · intro g' cap'' he
        rw [layAt_at] at he
        simp only [Option.some.injEq, Prod.mk.injEq] at he
        obtain ⟨rfl, rfl⟩ := he
        refine ⟨_, heap_alloc_new w.drew _, ?_, by omega, hle, ?_⟩
        · simp only [Array.size_append, List.size_toArray, size_zeroCells, hzc, hzl, hnl]
          omega
        · refine apC_cells (olds := []) (news := Lib.strCells ⟨s.toArray⟩) (by simp) (fun q hq => ?_) (fun i hi => absurd hi (by omega)) (fun i hi j hj => strCells_at s i hi j hj)
          rw [Nat.zero_add] at hq
          rw [List.nil_append, Array.getElem?_append_left (by simp only [List.size_toArray]; omega), List.getElem?_toArray]
    | some g =>
      obtain ⟨hxv, hcap⟩ := hv
      obtain ⟨cur, hh, hcs, hncap, hcm, hc⟩ := hr
      have hblk : (st.hp p).blk η = some g := by rw [hrow]; simp [Row.blk, Row.ver, hη]
      have hold : (cur.toList.take (n * 1)).length = n * 1 := by
        simp; omega
      have holdr : ∀ (w' : World) (η' : Env) (L' : Nat → Prop), (∀ x u, Rep w η (Lset c η st.hp) x u → Rep w' η' L' x u) → ∀ i, i < n → ∀ j, j < 1 → ∃ u, (cur.toList.take (n * 1))[i * 1 + j]? = some u ∧ u.oneCell' = true ∧ Rep w' η' L' (cc i j) u := by
        intro w' η' L' hkeep i hi j hj
        obtain ⟨u, hu', h1, hrep⟩ := hc i hi j hj
        exact ⟨u, by rw [List.getElem?_take, if_pos (by omega), Array.getElem?_toList]; exact hu', h1, hkeep _ _ hrep⟩
      by_cases hroom : n + s.length ≤ cap
      · have hrun := Lib.run_append_room_string (P := P) w t t' o.type e i hu hu' hi hisz g n cap cur hh ⟨s.toArray⟩ (by rw [hss]; exact hroom) (by rw [hss]; omega)
        rw [hss] at hrun
        refine finish _ _ (some g, cap) (fun b => b = g) (by rw [hxv, hyv]; exact hrun) (fr_setRow w g _) (fun k _ e => by rw [e]; exact hblk) (fun g' hg' => .inl (by simp only [Option.some.injEq] at hg'; rw [← hg']; exact hblk)) (fun hkeep => ?_) ⟨rfl, hroom⟩
        intro g' cap'' he
        rw [layAt_at] at he
        simp only [Option.some.injEq, Prod.mk.injEq] at he
        obtain ⟨rfl, rfl⟩ := he
        refine ⟨_, setRow_heap w g cur _ e (0, 0) hh, ?_, hroom, hcm, ?_⟩
        · simp only [List.size_toArray, List.length_append, List.length_take, List.length_drop, Array.length_toList, hnl]
          omega
        · refine apC_cells (olds := cur.toList.take (n * 1)) (news := Lib.strCells ⟨s.toArray⟩) hold (fun q hq => ?_) (holdr _ _ _ hkeep) (fun i hi j hj => strCells_at s i hi j hj)
          rw [List.getElem?_toArray]
          have e1 : cur.toList.take n = cur.toList.take (n * 1) := by rw [Nat.mul_one]
          rw [e1, List.getElem?_append_left (by rw [List.length_append, hold, hnl]; omega)]
      · have hrun := Lib.run_append_grow_string (P := P) w t t' o.type e i zv hu hu' hi hiz ⟨g, 0, none⟩ n cap (cur.toList.take (n * 1)) (by rw [hisz]; exact hold) (fun j v hj => by
            rw [add_off, Nat.zero_add, cell_heap hh, ← Array.getElem?_toList]
            rw [List.getElem?_take] at hj
            split at hj
            · exact hj
            · cases hj) ⟨s.toArray⟩ (by rw [hss]; omega) (by rw [hss]; omega) (growslice_fits (by rw [hss]; omega) (by rw [hss, hib]; exact hbytes))
        rw [hss] at hrun
        have hge := grownCap_ge w (n + s.length) cap e
        have hle := grownCap_le_maxLen w (n + s.length) cap e hmx
        generalize grownCap w (n + s.length) cap e = cap' at hrun hge hle
        have hf : Fr (fun _ => False) w (w.drew.alloc (.cells ((cur.toList.take (n * 1)).toArray ++ (Lib.strCells ⟨s.toArray⟩).toArray ++ Builtin.zeroCells zv.cells (cap' - (n + s.length))) e)) := (Fr.refl _ w).drew.trans (Fr.alloc _ _ _)
        refine finish _ _ (some w.heap.size, cap') (fun _ => False) (by rw [hxv, hyv]; exact hrun) hf (fun _ _ h => h.elim) (fun g' hg' => .inr ?_) (fun hkeep => ?_) ⟨rfl, hge⟩
        · simp only [Option.some.injEq] at hg'
          subst hg'
          simp
        · intro g' cap'' he
          rw [layAt_at] at he
          simp only [Option.some.injEq, Prod.mk.injEq] at he
          obtain ⟨rfl, rfl⟩ := he
          refine ⟨_, heap_alloc_new w.drew _, ?_, hge, hle, ?_⟩
          · simp only [Array.size_append, List.size_toArray, size_zeroCells, hzc, hzl, hnl, hold]
            omega
          · refine apC_cells (olds := cur.toList.take (n * 1)) (news := Lib.strCells ⟨s.toArray⟩) hold (fun q hq => ?_) (holdr _ _ _ hkeep) (fun i hi j hj => strCells_at s i hi j hj)
            rw [Array.getElem?_append_left (by simp only [Array.size_append, List.size_toArray, hold, hnl]; omega)]
            simp only [List.append_toArray, List.getElem?_toArray]
end
section
variable {c : Ctx} {hp : Nat → Row} {nx : Nat} {η : Env} {w w' : World}
theorem HS.sink (h : HS c hp nx η w) {p g : Nat} (hb : (hp p).blk η = some g) (hf : Fr (fun b => b = g) w w') :
    HS c (updR hp p .dead) nx η w' ∧ ∀ x u, Rep w η (Lset c η hp) x u → Rep w' η (Lset c η (updR hp p .dead)) x u := by
  have hbk : ∀ q b, (updR hp p .dead q).blk η = some b → q ≠ p ∧ (hp q).blk η = some b := fun q b hq => by
    by_cases e : q = p
    · subst e; rw [updR_at] at hq; cases hq
    · rw [updR_ne _ _ e] at hq; exact ⟨e, hq⟩
  have hver : ∀ q v, (updR hp p .dead q).ver = some v → (hp q).ver = some v := fun q v hq => by
    by_cases e : q = p
    · subst e; rw [updR_at] at hq; cases hq
    · rw [updR_ne _ _ e] at hq; exact hq
  have hL : ∀ b, Lset c η (updR hp p .dead) b → Lset c η hp b := by
    rintro b (hl | ⟨q, hq⟩)
    · exact .inl hl
    · exact .inr ⟨q, (hbk q b hq).2⟩
  have hO : ∀ k, k < w.heap.size → k = g → Lset c η hp k := fun k _ e => .inr ⟨p, by rw [e]; exact hb⟩
  refine ⟨⟨h.fr.trans' hf ?_, h.lx, fun q => ?_, fun q r v hq hr => h.vers q r v (hver q v hq) (hver r v hr), fun q v hq => h.bnd q v (hver q v hq), fun q r b hq hr => h.disj q r b (hbk q b hq).2 (hbk r b hr).2, fun q b hq => ?_, h.fresh, h.env⟩,
    fun x u hx => Rep.keep hf hO (fun k _ hl => hL k hl) x η η u (Env.le_refl _) hx⟩
  · intro k hk e
    subst e
    exact (h.own p k hb).1.resolve_right (by omega)
  · by_cases e : q = p
    · subst e; rw [updR_at]; trivial
    · rw [updR_ne _ _ e]
      exact RowOK.keep hf (Env.le_refl _) hO (fun k _ hl => hL k hl) (fun _ _ => rfl) (fun b hq => by
        refine hf.block b (h.own q b hq).2.2 fun e' => e ?_
        subst e'
        exact h.disj q p b hq hb) (h.rows q)
  · have := h.own q b (hbk q b hq).2
    exact ⟨this.1, this.2.1, Nat.lt_of_lt_of_le this.2.2 hf.size⟩
end
end Go.Proofs.YthpjjjnbkfnghaaGreatDoor
set_option linter.unusedSimpArgs false
namespace Go.Proofs.YthpjjjnbkfnghaaGreatDoor
open Go Go.ChangeShapes Go.WideShapes Go.ChangeAt Go.RowKit

def reachW {H : Type} (P : Program) (t : TypeId) (d : DataW H) : Prop := ∀ n ∈ d.weights P t, n ≤ reachBytes
structure Opens (P : Program) (t : TypeId) {α : Type} (E : El α) (good : α → Prop) : Prop where
  size : P.cellsOf t = E.sz
  read : ∀ (H : Type) (enc : TypeId × Value → H) (w : World) (base : Nat) (spare : Nat → Bool) (held : Bool) (fuel : Nat) (cs : List Value) (x : DataW H × List MemPlace),
    DataW.trod enc P w base spare held fuel t cs = some x → reachW P t x.1 → ∃ a, good a ∧ ∀ j, j < E.sz → ∃ u, cs[j]? = some u ∧ u.oneCell' = true ∧ Rep w noEnv (fun _ => False) (E.enc a j) u
def gI (n : Int) : Prop := -9223372036854775808 ≤ n ∧ n ≤ 9223372036854775807
def gB (_ : Bool) : Prop := True
def gS (l : List UInt8) : Prop := l.length ≤ 140737488351232
section
variable {P : Program} {t e : TypeId}
theorem one_cell {w : World} {α : Type} {E : El α} {a : α} {v : Value} (hs : E.sz = 1) (h1 : v.oneCell' = true) (hr : Rep w noEnv (fun _ => False) (E.enc a 0) v) :
    ∀ j, j < E.sz → ∃ u, [v][j]? = some u ∧ u.oneCell' = true ∧ Rep w noEnv (fun _ => False) (E.enc a j) u := fun j hj => by
  obtain rfl : j = 0 := by omega
  exact ⟨v, rfl, h1, hr⟩
theorem opens_int (ht : P.underlying t = some (.int .i64)) (hs : P.cellsOf t = 1) : Opens P t eI gI := by
  refine ⟨hs, fun H enc w base spare held fuel cs x h hz => ?_⟩
  cases fuel with
  | zero => simp [DataW.trod] at h
  | succ n =>
    unfold DataW.trod at h
    rw [ht] at h
    split at h <;> simp only [reduceCtorEq, Option.some.injEq, TypeDesc.int.injEq] at *
    rename_i m heq
    subst heq
    split at h
    · rename_i hw
      obtain ⟨rfl, hw⟩ := hw
      refine ⟨m, ?_, one_cell rfl rfl rfl⟩
      simp only [Lit.wf, IntKind.min, IntKind.max, IntKind.signed, IntKind.bits, Bool.and_eq_true, decide_eq_true_eq] at hw
      unfold gI
      simp at hw
      omega
    · cases h
theorem opens_string (ht : P.underlying t = some .string) (hs : P.cellsOf t = 1) : Opens P t eS gS := by
  refine ⟨hs, fun H enc w base spare held fuel cs x h hz => ?_⟩
  cases fuel with
  | zero => simp [DataW.trod] at h
  | succ n =>
    unfold DataW.trod at h
    rw [ht] at h
    split at h <;> simp only [reduceCtorEq, Option.some.injEq] at *
    rename_i s _
    split at h
    · rename_i hm
      refine ⟨s.data.toList, ?_, one_cell rfl rfl rfl⟩
      simp only [Option.some.injEq] at h
      subst h
      have h2 := hz s.data.toList.length (by simp [DataW.weights])
      unfold reachBytes at h2
      exact h2
    · cases h

end
end Go.Proofs.YthpjjjnbkfnghaaGreatDoor
set_option linter.unusedSimpArgs false
namespace Go.Proofs.YthpjjjnbkfnghaaGreatDoor
open Go Go.ChangeShapes Go.WideShapes Go.ChangeAt Go.RowKit

section
variable {P : Program}
def OpensK (P : Program) (t : TypeId) {α : Type} (K : Kd α) (good : α → Prop) : Prop :=
  ∀ (H : Type) (enc : TypeId × Value → H) (W : World) (base : Nat) (v : Value) (d : DataW H) (p : List MemPlace), Value.okWide P W .any base t v → DataW.Trod enc P W 0 (fun _ => true) true t v d p → reachW P t d →
    ∃ a, good a ∧ Rep W noEnv (fun _ => False) (K.enc a) v
theorem opensK_one {t : TypeId} {α : Type} {E : El α} {g : α → Prop} {K : Kd α} (h : Opens P t E g) (hs : E.sz = 1) (hK : ∀ a, K.enc a = E.enc a 0) (hv : ∀ (W : World) (base : Nat) (v : Value), Value.okWide P W .any base t v → v.cells = #[v]) : OpensK P t K g := by
  intro H enc W base v d p hok ⟨fuel, htr⟩ hz
  obtain ⟨a, ha, hj⟩ := h.read H enc W 0 _ _ fuel _ _ htr hz
  obtain ⟨u, hu, _, hr⟩ := hj 0 (by omega)
  rw [hv W base v hok] at hu
  simp only [List.getElem?_cons_zero, Option.some.injEq] at hu
  subst hu
  exact ⟨a, ha, by rw [hK]; exact hr⟩
theorem opensK_int {t : TypeId} (ht : P.underlying t = some (.int .i64)) (hs : P.cellsOf t = 1) : OpensK P t kI gI :=
  opensK_one (opens_int ht hs) rfl (fun _ => rfl) fun W base v h => by obtain ⟨n, rfl⟩ := okWide_int ht h; rfl
theorem opensK_string {t : TypeId} (ht : P.underlying t = some .string) (hs : P.cellsOf t = 1) : OpensK P t kS gS :=
  opensK_one (opens_string ht hs) rfl (fun _ => rfl) fun W base v h => by obtain ⟨n, rfl⟩ := okWide_string ht h; rfl
def OpenAll (P : Program) (ts : List TypeId) (Q : List AV → Prop) : Prop :=
  ∀ (H : Type) (enc : TypeId × Value → H) (W : World) (base : Nat) (vs : List Value) (ds : List (DataW H)) (ps : List MemPlace), DataW.TrodAll enc P W 0 (fun _ => true) true ts vs ds ps →
    (∀ (j : Nat) t v, ts[j]? = some t → vs[j]? = some v → Value.okWide P W .any base t v) → (∀ (j : Nat) t d, ts[j]? = some t → ds[j]? = some d → reachW P t d) → ∃ avs, Q avs ∧ All2 (Rep W noEnv fun _ => False) avs vs
theorem openAll_nil : OpenAll P [] (· = []) := by
  intro H enc W base vs ds ps h _ _
  match vs, ds, h with
  | [], [], _ => exact ⟨[], rfl, .nil⟩
theorem openAll_cons {t : TypeId} {ts : List TypeId} {α : Type} {K : Kd α} {g : α → Prop} {Q : List AV → Prop} (h : OpensK P t K g) (k : OpenAll P ts Q) : OpenAll P (t :: ts) (fun avs => ∃ a r, avs = K.enc a :: r ∧ g a ∧ Q r) := by
  intro H enc W base vs ds ps hA hok hz
  match vs, ds, hA with
  | v :: vs, d :: ds, ⟨p, q, h1, h2, _⟩ =>
    obtain ⟨a, ha, hr⟩ := h H enc W base v d p (hok 0 t v rfl rfl) h1 (hz 0 t d rfl rfl)
    obtain ⟨avs, hQ, hrs⟩ := k H enc W base vs ds q h2 (fun j t' v' ht hv => hok (j + 1) t' v' ht hv) fun j t' d' ht hd => hz (j + 1) t' d' ht hd
    exact ⟨K.enc a :: avs, ⟨a, avs, rfl, ha, hQ⟩, .cons hr hrs⟩
theorem trodAll_below {H : Type} {enc : TypeId × Value → H} (hl : laidOutB P = true) {W W' : World} (hb : Below W.heap.size W W') : ∀ (ts : List TypeId) (vs : List Value) (ds : List (DataW H)) (ps : List MemPlace),
    (∀ t ∈ ts, P.readableRec t = true ∧ t < P.types.size) → DataW.TrodAll enc P W 0 (fun _ => true) true ts vs ds ps → (∀ x ∈ ps, x.block < W.heap.size) →
    DataW.TrodAll enc P W' 0 (fun b => decide (b < W.heap.size)) true ts vs ds ps
  | [], [], [], _, _, h, _ => h
  | t :: ts, v :: vs, d :: ds, ps, ht, ⟨p, q, h1, h2, e⟩, hlt => by
    subst e
    exact ⟨p, q, Below.trod hl (ht t (List.mem_cons_self ..)).1 (ht t (List.mem_cons_self ..)).2 h1 hb fun x hx => hlt x (List.mem_append_left _ hx),
      trodAll_below hl hb ts vs ds q (fun t h => ht t (List.mem_cons_of_mem _ h)) h2 fun x hx => hlt x (List.mem_append_right _ hx), rfl⟩
  | [], _ :: _, _, _, _, h, _ => h.elim
  | [], [], _ :: _, _, _, h, _ => h.elim
  | _ :: _, [], _, _, _, h, _ => h.elim
  | _ :: _, _ :: _, [], _, _, h, _ => h.elim

theorem law_calls {H : Type} {enc : TypeId × Value → H} {f : FuncId} {fn : Func} {s : ChangeSpec} {sp : Spec} {ts : List TypeId} {tb : TypeId} {Q : List AV → Prop} (hl : laidOutB P = true) (hs : SpecOK P f sp) (hp : fn.params.toList = ts) (hr : fn.resultTypes = #[tb])
    (hb : P.underlying tb = some .bool) (hopen : OpenAll P ts Q) (hts' : ts.all (fun t => P.readableRec t && decide (t < P.types.size)) = true) (hpre : ∀ avs, Q avs → sp.pre avs ∧ sp.res avs = .val (.bool true))
    (hsv : s.vars = []) (hsf : ∀ ds : List (DataW H), ds.length = ts.length → (s.fn H ds).results = [.lit (.bool true)] ∧ (s.fn H ds).args = ds ∧ (s.fn H ds).vars = [])
    (W : World) (base : Nat) (args : Array Value) (ds gs : List (DataW H)) (before : List MemPlace) (hT : Tz W)
    (hval : ∀ (j : Nat) t v, fn.params[j]? = some t → args[j]? = some v → Value.okWide P W .any base t v)
    (hW : DataW.Whole enc P fn.params.toList s.vars false W args.toList ds gs before) (hz : (DataW.weightsEach P (fn.params.toList ++ s.plain.varTypes P) (ds ++ gs)).all (· ≤ reachBytes) = true) :
    Calls P f args W fun e W' => ∃ v, e = .returned v ∧ s.post enc P fn false true false false W args v W' := by
  have hts : ∀ t ∈ ts, P.readableRec t = true ∧ t < P.types.size := fun t ht => by simpa using List.all_eq_true.1 hts' t ht
  have hW' := hW
  obtain ⟨p, q, hA, hV, hbe, hfz, hnd⟩ := hW
  rw [hsv] at hV
  obtain ⟨rfl, rfl⟩ := trodVars_none hV
  rw [hp] at hA
  obtain ⟨avs, hQ, hreps⟩ := hopen H enc W base args.toList ds p hA (fun j t v ht hv => hval j t v (by
    have : fn.params.toList[j]? = some t := by rw [hp]; exact ht
    simpa using this) (by simpa using hv)) fun j t d ht hd n hn => by
    have h1 : (fn.params.toList ++ s.plain.varTypes P)[j]? = some t := by
      rw [hp, List.getElem?_append_left (List.getElem?_eq_some_iff.1 ht).1]
      exact ht
    have h2 : (ds ++ [])[j]? = some d := by rw [List.append_nil]; exact hd
    simpa using List.all_eq_true.1 hz n (DataW.weights_mem_each h1 h2 n hn)
  obtain ⟨h1, h2⟩ := hpre avs hQ
  have hlen : ds.length = ts.length := by
    have : ∀ (ts : List TypeId) (vs : List Value) (ds : List (DataW H)) (ps : List MemPlace), DataW.TrodAll enc P W 0 (fun _ => true) true ts vs ds ps → ds.length = ts.length := by
      intro ts
      induction ts with
      | nil =>
        intro vs ds ps h
        match vs, ds, h with
        | [], [], _ => rfl
      | cons t ts ih =>
        intro vs ds ps h
        match vs, ds, h with
        | v :: vs, d :: ds, ⟨p, q, _, h2, _⟩ => simp [ih vs ds q h2]
    exact this ts _ _ _ hA
  have hlt : ∀ x ∈ p, x.block < W.heap.size := fun x hx => by
    refine hW'.lt x ?_
    rw [hbe]
    exact List.mem_append_left _ hx
  have hc := hs.2 avs h1 W (fun _ => False) args.toList hT (fun _ h => h.elim) hreps
  refine (show Calls P f args W _ by simpa using hc).mono ?_
  rintro e W' ⟨v, rfl, hf, hr'⟩
  rw [h2] at hr'
  have hv : v = .bool true := hr'
  subst hv
  obtain ⟨e1, e2, e3⟩ := hsf ds hlen
  refine ⟨_, rfl, ds, [], before, [], p, [], hW', ?_, ?_, ?_, hf.below.frame _, fun h => by cases h⟩
  · rw [hr, List.append_nil, e1]
    exact trodAll_cons_mk (shut_bool hb _) trodAll_mk0
  · rw [hp, List.append_nil, e2]
    exact trodAll_below hl hf.below ts _ _ _ hts hA hlt
  · rw [hsv, List.append_nil, e3]
    rfl
theorem pre_f3 {α β γ : Type} {A : Kd α} {B : Kd β} {C : Kd γ} {gA : α → Prop} {gB : β → Prop} {gC : γ → Prop} {dom : α → β → γ → Prop} {out : α → β → γ → AV} (h : ∀ a b c, gA a → gB b → gC c → dom a b c ∧ out a b c = .val (.bool true)) (avs : List AV)
    (hQ : ∃ a r, avs = A.enc a :: r ∧ gA a ∧ ∃ b r', r = B.enc b :: r' ∧ gB b ∧ ∃ c r'', r' = C.enc c :: r'' ∧ gC c ∧ r'' = []) : (Spec.f3 A B C dom out).pre avs ∧ (Spec.f3 A B C dom out).res avs = .val (.bool true) := by
  obtain ⟨a, _, rfl, ha, b, _, rfl, hb, c, _, rfl, hc, rfl⟩ := hQ
  obtain ⟨h1, h2⟩ := h a b c ha hb hc
  simp only [Spec.f3, A.law, B.law, C.law]
  exact ⟨⟨A.ok_enc a, B.ok_enc b, C.ok_enc c, h1⟩, h2⟩
end
end Go.Proofs.YthpjjjnbkfnghaaGreatDoor
set_option linter.unusedSimpArgs false
set_option linter.unusedVariables false
namespace Go.Proofs.YthpjjjnbkfnghaaGreatDoor
open Go Go.ChangeShapes Go.WideShapes Go.ChangeAt Go.RowKit
def eU : El Int := ⟨1, fun n _ => .val (.int .u8 n), fun c => (c 0).int, 0, fun _ => rfl, fun _ _ h => by rw [h 0 Nat.one_pos]⟩
@[go_sem] theorem eU_sz : eU.sz = 1 := (rfl)
@[go_sem] theorem eU_enc (n : Int) (j : Nat) : eU.enc n j = .val (.int .u8 n) := rfl
@[go_sem] theorem eU_d : eU.dflt = 0 := rfl
@[go_sem] theorem okc_U (n : Int) : eU.okc (fun _ => .val (.int .u8 n)) = True := eq_true fun _ _ => AVle.refl _
@[go_sem] theorem dec_U (n : Int) : eU.dec (fun _ => .val (.int .u8 n)) = n := rfl
@[go_sem] theorem eU_flat (x : Int) (j : Nat) : (eU.enc x j).flat = true := rfl
@[go_sem] theorem eU_dec (c : Nat → AV) : eU.dec c = kU.dec (c 0) := rfl
@[go_sem] theorem eU_okc (c : Nat → AV) : eU.okc c = kU.ok (c 0) := okc_1 rfl (fun _ => rfl) (fun _ => rfl) c
@[go_sem] theorem eqLf_u8 (k : IntKind) (a b : Int) : eqLf (some (.int k)) (.val (.int .u8 a)) (.val (.int .u8 b)) = some (decide (a = b)) := rfl
theorem nil_em : AVle (.val (.slice none 0 0)) .em := fun _ _ _ _ h => ⟨none, h⟩
section
variable {P : Program} {st : AS} {K : AS → Prop} {o : Oper}
theorem pure_wp {z : AV} (hd : dstOK st.sz o.dst) (h : ∀ (c : Ctx) (η : Env) (a : Act) (w : World), SR c st η a w → ∃ v, (execOp a.eval o).run P w = .ok (.value v) w ∧ Rep w η (Lset c η st.hp) z v)
    (hK : K ⟨updO st.fr o.dst z, st.hp, st.sz, st.top, st.nx, st.df⟩) : OpW P o st K := by
  intro c η a w next Q hsr hnext
  obtain ⟨v, e, hr⟩ := h c η a w hsr
  unfold Oper.wp
  rw [e]
  exact hnext _ η _ w (hsr.put hd hsr.hs hsr.dead (fun _ _ h => h) hr) hK
theorem alloc_wp {e : TypeId} {zl : List Value} (ho : o.op = .alloc e) (hz : zeroC P e = some zl) (hd : dstOK st.sz o.dst)
    (hK : K ⟨updO st.fr o.dst (.pt st.top st.nx 0), updR st.hp st.top (.box st.nx e zl.length fun j => .val (zl.getD j undef)), st.sz, st.top + 1, st.nx + 1, st.df⟩) : OpW P o st K := by
  intro c η a w next Q hsr hnext
  obtain ⟨hs', hL⟩ := hsr.hs.declare (p := st.top) (row := .box st.nx e zl.length fun j => .val (zl.getD j undef)) rfl
  obtain ⟨zv, hzr, hzc, hz1⟩ := run_zero (w := w) hz
  have hrow : updR st.hp st.top (.box st.nx e zl.length fun j => .val (zl.getD j undef)) st.top = .box st.nx e zl.length fun j => .val (zl.getD j undef) := updR_at ..
  have hlay := hs'.lay (p := st.top) (ver := st.nx) (cap := 0) (by rw [hrow]; rfl) (hsr.hs.fresh _ (Nat.le_refl _)) hsr.hs.env.2.1 (.cells zl.toArray e) (by
    rw [hrow]
    intro g cap he
    rw [layAt_at] at he
    simp only [Option.some.injEq, Prod.mk.injEq] at he
    obtain ⟨rfl, rfl⟩ := he
    refine ⟨_, _, rfl, heap_alloc_new w _, by simp, fun j hj => ⟨zl[j], by simp [hj], List.all_eq_true.1 hz1 _ (List.getElem_mem hj), ?_⟩⟩
    show zl[j] = zl.getD j undef
    simp [List.getD, hj])
  have run : (execOp a.eval o).run P w = .ok (.value (.pointer (some ⟨w.heap.size, 0, none⟩))) (w.alloc (.cells zl.toArray e)) := by
    simp [execOp, ho, Instr.alloc, hzr, newVar, newRow, hzc]
  unfold Oper.wp
  rw [run]
  have hrep : Rep (w.alloc (.cells zl.toArray e)) (layAt η st.nx (some w.heap.size, 0)) (Lset c (layAt η st.nx (some w.heap.size, 0)) (updR st.hp st.top (.box st.nx e zl.length fun j => .val (zl.getD j undef)))) (.pt st.top st.nx 0) (.pointer (some ⟨w.heap.size, 0, none⟩)) := ⟨w.heap.size, 0, layAt_at _ _ _, rfl⟩
  refine hnext _ (layAt η st.nx (some w.heap.size, 0)) _ _ (hsr.put hd hlay.1 (fun p hp => ?_) (fun x u hx => hlay.2.rep (Rep.less (fun b _ hb => hL b hb) hx)) hrep) hK
  rw [updR_ne _ _ (by omega)]
  exact hsr.dead p (by omega)
theorem rune_wp {s d : TypeId} {x : Operand} {k : IntKind} {n : Int} {l : List UInt8} (ho : o.op = .convert s d x) (hs : (P.underlying s).isSome = true) (hd : P.underlying d = some .string) (hx : st.ev x = .val (.int k n)) (hl : Utf8.encode n = ⟨l.toArray⟩) (hdst : dstOK st.sz o.dst)
    (hK : K ⟨updO st.fr o.dst (.st l), st.hp, st.sz, st.top, st.nx, st.df⟩) : OpW P o st K := by
  refine pure_wp hdst (fun c η a w hsr => ?_) hK
  have hv := rep_ev hsr.slots x
  unfold AS.ev at hx
  rw [hx] at hv
  have hv : a.eval x = .int k n := hv
  refine ⟨.string ⟨l.toArray⟩, ?_, rfl⟩
  unfold execOp
  rw [ho]
  simp [hv, run_convert_int_string w s d k n hs hd, hl]
end
end Go.Proofs.YthpjjjnbkfnghaaGreatDoor
set_option linter.unusedSimpArgs false
set_option linter.unusedVariables false
namespace Go.Proofs.YthpjjjnbkfnghaaGreatDoor
open Go
section
variable {P : Program} {Γ : Gam} {st : AS} {K : AS → Prop} {o : Oper}
def kF (f : FuncId) : Kd Unit := ⟨fun _ => .val (.func (.func f) #[] #[]), fun _ => (), fun _ => rfl⟩
@[go_sem] theorem kF_enc (f : FuncId) (u : Unit) : (kF f).enc u = .val (.func (.func f) #[] #[]) := rfl
@[go_sem] theorem kF_ok (f : FuncId) : (kF f).ok (.val (.func (.func f) #[] #[])) = True := eq_true ((kF f).ok_enc ())
@[go_sem] theorem kF_dec (f : FuncId) (x : AV) : (kF f).dec x = () := rfl
theorem dyn_wp (hΓ : GOK P Γ) {x : Operand} {f : FuncId} {xs : List Operand} {ts : Array TypeId} {pre : Prop} {z : AV} {row : Row} (ho : o.op = .call ⟨.value x, ⟨xs⟩, ts⟩) (hx : st.ev x = .val (.func (.func f) #[] #[]))
    {args : List AV} (hxs : xs.map st.ev = args) (h : aCall Γ st.hp f args = some (pre, z, row)) (hp : pre) (hd : dstOK st.sz o.dst) (hK : K ⟨updO st.fr o.dst z, st.hp, st.sz, st.top, st.nx, st.df⟩) : OpW P o st K := by
  subst hxs
  intro c η a w next Q hsr hnext
  obtain ⟨s, hsome, _, _, rfl⟩ := call_none h
  have henter := (show SpecOK P f s from hΓ f _ hsome).1 (xs.map a.eval).toArray w
  have hv := rep_ev hsr.slots x
  unfold AS.ev at hx
  rw [hx] at hv
  have hv : a.eval x = .func (.func f) #[] #[] := hv
  have e : (execOp a.eval o).run P w = .ok (.enter f (xs.map a.eval).toArray) w := by
    have e2 : execOp a.eval o = callFunc f (#[] ++ (⟨xs⟩ : Array Operand).map a.eval ++ #[]) := by
      unfold execOp
      rw [ho]
      simp only [resolve, hv, Deferred.ofValue, pure_bind]
      rfl
    rw [e2]
    simpa using henter
  unfold Oper.wp
  rw [e]
  simp only [Oper.upon]
  refine (call_wp hΓ hsr.hs h hp (all2_map (rep_ev hsr.slots) xs)).mono ?_
  rintro e w' ⟨v, rfl, h1, h2, h3⟩
  exact hnext _ η _ w' (hsr.put hd h1 hsr.dead (fun x u hx => h2.rep hx) h3) hK
end
theorem MethOK.or {P : Program} {f : FuncId} {S T : MSpec} (h : MethOK P f S) (k : MethOK P f T) : MethOK P f fun args hp top nx K => S args hp top nx K ∨ T args hp top nx K :=
  ⟨h.1, fun args hp top nx K hs => hs.elim (h.2 args hp top nx K) (k.2 args hp top nx K)⟩
def freshM (S : MSpec) : MSpec := fun args hp top nx K => ∃ args', All2 AVle args args' ∧ S args' (fun _ => .dead) 0 nx fun r hp1 _ nx' => ∃ v n row, r = .ow 0 v n ∧ hp1 0 = row ∧ row.ver = some v ∧ nx ≤ v ∧ K (.ow top v n) (updR hp top row) (top + 1) nx'
theorem MethOK.fresh {P : Program} {f : FuncId} {S : MSpec} (h : MethOK P f S) : MethOK P f (freshM S) := by
  refine ⟨h.1, fun args hp top nx K hS c η w vs hs hdead hargs => ?_⟩
  obtain ⟨args', hle, hS⟩ := hS
  have hLb : ∀ b, Lset c η hp b → b < w.heap.size := by
    rintro b (hl | ⟨p, hb⟩)
    · exact Nat.lt_of_lt_of_le (hs.lx.lt b hl) hs.fr.size
    · exact (hs.own p b hb).2.2
  let c1 : Ctx := ⟨w, η, fun _ => False, Lset c η hp, nx⟩
  have hL1 : ∀ b, Lset c1 η (fun _ => .dead) b → Lset c η hp b := by
    rintro b (hl | ⟨p, hp⟩)
    · exact hl
    · cases hp
  have hs1 : HS c1 (fun _ => .dead) nx η w := ⟨Fr.refl _ _, ⟨hLb, fun b q hq => ⟨(hs.tab b q hq).1, not_false⟩⟩, fun _ => trivial, fun p q v h => (by cases h), fun p v h => (by cases h), fun p q b h => (by cases h), fun p b h => (by cases h), hs.fresh, Env.le_refl _, Nat.le_refl _, fun _ _ h => h⟩
  refine (h.2 args' _ 0 nx _ hS c1 η w vs hs1 (fun _ _ => rfl) (All2.le hL1 hle hargs)).mono ?_
  rintro e w' ⟨v, r, hp1, top1, nx', η', rfl, ⟨vv, n, row, rfl, hrow0, hver, hge, hK⟩, hs', hdead', hrep⟩
  have hn0 : ∀ k, k < nx → η k = none → η' k = none := hs'.env.2.2
  have heq : ∀ p v, (hp p).ver = some v → η' v = η v := fun p v hv => by
    cases hη : η v with
    | none => exact hn0 v (hs.bnd p v hv) hη
    | some x => exact hs'.env.1 v x hη
  have hbo : ∀ p b, (hp p).blk η' = some b → (hp p).blk η = some b := fun p b hb => by
    unfold Row.blk at hb ⊢
    cases hv : (hp p).ver with
    | none => rw [hv] at hb; cases hb
    | some v => rw [hv] at hb; simp only [Option.bind_some] at hb ⊢; rwa [heq p v hv] at hb
  have hcase : ∀ p b, (updR hp top row p).blk η' = some b → (p = top ∧ (hp1 0).blk η' = some b) ∨ (p ≠ top ∧ (hp p).blk η = some b) := fun p b hb => by
    by_cases e : p = top
    · subst e
      rw [updR_at] at hb
      exact .inl ⟨rfl, by rw [hrow0]; exact hb⟩
    · rw [updR_ne _ _ e] at hb
      exact .inr ⟨e, hbo p b hb⟩
  have hL2 : ∀ b, Lset c η' (updR hp top row) b → Lset c1 η' hp1 b := by
    rintro b (hl | ⟨p, hb⟩)
    · exact .inl (.inl hl)
    · rcases hcase p b hb with ⟨_, g⟩ | ⟨_, g⟩
      · exact .inr ⟨0, g⟩
      · exact .inl (.inr ⟨p, g⟩)
  have hL3 : ∀ b, b < w.heap.size → Lset c1 η' hp1 b → Lset c η hp b := by
    rintro b hlt (hl | ⟨i, hi⟩)
    · exact hl
    · rcases (hs'.own i b hi).1 with g | hge
      · exact g.elim
      · exact absurd hlt (Nat.not_lt.2 hge)
  refine ⟨v, .ow top vv n, updR hp top row, top + 1, nx', η', rfl, hK, ?_, fun p hp' => ?_, hrep⟩
  · refine ⟨hs.fr.trans (hs'.fr.mono fun _ _ h => h.elim), hs.lx, fun p => ?_, fun p q u hpu hqu => ?_, fun p u hpu => ?_, fun p q b hpb hqb => ?_, fun p b hb => ?_, hs'.fresh, Env.le_trans hs.env.1 hs'.env.1, Nat.le_trans hs.env.2.1 hs'.env.2.1, fun k hk h0 => hs'.env.2.2 k (Nat.lt_of_lt_of_le hk hs.env.2.1) (hs.env.2.2 k hk h0)⟩
    · by_cases e : p = top
      · subst e
        rw [updR_at]
        have g := hs'.rows 0
        rw [hrow0] at g
        exact RowOK.less hL2 g
      · rw [updR_ne _ _ e]
        exact RowOK.keep hs'.fr hs'.env.1 (fun k _ hk => hk.elim) (fun k hk hl => hL3 k hk (hL2 k hl)) (fun v hv => heq p v hv) (fun b hb => hs'.fr.block b (hs.own p b hb).2.2 not_false) (hs.rows p)
    · by_cases e1 : p = top <;> by_cases e2 : q = top
      · rw [e1, e2]
      · rw [e1, updR_at, hver] at hpu
        rw [updR_ne _ _ e2] at hqu
        have := hs.bnd q u hqu
        obtain rfl := Option.some.inj hpu
        omega
      · rw [e2, updR_at, hver] at hqu
        rw [updR_ne _ _ e1] at hpu
        have := hs.bnd p u hpu
        obtain rfl := Option.some.inj hqu
        omega
      · rw [updR_ne _ _ e1] at hpu
        rw [updR_ne _ _ e2] at hqu
        exact hs.vers p q u hpu hqu
    · by_cases e : p = top
      · rw [e, updR_at, ← hrow0] at hpu
        exact hs'.bnd 0 u hpu
      · rw [updR_ne _ _ e] at hpu
        exact Nat.lt_of_lt_of_le (hs.bnd p u hpu) hs'.env.2.1
    · rcases hcase p b hpb with ⟨e1, g1⟩ | ⟨e1, g1⟩ <;> rcases hcase q b hqb with ⟨e2, g2⟩ | ⟨e2, g2⟩
      · rw [e1, e2]
      · exact absurd (.inr ⟨q, g2⟩) (hs'.own 0 b g1).2.1
      · exact absurd (.inr ⟨p, g1⟩) (hs'.own 0 b g2).2.1
      · exact hs.disj p q b g1 g2
    · rcases hcase p b hb with ⟨_, g⟩ | ⟨_, g⟩
      · obtain ⟨h1, h2, h3⟩ := hs'.own 0 b g
        refine ⟨.inr ?_, fun hl => h2 (.inl hl), h3⟩
        rcases h1 with h1 | h1
        · exact h1.elim
        · exact Nat.le_trans hs.fr.size h1
      · exact ⟨(hs.own p b g).1, (hs.own p b g).2.1, Nat.lt_of_lt_of_le (hs.own p b g).2.2 hs'.fr.size⟩
  · rw [updR_ne _ _ (by omega)]
    exact hdead p (by omega)
end Go.Proofs.YthpjjjnbkfnghaaGreatDoor
namespace Go.Proofs
open Go.Shelf
def Tryz.lays156_ren : Go.Shelf.Ren := ⟨fun | 156 => 110 | 165 => 167 | 166 => 88 | 169 => 92 | 240 => 147 | 241 => 206 | 276 => 196 | 277 => 233 | n => n, fun | 31 => 36 | 9 => 9 | 3 => 3 | 4 => 4 | 0 => 0 | 20 => 20 | 72 => 138 | 76 => 141 | 70 => 136 | 37 => 102 | 75 => 140 | 127 => 206 | 164 => 247 | 5 => 5 | 80 => 145 | n => n, fun | n => n⟩
theorem Tryz.lays156 : Go.Proofs.Lays.n156 Tryz.prog Tryz.lays156_ren := {
  mixed := by kernel_rfl
  f156 := Tryz.func110.trans (congrArg some (by kernel_rfl))
  f165 := Tryz.func167.trans (congrArg some (by kernel_rfl))
  f166 := Tryz.func88.trans (congrArg some (by kernel_rfl))
  f169 := Tryz.func92.trans (congrArg some (by kernel_rfl))
  f240 := Tryz.func147.trans (congrArg some (by kernel_rfl))
  f241 := Tryz.func206.trans (congrArg some (by kernel_rfl))
  f276 := Tryz.func196.trans (congrArg some (by kernel_rfl))
  f277 := Tryz.func233.trans (congrArg some (by kernel_rfl))
  t0 := Tryz.underlying0
  a0 := Tryz.isAgg0
  z0 := Tryz.sizeOf0
  v0 := Tryz.zeroValue0
  t3 := Tryz.underlying3
  a3 := Tryz.isAgg3
  z3 := Tryz.sizeOf3
  v3 := Tryz.zeroValue3
  t4 := Tryz.underlying4
  a4 := Tryz.isAgg4
  z4 := Tryz.sizeOf4
  v4 := Tryz.zeroValue4
  t9 := Tryz.underlying9
  a9 := Tryz.isAgg9
  z9 := Tryz.sizeOf9
  v9 := Tryz.zeroValue9
  t20 := Tryz.underlying20
  a20 := Tryz.isAgg20
  z20 := Tryz.sizeOf20
  v20 := Tryz.zeroValue20
  t31 := Tryz.underlying36
  a31 := Tryz.isAgg36
  z31 := Tryz.sizeOf36
  v31 := Tryz.zeroValue36
  t37 := Tryz.underlying102
  a37 := Tryz.isAgg102
  z37 := Tryz.sizeOf102
  v37 := Tryz.zeroValue102
  t70 := Tryz.underlying136
  a70 := Tryz.isAgg136
  z70 := Tryz.sizeOf136
  v70 := Tryz.zeroValue136
  t72 := Tryz.underlying138
  a72 := Tryz.isAgg138
  z72 := Tryz.sizeOf138
  v72 := Tryz.zeroValue138
  t75 := Tryz.underlying140
  a75 := Tryz.isAgg140
  z75 := Tryz.sizeOf140
  v75 := Tryz.zeroValue140
  t76 := Tryz.underlying141
  a76 := Tryz.isAgg141
  z76 := Tryz.sizeOf141
  v76 := Tryz.zeroValue141
  t127 := Tryz.underlying206
  a127 := Tryz.isAgg206
  z127 := Tryz.sizeOf206
  v127 := Tryz.zeroValue206
  t164 := Tryz.underlying247
  a164 := Tryz.isAgg247
  z164 := Tryz.sizeOf247
  v164 := Tryz.zeroValue247 }
theorem Tryz.Builder_Extra_156 : Builder.Extra Tryz.prog Tryz.lays156_ren := {
  sizeBuilder := by kernel_rfl
  liesBuilder := by kernel_rfl
  t5 := Tryz.underlying5
  a5 := Tryz.isAgg5
  z5 := Tryz.sizeOf5
  v5 := Tryz.zeroValue5
  infoByte := by kernel_rfl
  cellsByte := by kernel_rfl
  sizeByte := by kernel_rfl
  neB5 := by decide }
open Go.RowKit in
theorem Tryz.strings_Join_none (a : Option Addr) (c : Nat) (sep : ByteArray) (w : World) :
    Calls Tryz.prog 110 #[.slice a 0 c, .string sep] w fun e w' => e = .returned (.string ⟨#[]⟩) ∧ w' = w := Any.strings_Join_none Tryz.lays156 Tryz.Builder_Extra_156 a c sep w
open Go.RowKit in
theorem Tryz.strings_Join (bk o c : Nat) (xs : List ByteArray) (sep : ByteArray) (w : World) (hcells : ∀ (j : Nat) x, xs[j]? = some x → w.cell? ⟨bk, o + j, none⟩ = some (.string x)) (hbk : bk < w.heap.size) (hN : xs.length ≤ 140737488355328) (hcap : xs.length ≤ c) (hlen : (Lib.join (xs.map (·.data.toList)) sep.data.toList).length ≤ 140737488355328) :
    Calls Tryz.prog 110 #[.slice (some ⟨bk, o, none⟩) xs.length c, .string sep] w fun e w' => e = .returned (.string ⟨(Lib.join (xs.map (·.data.toList)) sep.data.toList).toArray⟩) ∧ Below w.heap.size w w' := Any.strings_Join Tryz.lays156 Tryz.Builder_Extra_156 bk o c xs sep w hcells hbk hN hcap hlen
def Tryz.lays137_ren : Go.Shelf.Ren := ⟨fun | 137 => 146 | 217 => 195 | 266 => 229 | n => n, fun | 9 => 9 | 5 => 5 | 3 => 3 | n => n, fun | n => n⟩
theorem Tryz.lays137 : Go.Proofs.Lays.n137 Tryz.prog Tryz.lays137_ren := {
  mixed := by kernel_rfl
  f137 := Tryz.func146.trans (congrArg some (by kernel_rfl))
  f217 := Tryz.func195.trans (congrArg some (by kernel_rfl))
  f266 := Tryz.func229.trans (congrArg some (by kernel_rfl))
  t3 := Tryz.underlying3
  a3 := Tryz.isAgg3
  z3 := Tryz.sizeOf3
  v3 := Tryz.zeroValue3
  t5 := Tryz.underlying5
  a5 := Tryz.isAgg5
  z5 := Tryz.sizeOf5
  v5 := Tryz.zeroValue5
  t9 := Tryz.underlying9
  a9 := Tryz.isAgg9
  z9 := Tryz.sizeOf9
  v9 := Tryz.zeroValue9 }
open Go.RowKit in
theorem Tryz.strings_IndexByte (s : ByteArray) (c : Int) (w : World) :
    Calls Tryz.prog 146 #[.string s, .int .u8 c] w fun e w' => e = .returned (.int .i64 (Lib.indexByte s.data.toList c.toNat.toUInt8)) ∧ w' = w := Any.strings_IndexByte Tryz.lays137 s c w
def Tryz.lays172_ren : Go.Shelf.Ren := ⟨fun | 172 => 144 | 244 => 193 | 245 => 194 | 247 => 224 | 279 => 225 | 280 => 226 | 281 => 227 | 282 => 228 | 287 => 244 | 316 => 245 | 171 => 117 | 205 => 246 | 321 => 254 | 322 => 255 | 243 => 170 | 246 => 210 | 283 => 235 | 284 => 236 | 285 => 237 | 286 => 238 | 129 => 250 | 317 => 249 | 318 => 251 | 319 => 252 | 320 => 253 | 337 => 257 | 338 => 258 | n => n, fun | 9 => 9 | 3 => 3 | 75 => 140 | 76 => 141 | 4 => 4 | 5 => 5 | 167 => 268 | 37 => 102 | 0 => 0 | 85 => 269 | 2 => 2 | 168 => 271 | 53 => 23 | 175 => 282 | 46 => 233 | 210 => 285 | 127 => 206 | 145 => 298 | 143 => 296 | 21 => 21 | 171 => 277 | 173 => 280 | 212 => 292 | 51 => 258 | 20 => 20 | 213 => 293 | 232 => 300 | 233 => 301 | 80 => 145 | n => n, fun | 15 => 1 | 16 => 2 | 17 => 5 | 18 => 6 | 19 => 7 | n => n⟩
theorem Tryz.lays172 : Go.Proofs.Lays.n172 Tryz.prog Tryz.lays172_ren := {
  mixed := by kernel_rfl
  f129 := Tryz.func250.trans (congrArg some (by kernel_rfl))
  f171 := Tryz.func117.trans (congrArg some (by kernel_rfl))
  f172 := Tryz.func144.trans (congrArg some (by kernel_rfl))
  f205 := Tryz.func246.trans (congrArg some (by kernel_rfl))
  f243 := Tryz.func170.trans (congrArg some (by kernel_rfl))
  f244 := Tryz.func193.trans (congrArg some (by kernel_rfl))
  f245 := Tryz.func194.trans (congrArg some (by kernel_rfl))
  f246 := Tryz.func210.trans (congrArg some (by kernel_rfl))
  f247 := Tryz.func224.trans (congrArg some (by kernel_rfl))
  f279 := Tryz.func225.trans (congrArg some (by kernel_rfl))
  f280 := Tryz.func226.trans (congrArg some (by kernel_rfl))
  f281 := Tryz.func227.trans (congrArg some (by kernel_rfl))
  f282 := Tryz.func228.trans (congrArg some (by kernel_rfl))
  f283 := Tryz.func235.trans (congrArg some (by kernel_rfl))
  f284 := Tryz.func236.trans (congrArg some (by kernel_rfl))
  f285 := Tryz.func237.trans (congrArg some (by kernel_rfl))
  f286 := Tryz.func238.trans (congrArg some (by kernel_rfl))
  f287 := Tryz.func244.trans (congrArg some (by kernel_rfl))
  f316 := Tryz.func245.trans (congrArg some (by kernel_rfl))
  f317 := Tryz.func249.trans (congrArg some (by kernel_rfl))
  f318 := Tryz.func251.trans (congrArg some (by kernel_rfl))
  f319 := Tryz.func252.trans (congrArg some (by kernel_rfl))
  f320 := Tryz.func253.trans (congrArg some (by kernel_rfl))
  f321 := Tryz.func254.trans (congrArg some (by kernel_rfl))
  f322 := Tryz.func255.trans (congrArg some (by kernel_rfl))
  f337 := Tryz.func257.trans (congrArg some (by kernel_rfl))
  f338 := Tryz.func258.trans (congrArg some (by kernel_rfl))
  t0 := Tryz.underlying0
  a0 := Tryz.isAgg0
  z0 := Tryz.sizeOf0
  v0 := Tryz.zeroValue0
  t2 := Tryz.underlying2
  a2 := Tryz.isAgg2
  z2 := Tryz.sizeOf2
  v2 := Tryz.zeroValue2
  t3 := Tryz.underlying3
  a3 := Tryz.isAgg3
  z3 := Tryz.sizeOf3
  v3 := Tryz.zeroValue3
  t4 := Tryz.underlying4
  a4 := Tryz.isAgg4
  z4 := Tryz.sizeOf4
  v4 := Tryz.zeroValue4
  t5 := Tryz.underlying5
  a5 := Tryz.isAgg5
  z5 := Tryz.sizeOf5
  v5 := Tryz.zeroValue5
  t9 := Tryz.underlying9
  a9 := Tryz.isAgg9
  z9 := Tryz.sizeOf9
  v9 := Tryz.zeroValue9
  t20 := Tryz.underlying20
  a20 := Tryz.isAgg20
  z20 := Tryz.sizeOf20
  v20 := Tryz.zeroValue20
  t21 := Tryz.underlying21
  a21 := Tryz.isAgg21
  z21 := Tryz.sizeOf21
  v21 := Tryz.zeroValue21
  t37 := Tryz.underlying102
  a37 := Tryz.isAgg102
  z37 := Tryz.sizeOf102
  v37 := Tryz.zeroValue102
  t46 := Tryz.underlying233
  a46 := Tryz.isAgg233
  z46 := Tryz.sizeOf233
  v46 := Tryz.zeroValue233
  t51 := Tryz.underlying258
  a51 := Tryz.isAgg258
  z51 := Tryz.sizeOf258
  v51 := Tryz.zeroValue258
  t53 := Tryz.underlying23
  a53 := Tryz.isAgg23
  z53 := Tryz.sizeOf23
  v53 := Tryz.zeroValue23
  t75 := Tryz.underlying140
  a75 := Tryz.isAgg140
  z75 := Tryz.sizeOf140
  v75 := Tryz.zeroValue140
  t76 := Tryz.underlying141
  a76 := Tryz.isAgg141
  z76 := Tryz.sizeOf141
  v76 := Tryz.zeroValue141
  t85 := Tryz.underlying269
  a85 := Tryz.isAgg269
  z85 := Tryz.sizeOf269
  v85 := Tryz.zeroValue269
  t127 := Tryz.underlying206
  a127 := Tryz.isAgg206
  z127 := Tryz.sizeOf206
  v127 := Tryz.zeroValue206
  t143 := Tryz.underlying296
  a143 := Tryz.isAgg296
  z143 := Tryz.sizeOf296
  v143 := Tryz.zeroValue296
  t145 := Tryz.underlying298
  a145 := Tryz.isAgg298
  z145 := Tryz.sizeOf298
  v145 := Tryz.zeroValue298
  t167 := Tryz.underlying268
  a167 := Tryz.isAgg268
  z167 := Tryz.sizeOf268
  v167 := Tryz.zeroValue268
  t168 := Tryz.underlying271
  a168 := Tryz.isAgg271
  z168 := Tryz.sizeOf271
  v168 := Tryz.zeroValue271
  t171 := Tryz.underlying277
  a171 := Tryz.isAgg277
  z171 := Tryz.sizeOf277
  v171 := Tryz.zeroValue277
  t173 := Tryz.underlying280
  a173 := Tryz.isAgg280
  z173 := Tryz.sizeOf280
  v173 := Tryz.zeroValue280
  t175 := Tryz.underlying282
  a175 := Tryz.isAgg282
  z175 := Tryz.sizeOf282
  v175 := Tryz.zeroValue282
  t210 := Tryz.underlying285
  a210 := Tryz.isAgg285
  z210 := Tryz.sizeOf285
  v210 := Tryz.zeroValue285
  t212 := Tryz.underlying292
  a212 := Tryz.isAgg292
  z212 := Tryz.sizeOf292
  v212 := Tryz.zeroValue292
  t213 := Tryz.underlying293
  a213 := Tryz.isAgg293
  z213 := Tryz.sizeOf293
  t232 := Tryz.underlying300
  a232 := Tryz.isAgg300
  z232 := Tryz.sizeOf300
  v232 := Tryz.zeroValue300
  t233 := Tryz.underlying301
  a233 := Tryz.isAgg301
  z233 := Tryz.sizeOf301
  v233 := Tryz.zeroValue301
  g15 := by kernel_rfl
  g16 := by kernel_rfl
  g17 := by kernel_rfl
  g18 := by kernel_rfl
  g19 := by kernel_rfl }
open Go.RowKit in
theorem Tryz.strconv_Atoi (s : ByteArray) (n : Int) (hl : s.size ≤ 18) (h : Lib.atoi s.data.toList = some n) (w : World) :
    Calls Tryz.prog 144 #[.string s] w fun e w' => e = .returned (.tuple #[.int .i64 n, .nilIface]) ∧ ∃ t, w' = Lib.bytesWorld w 5 t := Any.strconv_Atoi Tryz.lays172 s n hl h w
def Tryz.laysM171_ren : Go.Shelf.Ren := ⟨fun | 171 => 117 | 243 => 170 | 246 => 210 | 283 => 235 | 284 => 236 | 285 => 237 | 286 => 238 | 129 => 250 | 317 => 249 | 318 => 251 | 319 => 252 | 320 => 253 | 337 => 257 | 338 => 258 | n => n, fun | 3 => 3 | 9 => 9 | 2 => 2 | 4 => 4 | 171 => 277 | 0 => 0 | 53 => 23 | 37 => 102 | 5 => 5 | 173 => 280 | 212 => 292 | 51 => 258 | 20 => 20 | 213 => 293 | 46 => 233 | 232 => 300 | 233 => 301 | n => n, fun | 17 => 5 | 18 => 6 | 19 => 7 | n => n⟩
theorem Tryz.laysM171 : Go.Proofs.LaysM.n171 Tryz.prog Tryz.laysM171_ren := {
  mixed := by kernel_rfl
  f129 := Tryz.func250.trans (congrArg some (by kernel_rfl))
  f171 := Tryz.func117.trans (congrArg some (by kernel_rfl))
  f243 := Tryz.func170.trans (congrArg some (by kernel_rfl))
  f246 := Tryz.func210.trans (congrArg some (by kernel_rfl))
  f283 := Tryz.func235.trans (congrArg some (by kernel_rfl))
  f284 := Tryz.func236.trans (congrArg some (by kernel_rfl))
  f285 := Tryz.func237.trans (congrArg some (by kernel_rfl))
  f286 := Tryz.func238.trans (congrArg some (by kernel_rfl))
  f317 := Tryz.func249.trans (congrArg some (by kernel_rfl))
  f318 := Tryz.func251.trans (congrArg some (by kernel_rfl))
  f319 := Tryz.func252.trans (congrArg some (by kernel_rfl))
  f320 := Tryz.func253.trans (congrArg some (by kernel_rfl))
  f337 := Tryz.func257.trans (congrArg some (by kernel_rfl))
  f338 := Tryz.func258.trans (congrArg some (by kernel_rfl))
  t0 := Tryz.underlying0
  a0 := Tryz.isAgg0
  z0 := Tryz.sizeOf0
  v0 := Tryz.zeroValue0
  t2 := Tryz.underlying2
  a2 := Tryz.isAgg2
  z2 := Tryz.sizeOf2
  v2 := Tryz.zeroValue2
  t3 := Tryz.underlying3
  a3 := Tryz.isAgg3
  z3 := Tryz.sizeOf3
  v3 := Tryz.zeroValue3
  t4 := Tryz.underlying4
  a4 := Tryz.isAgg4
  z4 := Tryz.sizeOf4
  v4 := Tryz.zeroValue4
  t5 := Tryz.underlying5
  a5 := Tryz.isAgg5
  z5 := Tryz.sizeOf5
  v5 := Tryz.zeroValue5
  t9 := Tryz.underlying9
  a9 := Tryz.isAgg9
  z9 := Tryz.sizeOf9
  v9 := Tryz.zeroValue9
  t20 := Tryz.underlying20
  a20 := Tryz.isAgg20
  z20 := Tryz.sizeOf20
  v20 := Tryz.zeroValue20
  t37 := Tryz.underlying102
  a37 := Tryz.isAgg102
  z37 := Tryz.sizeOf102
  v37 := Tryz.zeroValue102
  t46 := Tryz.underlying233
  a46 := Tryz.isAgg233
  z46 := Tryz.sizeOf233
  v46 := Tryz.zeroValue233
  t51 := Tryz.underlying258
  a51 := Tryz.isAgg258
  z51 := Tryz.sizeOf258
  v51 := Tryz.zeroValue258
  t53 := Tryz.underlying23
  a53 := Tryz.isAgg23
  z53 := Tryz.sizeOf23
  v53 := Tryz.zeroValue23
  t171 := Tryz.underlying277
  a171 := Tryz.isAgg277
  z171 := Tryz.sizeOf277
  v171 := Tryz.zeroValue277
  t173 := Tryz.underlying280
  a173 := Tryz.isAgg280
  z173 := Tryz.sizeOf280
  v173 := Tryz.zeroValue280
  t212 := Tryz.underlying292
  a212 := Tryz.isAgg292
  z212 := Tryz.sizeOf292
  v212 := Tryz.zeroValue292
  t213 := Tryz.underlying293
  a213 := Tryz.isAgg293
  z213 := Tryz.sizeOf293
  t232 := Tryz.underlying300
  a232 := Tryz.isAgg300
  z232 := Tryz.sizeOf300
  v232 := Tryz.zeroValue300
  t233 := Tryz.underlying301
  a233 := Tryz.isAgg301
  z233 := Tryz.sizeOf301
  v233 := Tryz.zeroValue301
  g17 := by kernel_rfl
  g18 := by kernel_rfl
  g19 := by kernel_rfl
  i0 := by kernel_rfl
  i2 := by kernel_rfl
  i3 := by kernel_rfl
  i4 := by kernel_rfl
  i5 := by kernel_rfl
  i9 := by kernel_rfl
  i20 := by kernel_rfl
  i37 := by kernel_rfl
  i46 := by kernel_rfl
  i51 := by kernel_rfl
  i53 := by kernel_rfl
  i171 := by kernel_rfl
  i173 := by kernel_rfl
  i212 := by kernel_rfl
  i232 := by kernel_rfl
  i233 := by kernel_rfl
  m17 := by kernel_rfl
  m18 := by kernel_rfl
  m19 := by kernel_rfl }
open Go.RowKit Go.Sort Go.Lib in
theorem Tryz.strconv_Itoa (n : Int) (h0 : -9223372036854775808 ≤ n) (h1 : n ≤ 9223372036854775807) (w : World) (htab : Lib.TabIs Tryz.prog w "internal/strconv.uint64pow10" .u64 Lib.pow10Tab) :
    Calls Tryz.prog 117 #[.int .i64 n] w fun e w' => e = .returned (.string ⟨(Lib.itoa n).toArray⟩) ∧ ∃ k os, w' = grow (w.drewN k) os := Any.strconv_Itoa Tryz.laysM171 n h0 h1 w htab
def Tryz.lays143_ren : Go.Shelf.Ren := ⟨fun | 143 => 109 | 219 => 166 | 217 => 195 | 225 => 203 | 224 => 204 | 267 => 205 | 266 => 229 | 314 => 232 | n => n, fun | 9 => 9 | 3 => 3 | 4 => 4 | 5 => 5 | 46 => 233 | 146 => 259 | 51 => 258 | n => n, fun | 1 => 0 | n => n⟩
theorem Tryz.lays143 : Go.Proofs.Lays.n143 Tryz.prog Tryz.lays143_ren := {
  mixed := by kernel_rfl
  f143 := Tryz.func109.trans (congrArg some (by kernel_rfl))
  f217 := Tryz.func195.trans (congrArg some (by kernel_rfl))
  f219 := Tryz.func166.trans (congrArg some (by kernel_rfl))
  f224 := Tryz.func204.trans (congrArg some (by kernel_rfl))
  f225 := Tryz.func203.trans (congrArg some (by kernel_rfl))
  f266 := Tryz.func229.trans (congrArg some (by kernel_rfl))
  f267 := Tryz.func205.trans (congrArg some (by kernel_rfl))
  f314 := Tryz.func232.trans (congrArg some (by kernel_rfl))
  t3 := Tryz.underlying3
  a3 := Tryz.isAgg3
  z3 := Tryz.sizeOf3
  v3 := Tryz.zeroValue3
  t4 := Tryz.underlying4
  a4 := Tryz.isAgg4
  z4 := Tryz.sizeOf4
  v4 := Tryz.zeroValue4
  t5 := Tryz.underlying5
  a5 := Tryz.isAgg5
  z5 := Tryz.sizeOf5
  v5 := Tryz.zeroValue5
  t9 := Tryz.underlying9
  a9 := Tryz.isAgg9
  z9 := Tryz.sizeOf9
  v9 := Tryz.zeroValue9
  t46 := Tryz.underlying233
  a46 := Tryz.isAgg233
  z46 := Tryz.sizeOf233
  v46 := Tryz.zeroValue233
  t51 := Tryz.underlying258
  a51 := Tryz.isAgg258
  z51 := Tryz.sizeOf258
  v51 := Tryz.zeroValue258
  t146 := Tryz.underlying259
  a146 := Tryz.isAgg259
  z146 := Tryz.sizeOf259
  v146 := Tryz.zeroValue259
  g1 := by kernel_rfl }
open Go.RowKit Go.Lib in
theorem Tryz.strings_Index_one (s : ByteArray) (c : UInt8) (w : World) :
    Calls Tryz.prog 109 #[.string s, .string ⟨#[c]⟩] w fun e w' => e = .returned (.int .i64 (Lib.indexByte s.data.toList c)) ∧ w' = w := Any.strings_Index_one Tryz.lays143 s c w
def Tryz.lays145_ren : Go.Shelf.Ren := ⟨fun | 145 => 143 | 220 => 192 | 219 => 166 | 217 => 195 | 225 => 203 | 224 => 204 | 267 => 205 | 266 => 229 | 314 => 232 | n => n, fun | 9 => 9 | 4 => 4 | 59 => 201 | 3 => 3 | 5 => 5 | 46 => 233 | 146 => 259 | 51 => 258 | n => n, fun | 1 => 0 | n => n⟩
theorem Tryz.lays145 : Go.Proofs.Lays.n145 Tryz.prog Tryz.lays145_ren := {
  mixed := by kernel_rfl
  f145 := Tryz.func143.trans (congrArg some (by kernel_rfl))
  f217 := Tryz.func195.trans (congrArg some (by kernel_rfl))
  f219 := Tryz.func166.trans (congrArg some (by kernel_rfl))
  f220 := Tryz.func192.trans (congrArg some (by kernel_rfl))
  f224 := Tryz.func204.trans (congrArg some (by kernel_rfl))
  f225 := Tryz.func203.trans (congrArg some (by kernel_rfl))
  f266 := Tryz.func229.trans (congrArg some (by kernel_rfl))
  f267 := Tryz.func205.trans (congrArg some (by kernel_rfl))
  f314 := Tryz.func232.trans (congrArg some (by kernel_rfl))
  t3 := Tryz.underlying3
  a3 := Tryz.isAgg3
  z3 := Tryz.sizeOf3
  v3 := Tryz.zeroValue3
  t4 := Tryz.underlying4
  a4 := Tryz.isAgg4
  z4 := Tryz.sizeOf4
  v4 := Tryz.zeroValue4
  t5 := Tryz.underlying5
  a5 := Tryz.isAgg5
  z5 := Tryz.sizeOf5
  v5 := Tryz.zeroValue5
  t9 := Tryz.underlying9
  a9 := Tryz.isAgg9
  z9 := Tryz.sizeOf9
  v9 := Tryz.zeroValue9
  t46 := Tryz.underlying233
  a46 := Tryz.isAgg233
  z46 := Tryz.sizeOf233
  v46 := Tryz.zeroValue233
  t51 := Tryz.underlying258
  a51 := Tryz.isAgg258
  z51 := Tryz.sizeOf258
  v51 := Tryz.zeroValue258
  t59 := Tryz.underlying201
  a59 := Tryz.isAgg201
  z59 := Tryz.sizeOf201
  v59 := Tryz.zeroValue201
  t146 := Tryz.underlying259
  a146 := Tryz.isAgg259
  z146 := Tryz.sizeOf259
  v146 := Tryz.zeroValue259
  g1 := by kernel_rfl }
open Go.RowKit Go.Lib in
theorem Tryz.strings_Cut (s sep : ByteArray) (m : Int) (w : World) (hs : s.size < 4294967281) (hm : w.cell? ⟨0, 0, none⟩ = some (.int .i64 m)) :
    Calls Tryz.prog 143 #[.string s, .string sep] w fun e w' => e = .returned (.tuple #[.string ⟨(Lib.cut s.data.toList sep.data.toList).1.toArray⟩, .string ⟨(Lib.cut s.data.toList sep.data.toList).2.1.toArray⟩, .bool (Lib.cut s.data.toList sep.data.toList).2.2]) ∧ ∃ n, w' = w.drewN n := Any.strings_Cut Tryz.lays145 s sep m w hs hm
def Tryz.lays138_ren : Go.Shelf.Ren := ⟨fun | 138 => 169 | 195 => 207 | 218 => 209 | 143 => 109 | 219 => 166 | 217 => 195 | 225 => 203 | 224 => 204 | 267 => 205 | 266 => 229 | 314 => 232 | n => n, fun | 9 => 9 | 3 => 3 | 4 => 4 | 5 => 5 | 0 => 0 | 46 => 233 | 146 => 259 | 51 => 258 | n => n, fun | 1 => 0 | n => n⟩
theorem Tryz.lays138 : Go.Proofs.Lays.n138 Tryz.prog Tryz.lays138_ren := {
  mixed := by kernel_rfl
  f138 := Tryz.func169.trans (congrArg some (by kernel_rfl))
  f143 := Tryz.func109.trans (congrArg some (by kernel_rfl))
  f195 := Tryz.func207.trans (congrArg some (by kernel_rfl))
  f217 := Tryz.func195.trans (congrArg some (by kernel_rfl))
  f218 := Tryz.func209.trans (congrArg some (by kernel_rfl))
  f219 := Tryz.func166.trans (congrArg some (by kernel_rfl))
  f224 := Tryz.func204.trans (congrArg some (by kernel_rfl))
  f225 := Tryz.func203.trans (congrArg some (by kernel_rfl))
  f266 := Tryz.func229.trans (congrArg some (by kernel_rfl))
  f267 := Tryz.func205.trans (congrArg some (by kernel_rfl))
  f314 := Tryz.func232.trans (congrArg some (by kernel_rfl))
  t0 := Tryz.underlying0
  a0 := Tryz.isAgg0
  z0 := Tryz.sizeOf0
  v0 := Tryz.zeroValue0
  t3 := Tryz.underlying3
  a3 := Tryz.isAgg3
  z3 := Tryz.sizeOf3
  v3 := Tryz.zeroValue3
  t4 := Tryz.underlying4
  a4 := Tryz.isAgg4
  z4 := Tryz.sizeOf4
  v4 := Tryz.zeroValue4
  t5 := Tryz.underlying5
  a5 := Tryz.isAgg5
  z5 := Tryz.sizeOf5
  v5 := Tryz.zeroValue5
  t9 := Tryz.underlying9
  a9 := Tryz.isAgg9
  z9 := Tryz.sizeOf9
  v9 := Tryz.zeroValue9
  t46 := Tryz.underlying233
  a46 := Tryz.isAgg233
  z46 := Tryz.sizeOf233
  v46 := Tryz.zeroValue233
  t51 := Tryz.underlying258
  a51 := Tryz.isAgg258
  z51 := Tryz.sizeOf258
  v51 := Tryz.zeroValue258
  t146 := Tryz.underlying259
  a146 := Tryz.isAgg259
  z146 := Tryz.sizeOf259
  v146 := Tryz.zeroValue259
  g1 := by kernel_rfl }
open Go.RowKit Go.Lib in
theorem Tryz.strings_Count_one (s : ByteArray) (c : UInt8) (w : World) :
    Calls Tryz.prog 169 #[.string s, .string ⟨#[c]⟩] w fun e w' => e = .returned (.int .i64 (Lib.countByte s.data.toList c)) ∧ w' = w := Any.strings_Count_one Tryz.lays138 s c w
def Tryz.lays99_ren : Go.Shelf.Ren := ⟨fun | 99 => 85 | 206 => 140 | n => n, fun | 9 => 9 | 4 => 4 | 3 => 3 | n => n, fun | n => n⟩
theorem Tryz.lays99 : Go.Proofs.Lays.n99 Tryz.prog Tryz.lays99_ren := {
  mixed := by kernel_rfl
  f99 := Tryz.func85.trans (congrArg some (by kernel_rfl))
  f206 := Tryz.func140.trans (congrArg some (by kernel_rfl))
  t3 := Tryz.underlying3
  a3 := Tryz.isAgg3
  z3 := Tryz.sizeOf3
  v3 := Tryz.zeroValue3
  t4 := Tryz.underlying4
  a4 := Tryz.isAgg4
  z4 := Tryz.sizeOf4
  v4 := Tryz.zeroValue4
  t9 := Tryz.underlying9
  a9 := Tryz.isAgg9
  z9 := Tryz.sizeOf9
  v9 := Tryz.zeroValue9 }
open Go.RowKit Go.Lib in
theorem Tryz.strings_HasPrefix (s p : ByteArray) (w : World) :
    Calls Tryz.prog 85 #[.string s, .string p] w fun e w' => e = .returned (.bool (Lib.hasPrefix s.data.toList p.data.toList)) ∧ w' = w := Any.strings_HasPrefix Tryz.lays99 s p w
def Tryz.lays100_ren : Go.Shelf.Ren := ⟨fun | 100 => 91 | 207 => 149 | n => n, fun | 9 => 9 | 4 => 4 | 3 => 3 | n => n, fun | n => n⟩
theorem Tryz.lays100 : Go.Proofs.Lays.n100 Tryz.prog Tryz.lays100_ren := {
  mixed := by kernel_rfl
  f100 := Tryz.func91.trans (congrArg some (by kernel_rfl))
  f207 := Tryz.func149.trans (congrArg some (by kernel_rfl))
  t3 := Tryz.underlying3
  a3 := Tryz.isAgg3
  z3 := Tryz.sizeOf3
  v3 := Tryz.zeroValue3
  t4 := Tryz.underlying4
  a4 := Tryz.isAgg4
  z4 := Tryz.sizeOf4
  v4 := Tryz.zeroValue4
  t9 := Tryz.underlying9
  a9 := Tryz.isAgg9
  z9 := Tryz.sizeOf9
  v9 := Tryz.zeroValue9 }
open Go.RowKit Go.Lib in
theorem Tryz.strings_HasSuffix (s p : ByteArray) (w : World) (hs : s.size ≤ 9223372036854775807) :
    Calls Tryz.prog 91 #[.string s, .string p] w fun e w' => e = .returned (.bool (Lib.hasSuffix s.data.toList p.data.toList)) ∧ w' = w := Any.strings_HasSuffix Tryz.lays100 s p w hs
def Tryz.lays101_ren : Go.Shelf.Ren := ⟨fun | 101 => 142 | 208 => 191 | 206 => 140 | n => n, fun | 9 => 9 | 4 => 4 | 3 => 3 | n => n, fun | n => n⟩
theorem Tryz.lays101 : Go.Proofs.Lays.n101 Tryz.prog Tryz.lays101_ren := {
  mixed := by kernel_rfl
  f101 := Tryz.func142.trans (congrArg some (by kernel_rfl))
  f206 := Tryz.func140.trans (congrArg some (by kernel_rfl))
  f208 := Tryz.func191.trans (congrArg some (by kernel_rfl))
  t3 := Tryz.underlying3
  a3 := Tryz.isAgg3
  z3 := Tryz.sizeOf3
  v3 := Tryz.zeroValue3
  t4 := Tryz.underlying4
  a4 := Tryz.isAgg4
  z4 := Tryz.sizeOf4
  v4 := Tryz.zeroValue4
  t9 := Tryz.underlying9
  a9 := Tryz.isAgg9
  z9 := Tryz.sizeOf9
  v9 := Tryz.zeroValue9 }
open Go.RowKit Go.Lib in
theorem Tryz.strings_TrimPrefix (s p : ByteArray) (w : World) :
    Calls Tryz.prog 142 #[.string s, .string p] w fun e w' => e = .returned (.string ⟨(Lib.trimPrefix s.data.toList p.data.toList).toArray⟩) ∧ w' = w := Any.strings_TrimPrefix Tryz.lays101 s p w
def Tryz.lays102_ren : Go.Shelf.Ren := ⟨fun | 102 => 141 | 209 => 190 | 207 => 149 | n => n, fun | 9 => 9 | 4 => 4 | 3 => 3 | n => n, fun | n => n⟩
theorem Tryz.lays102 : Go.Proofs.Lays.n102 Tryz.prog Tryz.lays102_ren := {
  mixed := by kernel_rfl
  f102 := Tryz.func141.trans (congrArg some (by kernel_rfl))
  f207 := Tryz.func149.trans (congrArg some (by kernel_rfl))
  f209 := Tryz.func190.trans (congrArg some (by kernel_rfl))
  t3 := Tryz.underlying3
  a3 := Tryz.isAgg3
  z3 := Tryz.sizeOf3
  v3 := Tryz.zeroValue3
  t4 := Tryz.underlying4
  a4 := Tryz.isAgg4
  z4 := Tryz.sizeOf4
  v4 := Tryz.zeroValue4
  t9 := Tryz.underlying9
  a9 := Tryz.isAgg9
  z9 := Tryz.sizeOf9
  v9 := Tryz.zeroValue9 }
open Go.RowKit Go.Lib in
theorem Tryz.strings_TrimSuffix (s p : ByteArray) (w : World) (hs : s.size ≤ 9223372036854775807) :
    Calls Tryz.prog 141 #[.string s, .string p] w fun e w' => e = .returned (.string ⟨(Lib.trimSuffix s.data.toList p.data.toList).toArray⟩) ∧ w' = w := Any.strings_TrimSuffix Tryz.lays102 s p w hs
def Tryz.lays105_ren : Go.Shelf.Ren := ⟨fun | 105 => 212 | 212 => 177 | 99 => 85 | 165 => 167 | 166 => 88 | 170 => 239 | 169 => 92 | 263 => 213 | 264 => 214 | 206 => 140 | 240 => 147 | 241 => 206 | 276 => 196 | 277 => 233 | n => n, fun | 9 => 9 | 3 => 3 | 4 => 4 | 20 => 20 | 0 => 0 | 46 => 233 | 109 => 234 | 5 => 5 | 72 => 138 | 76 => 141 | 51 => 258 | 146 => 259 | 53 => 23 | 148 => 261 | 70 => 136 | 37 => 102 | 75 => 140 | 127 => 206 | 164 => 247 | 80 => 145 | n => n, fun | n => n⟩
theorem Tryz.lays105 : Go.Proofs.Lays.n105 Tryz.prog Tryz.lays105_ren := {
  mixed := by kernel_rfl
  f99 := Tryz.func85.trans (congrArg some (by kernel_rfl))
  f105 := Tryz.func212.trans (congrArg some (by kernel_rfl))
  f165 := Tryz.func167.trans (congrArg some (by kernel_rfl))
  f166 := Tryz.func88.trans (congrArg some (by kernel_rfl))
  f169 := Tryz.func92.trans (congrArg some (by kernel_rfl))
  f170 := Tryz.func239.trans (congrArg some (by kernel_rfl))
  f206 := Tryz.func140.trans (congrArg some (by kernel_rfl))
  f212 := Tryz.func177.trans (congrArg some (by kernel_rfl))
  f240 := Tryz.func147.trans (congrArg some (by kernel_rfl))
  f241 := Tryz.func206.trans (congrArg some (by kernel_rfl))
  f263 := Tryz.func213.trans (congrArg some (by kernel_rfl))
  f264 := Tryz.func214.trans (congrArg some (by kernel_rfl))
  f276 := Tryz.func196.trans (congrArg some (by kernel_rfl))
  f277 := Tryz.func233.trans (congrArg some (by kernel_rfl))
  t0 := Tryz.underlying0
  a0 := Tryz.isAgg0
  z0 := Tryz.sizeOf0
  v0 := Tryz.zeroValue0
  t3 := Tryz.underlying3
  a3 := Tryz.isAgg3
  z3 := Tryz.sizeOf3
  v3 := Tryz.zeroValue3
  t4 := Tryz.underlying4
  a4 := Tryz.isAgg4
  z4 := Tryz.sizeOf4
  v4 := Tryz.zeroValue4
  t5 := Tryz.underlying5
  a5 := Tryz.isAgg5
  z5 := Tryz.sizeOf5
  v5 := Tryz.zeroValue5
  t9 := Tryz.underlying9
  a9 := Tryz.isAgg9
  z9 := Tryz.sizeOf9
  v9 := Tryz.zeroValue9
  t20 := Tryz.underlying20
  a20 := Tryz.isAgg20
  z20 := Tryz.sizeOf20
  v20 := Tryz.zeroValue20
  t37 := Tryz.underlying102
  a37 := Tryz.isAgg102
  z37 := Tryz.sizeOf102
  v37 := Tryz.zeroValue102
  t46 := Tryz.underlying233
  a46 := Tryz.isAgg233
  z46 := Tryz.sizeOf233
  v46 := Tryz.zeroValue233
  t51 := Tryz.underlying258
  a51 := Tryz.isAgg258
  z51 := Tryz.sizeOf258
  v51 := Tryz.zeroValue258
  t53 := Tryz.underlying23
  a53 := Tryz.isAgg23
  z53 := Tryz.sizeOf23
  v53 := Tryz.zeroValue23
  t70 := Tryz.underlying136
  a70 := Tryz.isAgg136
  z70 := Tryz.sizeOf136
  v70 := Tryz.zeroValue136
  t72 := Tryz.underlying138
  a72 := Tryz.isAgg138
  z72 := Tryz.sizeOf138
  v72 := Tryz.zeroValue138
  t75 := Tryz.underlying140
  a75 := Tryz.isAgg140
  z75 := Tryz.sizeOf140
  v75 := Tryz.zeroValue140
  t76 := Tryz.underlying141
  a76 := Tryz.isAgg141
  z76 := Tryz.sizeOf141
  v76 := Tryz.zeroValue141
  t109 := Tryz.underlying234
  a109 := Tryz.isAgg234
  z109 := Tryz.sizeOf234
  v109 := Tryz.zeroValue234
  t127 := Tryz.underlying206
  a127 := Tryz.isAgg206
  z127 := Tryz.sizeOf206
  v127 := Tryz.zeroValue206
  t146 := Tryz.underlying259
  a146 := Tryz.isAgg259
  z146 := Tryz.sizeOf259
  v146 := Tryz.zeroValue259
  t148 := Tryz.underlying261
  a148 := Tryz.isAgg261
  z148 := Tryz.sizeOf261
  v148 := Tryz.zeroValue261
  t164 := Tryz.underlying247
  a164 := Tryz.isAgg247
  z164 := Tryz.sizeOf247
  v164 := Tryz.zeroValue247 }
theorem Tryz.Builder_Extra_105 : Builder.Extra Tryz.prog Tryz.lays105_ren := {
  sizeBuilder := by kernel_rfl
  liesBuilder := by kernel_rfl
  t5 := Tryz.underlying5
  a5 := Tryz.isAgg5
  z5 := Tryz.sizeOf5
  v5 := Tryz.zeroValue5
  infoByte := by kernel_rfl
  cellsByte := by kernel_rfl
  sizeByte := by kernel_rfl
  neB5 := by decide }
open Go.RowKit Go.Lib in
theorem Tryz.strings_Repeat (s : ByteArray) (c : Nat) (w : World) (hc : c ≤ 9223372036854775807) (hlen : s.size * c ≤ 140737488355328) :
    Calls Tryz.prog 212 #[.string s, .int .i64 c] w fun e w' => e = .returned (.string ⟨(Lib.repeatL s.data.toList c).toArray⟩) ∧ Below w.heap.size w w' := Any.strings_Repeat Tryz.lays105 Tryz.Builder_Extra_105 s c w hc hlen
end Go.Proofs
set_option linter.unusedSimpArgs false
set_option linter.unusedVariables false
set_option maxRecDepth 100000
namespace Go.Proofs.YthpjjjnbkfnghaaGreatDoor
open Go
attribute [local irreducible] AW AVle ASle RowLe
def sIndex1 : Spec := Spec.f2 kS kS (fun _ b => b = [10]) (fun a _ => kI.enc (Lib.indexByte a 10))
theorem okIndex1 : SpecOK Tryz.prog 109 sIndex1 := by
  refine SpecOK.ss Tryz.func109 rfl (by decide) fun a b hd w => ?_
  subst hd
  refine (Tryz.strings_Index_one ⟨a.toArray⟩ 10 w).mono ?_
  rintro e w' ⟨rfl, rfl⟩
  exact ⟨_, rfl, Fr.refl _ _, fun _ => rfl⟩
def sCount1 : Spec := Spec.f2 kS kS (fun _ b => b = [10]) (fun a _ => kI.enc (a.count 10 : Nat))
theorem okCount1 : SpecOK Tryz.prog 169 sCount1 := by
  refine SpecOK.ss Tryz.func169 rfl (by decide) fun a b hd w => ?_
  subst hd
  refine (Tryz.strings_Count_one ⟨a.toArray⟩ 10 w).mono ?_
  rintro e w' ⟨rfl, rfl⟩
  exact ⟨_, rfl, Fr.refl _ _, fun _ => rfl⟩

theorem spA_step {r : List UInt8} (h : (10 : UInt8) ∈ r) : ∃ m : Nat, Lib.indexByte r 10 = m ∧ m + 1 ≤ r.length ∧ spA r = r.take (m + 1) :: spA (r.drop (m + 1)) ∧ (r.drop (m + 1)).count 10 + 1 = r.count 10 := by
  rcases idx_cases r with ⟨_, h'⟩ | ⟨p, q, rfl, hp, hm⟩
  · exact absurd h h'
  · have e0 : p ++ 10 :: q = (p ++ [10]) ++ q := by simp
    have el : p.length + 1 = (p ++ [10]).length := by simp
    have e1 : (p ++ 10 :: q).take (p.length + 1) = p ++ [10] := by rw [e0, el, List.take_left]
    have e2 : (p ++ 10 :: q).drop (p.length + 1) = q := by rw [e0, el, List.drop_left]
    refine ⟨p.length, hm, by simp, ?_, ?_⟩
    · rw [e1, e2, spA_cut p q hp]
    · rw [e2, List.count_append, List.count_eq_zero.2 hp]
      simp
def sGenSplit : Spec := Spec.f4 kS kS kI kI (fun s b k n => s.length ≤ 100000000 ∧ b = [10] ∧ k = 1 ∧ n = -1) (fun s _ _ _ => sL eS (spA s))
theorem okGenSplit : SpecOK Tryz.prog 111 sGenSplit := by
  refine SpecOK.f4 Tryz.func111 rfl (by decide) Tryz.results111 Tryz.ntmps111 (by decide) fun s b k n ⟨hs, hb, hk, hn⟩ => ?_
  have hΓ : GOK Tryz.prog (gam [(109, sIndex1), (169, sCount1)]) := (.cons okIndex1 (.cons okCount1 .nil))
  subst hb hk hn
  have hc : s.count 10 ≤ s.length := List.count_le_length
  have hn : min ((s.count 10 : Int) + 1) ((s.length : Int) + 1) = (s.count 10 : Nat) + 1 := by omega
  refine AW.of hΓ mixed [99999] _ _ _ rfl ?_
  simp only [go_sem, sIndex1, sCount1, hn]
  refine ⟨by omega, by omega, by omega, by omega, ?_⟩
  refine AW.round (α := { x : List (List UInt8) × List UInt8 // x.1 ++ spA x.2 = spA s ∧ x.1.length + x.2.count 10 = s.count 10 ∧ x.2.length ≤ s.length })
    (fun x => ⟨[(0, .st x.1.2), (1, .st [10]), (2, .val (.int .i64 1)), (3, .val (.int .i64 (s.count 10 : Nat))), (9, .ow 0 0 (s.count 10 + 1)), (10, .val (.int .i64 x.1.1.length))],
      [(0, rowL 0 9 eS (x.1.1 ++ List.replicate (x.1.2.count 10 + 1) []))], 66, 1, 1, []⟩) (fun x => s.count 10 - x.1.1.length) ⟨([], s), by simp, by simp, Nat.le_refl _⟩ ?_ ?_
  · simp only [go_sem, sIndex1, sCount1]
    exact row_make rfl rfl (by simp) zC_S
  · rintro ⟨⟨acc, r⟩, h1, h2, h3⟩
    simp only at h1 h2 h3
    refine AW.of hΓ mixed [] _ _ _ rfl ?_
    simp only [go_sem, sIndex1, sCount1]
    have hcr : r.count 10 ≤ r.length := List.count_le_length
    refine ⟨fun hi => ?_, fun hi => ?_⟩
    · obtain ⟨m, hm1, hm2, hm3, hm4⟩ := spA_step (List.count_pos_iff.1 (by omega : 0 < r.count 10))
      rw [hm1, toNat_add1]
      refine ⟨fun h => absurd h (by omega), fun _ => ?_⟩
      refine ⟨by omega, by omega, by omega, by omega, by omega, by omega, by omega, ⟨(acc ++ [r.take (m + 1)], r.drop (m + 1)), ?_, ?_, ?_⟩, ⟨⟨rfl, ?_⟩, ?_⟩, ?_⟩
      · simp [← h1, hm3]
      · simp; omega
      · simp; omega
      · simp
      · refine row_set (l := acc ++ List.replicate (r.count 10 + 1) []) rfl ?_ (by simp) (by simp <;> omega) (fun j _ => AVle.refl _)
        have e : ∀ x : List UInt8, (List.replicate (r.count 10 + 1) []).set 0 x = x :: List.replicate (r.count 10) [] := fun x => by rw [List.replicate_succ]; rfl
        rw [List.set_append_right _ _ (Nat.le_refl _), Nat.sub_self, e, ← hm4]
        simp
      · simp; omega
    · have h0 : r.count 10 = 0 := by omega
      have hno : (10 : UInt8) ∉ r := List.count_eq_zero.1 h0
      refine ⟨by omega, by omega, by omega, by omega, ⟨by omega, fun i _ => stE_flat (fun _ _ => rfl) (fun _ => rfl) i 0⟩, ?_⟩
      refine sn_set rfl rfl ?_ (by simp <;> omega) (fun j _ => AVle.refl _)
      rw [← h1, spA_one r hno, h0, List.set_append_right _ _ (Nat.le_refl _), Nat.sub_self]
      exact (List.take_of_length_le (by simp)).symm
def sSplitAfter : Spec := Spec.f2 kS kS (fun s b => s.length ≤ 100000000 ∧ b = [10]) (fun s _ => sL eS (spA s))
theorem okSplitAfter : SpecOK Tryz.prog 80 sSplitAfter := by
  refine SpecOK.f2 Tryz.func80 rfl (by decide) Tryz.results80 Tryz.ntmps80 (by decide) fun s b ⟨hs, hb⟩ => ?_
  have hΓ : GOK Tryz.prog (gam [(111, sGenSplit)]) := (.cons okGenSplit .nil)
  subst hb
  refine AW.of hΓ mixed [] _ _ _ rfl ?_
  simp only [go_sem, sGenSplit]
  exact hs
def sSplit : Spec := Spec.f1 kS (fun s => s.length ≤ 100000000) (fun s => sL eS (splitL s))
theorem okSplit : SpecOK Tryz.prog 26 sSplit := by
  refine SpecOK.f1 Tryz.func26 rfl (by decide) Tryz.results26 Tryz.ntmps26 (by decide) fun s hs => ?_
  have hΓ : GOK Tryz.prog (gam [(80, sSplitAfter)]) := (.cons okSplitAfter .nil)
  have hl := splitL_len s
  rcases spA_split s with e | ⟨e, hn⟩
  · refine AW.of hΓ mixed [99999] _ _ _ rfl ?_
    simp only [go_sem, sSplitAfter, e]
    have e1 : (((splitL s).length + 1 : Nat) : Int) - 1 = (splitL s).length := by omega
    have e2 : (splitL s ++ [[]]).getD (splitL s).length [] = [] := by simp [List.getD]
    rw [e1, Int.toNat_natCast]
    refine ⟨hs, by omega, by omega, fun _ => ⟨by omega, vw_row rfl rfl (by simp) (by simp)⟩, fun h => absurd e2 h⟩
  · have hne : splitL s ≠ [] := e ▸ spA_ne s
    have hpos : 0 < (splitL s).length := List.length_pos_iff.2 hne
    refine AW.of hΓ mixed [99999] _ _ _ rfl ?_
    simp only [go_sem, sSplitAfter, e]
    have e1 : (((splitL s).length : Nat) : Int) - 1 = ((splitL s).length - 1 : Nat) := by omega
    rw [e1, Int.toNat_natCast]
    refine ⟨hs, by omega, by omega, fun h => absurd h (hn _ ?_)⟩
    rw [gd_lt _ _ (by omega)]
    exact List.getElem_mem _
def okLs (l : List (List UInt8)) : Prop := l.length ≤ 100000000 ∧ l.flatten.length ≤ 100000000000
theorem flat_len (l : List (List UInt8)) (i : Nat) : (l.getD i []).length ≤ l.flatten.length := by
  rcases Nat.lt_or_ge i l.length with h | h
  · rw [gd_lt _ _ h]
    exact (List.sublist_flatten_of_mem (List.getElem_mem h)).length_le
  · simp [List.getD, List.getElem?_eq_none h]
theorem join_nil (xs : List (List UInt8)) : Lib.join xs [] = xs.flatten := by
  cases xs with
  | nil => rfl
  | cons x r => rw [Lib.join_cons]; simp [Lib.joinTail]
def sJoinS : Spec := Spec.f2 (kL eS) kS (fun l b => l.length ≤ 100000000 ∧ l.flatten.length ≤ 100000000000 ∧ b = []) (fun l _ => kS.enc l.flatten)
theorem okJoinS : SpecOK Tryz.prog 110 sJoinS := by
  refine SpecOK.raw Tryz.func110 rfl (by decide) fun args hp w L vs hL ha => ?_
  match args, hp with
  | [x, y], hp =>
    obtain ⟨h1, h2, h3, h4, h5⟩ := hp
    cases ha with
    | cons hx hr => cases hr with
      | cons hy hr => cases hr with
        | nil =>
          have ex := okGet h1 hx
          have ey := okGet h2 hy
          show Calls _ _ _ _ fun e w' => ∃ v, e = .returned v ∧ Fr (fun _ => False) w w' ∧ Rep w' noEnv L (kS.enc ((kL eS).dec x).flatten) v
          generalize (kL eS).dec x = l at *
          rw [h5] at ey
          obtain ⟨a, cap, rfl, hcap, hc⟩ := ex
          obtain rfl := ey
          rcases Nat.eq_zero_or_pos l.length with h0 | h0
          · rw [h0]
            refine (Tryz.strings_Join_none a cap ⟨#[]⟩ w).mono ?_
            rintro e w' ⟨rfl, rfl⟩
            have : l = [] := List.length_eq_zero_iff.1 h0
            subst this
            exact ⟨_, rfl, Fr.refl _ _, rfl⟩
          · obtain ⟨b, off, rfl, hb, hcells⟩ := hc h0 (by decide)
            have hget : ∀ (j : Nat) y, (l.map fun y => (⟨y.toArray⟩ : ByteArray))[j]? = some y → w.cell? ⟨b, off + j, none⟩ = some (.string y) := fun j y hj => by
              rw [List.getElem?_map] at hj
              cases hl : l[j]? with
              | none => rw [hl] at hj; cases hj
              | some z =>
                rw [hl] at hj
                simp only [Option.map_some, Option.some.injEq] at hj
                subst hj
                obtain ⟨hlt, _⟩ := List.getElem?_eq_some_iff.1 hl
                obtain ⟨u, hu, _, hrep⟩ := hcells j hlt 0 (by decide)
                have e : l.getD j eS.dflt = z := by simp [List.getD, hl]
                have hrep : Rep w noEnv L (eS.enc (l.getD j eS.dflt) 0) u := hrep
                rw [e] at hrep
                have : u = .string ⟨z.toArray⟩ := hrep
                subst this
                simpa [eS_sz] using hu
            have e1 : (l.map fun y => (⟨y.toArray⟩ : ByteArray)).map (·.data.toList) = l := by simp [Function.comp_def]
            have hbs : b < w.heap.size := by
              obtain ⟨u, hu, _⟩ := hcells 0 h0 0 (by decide)
              exact World.block_lt_of_cell? w _ hu
            have hJ := Tryz.strings_Join b off cap (l.map fun y => ⟨y.toArray⟩) ⟨#[]⟩ w hget hbs (by simp; omega) (by simpa using hcap) (by rw [e1]; show (Lib.join l []).length ≤ _; rw [join_nil]; omega)
            rw [e1, List.length_map] at hJ
            refine hJ.mono ?_
            rintro e w' ⟨rfl, hbel⟩
            refine ⟨_, rfl, Fr.of_below hbel _, ?_⟩
            show Value.string ⟨(Lib.join l []).toArray⟩ = .string ⟨l.flatten.toArray⟩
            rw [join_nil]
def sJoin : Spec := Spec.f1 (kL eS) okLs (fun l => kS.enc l.flatten)
theorem okJoin : SpecOK Tryz.prog 53 sJoin := by
  refine SpecOK.f1 Tryz.func53 rfl (by decide) Tryz.results53 Tryz.ntmps53 (by decide) fun l ⟨h1, h2⟩ => ?_
  have hΓ : GOK Tryz.prog (gam [(110, sJoinS)]) := (.cons okJoinS .nil)
  refine AW.of hΓ mixed [] _ _ _ rfl ?_
  simp only [go_sem, sJoinS]
  exact ⟨h1, h2⟩
theorem whole_step (l : List (List UInt8)) (i : Nat) (hi : i < l.length) :
    ((¬(0 ≤ Lib.indexByte (l.getD i []) 10 ∧ Lib.indexByte (l.getD i []) 10 = ((l.getD i []).length : Int) - 1) ∧ ¬(Lib.indexByte (l.getD i []) 10 < 0 ∧ l.getD i [] ≠ [] ∧ (i : Int) = (l.length : Int) - 1)) → wholeL l = false) ∧
    (((0 ≤ Lib.indexByte (l.getD i []) 10 ∧ Lib.indexByte (l.getD i []) 10 = ((l.getD i []).length : Int) - 1) ∨ (Lib.indexByte (l.getD i []) 10 < 0 ∧ l.getD i [] ≠ [] ∧ (i : Int) = (l.length : Int) - 1)) → oneL (l.getD i []) = true ∧ (i + 1 < l.length → endsL (l.getD i []) = true)) := by
  have hw := wholeL_iff l
  generalize hx : l.getD i [] = x
  rcases idx_cases x with ⟨h1, h2⟩ | ⟨p, r, rfl, h2, h1⟩
  · rw [h1]
    refine ⟨fun ⟨_, h⟩ => ?_, fun h => ?_⟩
    · refine Bool.eq_false_iff.2 fun hh => ?_
      have := hw.1 hh i hi
      rw [hx, oneL_no x h2, endsL_no x h2] at this
      exact h ⟨by omega, by simpa using this.1, by
        rcases Nat.lt_or_ge (i + 1) l.length with h' | h'
        · exact absurd (this.2 h') (by decide)
        · omega⟩
    · rcases h with h | ⟨_, h3, h4⟩
      · omega
      · exact ⟨by rw [oneL_no x h2]; simpa using h3, fun h => by omega⟩
  · rw [h1]
    have e : ((p ++ 10 :: r).length : Int) = p.length + 1 + r.length := by simp; omega
    refine ⟨fun ⟨h, _⟩ => ?_, fun h => ?_⟩
    · refine Bool.eq_false_iff.2 fun hh => ?_
      have := hw.1 hh i hi
      rw [hx, oneL_cut p r h2] at this
      obtain rfl : r = [] := by simpa using this.1
      exact h ⟨by omega, by rw [e]; simp⟩
    · rcases h with ⟨_, h⟩ | ⟨h, _⟩
      · obtain rfl : r = [] := List.length_eq_zero_iff.1 (by omega)
        exact ⟨by rw [oneL_cut p [] h2]; rfl, fun _ => by simp [endsL]⟩
      · omega
def sWhole : Spec := Spec.f1 (kL eS) okLs (fun l => kB.enc (wholeL l))
theorem okWhole : SpecOK Tryz.prog 52 sWhole := by
  refine SpecOK.f1 Tryz.func52 rfl (by decide) Tryz.results52 Tryz.ntmps52 (by decide) fun l ⟨hl, hfl⟩ => ?_
  have hΓ : GOK Tryz.prog (gam [(109, sIndex1)]) := (.cons okIndex1 .nil)
  refine AW.of hΓ mixed [] _ _ _ rfl ?_
  simp only [go_sem, sIndex1]
  refine AW.round (α := { i : Nat // i ≤ l.length ∧ ∀ k, k < i → oneL (l.getD k []) = true ∧ (k + 1 < l.length → endsL (l.getD k []) = true) }) (fun i => ⟨[(0, sL eS l), (8, sL eS l), (9, .val (.int .i64 l.length)), (10, .val (.int .i64 i.1))], [], 46, 0, 0, []⟩) (fun i => l.length - i.1) ⟨0, by simp⟩ ?_ ?_
  · simp only [go_sem, sIndex1]
  · rintro ⟨i, hi, hk⟩
    refine AW.of hΓ mixed [99999] _ _ _ rfl ?_
    simp only [go_sem, sIndex1]
    refine ⟨fun hil => ?_, fun hil => ?_⟩
    · have hlt : i < l.length := by omega
      obtain ⟨w1, w2⟩ := whole_step l i hlt
      have hxl := flat_len l i
      generalize hx : l.getD i [] = x at *
      refine ⟨by omega, fun _ => by omega, fun _ => by omega, fun ⟨a, b⟩ => ?_, fun h => ⟨by omega, ⟨i + 1, by omega, fun k hk' => ?_⟩, by simp, by simp; omega⟩⟩
      · refine (w1 ?_).symm
        simp only [Bool.not_eq_true', Bool.and_eq_false_imp, decide_eq_true_eq, decide_eq_false_iff_not, Bool.and_eq_true] at a b
        exact ⟨fun c => a c.1 c.2, fun c => b ⟨c.1, c.2.1⟩ c.2.2⟩
      · rcases Nat.lt_or_ge k i with h' | h'
        · exact hk k h'
        · obtain rfl : k = i := by omega
          rw [hx]
          refine w2 ?_
          simp only [Bool.not_eq_true', Bool.not_eq_false', Bool.and_eq_false_imp, decide_eq_true_eq, decide_eq_false_iff_not, Bool.and_eq_true] at h
          by_cases c : 0 ≤ Lib.indexByte x 10 ∧ Lib.indexByte x 10 = (x.length : Int) - 1
          · exact .inl c
          · obtain ⟨⟨h1, h2⟩, h3⟩ := h fun a b => c ⟨a, b⟩
            exact .inr ⟨h1, h2, h3⟩
    · refine ((wholeL_iff l).2 fun k hk' => hk k (by omega)).symm
end Go.Proofs.YthpjjjnbkfnghaaGreatDoor
set_option linter.unusedSimpArgs false
set_option linter.unusedVariables false
set_option maxRecDepth 100000
set_option maxHeartbeats 2000000
namespace Go.Proofs.YthpjjjnbkfnghaaGreatDoor
open Go
attribute [local irreducible] AW AVle ASle RowLe
abbrev eHk : El Hk := eP eI (eP eI (eL (eP eI (eL eS))))
def sChgF : Spec := Spec.f1 (kA (eP eI (eL eS))) (fun _ => True) (fun s => kB.enc (decide (s.1 ≠ 0)))
theorem okChgF : SpecOK Tryz.prog 164 sChgF := by
  refine SpecOK.f1 Tryz.func164 rfl (by decide) Tryz.results164 Tryz.ntmps164 (by decide) fun s _ => ?_
  have hΓ : GOK Tryz.prog (gam []) := GOK.nil
  refine AW.of hΓ mixed [99999] _ _ _ rfl ?_
  simp only [go_sem, st_sz, stC20, stC21, sp0, sp1, st_d]
def fstC (l : List StE) : Int := match l.findIdx? (fun s => decide (s.1 ≠ 0)) with
  | some i => i
  | none => -1
theorem fst_take {l : List StE} {i : Nat} (hi : i ≤ l.length) (h : ∀ k, k < i → (l.getD k (0, [])).1 = 0) : (i < l.length → (l.getD i (0, [])).1 ≠ 0 → fstC l = i) ∧ (i = l.length → fstC l = -1) := by
  have h' : ∀ k (hk : k < l.length), k < i → (l[k]).1 = 0 := fun k hk hki => by rw [← gd_lt l (0, []) hk]; exact h k hki
  constructor
  · intro hlt hne
    have : l.findIdx? (fun s => decide (s.1 ≠ 0)) = some i := by
      rw [List.findIdx?_eq_some_iff_getElem]
      refine ⟨hlt, ?_, fun j hj => ?_⟩
      · rw [gd_lt l _ hlt] at hne
        simpa using hne
      · simpa using h' j (by omega) hj
    unfold fstC
    rw [this]
  · intro e
    have : l.findIdx? (fun s => decide (s.1 ≠ 0)) = none := by
      rw [List.findIdx?_eq_none_iff]
      intro s hs
      obtain ⟨k, hk, rfl⟩ := List.mem_iff_getElem.1 hs
      simpa using h' k hk (by omega)
    unfold fstC
    rw [this]
theorem fst_any (l : List StE) : decide (0 ≤ fstC l) = chgP l := by
  unfold fstC chgP
  cases h : l.findIdx? (fun s => decide (s.1 ≠ 0)) with
  | none =>
    rw [List.findIdx?_eq_none_iff] at h
    have : l.any (fun s => decide (s.1 ≠ 0)) = false := by
      rw [List.any_eq_false]
      intro s hs
      rw [h s hs]; simp
    rw [this]
    simp
  | some i =>
    rw [List.findIdx?_eq_some_iff_getElem] at h
    obtain ⟨hi, hp, _⟩ := h
    have : l.any (fun s => decide (s.1 ≠ 0)) = true := List.any_eq_true.2 ⟨l[i], List.getElem_mem hi, hp⟩
    rw [this]
    simp
def sIndexFS : Spec := Spec.f2 (kL (eP eI (eL eS))) (kF 164) (fun l _ => l.length < 100000000) (fun l _ => kI.enc (fstC l))
theorem okIndexFS : SpecOK Tryz.prog 202 sIndexFS := by
  refine SpecOK.f2 Tryz.func202 rfl (by decide) Tryz.results202 Tryz.ntmps202 (by decide) fun l u hl => ?_
  have hΓ : GOK Tryz.prog (gam [(164, sChgF)]) := (.cons okChgF .nil)
  refine AW.of hΓ mixed [] _ _ _ rfl ?_
  simp only [go_sem, sChgF, st_sz]
  refine AW.round (α := { i : Nat // i ≤ l.length ∧ ∀ k, k < i → (l.getD k (0, [])).1 = 0 }) (fun x => ⟨[(0, sL (eP eI (eL eS)) l), (1, .val (.func (.func 164) #[] #[])), (6, sL (eP eI (eL eS)) l), (7, .val (.int .i64 l.length)), (8, .val (.int .i64 x.1))], [], 19, 0, 0, []⟩) (fun x => l.length - x.1) ⟨0, Nat.zero_le _, fun k hk => absurd hk (Nat.not_lt_zero _)⟩ ?_ ?_
  · simp only [go_sem, sChgF]
  · rintro ⟨i, hi, h0⟩
    obtain ⟨f1, f2⟩ := fst_take hi h0
    rcases Nat.lt_or_ge i l.length with hlt | hge
    · have hlI : ((i : Int) < (l.length : Nat)) = True := eq_true (by omega)
      refine AW.of hΓ mixed [3, 200004] _ _ _ rfl ?_
      simp only [go_sem, sChgF, st_sz, hlI]
      refine AW.fork (AW.regionO hΓ [false, false, false, false, false, true] ?_)
      simp only [go_sem, sChgF, st_sz]
      refine ⟨⟨by omega, by omega⟩, dyn_wp hΓ (args := [.ag 2 ((eP eI (eL eS)).enc (l.getD i (eP eI (eL eS)).dflt))]) rfl rfl rfl rfl ?_ (Nat.lt_of_lt_of_le (by decide : 16 < 19) (Nat.le_refl _)) ?_⟩
      · simp only [go_sem, sChgF, dec_st, vwO_sp]
      refine AW.of hΓ mixed [99999] _ _ _ rfl ?_
      simp only [go_sem, sChgF, st_sz, st_d, dec_st]
      refine ⟨fun h => (f1 hlt h).symm, fun h => ⟨by omega, ⟨i + 1, by omega, fun k hk => ?_⟩, by dsimp only; omega, by dsimp only; omega⟩⟩
      rcases Nat.lt_or_ge k i with g | g
      · exact h0 k g
      · obtain rfl : k = i := by omega
        exact Decidable.not_not.1 h
    · obtain rfl : i = l.length := by omega
      refine AW.of hΓ mixed [99999] _ _ _ rfl ?_
      simp only [go_sem, sChgF]
      exact (f2 rfl).symm
def sContainsFS : Spec := Spec.f2 (kL (eP eI (eL eS))) (kF 164) (fun l _ => l.length < 100000000) (fun l _ => kB.enc (chgP l))
theorem okContainsFS : SpecOK Tryz.prog 163 sContainsFS := by
  refine SpecOK.f2 Tryz.func163 rfl (by decide) Tryz.results163 Tryz.ntmps163 (by decide) fun l u hl => ?_
  have hΓ : GOK Tryz.prog (gam [(202, sIndexFS)]) := (.cons okIndexFS .nil)
  refine AW.of hΓ mixed [99999] _ _ _ rfl ?_
  simp only [go_sem, sIndexFS]
  exact ⟨hl, fst_any l⟩
def sChangesP : Spec := Spec.f1 (kL (eP eI (eL eS))) (fun l => l.length < 100000000) (fun l => kB.enc (chgP l))
theorem okChangesP : SpecOK Tryz.prog 104 sChangesP := by
  refine SpecOK.f1 Tryz.func104 rfl (by decide) Tryz.results104 Tryz.ntmps104 (by decide) fun l hl => ?_
  have hΓ : GOK Tryz.prog (gam [(163, sContainsFS)]) := (.cons okContainsFS .nil)
  refine AW.of hΓ mixed [99999] _ _ _ rfl ?_
  simp only [go_sem, sContainsFS]
  exact hl
def sPassP : Spec := Spec.f3 kI kI (kA (eP eI (eL eS))) (fun a b s => (0 ≤ a ∧ a ≤ 1000000000) ∧ (0 ≤ b ∧ b ≤ 1000000000) ∧ s.2.length ≤ 1000000000) (fun a b s => tu2 (kI.enc (a + pasA s)) (kI.enc (b + pasB s)))
theorem okPassP : SpecOK Tryz.prog 44 sPassP := by
  refine SpecOK.f3 Tryz.func44 rfl (by decide) Tryz.results44 Tryz.ntmps44 (by decide) fun a b s ⟨ha, hb, hs⟩ => ?_
  have hΓ : GOK Tryz.prog (gam []) := GOK.nil
  refine AW.of hΓ mixed [99999] _ _ _ rfl ?_
  simp only [go_sem, st_sz, stC20, stC21, sp0, sp1, st_d]
  obtain ⟨k, ts⟩ := s
  unfold pasA pasB
  dsimp only at hs ⊢
  refine ⟨fun h => ⟨⟨by omega, by omega⟩, fun g => ⟨⟨by omega, by omega⟩, by rw [if_neg h], by rw [if_neg g]⟩, fun g => ⟨by rw [if_neg h], by rw [if_pos (Decidable.not_not.1 g), Int.add_zero]⟩⟩, fun h => ⟨fun g => ⟨⟨by omega, by omega⟩, by rw [if_pos (Decidable.not_not.1 h), Int.add_zero], by rw [if_neg g]⟩, fun g => absurd (Decidable.not_not.1 h) (by have := Decidable.not_not.1 g; omega)⟩⟩
def sHasSufP : Spec := Spec.f2 kS kS (fun a _ => a.length ≤ 100000000000) (fun a b => kB.enc (Lib.hasSuffix a b))
theorem okHasSufP : SpecOK Tryz.prog 91 sHasSufP := by
  refine SpecOK.ss Tryz.func91 rfl (by decide) fun a b hd w => ?_
  refine (Tryz.strings_HasSuffix ⟨a.toArray⟩ ⟨b.toArray⟩ w (by rw [Lib.size_eq]; simp only [List.toList_toArray]; omega)).mono ?_
  rintro e w' ⟨rfl, rfl⟩
  exact ⟨_, rfl, Fr.refl _ _, fun L => rfl⟩
theorem suf_ends (x : List UInt8) : Lib.hasSuffix x [10] = endsL x := by
  unfold Lib.hasSuffix endsL
  rw [Bool.eq_iff_iff, List.isSuffixOf_iff_suffix, decide_eq_true_eq]
  constructor
  · rintro ⟨t, rfl⟩
    simp
  · intro h
    obtain ⟨ys, rfl⟩ := List.getLast?_eq_some_iff.1 h
    exact ⟨ys, rfl⟩
def sEndedP : Spec := Spec.f1 (kL eS) (fun l => l.length ≤ 1000000000 ∧ ∀ s ∈ l, s.length ≤ 100000000) (fun l => kB.enc (enddL l))
theorem okEndedP : SpecOK Tryz.prog 165 sEndedP := by
  refine SpecOK.f1 Tryz.func165 rfl (by decide) Tryz.results165 Tryz.ntmps165 (by decide) fun l ⟨hl, hs⟩ => ?_
  have hΓ : GOK Tryz.prog (gam [(91, sHasSufP)]) := (.cons okHasSufP .nil)
  refine AW.of hΓ mixed [99999] _ _ _ rfl ?_
  simp only [go_sem, sHasSufP]
  have key : (decide ((l.length : Int) = 0) || Lib.hasSuffix (l.getD ((l.length : Int) - 1).toNat []) [10]) = enddL l := by
    unfold enddL
    rw [suf_ends, show ((l.length : Int) - 1).toNat = l.length - 1 by omega]
    congr 1
    rw [decide_eq_decide]
    constructor
    · intro h; exact List.length_eq_zero_iff.1 (by omega)
    · intro h; subst h; rfl
  refine ⟨fun _ => by omega, fun h => ?_, fun h => ?_, fun h => by simpa using h, key⟩
  · have : ¬ (l.length : Int) = 0 := by simpa using h
    omega
  · have : ¬ (l.length : Int) = 0 := by simpa using h
    have hm := hs (l.getD ((l.length : Int) - 1).toNat []) (by rw [gd_lt l _ (by omega)]; exact List.getElem_mem _)
    omega
def sWithoutP : Spec := Spec.f2 kI (kL (eP eI (eL eS))) (fun k l => l.length < 10000 ∧ (∀ s ∈ l, s.2.length ≤ 10000)) (fun k l => sL eS (lessL k l))
theorem okWithoutP : SpecOK Tryz.prog 50 sWithoutP := by
  refine SpecOK.f2 Tryz.func50 rfl (by decide) Tryz.results50 Tryz.ntmps50 (by decide) fun k l ⟨hl, hs⟩ => ?_
  have hΓ : GOK Tryz.prog (gam []) := GOK.nil
  refine AW.of hΓ mixed [] _ _ _ rfl ?_
  simp only [go_sem]
  refine AW.adopt 5 9 1 (fun i => eS.enc (([] : List (List UInt8)).getD i [])) rfl ?_
  refine AW.round (α := { x : Nat × Nat × Nat // x.1 ≤ l.length })
    (fun x => ⟨[(0, .val (.int .i64 k)), (5, .ow 0 x.1.2.1 (lessL k (l.take x.1.1)).length), (8, sL (eP eI (eL eS)) l), (9, .val (.int .i64 l.length)), (10, .val (.int .i64 x.1.1))],
      [(0, rowL x.1.2.1 9 eS (lessL k (l.take x.1.1)))], 24, 1, x.1.2.2, []⟩) (fun x => l.length - x.1.1) ⟨(0, 0, 1), Nat.zero_le _⟩ ?_ ?_
  · simp only [go_sem]
    exact ⟨rfl, RowLe.refl _⟩
  · rintro ⟨⟨i, v, nx⟩, hi⟩
    simp only at hi
    have e : i < l.length → lessL k (l.take (i + 1)) = lessL k (l.take i) ++ if (l.getD i (0, [])).1 = k then [] else (l.getD i (0, [])).2 := fun h => by rw [take_snocE l (0, []) h, lessL_snoc]
    have hg : i < l.length → (l.getD i (0, [])).2.length ≤ 10000 := fun h => by
      rw [gd_lt l _ h]
      exact hs _ (List.getElem_mem _)
    have hb : (lessL k (l.take i)).length ≤ 10000 * 10000 := Nat.le_trans (lessL_le (fun s h => hs s (List.mem_of_mem_take h)) k) (Nat.mul_le_mul_right _ (by simp; omega))
    refine AW.of hΓ mixed [99999] _ _ _ rfl ?_
    simp only [go_sem, st_sz, stC20, stC21, sp0, sp1, st_d]
    generalize l.getD i (0, []) = g at *
    refine ⟨fun hlt => ?_, fun hge => ?_⟩
    · have hlt' : i < l.length := by omega
      have e1 := e hlt'
      have hg' := hg hlt'
      refine ⟨by omega, fun h => ?_, fun h => ?_⟩
      · rw [if_neg h] at e1
        refine ⟨by omega, by omega, ⟨(i + 1, nx + 1, nx + 1 + 1), by dsimp only; omega⟩, ⟨Nat.le_refl _, ⟨⟨rfl, by dsimp only; rw [e1]; simp⟩, rfl⟩, ?_⟩, by dsimp only; omega⟩
        exact row_app (E := eS) rfl e1 rfl rfl rfl (fun _ _ _ _ => AVle.refl _)
      · rw [if_pos (Decidable.not_not.1 h), List.append_nil] at e1
        exact ⟨by omega, ⟨(i + 1, v, nx + 1), by dsimp only; omega⟩, ⟨Nat.le_refl _, ⟨⟨rfl, by dsimp only; rw [e1]⟩, rfl⟩, by dsimp only; rw [e1]; exact RowLe.refl _⟩, by dsimp only; omega⟩
    · obtain rfl : i = l.length := by omega
      rw [List.take_length]
      exact AVle.refl _
def sWholeP : Spec := Spec.f2 (kL (eP eI (eL eS))) kB (fun l _ => (l.length < 10000 ∧ (∀ s ∈ l, s.2.length ≤ 10000)) ∧ (∀ s ∈ l, ∀ t ∈ s.2, t.length ≤ 100000000) ∧ ∀ j, (lessL j l).flatten.length ≤ 100000000000) (fun l b => kB.enc (whlP l b))
theorem okWholeP : SpecOK Tryz.prog 107 sWholeP := by
  refine SpecOK.f2 Tryz.func107 rfl (by decide) Tryz.results107 Tryz.ntmps107 (by decide) fun l b ⟨hl, ht, hflat⟩ => ?_
  have hΓ : GOK Tryz.prog (gam [(50, sWithoutP), (52, sWhole), (165, sEndedP)]) := (.cons okWithoutP (.cons okWhole (.cons okEndedP .nil)))
  refine AW.of hΓ mixed [99999] _ _ _ rfl ?_
  simp only [go_sem, sWithoutP, sWhole, sEndedP]
  have hn : ∀ j, (lessL j l).length ≤ 10000 * 10000 := fun j => Nat.le_trans (lessL_le hl.2 j) (Nat.mul_le_mul_right _ (by omega))
  have hm : ∀ j, ∀ s ∈ lessL j l, s.length ≤ 100000000 := fun j s hs => by
    unfold lessL at hs
    obtain ⟨x, hx, hs⟩ := List.mem_flatMap.1 hs
    split at hs
    · cases hs
    · exact ht x hx s hs
  have hk : ∀ j, okLs (lessL j l) := fun j => ⟨hn j, hflat j⟩
  have n1 := hn 1
  have n2 := hn 2
  refine ⟨hl, hl, hk 2, fun _ => hk 1, fun _ => ⟨by omega, hm 2⟩, fun _ => ⟨by omega, hm 1⟩, fun h1 h2 => ?_, fun h1 h2 => ?_, ?_⟩
  · obtain ⟨⟨a1, a2⟩, a3⟩ := h1
    rw [a1, a2, a3, h2]; rfl
  · obtain ⟨a1, a2⟩ := h1
    rw [a1, a2, h2]; rfl
  · unfold whlP
    rw [Bool.and_assoc]
end Go.Proofs.YthpjjjnbkfnghaaGreatDoor
set_option linter.unusedSimpArgs false
set_option linter.unusedVariables false
set_option maxRecDepth 100000
set_option maxHeartbeats 4000000
namespace Go.Proofs.YthpjjjnbkfnghaaGreatDoor
open Go
attribute [local irreducible] AW AVle ASle RowLe
theorem hk_sz : (eP eI (eP eI (eL (eP eI (eL eS))))).sz = 3 := rfl
theorem hk_d : (eP eI (eP eI (eL (eP eI (eL eS))))).dflt = ((0 : Int), (0 : Int), ([] : List StE)) := rfl
theorem hk0 (h : Hk) : (eP eI (eP eI (eL (eP eI (eL eS))))).enc h 0 = .val (.int .i64 h.1) := rfl
theorem hk1 (h : Hk) : (eP eI (eP eI (eL (eP eI (eL eS))))).enc h 1 = .val (.int .i64 h.2.1) := rfl
theorem hk2 (h : Hk) : (eP eI (eP eI (eL (eP eI (eL eS))))).enc h 2 = sL (eP eI (eL eS)) h.2.2 := rfl
theorem stC30 (c d : Nat → AV) : stC c 0 3 d 0 = d 0 := rfl
theorem stC31 (c d : Nat → AV) : stC c 0 3 d 1 = d 1 := rfl
theorem stC32 (c d : Nat → AV) : stC c 0 3 d 2 = d 2 := rfl
theorem ok_stC (hp : Nat → Row) (c : Nat → AV) (s : StE) : (kA (eP eI (eL eS))).ok (.ag 2 fun j => if j < 2 then vw0 hp (stC c 0 2 ((eP eI (eL eS)).enc s) j) else .any) = True := by
  have e : (fun j => if j < 2 then vw0 hp (stC c 0 2 ((eP eI (eL eS)).enc s) j) else AV.any) = fun j => if j < 2 then vw0 hp ((eP eI (eL eS)).enc s j) else AV.any := by
    funext j
    by_cases h : j < 2
    · rw [if_pos h, if_pos h]
      match j, h with
      | 0, _ => rw [stC20]
      | 1, _ => rw [stC21]
    · rw [if_neg h, if_neg h]
  rw [e]
  exact ok_st hp s
def okSt (l : List StE) : Prop := (l.length < 10000 ∧ ∀ s ∈ l, s.2.length ≤ 10000) ∧ (∀ s ∈ l, ∀ t ∈ s.2, t.length ≤ 100000000) ∧ ∀ j, (lessL j l).flatten.length ≤ 100000000000
def okHs (l : List Hk) : Prop := l.length < 10000 ∧ ∀ h ∈ l, okSt h.2.2
def sRightP : Spec := Spec.f1 (kL (eP eI (eP eI (eL (eP eI (eL eS)))))) okHs (fun l => kB.enc (rightP l 0 0))
theorem okRightP : SpecOK Tryz.prog 49 sRightP := by
  refine SpecOK.f1 Tryz.func49 rfl (by decide) Tryz.results49 Tryz.ntmps49 (by decide) fun l ⟨hl, ho⟩ => ?_
  have hΓ : GOK Tryz.prog (gam [(42, sRightE), (104, sChangesP), (107, sWholeP), (108, sCountsE)]) := (.cons okRightE (.cons okChangesP (.cons okWholeP (.cons okCountsE .nil))))
  refine AW.of hΓ mixed [] _ _ _ rfl ?_
  simp only [go_sem, sRightE, sChangesP, sWholeP, sCountsE, hk_sz]
  refine AW.round (α := { x : Nat × Int × Int × Nat // x.1 ≤ l.length ∧ rightP l 0 0 = rightP (l.drop x.1) x.2.1 x.2.2.1 ∧ (0 ≤ x.2.1 ∧ x.2.1 ≤ 300000000) ∧ (-(x.1 * 300000000 : Int) ≤ x.2.2.1 ∧ x.2.2.1 ≤ x.1 * 300000000) })
    (fun x => ⟨[(0, sL (eP eI (eP eI (eL (eP eI (eL eS))))) l), (3, .val (.int .i64 x.1.2.1)), (4, .val (.int .i64 x.1.2.2.1)), (10, sL (eP eI (eP eI (eL (eP eI (eL eS))))) l), (11, .val (.int .i64 l.length)), (12, .val (.int .i64 x.1.1))], [], 75, 0, x.1.2.2.2, []⟩) (fun x => l.length - x.1.1) ⟨(0, 0, 0, 0), Nat.zero_le _, rfl, by dsimp only; omega, by dsimp only; omega⟩ ?_ ?_
  · simp only [go_sem, sRightE, sChangesP, sWholeP, sCountsE]
  · rintro ⟨⟨i, nxt, sh, nx⟩, hi, hr, hn, hs⟩
    simp only at hi hr hn hs
    refine AW.of hΓ mixed [99999] _ _ _ rfl ?_
    simp only [go_sem, sRightE, sChangesP, sWholeP, sCountsE, hk_sz, hk_d, stC30, stC31, stC32, hk0, hk1, hk2]
    refine ⟨fun hlt => ?_, fun hge => ?_⟩
    · have hlt' : i < l.length := by omega
      have hm : l.getD i (0, 0, []) ∈ l := by
        simp only [List.getD, List.getElem?_eq_getElem hlt', Option.getD_some]
        exact List.getElem_mem _
      have hd : l.drop i = l.getD i (0, 0, []) :: l.drop (i + 1) := by
        rw [List.drop_eq_getElem_cons hlt']
        simp [List.getD, List.getElem?_eq_getElem hlt']
      have hk := ho _ hm
      obtain ⟨⟨k1, k2⟩, k3, k4⟩ := hk
      have hlast : decide ((i : Int) = (l.length : Int) - 1) = decide (l.drop (i + 1) = []) := by
        rw [decide_eq_decide, List.drop_eq_nil_iff]
        omega
      rw [hd, rightP] at hr
      rw [hlast]
      generalize l.getD i (0, 0, []) = g at *
      obtain ⟨A, B, st⟩ := g
      dsimp only at k1 k2 k3 k4 hr ⊢
      have c0 := Nat.le_trans (countL_le k2 0) (Nat.mul_le_mul_right _ (show st.length ≤ 10000 by omega))
      have c1 := Nat.le_trans (countL_le k2 1) (Nat.mul_le_mul_right _ (show st.length ≤ 10000 by omega))
      have c2 := Nat.le_trans (countL_le k2 2) (Nat.mul_le_mul_right _ (show st.length ≤ 10000 by omega))
      unfold hunkP at hr
      dsimp only at hr
      generalize decide (l.drop (i + 1) = []) = last at *
      generalize hR : rightE (-1) st = R at *
      generalize hC : chgP st = C at *
      generalize hW : whlP st last = W at *
      generalize countL 0 st = n0 at *
      generalize countL 1 st = n1 at *
      generalize countL 2 st = n2 at *
      refine ⟨by omega, ⟨k1, k2⟩, fun _ => by omega, fun h => by rw [h]; rfl, fun _ => by omega, fun _ => ⟨⟨k1, k2⟩, k3, k4⟩, fun h => by rw [h]; rfl, fun h => ?_, fun h => ⟨fun g => by rw [decide_eq_false g]; rfl, fun g => ?_, fun g => by rw [g]; rfl, fun g => ?_, fun g => ?_⟩⟩
      · rw [hr]
        cases R <;> cases C <;> cases W <;> simp at h ⊢
      · simp only [Bool.not_eq_true', Bool.or_eq_false_iff, decide_eq_false_iff_not] at g
        omega
      · rw [hr]
        have : ¬ (nxt ≤ A ∧ A ≤ 999999 ∧ B = A + sh) := by
          simp only [Bool.or_eq_true, decide_eq_true_eq] at g
          omega
        rw [decide_eq_false this]
        simp
      · simp only [Bool.or_eq_false_iff, decide_eq_false_iff_not, Decidable.not_not] at g
        simp only [Bool.or_eq_false_iff, Bool.not_eq_false'] at h
        obtain ⟨⟨g1, g2⟩, g3⟩ := g
        obtain ⟨⟨h1, h2⟩, h3⟩ := h
        have : nxt ≤ A ∧ A ≤ 999999 ∧ B = A + sh := ⟨by omega, by omega, g3⟩
        rw [h1, h2, h3, decide_eq_true this] at hr
        refine ⟨⟨k1, k2⟩, by omega, by omega, by omega, by omega, by omega, ⟨(i + 1, A + n0 + n1, sh + ((n2 : Int) - n1), nx + 1), by omega, ?_, ⟨by dsimp only; omega, by dsimp only; omega⟩, by dsimp only; omega, by dsimp only; omega⟩, ⟨Nat.le_refl _, ⟨rfl, rfl, rfl⟩⟩, by dsimp only; omega⟩
        simpa using hr
    · obtain rfl : i = l.length := by omega
      rw [List.drop_length, rightP] at hr
      exact hr.symm
end Go.Proofs.YthpjjjnbkfnghaaGreatDoor
set_option linter.unusedVariables false
set_option maxRecDepth 100000
set_option maxHeartbeats 2000000
namespace Go.Proofs.YthpjjjnbkfnghaaGreatDoor
open Go Go.RowKit
theorem bldSize : (Tryz.prog.info? 138).map (·.size) = some 2 := by kernel_rfl
theorem bldLies : liesAt Tryz.prog Tryz.prog.depth 138 (2 / Tryz.prog.cellsOf 138) 0 138 1 = true := by kernel_rfl
theorem check_used (b : Nat) (w : World) (h0 : w.cell? ⟨b, 0, none⟩ = some (.pointer (some ⟨b, 0, none⟩))) :
    Calls Tryz.prog 147 #[.pointer (some ⟨b, 0, none⟩)] w fun e w' => e = .returned (.tuple #[]) ∧ w' = w := by
  obtain ⟨j, hj, _⟩ := Option.map_eq_some_iff.1 bldSize
  go_enter Tryz.func147, Tryz.ntmps147
  go_wp2
  rw [Lib.run_neq_ptr_same w _ Tryz.underlying136 hj]
  go_wp2
  go_end0
  exact ⟨rfl, rfl⟩
theorem check_fresh (b : Nat) (w : World) (h0 : w.cell? ⟨b, 0, none⟩ = some (.pointer none)) (hsh : w.shape? b = some (138, 2)) (hfz : w.frozen? ⟨b, 0, none⟩ = false) :
    Calls Tryz.prog 147 #[.pointer (some ⟨b, 0, none⟩)] w fun e w' => e = .returned (.tuple #[]) ∧ w' = w.setCell ⟨b, 0, none⟩ (.pointer (some ⟨b, 0, none⟩)) := by
  obtain ⟨j, hj, hjs⟩ := Option.map_eq_some_iff.1 bldSize
  go_enter Tryz.func147, Tryz.ntmps147
  go_wp2
  rw [Lib.run_to_unsafe w ⟨b, 0, none⟩ Tryz.underlying136 Tryz.underlying247 hj (by rw [hjs]; decide) hsh (Nat.zero_lt_succ 1)]
  simp only [Result.andThen]
  rw [Oper.upon_value]
  go_wp2
  rw [run_callFunc_extern Tryz.func196 (by kernel_rfl) (by kernel_rfl) (by kernel_rfl) (e := Extern.AbiNoEscape.same) (by kernel_rfl)]
  rw [Lib.run_noEscape]
  simp only [Result.andThen]
  rw [Oper.upon_value]
  go_wp2
  rw [Lib.run_from_unsafe w ⟨b, 0, none⟩ Tryz.underlying247 Tryz.underlying136 hj hsh bldLies]
  simp only [Result.andThen]
  rw [Oper.upon_value]
  go_wp2
  go_end0
  exact ⟨rfl, rfl⟩
theorem fr_freeze (w : World) (g n : Nat) : Fr (fun b => b = g) w (w.freeze ⟨g, 0, none⟩ n) := by
  unfold World.freeze
  split
  · exact Fr.refl _ _
  · exact ⟨rfl, rfl, rfl, by simp, fun k _ hk => by simp [Array.getElem?_modify, Ne.symm hk]⟩
theorem cellByte : Tryz.prog.cellsOf 5 = 1 := by kernel_rfl
theorem str_some (b g cap : Nat) (p : Value) (cur : Array Value) (l : List UInt8) (w : World) (hbk : w.heap[b]? = some (.cells #[p, .slice (some ⟨g, 0, none⟩) l.length cap] 138 (0, 0)))
    (hg : w.heap[g]? = some (.cells cur 5 (0, 0))) (h0 : l ≠ []) (hn : l.length ≤ cur.size) (hcap : cap ≠ 0) (h63 : l.length ≤ 9223372036854775807) (hc : ∀ (j : Nat) (x : UInt8), l[j]? = some x → cur[j]? = some (Value.int .u8 x.toNat)) :
    Calls Tryz.prog 92 #[.pointer (some ⟨b, 0, none⟩)] w fun e w' => e = .returned (.string ⟨l.toArray⟩) ∧ Fr (fun k => k = g) w w' := by
  have c1 : w.drew.cell? ⟨b, 1, none⟩ = some (.slice (some ⟨g, 0, none⟩) l.length cap) := by
    have : w.drew.heap[b]? = some (.cells #[p, .slice (some ⟨g, 0, none⟩) l.length cap] 138 (0, 0)) := hbk
    simp [World.cell?, this]
  have hSD : (Builtin.unsafeSliceData_ #[102] 206 #[.slice (some ⟨g, 0, none⟩) l.length cap]).run Tryz.prog w.drew = .ok (.pointer (some ⟨g, 0, none⟩)) w.drew :=
    Lib.run_unsafeSliceData_row _ _ _ _ _ _ hcap
  have hg' : w.drew.heap[g]? = some (.cells cur 5 (0, 0)) := hg
  have hUS : (Builtin.unsafeString_ #[206, 3] 9 #[.pointer (some ⟨g, 0, none⟩), .int .i64 l.length]).run Tryz.prog w.drew = .ok (.string ⟨l.toArray⟩) (w.drew.freeze ⟨g, 0, none⟩ l.length) := by
    refine Lib.run_unsafeString_row w.drew 206 3 9 5 Tryz.underlying206 cellByte g cur.size (by simp [World.shape?, hg']) l h0 hn h63 ?_
    intro j x hx
    have hj := hc j x hx
    rw [add_off, Nat.zero_add]
    simp only [World.cell?, hg']
    exact hj
  go_enter Tryz.func92, Tryz.ntmps92
  go_wp2
  go_region
  all_goals (go_wp2; go_ret; exact ⟨rfl, (Fr.refl _ w).drew.trans (fr_freeze _ _ _)⟩)
theorem str_none (b : Nat) (p : Value) (w : World) (hbk : w.heap[b]? = some (.cells #[p, .slice none 0 0] 138 (0, 0))) :
    Calls Tryz.prog 92 #[.pointer (some ⟨b, 0, none⟩)] w fun e w' => e = .returned (.string ⟨#[]⟩) ∧ Fr (fun _ => False) w w' := by
  have c1 : w.drew.cell? ⟨b, 1, none⟩ = some (.slice none 0 0) := by
    have : w.drew.heap[b]? = some (.cells #[p, .slice none 0 0] 138 (0, 0)) := hbk
    simp [World.cell?, this]
  have hSD : (Builtin.unsafeSliceData_ #[102] 206 #[.slice none 0 0]).run Tryz.prog w.drew = .ok (.pointer none) w.drew := rfl
  have hUS : ∀ (W : World) (q : Option Addr), (Builtin.unsafeString_ #[206, 3] 9 #[.pointer q, .int .i64 0]).run Tryz.prog W = .ok (.string .empty) W := fun W q => Lib.run_unsafeString_none W _ _ _ q
  go_enter Tryz.func92, Tryz.ntmps92
  go_wp2
  go_region
  all_goals (go_wp2; go_ret; exact ⟨rfl, (Fr.refl _ w).drew⟩)
end Go.Proofs.YthpjjjnbkfnghaaGreatDoor
