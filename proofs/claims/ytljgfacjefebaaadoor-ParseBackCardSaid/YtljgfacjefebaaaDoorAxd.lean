/-
  How a state is reckoned: the set of rules; the kinds of what is handed in and out.
-/
import Derived.Test.YtljgfacjefebaaaDoorAxc
set_option linter.unusedSimpArgs false
namespace Go.Proofs.YtljgfacjefebaaaDoor
open Go

/-! ### what is handed in, what comes out -/
/-- A kind of values: how one is told, and how it is read off. -/
structure Kd (α : Type) where
  enc : α → AV
  dec : AV → α
  law : ∀ a, dec (enc a) = a
/-- A kind of elements: of so many cells each. -/
structure El (α : Type) where
  sz : Nat
  enc : α → Nat → AV
  dec : (Nat → AV) → α
  dflt : α
  law : ∀ a, dec (enc a) = a
  loc : ∀ c c' : Nat → AV, (∀ j, j < sz → c j = c' j) → dec c = dec c'

def AV.int : AV → Int
  | .val (.int _ n) => n
  | _ => 0
def AV.bool : AV → Bool
  | .val (.bool b) => b
  | _ => false
def AV.str : AV → List UInt8
  | .st l => l
  | _ => []
theorem int_val (k : IntKind) (n : Int) : (AV.val (.int k n)).int = n := rfl
theorem bool_val (b : Bool) : (AV.val (.bool b)).bool = b := rfl
theorem str_st (l : List UInt8) : (AV.st l).str = l := rfl

def kI : Kd Int := ⟨fun n => .val (.int .i64 n), AV.int, fun _ => rfl⟩
def kB : Kd Bool := ⟨fun b => .val (.bool b), AV.bool, fun _ => rfl⟩
def kS : Kd (List UInt8) := ⟨.st, AV.str, fun _ => rfl⟩
def eI : El Int := ⟨1, fun n _ => .val (.int .i64 n), fun c => (c 0).int, 0, fun _ => rfl, fun _ _ h => by rw [h 0 Nat.one_pos]⟩
def eB : El Bool := ⟨1, fun n _ => .val (.bool n), fun c => (c 0).bool, false, fun _ => rfl, fun _ _ h => by rw [h 0 Nat.one_pos]⟩
def eS : El (List UInt8) := ⟨1, fun n _ => .st n, fun c => (c 0).str, [], fun _ => rfl, fun _ _ h => by rw [h 0 Nat.one_pos]⟩

section
variable {α : Type} (E : El α)
/-- A list, read only. -/
def sL (l : List α) : AV := .sn l.length E.sz fun i => E.enc (l.getD i E.dflt)
def gL : AV → List α
  | .sn n _ c => (List.range n).map fun i => E.dec (c i)
  | _ => []
theorem gL_sL (l : List α) : gL E (sL E l) = l := by
  unfold sL gL
  simp only [E.law]
  apply List.ext_getElem
  · simp
  · intro i h1 h2
    simp [List.getD, List.getElem?_eq_getElem h2]
theorem gL_em : gL E .em = [] := rfl
def kL : Kd (List α) := ⟨sL E, gL E, gL_sL E⟩
def eL : El (List α) := ⟨1, fun l _ => sL E l, fun c => gL E (c 0), [], gL_sL E, fun _ _ h => by rw [h 0 Nat.one_pos]⟩

theorem em_sL : AVle .em (sL E []) := AVle.em_sn
/-- Two kinds, one behind the other: a struct's fields, an array's places. -/
def eP {β : Type} (A : El α) (B : El β) : El (α × β) where
  sz := A.sz + B.sz
  enc p j := if j < A.sz then A.enc p.1 j else B.enc p.2 (j - A.sz)
  dec c := (A.dec c, B.dec fun j => c (A.sz + j))
  dflt := (A.dflt, B.dflt)
  law := fun p => by
    have h1 : A.dec (fun j => if j < A.sz then A.enc p.1 j else B.enc p.2 (j - A.sz)) = p.1 := (A.loc _ _ fun j hj => if_pos hj).trans (A.law _)
    have h2 : B.dec (fun j => if A.sz + j < A.sz then A.enc p.1 (A.sz + j) else B.enc p.2 (A.sz + j - A.sz)) = p.2 :=
      (B.loc _ (B.enc p.2) fun j _ => by rw [if_neg (by omega), Nat.add_sub_cancel_left]).trans (B.law _)
    rw [h1, h2]
  loc := fun c c' h => by
    rw [A.loc c c' fun j hj => h j (by omega), B.loc (fun j => c (A.sz + j)) (fun j => c' (A.sz + j)) fun j hj => h _ (by omega)]
/-- A struct or an array in a register. -/
def kA (A : El α) : Kd α where
  enc a := .ag A.sz (A.enc a)
  dec | .ag _ c => A.dec c
      | _ => A.dflt
  law := A.law
/-- A part of a list. -/
def sLd (l : List α) (a n : Nat) : AV := .sn n E.sz fun i => E.enc (l.getD (a + i) E.dflt)
theorem sLd_le (l : List α) {a n : Nat} (h : a + n ≤ l.length) : AVle (sLd E l a n) (sL E ((l.drop a).take n)) := by
  unfold sLd sL
  have e : ((l.drop a).take n).length = n := by simp; omega
  rw [e]
  refine AVle.sn fun i hi j _ => AVle.of_eq ?_
  have e1 : a + i < l.length := by omega
  simp [List.getD, List.getElem?_take, hi, List.getElem?_drop]
end

/-! ### contracts -/
instance : Coe Spec Con := ⟨.spec⟩
instance : Coe MSpec Con := ⟨.meth⟩
def gam : List (Nat × Con) → Gam
  | [], _ => none
  | (g, s) :: r, f => if f = g then some s else gam r f
theorem GOK.nil {P : Program} : GOK P (gam []) := fun _ _ h => by cases h
theorem GOK.cons {P : Program} {f : Nat} {s : Con} {r : List (Nat × Con)} (h : ConOK P f s) (k : GOK P (gam r)) : GOK P (gam ((f, s) :: r)) := by
  intro g t hg
  unfold gam at hg
  split at hg
  · rename_i e; subst e; cases hg; exact h
  · exact k g t hg

def Kd.ok {α : Type} (K : Kd α) (x : AV) : Prop := AVle x (K.enc (K.dec x))
theorem Kd.ok_enc {α : Type} (K : Kd α) (a : α) : K.ok (K.enc a) := by unfold Kd.ok; rw [K.law]; exact AVle.refl _

theorem st0_le {n : Nat} {args args' : List AV} (h : All2 AVle args args') : ASle (st0 n args) (st0 n args') := by
  refine ASle.mk rfl rfl (fun t => ?_) (fun _ => .inl rfl) (fun _ _ => rfl) (Nat.le_refl _)
  show AVle (args.getD t .any) (args'.getD t .any)
  induction h generalizing t with
  | nil => exact AVle.refl _
  | cons h _ ih =>
    cases t with
    | zero => simpa using h
    | succ t => simpa using ih t

section
variable {α β γ δ : Type}
def Spec.f0 (out : AV) : Spec := ⟨fun a => a = [], fun _ => out⟩
def Spec.f1 (A : Kd α) (dom : α → Prop) (out : α → AV) : Spec where
  pre | [x] => A.ok x ∧ dom (A.dec x)
      | _ => False
  res | [x] => out (A.dec x)
      | _ => .any
def Spec.f2 (A : Kd α) (B : Kd β) (dom : α → β → Prop) (out : α → β → AV) : Spec where
  pre | [x, y] => A.ok x ∧ B.ok y ∧ dom (A.dec x) (B.dec y)
      | _ => False
  res | [x, y] => out (A.dec x) (B.dec y)
      | _ => .any
def Spec.f3 (A : Kd α) (B : Kd β) (C : Kd γ) (dom : α → β → γ → Prop) (out : α → β → γ → AV) : Spec where
  pre | [x, y, z] => A.ok x ∧ B.ok y ∧ C.ok z ∧ dom (A.dec x) (B.dec y) (C.dec z)
      | _ => False
  res | [x, y, z] => out (A.dec x) (B.dec y) (C.dec z)
      | _ => .any
def Spec.f4 (A : Kd α) (B : Kd β) (C : Kd γ) (D : Kd δ) (dom : α → β → γ → δ → Prop) (out : α → β → γ → δ → AV) : Spec where
  pre | [x, y, z, u] => A.ok x ∧ B.ok y ∧ C.ok z ∧ D.ok u ∧ dom (A.dec x) (B.dec y) (C.dec z) (D.dec u)
      | _ => False
  res | [x, y, z, u] => out (A.dec x) (B.dec y) (C.dec z) (D.dec u)
      | _ => .any

variable {P : Program} {f : FuncId} {fn : Func} {code : Code} {l : List ResultVar}
theorem SpecOK.f0 {out : AV} (hf : P.funcs[f]? = some fn) (hb : fn.body = some code) (hn : (fn.name == "runtime.NumGoroutine") = false) (hl : fn.results = l.toArray) {n : Nat} (ht : fn.ntmps = n)
    (h : AW P code (retQ P l out) (st0 n [])) : SpecOK P f (Spec.f0 out) := by
  subst ht
  refine SpecOK.mk hf hb hn hl fun args hp => ?_
  obtain rfl : args = [] := hp
  exact ⟨Nat.zero_le _, h⟩
theorem SpecOK.f1 {A : Kd α} {dom : α → Prop} {out : α → AV} (hf : P.funcs[f]? = some fn) (hb : fn.body = some code) (hn : (fn.name == "runtime.NumGoroutine") = false) (hl : fn.results = l.toArray) {n : Nat} (ht : fn.ntmps = n) (hm : 1 ≤ n)
    (h : ∀ a, dom a → AW P code (retQ P l (out a)) (st0 n [A.enc a])) : SpecOK P f (Spec.f1 A dom out) := by
  subst ht
  refine SpecOK.mk hf hb hn hl fun args hp => ?_
  match args, hp with
  | [x], hp => exact ⟨hm, AW.le (st0_le (.cons hp.1 .nil)) (h _ hp.2)⟩
theorem SpecOK.f2 {A : Kd α} {B : Kd β} {dom : α → β → Prop} {out : α → β → AV} (hf : P.funcs[f]? = some fn) (hb : fn.body = some code) (hn : (fn.name == "runtime.NumGoroutine") = false) (hl : fn.results = l.toArray) {n : Nat} (ht : fn.ntmps = n) (hm : 2 ≤ n)
    (h : ∀ a b, dom a b → AW P code (retQ P l (out a b)) (st0 n [A.enc a, B.enc b])) : SpecOK P f (Spec.f2 A B dom out) := by
  subst ht
  refine SpecOK.mk hf hb hn hl fun args hp => ?_
  match args, hp with
  | [x, y], hp => exact ⟨hm, AW.le (st0_le (.cons hp.1 (.cons hp.2.1 .nil))) (h _ _ hp.2.2)⟩
theorem SpecOK.f3 {A : Kd α} {B : Kd β} {C : Kd γ} {dom : α → β → γ → Prop} {out : α → β → γ → AV} (hf : P.funcs[f]? = some fn) (hb : fn.body = some code) (hn : (fn.name == "runtime.NumGoroutine") = false) (hl : fn.results = l.toArray) {n : Nat} (ht : fn.ntmps = n) (hm : 3 ≤ n)
    (h : ∀ a b c, dom a b c → AW P code (retQ P l (out a b c)) (st0 n [A.enc a, B.enc b, C.enc c])) : SpecOK P f (Spec.f3 A B C dom out) := by
  subst ht
  refine SpecOK.mk hf hb hn hl fun args hp => ?_
  match args, hp with
  | [x, y, z], hp => exact ⟨hm, AW.le (st0_le (.cons hp.1 (.cons hp.2.1 (.cons hp.2.2.1 .nil)))) (h _ _ _ hp.2.2.2)⟩
theorem SpecOK.f4 {A : Kd α} {B : Kd β} {C : Kd γ} {D : Kd δ} {dom : α → β → γ → δ → Prop} {out : α → β → γ → δ → AV} (hf : P.funcs[f]? = some fn) (hb : fn.body = some code) (hn : (fn.name == "runtime.NumGoroutine") = false) (hl : fn.results = l.toArray) {n : Nat} (ht : fn.ntmps = n) (hm : 4 ≤ n)
    (h : ∀ a b c d, dom a b c d → AW P code (retQ P l (out a b c d)) (st0 n [A.enc a, B.enc b, C.enc c, D.enc d])) : SpecOK P f (Spec.f4 A B C D dom out) := by
  subst ht
  refine SpecOK.mk hf hb hn hl fun args hp => ?_
  match args, hp with
  | [x, y, z, u], hp => exact ⟨hm, AW.le (st0_le (.cons hp.1 (.cons hp.2.1 (.cons hp.2.2.1 (.cons hp.2.2.2.1 .nil))))) (h _ _ _ _ hp.2.2.2.2)⟩
end

/-! ### code, reckoned -/
def isG (Γ : Gam) (o : Oper) : Bool :=
  match o.op with
  | .store _ _ _ => false
  | .mapUpdate _ _ _ _ => false
  | .defer _ => false
  | .call ⟨.builtin .append, _, _⟩ => false
  | .call ⟨.builtin .copy, _, _⟩ => false
  | .call ⟨.value (.func f), _, _⟩ => match Γ f with
    | some (.meth _) => false
    | _ => true
  | _ => true
/-- So many of a region's first operations write nothing. -/
def quiet (Γ : Gam) : List Oper → Nat
  | [] => 0
  | o :: r => if isG Γ o then quiet Γ r + 1 else 0
/-- How often code leaves a block. -/
def exits (id : Nat) : Code → Nat
  | .seq x y => exits id x + exits id y
  | .cond _ x y => exits id x + exits id y
  | .block _ x => exits id x
  | .loop x => exits id x
  | .scope x => exits id x
  | .exit i => if i = id then 1 else 0
  | _ => 0
/-- In how many ways code comes to its end. -/
def ends : Code → Nat
  | .region .. => 1
  | .skip => 1
  | .seq x y => if ends x = 0 then 0 else ends y
  | .cond _ x y => ends x + ends y
  | .block id x => ends x + exits id x
  | .loop _ => 0
  | .scope x => ends x
  | _ => 0
/-- Each region that draws its order may be drawn. -/
def draws (Γ : Gam) (S : List Nat) : Code → Bool
  | .region id ⟨l⟩ true => S.contains (200000 + id) || drawOK l (quiet Γ l)
  | .seq x y => draws Γ S x && draws Γ S y
  | .cond _ x y => draws Γ S x && draws Γ S y
  | .block _ x => draws Γ S x
  | .loop x => draws Γ S x
  | .scope x => draws Γ S x
  | _ => true

section
variable (P : Program) (Γ : Gam)
def rest (y : Code) (Q : Exit → AS → Prop) : Exit → AS → Prop
  | .normal, st => AW P y Q st
  | e, st => Q e st
def unscoped (Q : Exit → AS → Prop) : Exit → AS → Prop
  | .goto _, _ => False
  | e, st => Q e st
/-- A state, told by a list of slots and a list of rows. -/
structure Sh where
  fr : List (Nat × AV)
  hp : List (Nat × Row)
  sz : Nat
  top : Nat
  nx : Nat
  df : List Deferred
def Sh.st (s : Sh) : AS := ⟨frm s.fr, rws s.hp, s.sz, s.top, s.nx, s.df⟩
/-- A state is such a one. -/
def Sh.fits (s : Sh) (st : AS) : Prop :=
  ((s.sz = st.sz ∧ s.df = st.df) ∧ st.nx ≤ s.nx) ∧ (∀ p ∈ s.fr, AVle (st.fr p.1) p.2) ∧ (∀ p ∈ s.hp, RowLe (st.hp p.1) p.2) ∧ ∀ p ∈ s.hp, p.1 < s.top
theorem Sh.fits.le {s : Sh} {st : AS} (h : s.fits st) : ASle st s.st := ASle.of h.1.1.1 h.1.1.2 h.2.1 h.2.2.1 h.2.2.2 h.1.2
def again {α : Type} (I : α → Sh) (μ : α → Nat) (i : α) (Q : Exit → AS → Prop) : Exit → AS → Prop
  | .normal, st => ∃ j, (I j).fits st ∧ μ j < μ i
  | e, st => Q e st
/-- Behind the one code the other one; what that is asked for is told apart. -/
def thenX (X : (Exit → AS → Prop) → AS → Prop) (Q : Exit → AS → Prop) : Exit → AS → Prop
  | .normal, st => X Q st
  | e, st => Q e st
/-- The region with which code ends. -/
def lastOf : Code → Option Nat
  | .region id _ _ => some id
  | .seq _ y => lastOf y
  | _ => none
def stops (S : List Nat) (x : Code) : Bool := match lastOf x with
  | some id => S.contains id
  | none => false
/-- Code, as far as it goes without a choice of one's own; behind the regions of 'S' it stops. -/
def xCode (S : List Nat) : Code → (Exit → AS → Prop) → AS → Prop
  | .region _ ⟨l⟩ false, Q, st => xOps P Γ l.toArray l st (Q .normal)
  | .region id ⟨l⟩ true, Q, st => if S.contains (200000 + id) = true then AW P (.region id ⟨l⟩ true) Q st else xOpsA P Γ l.toArray (quiet Γ l) l st (Q .normal)
  | .seq x y, Q, st => if ends x ≤ 1 then (if stops S x = true then xCode S x (rest P y Q) st else xCode S x (thenX (xCode S y) Q) st) else if S.contains 99999 = true then xCode S x (thenX (xCode S y) Q) st else AW P (.seq x y) Q st
  | .cond o x y, Q, st => match st.ev o with
    | .val (.bool b) => (b = true → xCode S x Q st) ∧ (b = false → xCode S y Q st)
    | .mb q => (q → xCode S x Q st) ∧ xCode S y Q st
    | _ => False
  | .block id x, Q, st => xCode S x (inA id Q) st
  | .scope x, Q, st => xCode S x (unscoped Q) st
  | .skip, Q, st => Q .normal st
  | .exit id, Q, st => Q (.exit id) st
  | .ret, Q, st => Q .ret st
  | code, Q, st => AW P code Q st
end
section
variable {P : Program} {Γ : Gam}
theorem AW.of (hΓ : GOK P Γ) (hm : P.follows .mixedOrders = true) (S : List Nat) : ∀ (code : Code) (Q : Exit → AS → Prop) (st : AS), draws Γ S code = true → xCode P Γ S code Q st → AW P code Q st := by
  intro code
  induction code with
  | region id ops dr =>
    intro Q st hd h
    cases ops with
    | mk l =>
    cases dr with
    | false => exact AW.region hΓ h
    | true =>
      simp only [xCode] at h
      simp only [draws, Bool.or_eq_true] at hd
      split at h
      · exact h
      · rename_i hn
        exact AW.draw hΓ hm (quiet Γ l) (hd.resolve_left hn) h
  | seq x y ihx ihy =>
    intro Q st hd h
    simp only [draws, Bool.and_eq_true] at hd
    simp only [xCode] at h
    split at h
    · refine AW.seq fun K hK => ?_
      split at h
      · have := ihx (rest P y Q) st hd.1 h
        intro c η a w hsr
        refine wp_mono (this c η a w hsr) ?_
        rintro e a' w' ⟨st', η', hq, hs'⟩
        refine ⟨st', η', ?_, hs'⟩
        cases e with
        | normal => exact hK _ hq
        | _ => exact hq
      · have := ihx (thenX (xCode P Γ S y) Q) st hd.1 h
        intro c η a w hsr
        refine wp_mono (this c η a w hsr) ?_
        rintro e a' w' ⟨st', η', hq, hs'⟩
        refine ⟨st', η', ?_, hs'⟩
        cases e with
        | normal => exact hK _ (ihy _ _ hd.2 hq)
        | _ => exact hq
    · split at h
      · refine AW.seq fun K hK => ?_
        have := ihx (thenX (xCode P Γ S y) Q) st hd.1 h
        intro c η a w hsr
        refine wp_mono (this c η a w hsr) ?_
        rintro e a' w' ⟨st', η', hq, hs'⟩
        refine ⟨st', η', ?_, hs'⟩
        cases e with
        | normal => exact hK _ (ihy _ _ hd.2 hq)
        | _ => exact hq
      · exact h
  | cond o x y ihx ihy =>
    intro Q st hd h
    simp only [draws, Bool.and_eq_true] at hd
    simp only [xCode] at h
    split at h
    · rename_i b he
      exact AW.cond he (fun hb => ihx Q st hd.1 (h.1 hb)) fun hb => ihy Q st hd.2 (h.2 hb)
    · rename_i q he
      exact AW.condM he (fun hb => ihx Q st hd.1 (h.1 hb)) (ihy Q st hd.2 h.2)
    · exact h.elim
  | block id x ih => exact fun Q st hd h => AW.block (ih _ st hd h)
  | scope x ih =>
    intro Q st hd h
    refine AW.scope ?_
    have := ih (unscoped Q) st hd h
    intro c η a w hsr
    refine wp_mono (this c η a w hsr) ?_
    rintro e a' w' ⟨st', η', hq, hs'⟩
    exact ⟨st', η', by cases e <;> exact hq, hs'⟩
  | skip => exact fun Q st _ h => AW.skip h
  | exit id => exact fun Q st _ h => AW.exit h
  | ret => exact fun Q st _ h => AW.ret h
  | _ => exact fun Q st _ h => h
theorem AW.round {Q : Exit → AS → Prop} {st : AS} {x : Code} {α : Type} (I : α → Sh) (μ : α → Nat) (i₀ : α) (h₀ : (I i₀).fits st)
    (h : ∀ i, AW P x (again I μ i Q) (I i).st) : AW P (.loop x) Q st := by
  refine AW.loop (fun i => (I i).st) μ i₀ h₀.le fun i c η a w hsr => ?_
  refine wp_mono (h i c η a w hsr) ?_
  rintro e a' w' ⟨st', η', hq, hs'⟩
  refine ⟨st', η', ?_, hs'⟩
  cases e with
  | normal =>
    obtain ⟨j, hf, hm⟩ := hq
    exact ⟨j, hf.le, hm⟩
  | _ => exact hq
/-- Both roads meet in a state of which less is known. -/
def meet (s : Sh) (Q : Exit → AS → Prop) : Exit → AS → Prop
  | .normal, st => s.fits st
  | e, st => Q e st
theorem AW.join {x y : Code} {Q : Exit → AS → Prop} {st : AS} (s : Sh) (h : AW P x (meet s Q) st) (k : AW P y Q s.st) : AW P (.seq x y) Q st := by
  refine AW.seq fun K hK c η a w hsr => ?_
  refine wp_mono (h c η a w hsr) ?_
  rintro e a' w' ⟨st', η', hq, hs'⟩
  cases e with
  | normal =>
    obtain ⟨η₂, h₂⟩ := hq.le c η' a' w' hs'
    exact ⟨s.st, η₂, hK _ k, h₂⟩
  | _ => exact ⟨st', η', hq, hs'⟩
/-- The same, one of many ends. -/
def meets {α : Type} (s : α → Sh) (Q : Exit → AS → Prop) : Exit → AS → Prop
  | .normal, st => ∃ i, (s i).fits st
  | e, st => Q e st
theorem AW.joins {α : Type} {x y : Code} {Q : Exit → AS → Prop} {st : AS} (s : α → Sh) (h : AW P x (meets s Q) st) (k : ∀ i, AW P y Q (s i).st) : AW P (.seq x y) Q st := by
  refine AW.seq fun K hK c η a w hsr => ?_
  refine wp_mono (h c η a w hsr) ?_
  rintro e a' w' ⟨st', η', hq, hs'⟩
  cases e with
  | normal =>
    obtain ⟨i, hq⟩ := hq
    obtain ⟨η₂, h₂⟩ := hq.le c η' a' w' hs'
    exact ⟨(s i).st, η₂, hK _ (k i), h₂⟩
  | _ => exact ⟨st', η', hq, hs'⟩
/-- Less is known from here on. -/
theorem AW.cut {x : Code} {Q : Exit → AS → Prop} {st : AS} (s : Sh) (h : s.fits st) (k : AW P x Q s.st) : AW P x Q st := AW.le h.le k
end
end Go.Proofs.YtljgfacjefebaaaDoor
