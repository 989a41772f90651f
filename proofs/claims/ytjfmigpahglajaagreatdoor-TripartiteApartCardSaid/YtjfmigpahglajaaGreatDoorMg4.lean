/-
  Part 4 of what the proof rests on: values that are told, code that is walked, what comes out.
-/
import Derived.Test.YtjfmigpahglajaaGreatDoorMg3
import Derived.Laws.Runes
import Derived.Laws.BytesArg
import Derived.Test.YtjfmigpahglajaaGreatDoorChecked
import Derived.WalkKit
import Derived.Tactics
import Derived.Tactics2
import Derived.StillTactics
import Derived.Laws.Pointers
import Derived.Laws.Externs
import Derived.Laws.Entries
import Derived.Lib.Builder
import Derived.Lib.UnsafeStr
import Derived.Lib.AppendStr
import Derived.KernelRfl
set_option linter.unusedSimpArgs false
namespace Go.Proofs.YtjfmigpahglajaaGreatDoor
open Go Go.ChangeShapes Go.WideShapes Go.ChangeAt Go.RowKit

section
variable {P : Program}
def OpensK (P : Program) (t : TypeId) {α : Type} (K : Kd α) (good : α → Prop) : Prop :=
  ∀ (H : Type) (enc : TypeId × Value → H) (W : World) (base : Nat) (v : Value) (d : DataW H) (p : List MemPlace), Value.okWide P W .any base t v → DataW.Trod enc P W 0 (fun _ => true) true t v d p → reachW P t d →
    ∃ a, good a ∧ Rep W noEnv (fun _ => False) (K.enc a) v
theorem opensK_one {t : TypeId} {α : Type} {E : El α} {g : α → Prop} {K : Kd α} (h : Opens P t E g) (hs : E.sz = 1) (hK : ∀ a, K.enc a = E.enc a 0) (hv : ∀ (W : World) (base : Nat) (v : Value), Value.okWide P W .any base t v → v.cells = #[v]) : OpensK P t K g := by
  intro H enc W base v d p hok ⟨fuel, htr⟩ hz
  obtain ⟨a, ha, hj⟩ := h.read H enc W 0 _ _ fuel _ _ htr hz
  obtain ⟨u, hu, _, hr⟩ := hj 0 (by omega)
  rw [hv W base v hok] at hu
  simp only [List.getElem?_cons_zero, Option.some.injEq] at hu
  subst hu
  exact ⟨a, ha, by rw [hK]; exact hr⟩
theorem opensK_slice {t e : TypeId} {α : Type} {E : El α} {g : α → Prop} (ht : P.underlying t = some (.slice e)) (hs : P.cellsOf t = 1) (he : Opens P e E g) (h0 : 0 < E.sz) (hby : 0 < P.bytesOf e) : OpensK P t (kL E) (gLs g) :=
  opensK_one (opens_slice ht hs he h0 hby) rfl (fun _ => rfl) fun W base v h => by obtain ⟨_, _, _, rfl⟩ := okWide_slice ht h; rfl
theorem opensK_agg {t : TypeId} {α : Type} {E : El α} {g : α → Prop} (hu : aggT P t = some true) (h : Opens P t E g) : OpensK P t (kA E) g := by
  intro H enc W base v d p hok ⟨fuel, htr⟩ hz
  obtain ⟨a, ha, hj⟩ := h.read H enc W 0 _ _ fuel _ _ htr hz
  have : ∃ cs, v = .agg cs ∧ cs.size = P.cellsOf t := by
    unfold aggT at hu
    unfold Value.okWide at hok
    split at hok
    · obtain ⟨cs, hv, hsz, _⟩ := hok; exact ⟨cs, hv, hsz⟩
    · obtain ⟨cs, hv, hsz, _⟩ := hok; exact ⟨cs, hv, hsz⟩
    · rename_i hns hna
      cases hq : P.underlying t with
      | none => rw [hq] at hu; cases hu
      | some q =>
        rw [hq] at hu
        cases q with
        | struct fs => exact absurd hq (hns fs)
        | array n e => exact absurd hq (hna n e)
        | _ => cases hu
  obtain ⟨cs, rfl, hsz⟩ := this
  exact ⟨a, ha, cs, rfl, by rw [hsz, h.size], fun j hjs => by simpa [Value.cells] using hj j hjs⟩

def OpenAll (P : Program) (ts : List TypeId) (Q : List AV → Prop) : Prop :=
  ∀ (H : Type) (enc : TypeId × Value → H) (W : World) (base : Nat) (vs : List Value) (ds : List (DataW H)) (ps : List MemPlace), DataW.TrodAll enc P W 0 (fun _ => true) true ts vs ds ps →
    (∀ (j : Nat) t v, ts[j]? = some t → vs[j]? = some v → Value.okWide P W .any base t v) → (∀ (j : Nat) t d, ts[j]? = some t → ds[j]? = some d → reachW P t d) → ∃ avs, Q avs ∧ All2 (Rep W noEnv fun _ => False) avs vs
theorem openAll_nil : OpenAll P [] (· = []) := by
  intro H enc W base vs ds ps h _ _
  match vs, ds, h with
  | [], [], _ => exact ⟨[], rfl, .nil⟩
theorem openAll_cons {t : TypeId} {ts : List TypeId} {α : Type} {K : Kd α} {g : α → Prop} {Q : List AV → Prop} (h : OpensK P t K g) (k : OpenAll P ts Q) : OpenAll P (t :: ts) (fun avs => ∃ a r, avs = K.enc a :: r ∧ g a ∧ Q r) := by
  intro H enc W base vs ds ps hA hok hz
  match vs, ds, hA with
  | v :: vs, d :: ds, ⟨p, q, h1, h2, _⟩ =>
    obtain ⟨a, ha, hr⟩ := h H enc W base v d p (hok 0 t v rfl rfl) h1 (hz 0 t d rfl rfl)
    obtain ⟨avs, hQ, hrs⟩ := k H enc W base vs ds q h2 (fun j t' v' ht hv => hok (j + 1) t' v' ht hv) fun j t' d' ht hd => hz (j + 1) t' d' ht hd
    exact ⟨K.enc a :: avs, ⟨a, avs, rfl, ha, hQ⟩, .cons hr hrs⟩
theorem trodAll_below {H : Type} {enc : TypeId × Value → H} (hl : laidOutB P = true) {W W' : World} (hb : Below W.heap.size W W') : ∀ (ts : List TypeId) (vs : List Value) (ds : List (DataW H)) (ps : List MemPlace),
    (∀ t ∈ ts, P.readableRec t = true ∧ t < P.types.size) → DataW.TrodAll enc P W 0 (fun _ => true) true ts vs ds ps → (∀ x ∈ ps, x.block < W.heap.size) →
    DataW.TrodAll enc P W' 0 (fun b => decide (b < W.heap.size)) true ts vs ds ps
  | [], [], [], _, _, h, _ => h
  | t :: ts, v :: vs, d :: ds, ps, ht, ⟨p, q, h1, h2, e⟩, hlt => by
    subst e
    exact ⟨p, q, Below.trod hl (ht t (List.mem_cons_self ..)).1 (ht t (List.mem_cons_self ..)).2 h1 hb fun x hx => hlt x (List.mem_append_left _ hx),
      trodAll_below hl hb ts vs ds q (fun t h => ht t (List.mem_cons_of_mem _ h)) h2 fun x hx => hlt x (List.mem_append_right _ hx), rfl⟩
  | [], _ :: _, _, _, _, h, _ => h.elim
  | [], [], _ :: _, _, _, h, _ => h.elim
  | _ :: _, [], _, _, _, h, _ => h.elim
  | _ :: _, _ :: _, [], _, _, h, _ => h.elim

theorem law_calls {H : Type} {enc : TypeId × Value → H} {f : FuncId} {fn : Func} {s : ChangeSpec} {sp : Spec} {ts : List TypeId} {tb : TypeId} {Q : List AV → Prop} (hl : laidOutB P = true) (hs : SpecOK P f sp) (hp : fn.params.toList = ts) (hr : fn.resultTypes = #[tb])
    (hb : P.underlying tb = some .bool) (hopen : OpenAll P ts Q) (hts' : ts.all (fun t => P.readableRec t && decide (t < P.types.size)) = true) (hpre : ∀ avs, Q avs → sp.pre avs ∧ sp.res avs = .val (.bool true))
    (hsv : s.vars = []) (hsf : ∀ ds : List (DataW H), ds.length = ts.length → (s.fn H ds).results = [.lit (.bool true)] ∧ (s.fn H ds).args = ds ∧ (s.fn H ds).vars = [])
    (W : World) (base : Nat) (args : Array Value) (ds gs : List (DataW H)) (before : List MemPlace)
    (hval : ∀ (j : Nat) t v, fn.params[j]? = some t → args[j]? = some v → Value.okWide P W .any base t v)
    (hW : DataW.Whole enc P fn.params.toList s.vars false W args.toList ds gs before) (hz : (DataW.weightsEach P (fn.params.toList ++ s.plain.varTypes P) (ds ++ gs)).all (· ≤ reachBytes) = true) :
    Calls P f args W fun e W' => ∃ v, e = .returned v ∧ s.post enc P fn false true false false W args v W' := by
  have hts : ∀ t ∈ ts, P.readableRec t = true ∧ t < P.types.size := fun t ht => by simpa using List.all_eq_true.1 hts' t ht
  have hW' := hW
  obtain ⟨p, q, hA, hV, hbe, hfz, hnd⟩ := hW
  rw [hsv] at hV
  obtain ⟨rfl, rfl⟩ := trodVars_none hV
  rw [hp] at hA
  obtain ⟨avs, hQ, hreps⟩ := hopen H enc W base args.toList ds p hA (fun j t v ht hv => hval j t v (by
    have : fn.params.toList[j]? = some t := by rw [hp]; exact ht
    simpa using this) (by simpa using hv)) fun j t d ht hd n hn => by
    have h1 : (fn.params.toList ++ s.plain.varTypes P)[j]? = some t := by
      rw [hp, List.getElem?_append_left (List.getElem?_eq_some_iff.1 ht).1]
      exact ht
    have h2 : (ds ++ [])[j]? = some d := by rw [List.append_nil]; exact hd
    simpa using List.all_eq_true.1 hz n (DataW.weights_mem_each h1 h2 n hn)
  obtain ⟨h1, h2⟩ := hpre avs hQ
  have hlen : ds.length = ts.length := by
    have : ∀ (ts : List TypeId) (vs : List Value) (ds : List (DataW H)) (ps : List MemPlace), DataW.TrodAll enc P W 0 (fun _ => true) true ts vs ds ps → ds.length = ts.length := by
      intro ts
      induction ts with
      | nil =>
        intro vs ds ps h
        match vs, ds, h with
        | [], [], _ => rfl
      | cons t ts ih =>
        intro vs ds ps h
        match vs, ds, h with
        | v :: vs, d :: ds, ⟨p, q, _, h2, _⟩ => simp [ih vs ds q h2]
    exact this ts _ _ _ hA
  have hlt : ∀ x ∈ p, x.block < W.heap.size := fun x hx => by
    refine hW'.lt x ?_
    rw [hbe]
    exact List.mem_append_left _ hx
  have hc := hs.2 avs h1 W (fun _ => False) args.toList (fun _ h => h.elim) hreps
  refine (show Calls P f args W _ by simpa using hc).mono ?_
  rintro e W' ⟨v, rfl, hf, hr'⟩
  rw [h2] at hr'
  have hv : v = .bool true := hr'
  subst hv
  obtain ⟨e1, e2, e3⟩ := hsf ds hlen
  refine ⟨_, rfl, ds, [], before, [], p, [], hW', ?_, ?_, ?_, hf.below.frame _, fun h => by cases h⟩
  · rw [hr, List.append_nil, e1]
    exact trodAll_cons_mk (shut_bool hb _) trodAll_mk0
  · rw [hp, List.append_nil, e2]
    exact trodAll_below hl hf.below ts _ _ _ hts hA hlt
  · rw [hsv, List.append_nil, e3]
    rfl
theorem pre_f2 {α β : Type} {A : Kd α} {B : Kd β} {gA : α → Prop} {gB : β → Prop} {dom : α → β → Prop} {out : α → β → AV} (h : ∀ a b, gA a → gB b → dom a b ∧ out a b = .val (.bool true)) (avs : List AV)
    (hQ : ∃ a r, avs = A.enc a :: r ∧ gA a ∧ ∃ b r', r = B.enc b :: r' ∧ gB b ∧ r' = []) : (Spec.f2 A B dom out).pre avs ∧ (Spec.f2 A B dom out).res avs = .val (.bool true) := by
  obtain ⟨a, _, rfl, ha, b, _, rfl, hb, rfl⟩ := hQ
  obtain ⟨h1, h2⟩ := h a b ha hb
  simp only [Spec.f2, A.law, B.law]
  exact ⟨⟨A.ok_enc a, B.ok_enc b, h1⟩, h2⟩
end
end Go.Proofs.YtjfmigpahglajaaGreatDoor
set_option linter.unusedSimpArgs false
set_option linter.unusedVariables false
namespace Go.Proofs.YtjfmigpahglajaaGreatDoor
open Go Go.ChangeShapes Go.WideShapes Go.ChangeAt Go.RowKit
def eU : El Int := ⟨1, fun n _ => .val (.int .u8 n), fun c => (c 0).int, 0, fun _ => rfl, fun _ _ h => by rw [h 0 Nat.one_pos]⟩
@[go_sem] theorem eU_sz : eU.sz = 1 := (rfl)
@[go_sem] theorem eU_enc (n : Int) (j : Nat) : eU.enc n j = .val (.int .u8 n) := rfl
@[go_sem] theorem eU_d : eU.dflt = 0 := rfl
@[go_sem] theorem okc_U (n : Int) : eU.okc (fun _ => .val (.int .u8 n)) = True := eq_true fun _ _ => AVle.refl _
@[go_sem] theorem dec_U (n : Int) : eU.dec (fun _ => .val (.int .u8 n)) = n := rfl
@[go_sem] theorem eU_flat (x : Int) (j : Nat) : (eU.enc x j).flat = true := rfl
@[go_sem] theorem eU_dec (c : Nat → AV) : eU.dec c = kU.dec (c 0) := rfl
@[go_sem] theorem eU_okc (c : Nat → AV) : eU.okc c = kU.ok (c 0) := okc_1 rfl (fun _ => rfl) (fun _ => rfl) c
@[go_sem] theorem eqLf_u8 (k : IntKind) (a b : Int) : eqLf (some (.int k)) (.val (.int .u8 a)) (.val (.int .u8 b)) = some (decide (a = b)) := rfl
theorem nil_em : AVle (.val (.slice none 0 0)) .em := fun _ _ _ _ h => ⟨none, h⟩
section
variable {P : Program} {st : AS} {K : AS → Prop} {o : Oper}
theorem pure_wp {z : AV} (hd : dstOK st.sz o.dst) (h : ∀ (c : Ctx) (η : Env) (a : Act) (w : World), SR c st η a w → ∃ v, (execOp a.eval o).run P w = .ok (.value v) w ∧ Rep w η (Lset c η st.hp) z v)
    (hK : K ⟨updO st.fr o.dst z, st.hp, st.sz, st.top, st.nx, st.df⟩) : OpW P o st K := by
  intro c η a w next Q hsr hnext
  obtain ⟨v, e, hr⟩ := h c η a w hsr
  unfold Oper.wp
  rw [e]
  exact hnext _ η _ w (hsr.put hd hsr.hs hsr.dead (fun _ _ h => h) hr) hK
theorem alloc_wp {e : TypeId} {zl : List Value} (ho : o.op = .alloc e) (hz : zeroC P e = some zl) (hd : dstOK st.sz o.dst)
    (hK : K ⟨updO st.fr o.dst (.pt st.top st.nx 0), updR st.hp st.top (.box st.nx e zl.length fun j => .val (zl.getD j undef)), st.sz, st.top + 1, st.nx + 1, st.df⟩) : OpW P o st K := by
  intro c η a w next Q hsr hnext
  obtain ⟨hs', hL⟩ := hsr.hs.declare (p := st.top) (row := .box st.nx e zl.length fun j => .val (zl.getD j undef)) rfl
  obtain ⟨zv, hzr, hzc, hz1⟩ := run_zero (w := w) hz
  have hrow : updR st.hp st.top (.box st.nx e zl.length fun j => .val (zl.getD j undef)) st.top = .box st.nx e zl.length fun j => .val (zl.getD j undef) := updR_at ..
  have hlay := hs'.lay (p := st.top) (ver := st.nx) (cap := 0) (by rw [hrow]; rfl) (hsr.hs.fresh _ (Nat.le_refl _)) hsr.hs.env.2.1 (.cells zl.toArray e) (by
    rw [hrow]
    intro g cap he
    rw [layAt_at] at he
    simp only [Option.some.injEq, Prod.mk.injEq] at he
    obtain ⟨rfl, rfl⟩ := he
    refine ⟨_, _, rfl, heap_alloc_new w _, by simp, fun j hj => ⟨zl[j], by simp [hj], List.all_eq_true.1 hz1 _ (List.getElem_mem hj), ?_⟩⟩
    show zl[j] = zl.getD j undef
    simp [List.getD, hj])
  have run : (execOp a.eval o).run P w = .ok (.value (.pointer (some ⟨w.heap.size, 0, none⟩))) (w.alloc (.cells zl.toArray e)) := by
    simp [execOp, ho, Instr.alloc, hzr, newVar, newRow, hzc]
  unfold Oper.wp
  rw [run]
  have hrep : Rep (w.alloc (.cells zl.toArray e)) (layAt η st.nx (some w.heap.size, 0)) (Lset c (layAt η st.nx (some w.heap.size, 0)) (updR st.hp st.top (.box st.nx e zl.length fun j => .val (zl.getD j undef)))) (.pt st.top st.nx 0) (.pointer (some ⟨w.heap.size, 0, none⟩)) := ⟨w.heap.size, 0, layAt_at _ _ _, rfl⟩
  refine hnext _ (layAt η st.nx (some w.heap.size, 0)) _ _ (hsr.put hd hlay.1 (fun p hp => ?_) (fun x u hx => hlay.2.rep (Rep.less (fun b _ hb => hL b hb) hx)) hrep) hK
  rw [updR_ne _ _ (by omega)]
  exact hsr.dead p (by omega)
theorem rune_wp {s d : TypeId} {x : Operand} {k : IntKind} {n : Int} {l : List UInt8} (ho : o.op = .convert s d x) (hs : (P.underlying s).isSome = true) (hd : P.underlying d = some .string) (hx : st.ev x = .val (.int k n)) (hl : Utf8.encode n = ⟨l.toArray⟩) (hdst : dstOK st.sz o.dst)
    (hK : K ⟨updO st.fr o.dst (.st l), st.hp, st.sz, st.top, st.nx, st.df⟩) : OpW P o st K := by
  refine pure_wp hdst (fun c η a w hsr => ?_) hK
  have hv := rep_ev hsr.slots x
  unfold AS.ev at hx
  rw [hx] at hv
  have hv : a.eval x = .int k n := hv
  refine ⟨.string ⟨l.toArray⟩, ?_, rfl⟩
  unfold execOp
  rw [ho]
  simp [hv, run_convert_int_string w s d k n hs hd, hl]
theorem str_wpS {s d e : TypeId} {x : Operand} {n : Nat} {cc : Nat → Nat → AV} {l : List UInt8} (ho : o.op = .convert s d x) (hs : P.underlying s = some (.slice e)) (he : P.underlying e = some (.int .u8)) (hd : P.underlying d = some .string) (hx : st.ev x = .sn n 1 cc)
    (hl : l.length = n) (h0 : l ≠ []) (hc : ∀ i, i < n → cc i 0 = .val (.int .u8 (l.getD i 0).toNat)) (hdst : dstOK st.sz o.dst)
    (hK : K ⟨updO st.fr o.dst (.st l), st.hp, st.sz, st.top, st.nx, st.df⟩) : OpW P o st K := by
  refine pure_wp hdst (fun c η a w hsr => ?_) hK
  have hv := rep_ev hsr.slots x
  unfold AS.ev at hx
  rw [hx] at hv
  obtain ⟨ad, cap, hv, hcap, hcell⟩ := hv
  have hpos : 0 < l.length := List.length_pos_iff.2 h0
  obtain ⟨b, off, rfl, _, hcell⟩ := hcell (by omega) (by decide)
  refine ⟨.string ⟨l.toArray⟩, ?_, rfl⟩
  have key : (convert s d (a.eval x)).run P w = .ok (.string ⟨l.toArray⟩) w := by
    rw [hv, run_convert_bytes_arg w s e hs he b off n cap (l.map fun x => (x.toNat : Int)) (by simpa using hl) (fun i hi => by
      obtain ⟨u, hu, _, hrep⟩ := hcell i hi 0 (by decide)
      rw [hc i hi] at hrep
      have hrep : u = .int .u8 (l.getD i 0).toNat := hrep
      rw [Nat.mul_one, Nat.add_zero] at hu
      rw [hu, hrep]
      simp [List.getD, show i < l.length by omega]) d hd]
    congr 2
    simp [strOfNums, List.map_map]
    conv => rhs; rw [← List.map_id l]
    apply List.map_congr_left
    intro b _
    simp
  unfold execOp
  rw [ho]
  simp [key]
end
end Go.Proofs.YtjfmigpahglajaaGreatDoor
set_option linter.unusedSimpArgs false
set_option linter.unusedVariables false
set_option maxRecDepth 100000
namespace Go.Proofs.YtjfmigpahglajaaGreatDoor
open Go
abbrev Mk := Int × Bool × BS
instance : DecidableEq Mk := inferInstance
abbrev eMk : El Mk := eP eU (eP eB eS)
def wideM (w : Int) : Bool := decide (1 ≤ w) && decide (w ≤ 1073741824)
def signI (k : Int) : Prop := k = 60 ∨ k = 124 ∨ k = 61 ∨ k = 62
def tailM (f : Bool) (l : BS) : BS := (if f = true then [33] else []) ++ ((if l = [] then [] else 32 :: l) ++ [10])
def lineM (m : Mk) (w : Int) : BS := List.replicate w.toNat (UInt8.ofNat m.1.toNat) ++ tailM m.2.1 m.2.2
theorem tailM_len (f : Bool) (l : BS) : (tailM f l).length ≤ l.length + 3 := by
  unfold tailM
  cases f <;> by_cases h : l = [] <;> simp [h]
theorem lineM_len (m : Mk) (w : Int) : (lineM m w).length ≤ w.toNat + (m.2.2.length + 3) := by
  unfold lineM
  have := tailM_len m.2.1 m.2.2
  simp only [List.length_append, List.length_replicate]
  omega
theorem wide_iff {w : Int} : wideM w = true ↔ 1 ≤ w ∧ w ≤ 1073741824 := by simp [wideM]
end Go.Proofs.YtjfmigpahglajaaGreatDoor
set_option linter.unusedSimpArgs false
set_option linter.unusedVariables false
set_option maxRecDepth 100000
set_option maxHeartbeats 2000000
namespace Go.Proofs.YtjfmigpahglajaaGreatDoor
open Go
attribute [local irreducible] AW AVle ASle RowLe
def sRepeat : Spec := Spec.f2 kS kI (fun a n => a.length = 1 ∧ 0 ≤ n ∧ n ≤ 100000000000) (fun a n => kS.enc (List.replicate n.toNat (a.getD 0 0)))
theorem okRepeat : SpecOK Tryz.prog 155 sRepeat := by
  refine SpecOK.raw Tryz.func155 rfl (by decide) fun args hp w L vs hL ha => ?_
  match args, hp with
  | [x, y], hp =>
    obtain ⟨h1, h2, h3, h4, h5⟩ := hp
    cases ha with
    | cons hx hr => cases hr with
      | cons hy hr => cases hr with
        | nil =>
          have ex := okGet h1 hx
          have ey := okGet h2 hy
          obtain rfl := ex
          obtain rfl := ey
          rw [show sRepeat.res [x, y] = kS.enc (List.replicate (kI.dec y).toNat ((kS.dec x).getD 0 0)) from rfl]
          generalize kS.dec x = a at *
          generalize kI.dec y = n at *
          obtain ⟨k, rfl⟩ := Int.eq_ofNat_of_zero_le h4
          have hsz : (⟨a.toArray⟩ : ByteArray).size = 1 := by simpa [ByteArray.size] using h3
          refine (Tryz.strings_Repeat ⟨a.toArray⟩ k w (by omega) (by rw [hsz]; omega)).mono ?_
          rintro e w' ⟨rfl, hb⟩
          refine ⟨_, rfl, Fr.of_below hb _, ?_⟩
          obtain ⟨c, rfl⟩ : ∃ c, a = [c] := by
            match a, h3 with
            | [c], _ => exact ⟨c, rfl⟩
          show Value.string _ = Value.string _
          rw [show ([c] : List UInt8) = List.replicate 1 c from rfl, Lib.repeatL_replicate, Nat.mul_one]
          rfl
def sIsWidth : Spec := Spec.f1 kI (fun _ => True) (fun w => kB.enc (wideM w))
theorem okIsWidth : SpecOK Tryz.prog 89 sIsWidth := by
  refine SpecOK.f1 Tryz.func89 rfl (by decide) Tryz.results89 Tryz.ntmps89 (by decide) fun w _ => ?_
  have hΓ : GOK Tryz.prog (gam []) := GOK.nil
  refine AW.of hΓ mixed [] _ _ _ rfl ?_
  simp only [go_sem]
  rfl
def sRefWide : Spec := Spec.f1 kI (fun _ => True) (fun w => kB.enc (wideM w))
theorem okRefWide : SpecOK Tryz.prog 80 sRefWide := by
  refine SpecOK.f1 Tryz.func80 rfl (by decide) Tryz.results80 Tryz.ntmps80 (by decide) fun w _ => ?_
  have hΓ : GOK Tryz.prog (gam []) := GOK.nil
  refine AW.of hΓ mixed [] _ _ _ rfl ?_
  simp only [go_sem]
  rfl
def sLineI : Spec := Spec.f2 (kA eMk) kI (fun m w => signI m.1 ∧ 0 ≤ w ∧ w ≤ 10000000000 ∧ m.2.2.length ≤ 10000000000) (fun m w => kS.enc (lineM m w))
theorem okLineI : SpecOK Tryz.prog 133 sLineI := by
  refine SpecOK.f2 Tryz.func133 rfl (by decide) Tryz.results133 Tryz.ntmps133 (by decide) fun m w ⟨hk, hw1, hw2, hl⟩ => ?_
  have hΓ : GOK Tryz.prog (gam [(155, sRepeat)]) := (.cons okRepeat .nil)
  obtain ⟨k, f, l⟩ := m
  simp only at hk hl
  have e1 : Utf8.encode (IntKind.i32.wrap k) = ⟨([UInt8.ofNat k.toNat] : List UInt8).toArray⟩ := by
    rcases hk with rfl | rfl | rfl | rfl <;> rfl
  cases f
  all_goals (
    by_cases h : l = []
    all_goals (
      refine AW.of hΓ mixed [] _ _ _ rfl ?_
      simp only [go_sem, sRepeat, h]
      refine AW.fork ?_
      refine AW.of hΓ mixed [] _ _ _ rfl ?_
      simp only [go_sem, sRepeat, h]
      refine AW.fork ?_
      refine AW.of hΓ mixed [] _ _ _ rfl ?_
      simp only [go_sem, sRepeat, h]
      try refine ⟨by omega, by omega, ?_⟩
      refine AW.fork (AW.regionO hΓ [false, false, false, true] ?_)
      simp only [go_sem, sRepeat, h]
      refine rune_wp rfl (by rw [Tryz.underlying21]; rfl) Tryz.underlying9 rfl e1 (Nat.lt_of_lt_of_le (by decide : 19 < 25) (Nat.le_refl _)) ?_
      simp only [go_sem, sRepeat, h]
      refine ⟨by omega, by omega, by omega, ?_⟩
      refine AW.of hΓ mixed [] _ _ _ rfl ?_
      simp only [go_sem, sRepeat, h]
      simp [lineM, tailM, h]))
def sRefRep : Spec := Spec.f2 kU kI (fun c w => 0 ≤ c ∧ c ≤ 255 ∧ w ≤ 10000000000) (fun c w => kS.enc (List.replicate w.toNat (UInt8.ofNat c.toNat)))
theorem okRefRep : SpecOK Tryz.prog 129 sRefRep := by
  refine SpecOK.f2 Tryz.func129 rfl (by decide) Tryz.results129 Tryz.ntmps129 (by decide) fun c w ⟨hc1, hc2, hw⟩ => ?_
  have hΓ : GOK Tryz.prog (gam []) := GOK.nil
  refine AW.of hΓ mixed [] _ _ _ rfl ?_
  simp only [go_sem]
  refine AW.round (α := { x : Nat × Nat × Nat // x.1 ≤ w.toNat }) (fun x => ⟨[(0, .val (.int .u8 c)), (1, .val (.int .i64 w)), (5, .st (List.replicate x.1.1 (UInt8.ofNat c.toNat))), (6, .val (.int .i64 x.1.1))], [], 18, x.1.2.2, x.1.2.1, []⟩) (fun x => w.toNat - x.1.1) ⟨(0, 0, 0), Nat.zero_le _⟩ ?_ ?_
  · simp only [go_sem]
    rfl
  · rintro ⟨⟨i, nx, tp⟩, hi⟩
    simp only at hi
    refine AW.fork ?_
    refine AW.of hΓ mixed [99999] _ _ _ rfl ?_
    simp only [go_sem]
    refine ⟨fun hlt => ?_, fun hge => ?_⟩
    · refine AW.fork (AW.block (AW.regionO hΓ [false, false, false, true] ?_))
      simp only [go_sem]
      refine str_wpS (l := [UInt8.ofNat c.toNat]) rfl Tryz.underlying147 Tryz.underlying5 Tryz.underlying9 rfl rfl (by simp) (fun i hi => ?_) (Nat.lt_of_lt_of_le (by decide : 15 < 18) (Nat.le_refl _)) ?_
      · obtain rfl : i = 0 := by omega
        show AV.val (.int .u8 c) = AV.val (.int .u8 _)
        congr 2
        simp
        omega
      · simp only [go_sem]
        refine ⟨by omega, ?_⟩
        refine AW.of hΓ mixed [] _ _ _ rfl ?_
        simp only [go_sem]
        exact ⟨by omega, ⟨(i + 1, nx, tp), by dsimp only; omega⟩, ⟨Nat.le_refl _, by dsimp only; rw [List.replicate_succ'], by dsimp only; omega⟩, by dsimp only; omega⟩
    · rw [show i = w.toNat by omega]
def sRefLineI : Spec := Spec.f2 (kA eMk) kI (fun m w => (0 ≤ m.1 ∧ m.1 ≤ 255) ∧ w ≤ 10000000000 ∧ m.2.2.length ≤ 10000000000) (fun m w => kS.enc (lineM m w))
theorem okRefLineI : SpecOK Tryz.prog 84 sRefLineI := by
  refine SpecOK.f2 Tryz.func84 rfl (by decide) Tryz.results84 Tryz.ntmps84 (by decide) fun m w ⟨hk, hw, hl⟩ => ?_
  have hΓ : GOK Tryz.prog (gam [(129, sRefRep)]) := (.cons okRefRep .nil)
  obtain ⟨k, f, l⟩ := m
  simp only at hk hl
  cases f
  all_goals (
    by_cases h : l = []
    all_goals (
      refine AW.of hΓ mixed [] _ _ _ rfl ?_
      simp only [go_sem, sRefRep, h]
      refine ⟨⟨hk.1, hk.2, hw⟩, ?_⟩
      refine AW.fork ?_
      refine AW.of hΓ mixed [] _ _ _ rfl ?_
      simp only [go_sem, sRefRep, h]
      try refine ⟨by omega, ?_⟩
      refine AW.fork ?_
      refine AW.of hΓ mixed [] _ _ _ rfl ?_
      simp only [go_sem, sRefRep, h]
      try refine ⟨by omega, by omega, ?_⟩
      refine AW.of hΓ mixed [] _ _ _ rfl ?_
      simp only [go_sem, sRefRep]
      refine ⟨by omega, ?_⟩
      simp [lineM, tailM, h]))
end Go.Proofs.YtjfmigpahglajaaGreatDoor
set_option linter.unusedVariables false
set_option maxRecDepth 100000
set_option maxHeartbeats 2000000
namespace Go.Proofs.YtjfmigpahglajaaGreatDoor
open Go Go.RowKit
theorem bldSize : (Tryz.prog.info? 149).map (·.size) = some 2 := by kernel_rfl
theorem bldLies : liesAt Tryz.prog Tryz.prog.depth 149 (2 / Tryz.prog.cellsOf 149) 0 149 1 = true := by kernel_rfl
theorem check_used (b : Nat) (w : World) (h0 : w.cell? ⟨b, 0, none⟩ = some (.pointer (some ⟨b, 0, none⟩))) :
    Calls Tryz.prog 135 #[.pointer (some ⟨b, 0, none⟩)] w fun e w' => e = .returned (.tuple #[]) ∧ w' = w := by
  obtain ⟨j, hj, _⟩ := Option.map_eq_some_iff.1 bldSize
  go_enter Tryz.func135, Tryz.ntmps135
  go_wp2
  rw [Lib.run_neq_ptr_same w _ Tryz.underlying146 hj]
  go_wp2
  go_end0
  exact ⟨rfl, rfl⟩
theorem check_fresh (b : Nat) (w : World) (h0 : w.cell? ⟨b, 0, none⟩ = some (.pointer none)) (hsh : w.shape? b = some (149, 2)) (hfz : w.frozen? ⟨b, 0, none⟩ = false) :
    Calls Tryz.prog 135 #[.pointer (some ⟨b, 0, none⟩)] w fun e w' => e = .returned (.tuple #[]) ∧ w' = w.setCell ⟨b, 0, none⟩ (.pointer (some ⟨b, 0, none⟩)) := by
  obtain ⟨j, hj, hjs⟩ := Option.map_eq_some_iff.1 bldSize
  go_enter Tryz.func135, Tryz.ntmps135
  go_wp2
  rw [Lib.run_to_unsafe w ⟨b, 0, none⟩ Tryz.underlying146 Tryz.underlying208 hj (by rw [hjs]; decide) hsh (Nat.zero_lt_succ 1)]
  simp only [Result.andThen]
  rw [Oper.upon_value]
  go_wp2
  rw [run_callFunc_extern Tryz.func156 (by kernel_rfl) (by kernel_rfl) (by kernel_rfl) (e := Extern.AbiNoEscape.same) (by kernel_rfl)]
  rw [Lib.run_noEscape]
  simp only [Result.andThen]
  rw [Oper.upon_value]
  go_wp2
  rw [Lib.run_from_unsafe w ⟨b, 0, none⟩ Tryz.underlying208 Tryz.underlying146 hj hsh bldLies]
  simp only [Result.andThen]
  rw [Oper.upon_value]
  go_wp2
  go_end0
  exact ⟨rfl, rfl⟩
theorem fr_freeze (w : World) (g n : Nat) : Fr (fun b => b = g) w (w.freeze ⟨g, 0, none⟩ n) := by
  unfold World.freeze
  split
  · exact Fr.refl _ _
  · exact ⟨rfl, rfl, rfl, by simp, fun k _ hk => by simp [Array.getElem?_modify, Ne.symm hk]⟩
theorem cellByte : Tryz.prog.cellsOf 5 = 1 := by kernel_rfl
theorem str_some (b g cap : Nat) (p : Value) (cur : Array Value) (l : List UInt8) (w : World) (hbk : w.heap[b]? = some (.cells #[p, .slice (some ⟨g, 0, none⟩) l.length cap] 149 (0, 0)))
    (hg : w.heap[g]? = some (.cells cur 5 (0, 0))) (h0 : l ≠ []) (hn : l.length ≤ cur.size) (hcap : cap ≠ 0) (h63 : l.length ≤ 9223372036854775807) (hc : ∀ (j : Nat) (x : UInt8), l[j]? = some x → cur[j]? = some (Value.int .u8 x.toNat)) :
    Calls Tryz.prog 93 #[.pointer (some ⟨b, 0, none⟩)] w fun e w' => e = .returned (.string ⟨l.toArray⟩) ∧ Fr (fun k => k = g) w w' := by
  have c1 : w.drew.cell? ⟨b, 1, none⟩ = some (.slice (some ⟨g, 0, none⟩) l.length cap) := by
    have : w.drew.heap[b]? = some (.cells #[p, .slice (some ⟨g, 0, none⟩) l.length cap] 149 (0, 0)) := hbk
    simp [World.cell?, this]
  have hSD : (Builtin.unsafeSliceData_ #[147] 191 #[.slice (some ⟨g, 0, none⟩) l.length cap]).run Tryz.prog w.drew = .ok (.pointer (some ⟨g, 0, none⟩)) w.drew :=
    Lib.run_unsafeSliceData_row _ _ _ _ _ _ hcap
  have hg' : w.drew.heap[g]? = some (.cells cur 5 (0, 0)) := hg
  have hUS : (Builtin.unsafeString_ #[191, 3] 9 #[.pointer (some ⟨g, 0, none⟩), .int .i64 l.length]).run Tryz.prog w.drew = .ok (.string ⟨l.toArray⟩) (w.drew.freeze ⟨g, 0, none⟩ l.length) := by
    refine Lib.run_unsafeString_row w.drew 191 3 9 5 Tryz.underlying191 cellByte g cur.size (by simp [World.shape?, hg']) l h0 hn h63 ?_
    intro j x hx
    have hj := hc j x hx
    rw [add_off, Nat.zero_add]
    simp only [World.cell?, hg']
    exact hj
  go_enter Tryz.func93, Tryz.ntmps93
  go_wp2
  go_region
  all_goals (go_wp2; go_ret; exact ⟨rfl, (Fr.refl _ w).drew.trans (fr_freeze _ _ _)⟩)
theorem str_none (b : Nat) (p : Value) (w : World) (hbk : w.heap[b]? = some (.cells #[p, .slice none 0 0] 149 (0, 0))) :
    Calls Tryz.prog 93 #[.pointer (some ⟨b, 0, none⟩)] w fun e w' => e = .returned (.string ⟨#[]⟩) ∧ Fr (fun _ => False) w w' := by
  have c1 : w.drew.cell? ⟨b, 1, none⟩ = some (.slice none 0 0) := by
    have : w.drew.heap[b]? = some (.cells #[p, .slice none 0 0] 149 (0, 0)) := hbk
    simp [World.cell?, this]
  have hSD : (Builtin.unsafeSliceData_ #[147] 191 #[.slice none 0 0]).run Tryz.prog w.drew = .ok (.pointer none) w.drew := rfl
  have hUS : ∀ (W : World) (q : Option Addr), (Builtin.unsafeString_ #[191, 3] 9 #[.pointer q, .int .i64 0]).run Tryz.prog W = .ok (.string .empty) W := fun W q => Lib.run_unsafeString_none W _ _ _ q
  go_enter Tryz.func93, Tryz.ntmps93
  go_wp2
  go_region
  all_goals (go_wp2; go_ret; exact ⟨rfl, (Fr.refl _ w).drew⟩)
end Go.Proofs.YtjfmigpahglajaaGreatDoor
set_option linter.unusedSimpArgs false
set_option linter.unusedVariables false
set_option maxRecDepth 100000
set_option maxHeartbeats 2000000
namespace Go.Proofs.YtjfmigpahglajaaGreatDoor
open Go
def bldC (f : Bool) (q v r u n : Nat) : Nat → AV := fun j => if j = 0 then (if f = true then .pt q v 0 else .val (.pointer none)) else .ow r u n
def sCheck : MSpec := fun args hp top nx K => ∃ (f : Bool) (q v r u n : Nat), args = [.pt q v 0] ∧ hp q = .box v 149 2 (bldC f q v r u n) ∧ K (.val (.tuple #[])) (updR hp q (.box v 149 2 (bldC true q v r u n))) top nx
theorem fr_setCell (w : World) (g o : Nat) (x : Value) : Fr (fun b => b = g) w (w.setCell ⟨g, o, none⟩ x) :=
  ⟨rfl, rfl, rfl, by simp [World.setCell], fun k _ hk => by simp [World.setCell, Array.getElem?_modify, Ne.symm hk]⟩
theorem okCheck : MethOK Tryz.prog 135 sCheck := by
  refine ⟨enters Tryz.func135 rfl (by decide), ?_⟩
  rintro args hp top nx K ⟨f, q, v, r, u, n, rfl, hrow, hK⟩ c η w vs hs hdead hargs
  cases hargs with
  | cons hx hr => cases hr with
    | nil =>
      obtain ⟨g, cap, hη, rfl⟩ := hx
      have hr := hs.rows q
      rw [hrow] at hr
      obtain ⟨b, cur, hb, hh, hsz, hc⟩ := hr _ _ hη
      obtain rfl : g = b := by simpa using hb
      obtain ⟨x0, hx0, ho0, hr0⟩ := hc 0 (by decide)
      have hblk : (hp q).blk η = some g := by rw [hrow]; simp [Row.blk, Row.ver, hη]
      have hcell : w.cell? ⟨g, 0, none⟩ = some x0 := by rw [cell_heap hh]; exact hx0
      cases f with
      | true =>
        have hr0 : ∃ g' cap', η v = some (some g', cap') ∧ x0 = .pointer (some ⟨g', 0, none⟩) := hr0
        obtain ⟨g', cap', h1, rfl⟩ := hr0
        rw [hη] at h1
        simp only [Option.some.injEq, Prod.mk.injEq] at h1
        obtain ⟨rfl, rfl⟩ := h1
        refine (check_used g w hcell).mono ?_
        rintro e w' ⟨rfl, rfl⟩
        have e : updR hp q (.box v 149 2 (bldC true q v r u n)) = hp := by
          rw [← hrow]
          funext p
          unfold updR
          split
          · rename_i h; rw [h]
          · rfl
        rw [e] at hK
        exact ⟨_, _, _, _, _, η, rfl, hK, hs, hdead, rfl⟩
      | false =>
        have hr0 : x0 = .pointer none := hr0
        subst hr0
        refine (check_fresh g w hcell (by simp [World.shape?, hh, hsz]) (by simp [World.frozen?, hh])).mono ?_
        rintro e w' ⟨rfl, rfl⟩
        have hf := fr_setCell w g 0 (.pointer (some ⟨g, 0, none⟩))
        have hO : ∀ k, k < w.heap.size → k = g → Lset c η hp k := fun k _ e => .inr ⟨q, by rw [e]; exact hblk⟩
        have hwr := hs.write (row := .box v 149 2 (bldC true q v r u n)) hblk (by rw [hrow]; rfl) hf (by
          intro g' cap' he
          rw [hη] at he
          simp only [Option.some.injEq, Prod.mk.injEq] at he
          obtain ⟨rfl, rfl⟩ := he
          refine ⟨g, cur.setIfInBounds 0 (.pointer (some ⟨g, 0, none⟩)), rfl, by simp [World.setCell, Array.getElem?_modify, hh], by simp [hsz], fun j hj => ?_⟩
          match j, hj with
          | 0, _ => exact ⟨_, by simp [hsz], rfl, g, cap, hη, rfl⟩
          | 1, _ =>
            obtain ⟨x1, hx1, ho1, hr1⟩ := hc 1 (by decide)
            exact ⟨x1, by rw [Array.getElem?_setIfInBounds_ne (by decide)]; exact hx1, ho1, Rep.keep hf hO (fun _ _ h => h) _ _ _ _ (Env.le_refl _) hr1⟩)
        refine ⟨_, _, _, _, _, η, rfl, hK, hwr.1, fun p hp' => ?_, rfl⟩
        by_cases e : p = q
        · subst e; rw [hdead p hp'] at hrow; cases hrow
        · rw [updR_ne _ _ e]; exact hdead p hp'
attribute [local irreducible] AW AVle ASle RowLe
def rowB (u : Nat) (l : List UInt8) : Row := .sl u 5 1 l.length (byteC l)
theorem rowB_app {nx n m : Nat} {l s : List UInt8} (hn : n = l.length) (hm : m = n + s.length) : RowLe (.sl nx 5 1 m (apC n (byteC l) (byteC s))) (rowB nx (l ++ s)) := by
  subst hn hm
  refine RowLe.sl (by simp) fun i hi j hj => AVle.of_eq ?_
  unfold apC byteC
  by_cases h : i < l.length
  · rw [if_pos h]
    simp [List.getD, List.getElem?_append_left h]
  · rw [if_neg h]
    simp [List.getD, List.getElem?_append_right (Nat.le_of_not_lt h)]
theorem bldC1 (f : Bool) (q v r u n : Nat) : bldC f q v r u n 1 = .ow r u n := rfl
def sWriteS0 : MSpec := fun args hp top nx K => ∃ (f : Bool) (v u : Nat) (l s : List UInt8), args = [.pt 0 v 0, .st s] ∧ hp = rws [(0, .box v 149 2 (bldC f 0 v 1 u l.length)), (1, rowB u l)] ∧ top = 2 ∧ l.length + s.length ≤ 100000000000 ∧
  ∀ u' nx', (u' = u ∨ nx ≤ u') → nx ≤ nx' → K (tu2 (.val (.int .i64 s.length)) (.val .nilIface)) (rws [(0, .box v 149 2 (bldC true 0 v 1 u' (l ++ s).length)), (1, rowB u' (l ++ s))]) 2 nx'
theorem okWriteS0 : MethOK Tryz.prog 92 sWriteS0 := by
  refine MethOK.mk Tryz.func92 rfl (by decide) Tryz.results92 Tryz.ntmps92 ?_
  rintro args hp top nx K ⟨f, v, u, l, s, rfl, rfl, rfl, hl, hK⟩
  have hΓ : GOK Tryz.prog (gam [(135, sCheck)]) := (.cons okCheck .nil)
  refine ⟨Nat.le_of_ble_eq_true rfl, AW.late ?_⟩
  refine AW.of hΓ mixed [1] _ _ _ rfl ?_
  simp only [go_sem, sCheck]
  refine ⟨f, 0, v, 1, u, l.length, rfl, rfl, ?_⟩
  refine AW.cut ⟨[(0, .pt 0 v 0), (1, .st s)], [(0, .box v 149 2 (bldC true 0 v 1 u l.length)), (1, rowB u l)], 19, 2, nx, []⟩ ?_ ?_
  · simp only [go_sem, sCheck]
    exact ⟨RowLe.refl _, RowLe.refl _⟩
  refine AW.fork (AW.regionO hΓ [false, false, false, false, false, false, true] ?_)
  simp only [go_sem, sCheck, bldC1]
  refine appS_wp rfl Tryz.underlying147 Tryz.underlying9 rfl rfl rfl (Nat.lt_of_lt_of_le (by decide : 14 < 19) (Nat.le_refl _)) ⟨cells5, by decide, by rw [bytes5]; decide, by rw [bytes5]; omega, _, zero5, rfl⟩ ?_
  simp only [go_sem, sCheck, bldC1]
  refine AW.of hΓ mixed [] _ _ _ rfl ?_
  simp only [go_sem, sCheck]
  refine ⟨_, toFitsV (fun p => p) (l := [(4, .val (.int .i64 s.length)), (5, .val .nilIface)]) (r := [(0, .box v 149 2 (bldC true 0 v 1 nx (l ++ s).length)), (1, rowB nx (l ++ s))]) (sz := 19) (top := 2) (nx := nx + 1) (df := []) ?_, ?_⟩
  · simp only [go_sem, sCheck]
    refine ⟨AVle.refl _, RowLe.box fun j hj => ?_, rowB_app rfl rfl⟩
    match j, hj with
    | 0, _ => exact AVle.refl _
    | 1, _ => exact AVle.refl _
  · simp only [go_sem, sCheck]
    have := hK nx (nx + 1) (.inr (Nat.le_refl _)) (by omega)
    rwa [List.length_append] at this
def sWriteS : MSpec := framed sWriteS0
theorem okWriteS : MethOK Tryz.prog 92 sWriteS := okWriteS0.frame
theorem rows_2 {hp : Nat → Row} {p q : Nat} {r s : Row} (h : RowLe (hp p) r) (h2 : RowLe (hp q) s) : ∀ (i o : Nat), [p, q][i]? = some o → RowLe (hp o) (rws [(0, r), (1, s)] i) := by
  intro i o hq
  match i with
  | 0 =>
    simp only [List.getElem?_cons_zero, Option.some.injEq] at hq
    subst hq
    exact h
  | 1 =>
    simp only [List.getElem?_cons_succ, List.getElem?_cons_zero, Option.some.injEq] at hq
    subst hq
    exact h2
  | i + 2 => simp at hq
theorem bld_le (f : Bool) (p q p' q' v u n : Nat) : RowLe (.box v 149 2 (bldC f p v q u n)) (.box v 149 2 (bldC f p' v q' u n)) := RowLe.box fun j hj => by
  match j, hj with
  | 0, _ =>
    cases f with
    | true => exact AVle.pt
    | false => exact AVle.refl _
  | 1, _ => exact AVle.ow
theorem write_go {f : Bool} {p q v u n : Nat} {l s : List UInt8} {hp : Nat → Row} {top nx : Nat} {K : AV → (Nat → Row) → Nat → Nat → Prop} (hn : n = l.length) (hpq : p ≠ q)
    (hr : RowLe (hp p) (.box v 149 2 (bldC f p v q u n))) (hr2 : RowLe (hp q) (rowB u l)) (ht : p < top ∧ q < top) (hl : l.length + s.length ≤ 100000000000)
    (hK : ∀ u' nx', (u' = u ∨ nx ≤ u') → nx ≤ nx' → K (tu2 (.val (.int .i64 s.length)) (.val .nilIface)) (updR (updR hp p (.box v 149 2 (bldC true p v q u' (l ++ s).length))) q (rowB u' (l ++ s))) top nx') :
    sWriteS [.pt p v 0, .st s] hp top nx K := by
  subst hn
  have e1 : (hp p).ver = some v := hr.vers.symm
  have e2 : (hp q).ver = some u := hr2.vers.symm
  refine ⟨[p, q], [.pt 0 v 0, .st s], rws [(0, .box v 149 2 (bldC f 0 v 1 u l.length)), (1, rowB u l)], by simp [hpq], by simp; omega, .cons AVle.pt (.cons (AVle.refl _) .nil), rows_2 (hr.trans (bld_le f p q 0 1 v u _)) hr2, fun i hi => rws_top (top := 2) (by simp) i (by simpa using hi), f, v, u, l, s, rfl, rfl, rfl, hl, fun u' nx' h1 h3 => ?_⟩
  refine ⟨_, _, AVle.refl _, fun i o ho => ?_, fun o ho => ?_, fun o ho w hv => ?_, hK u' nx' h1 h3⟩
  · match i with
    | 0 =>
      simp only [List.getElem?_cons_zero, Option.some.injEq] at ho
      subst ho
      rw [updR_ne _ _ hpq, updR_at]
      exact bld_le true 0 1 p q v u' _
    | 1 =>
      simp only [List.getElem?_cons_succ, List.getElem?_cons_zero, Option.some.injEq] at ho
      subst ho
      rw [updR_at]
      exact RowLe.refl _
    | i + 2 => simp at ho
  · simp only [List.mem_cons, List.not_mem_nil, or_false, not_or] at ho
    rw [updR_ne _ _ ho.2, updR_ne _ _ ho.1]
  · simp only [List.mem_cons, List.not_mem_nil, or_false] at ho
    rcases ho with rfl | rfl
    · rw [updR_ne _ _ hpq, updR_at] at hv
      have : some v = some w := hv
      obtain rfl := Option.some.inj this
      exact .inl e1
    · rw [updR_at] at hv
      have : some u' = some w := hv
      obtain rfl := Option.some.inj this
      rcases h1 with rfl | h1
      · exact .inl e2
      · exact .inr h1
theorem bld_len {f : Bool} {p v q u n m : Nat} (h : n = m) : RowLe (.box v 149 2 (bldC f p v q u n)) (.box v 149 2 (bldC f p v q u m)) := by
  subst h
  exact RowLe.refl _
theorem rowB_eq {u : Nat} {l m : List UInt8} (h : l = m) : RowLe (rowB u l) (rowB u m) := by
  subst h
  exact RowLe.refl _
def bld0 : Nat → AV := fun j => if j = 0 then .val (.pointer none) else .val (.slice none 0 0)
def sStr : MSpec := fun args hp top nx K => (∃ (f : Bool) (p v q u : Nat) (l : List UInt8), args = [.pt p v 0] ∧ hp p = .box v 149 2 (bldC f p v q u l.length) ∧ hp q = rowB u l ∧ l ≠ [] ∧ l.length ≤ 100000000000 ∧ K (.st l) (updR hp q .dead) top nx) ∨
  ∃ (p v : Nat), args = [.pt p v 0] ∧ hp p = .box v 149 2 bld0 ∧ K (.st []) hp top nx
theorem okStr : MethOK Tryz.prog 93 sStr := by
  refine ⟨enters Tryz.func93 rfl (by decide), ?_⟩
  intro args hp top nx K hS c η w vs hs hdead hargs
  rcases hS with ⟨f, p, v, q, u, l, rfl, hrow, hrow2, h0, hlen, hK⟩ | ⟨p, v, rfl, hrow, hK⟩
  · cases hargs with
    | cons hx hr => cases hr with
      | nil =>
        obtain ⟨b, cap, hη, rfl⟩ := hx
        have hr := hs.rows p
        rw [hrow] at hr
        obtain ⟨b', cur, hb, hh, hsz, hc⟩ := hr _ _ hη
        obtain rfl : b = b' := by simpa using hb
        obtain ⟨x0, hx0, _, _⟩ := hc 0 (by decide)
        obtain ⟨x1, hx1, _, hr1⟩ := hc 1 (by decide)
        obtain ⟨g, cap', hη', hv⟩ := hr1
        have hr2 := hs.rows q
        rw [hrow2] at hr2
        have hr2 := hr2 g cap' hη'
        have hpos : 0 < l.length := List.length_pos_iff.2 h0
        cases g with
        | none => exact absurd hv.1 (by omega)
        | some g =>
          obtain ⟨rfl, hcap⟩ := hv
          obtain ⟨cur2, hh2, hsz2, hn2, hm2, hc2⟩ := hr2
          have hcur : cur = #[x0, .slice (some ⟨g, 0, none⟩) l.length cap'] := by
            apply Array.ext
            · simp [hsz]
            · intro i h1 h2
              match i, h2 with
              | 0, _ => rw [Array.getElem?_eq_getElem h1] at hx0; exact Option.some.inj hx0
              | 1, _ => rw [Array.getElem?_eq_getElem h1] at hx1; exact Option.some.inj hx1
          have hblk : (hp q).blk η = some g := by rw [hrow2]; simp [rowB, Row.blk, Row.ver, hη']
          refine (str_some b g cap' x0 cur2 l w (by rw [hh, hcur]) hh2 h0 (by omega) (by omega) (by omega) fun j x hj => ?_).mono ?_
          · obtain ⟨hjl, rfl⟩ := List.getElem?_eq_some_iff.1 hj
            obtain ⟨y, hy, _, hry⟩ := hc2 j hjl 0 (by decide)
            have hry : y = .int .u8 (l.getD j 0).toNat := hry
            rw [Nat.mul_one, Nat.add_zero] at hy
            rw [hy, hry]
            simp [List.getD, hjl]
          · rintro e w' ⟨rfl, hf⟩
            obtain ⟨hs', _⟩ := hs.sink hblk hf
            refine ⟨_, _, _, _, _, η, rfl, hK, hs', fun o ho => ?_, rfl⟩
            by_cases e : o = q
            · subst e; rw [updR_at]
            · rw [updR_ne _ _ e]; exact hdead o ho
  · cases hargs with
    | cons hx hr => cases hr with
      | nil =>
        obtain ⟨b, cap, hη, rfl⟩ := hx
        have hr := hs.rows p
        rw [hrow] at hr
        obtain ⟨b', cur, hb, hh, hsz, hc⟩ := hr _ _ hη
        obtain rfl : b = b' := by simpa using hb
        obtain ⟨x0, hx0, _, _⟩ := hc 0 (by decide)
        obtain ⟨x1, hx1, _, hr1⟩ := hc 1 (by decide)
        have hr1 : x1 = .slice none 0 0 := hr1
        subst hr1
        have hcur : cur = #[x0, .slice none 0 0] := by
          apply Array.ext
          · simp [hsz]
          · intro i h1 h2
            match i, h2 with
            | 0, _ => rw [Array.getElem?_eq_getElem h1] at hx0; exact Option.some.inj hx0
            | 1, _ => rw [Array.getElem?_eq_getElem h1] at hx1; exact Option.some.inj hx1
        refine (str_none b x0 w (by rw [hh, hcur])).mono ?_
        rintro e w' ⟨rfl, hf⟩
        exact ⟨_, _, _, _, _, η, rfl, hK, hs.world hf, hdead, rfl⟩
end Go.Proofs.YtjfmigpahglajaaGreatDoor
set_option linter.unusedSimpArgs false
set_option linter.unusedVariables false
set_option maxRecDepth 100000
set_option maxHeartbeats 2000000
namespace Go.Proofs.YtjfmigpahglajaaGreatDoor
open Go
attribute [local irreducible] AW AVle ASle RowLe
theorem All2.same : ∀ (xs : List AV), All2 AVle xs xs
  | [] => .nil
  | x :: xs => .cons (AVle.refl x) (All2.same xs)
def sBld (dom : List AV → List UInt8 → AV → Prop) : MSpec := fun args hp top nx K => ∃ (f : Bool) (v u : Nat) (l : List UInt8) (xs : List AV) (a : List UInt8) (r : AV), args = .pt 0 v 0 :: xs ∧ dom xs a r ∧
  hp = rws [(0, .box v 149 2 (bldC f 0 v 1 u l.length)), (1, rowB u l)] ∧ top = 2 ∧ l.length + a.length ≤ 100000000000 ∧
  ∀ u' nx', (u' = u ∨ nx ≤ u') → nx ≤ nx' → K r (rws [(0, .box v 149 2 (bldC true 0 v 1 u' (l ++ a).length)), (1, rowB u' (l ++ a))]) 2 nx'
theorem bld_go {dom : List AV → List UInt8 → AV → Prop} {xs : List AV} {a : List UInt8} {z : AV} {f : Bool} {p q v u n : Nat} {l : List UInt8} {hp : Nat → Row} {top nx : Nat} {K : AV → (Nat → Row) → Nat → Nat → Prop} (hd : dom xs a z) (hn : n = l.length) (hpq : p ≠ q)
    (hr : RowLe (hp p) (.box v 149 2 (bldC f p v q u n))) (hr2 : RowLe (hp q) (rowB u l)) (ht : p < top ∧ q < top) (hl : l.length + a.length ≤ 100000000000)
    (hK : ∀ u' nx', (u' = u ∨ nx ≤ u') → nx ≤ nx' → K z (updR (updR hp p (.box v 149 2 (bldC true p v q u' (l ++ a).length))) q (rowB u' (l ++ a))) top nx') :
    framed (sBld dom) (.pt p v 0 :: xs) hp top nx K := by
  subst hn
  have e1 : (hp p).ver = some v := hr.vers.symm
  have e2 : (hp q).ver = some u := hr2.vers.symm
  refine ⟨[p, q], .pt 0 v 0 :: xs, rws [(0, .box v 149 2 (bldC f 0 v 1 u l.length)), (1, rowB u l)], by simp [hpq], by simp; omega, .cons AVle.pt (All2.same xs), rows_2 (hr.trans (bld_le f p q 0 1 v u _)) hr2, fun i hi => rws_top (top := 2) (by simp) i (by simpa using hi), f, v, u, l, xs, a, z, rfl, hd, rfl, rfl, hl, fun u' nx' h1 h3 => ?_⟩
  refine ⟨_, _, AVle.refl _, fun i o ho => ?_, fun o ho => ?_, fun o ho w hv => ?_, hK u' nx' h1 h3⟩
  · match i with
    | 0 =>
      simp only [List.getElem?_cons_zero, Option.some.injEq] at ho
      subst ho
      rw [updR_ne _ _ hpq, updR_at]
      exact bld_le true 0 1 p q v u' _
    | 1 =>
      simp only [List.getElem?_cons_succ, List.getElem?_cons_zero, Option.some.injEq] at ho
      subst ho
      rw [updR_at]
      exact RowLe.refl _
    | i + 2 => simp at ho
  · simp only [List.mem_cons, List.not_mem_nil, or_false, not_or] at ho
    rw [updR_ne _ _ ho.2, updR_ne _ _ ho.1]
  · simp only [List.mem_cons, List.not_mem_nil, or_false] at ho
    rcases ho with rfl | rfl
    · rw [updR_ne _ _ hpq, updR_at] at hv
      have : some v = some w := hv
      obtain rfl := Option.some.inj this
      exact .inl e1
    · rw [updR_at] at hv
      have : some u' = some w := hv
      obtain rfl := Option.some.inj this
      rcases h1 with rfl | h1
      · exact .inl e2
      · exact .inr h1
end Go.Proofs.YtjfmigpahglajaaGreatDoor
set_option linter.unusedSimpArgs false
set_option linter.unusedVariables false
set_option maxRecDepth 100000
set_option maxHeartbeats 2000000
namespace Go.Proofs.YtjfmigpahglajaaGreatDoor
open Go
attribute [local irreducible] AW AVle ASle RowLe
def lackM (s : BS) : Bool := decide (s ≠ []) && !endsL s
def sideM (s : BS) : BS := if lackM s = true then s ++ [10] else s
theorem sideM_len (s : BS) : (sideM s).length ≤ s.length + 1 := by
  unfold sideM
  split
  · simp
  · omega
theorem sideM_ge (s : BS) : s.length ≤ (sideM s).length := by
  unfold sideM
  split
  · simp
  · omega
def sPrSide0 : MSpec := sBld fun xs a r => ∃ s : BS, xs = [.st s] ∧ a = sideM s ∧ r = kB.enc (lackM s) ∧ s.length ≤ 1000000000
theorem okPrSide0 : MethOK Tryz.prog 134 sPrSide0 := by
  refine MethOK.mk Tryz.func134 rfl (by decide) Tryz.results134 Tryz.ntmps134 ?_
  rintro args hp top nx K ⟨f, v, u, l, xs, a, r, rfl, ⟨s, rfl, rfl, rfl, hs⟩, rfl, rfl, hl, hK⟩
  have hΓ : GOK Tryz.prog (gam [(92, sWriteS), (117, sHasSuf)]) := (.cons okWriteS (.cons okHasSuf .nil))
  refine ⟨Nat.le_of_ble_eq_true rfl, AW.late ?_⟩
  have hge := sideM_ge s
  refine AW.of hΓ mixed [99999] _ _ _ rfl ?_
  simp only [go_sem, sWriteS, sHasSuf]
  refine write_go rfl (by decide) (RowLe.refl _) (RowLe.refl _) (by decide) (by omega) fun u1 n1 g1 h1 => ?_
  simp only [go_sem, sWriteS, sHasSuf]
  have hlk : (decide ¬s = [] && !endsL s) = lackM s := rfl
  refine ⟨fun _ => by omega, fun hc => ?_, fun hc => ?_⟩
  · have hk : lackM s = true := by
      rw [← hlk, decide_eq_true hc.1, hc.2]
      rfl
    have ha : sideM s = s ++ [10] := if_pos hk
    rw [hk] at hK
    rw [ha] at hl hK
    rw [List.length_append] at hl
    simp only [len_cons, len_nil] at hl
    refine write_go (by simp [Nat.add_assoc]) (by decide) (RowLe.refl _) (RowLe.refl _) (by decide) (by simp; omega) fun u2 n2 g2 h2 => ?_
    simp only [go_sem, sWriteS, sHasSuf]
    refine ⟨_, toFitsV (fun p => p) (l := [(4, .val (.bool true))]) (r := [(0, .box v 149 2 (bldC true 0 v 1 u2 (l ++ (s ++ [10])).length)), (1, rowB u2 (l ++ (s ++ [10])))]) (sz := 20) (top := 2) (nx := n2) (df := []) ?_, ?_⟩
    · simp only [go_sem, sWriteS, sHasSuf, hc.1, hc.2]
      exact ⟨bld_len (by omega), rowB_eq (by simp)⟩
    · simp only [go_sem, sWriteS, sHasSuf]
      have := hK u2 n2 (by omega) (by omega)
      simp only [List.length_append, len_cons, len_nil] at this
      exact this
  · have hk : lackM s = false := by
      rw [← hlk]
      by_cases h0 : s = []
      · rw [decide_eq_false (by simpa using h0), Bool.false_and]
      · rw [hc h0, Bool.and_false]
    have ha : sideM s = s := if_neg (by rw [hk]; simp)
    rw [hk] at hK
    rw [ha] at hl hK
    rw [hlk, hk]
    refine ⟨_, toFitsV (fun p => p) (l := [(4, .val (.bool false))]) (r := [(0, .box v 149 2 (bldC true 0 v 1 u1 (l ++ s).length)), (1, rowB u1 (l ++ s))]) (sz := 20) (top := 2) (nx := n1) (df := []) ?_, ?_⟩
    · simp only [go_sem, sWriteS, sHasSuf]
      exact ⟨RowLe.refl _, RowLe.refl _⟩
    · simp only [go_sem, sWriteS, sHasSuf]
      have := hK u1 n1 (by omega) (by omega)
      simp only [List.length_append, len_cons, len_nil] at this
      exact this
def sPrSide : MSpec := framed sPrSide0
theorem okPrSide : MethOK Tryz.prog 134 sPrSide := okPrSide0.frame
def printP (w : Int) (p : Pt) : BS :=
  if hkP p = true then
    lineM (60, false, p.1) w ++ (sideM p.2.2.2.2.2.1 ++ (if p.2.2.2.2.2.2.2.2 = true then
        lineM (124, lackM p.2.2.2.2.2.1, p.2.1) w ++ (sideM p.2.2.2.2.2.2.1 ++ (lineM (61, lackM p.2.2.2.2.2.2.1, []) w ++ (sideM p.2.2.2.2.2.2.2.1 ++ lineM (62, lackM p.2.2.2.2.2.2.2.1, p.2.2.1) w)))
      else lineM (61, lackM p.2.2.2.2.2.1, []) w ++ (sideM p.2.2.2.2.2.2.2.1 ++ lineM (62, lackM p.2.2.2.2.2.2.2.1, p.2.2.1) w)))
  else txP p
def sPrConf0 : MSpec := sBld fun xs a r => ∃ (p : Pt) (w : Int), xs = [(kA ePt).enc p, .val (.int .i64 w)] ∧ a = printP w p ∧ r = .val (.tuple #[]) ∧ hkP p = true ∧ okPt p ∧ 0 ≤ w ∧ w ≤ 10000000000
theorem okPrConf0 : MethOK Tryz.prog 91 sPrConf0 := by
  refine MethOK.mk Tryz.func91 rfl (by decide) Tryz.results91 Tryz.ntmps91 ?_
  rintro args hp top nx K ⟨f, v, u, l, xs, a, r, rfl, ⟨p, w, rfl, rfl, rfl, hh, hp, hw1, hw2⟩, rfl, rfl, hl, hK⟩
  have hΓ : GOK Tryz.prog (gam [(92, sWriteS), (134, sPrSide), (133, sLineI)]) := (.cons okWriteS (.cons okPrSide (.cons okLineI .nil)))
  refine ⟨Nat.le_of_ble_eq_true rfl, AW.late ?_⟩
  obtain ⟨ll, bl, rl, h, t, lf, b, r, hb⟩ := p
  obtain ⟨⟨p1, p2, p3⟩, p4, p5, p6, p7⟩ := hp
  simp only [txP] at p1 p2 p3 p4 p5 p6 p7
  unfold printP at hl hK
  rw [if_pos hh] at hl hK
  simp only at hl hK
  generalize ha1 : lineM (60, false, ll) w = a1 at *
  generalize ha2 : sideM lf = a2 at *
  generalize ha3 : lineM (124, lackM lf, bl) w = a3 at *
  generalize ha4 : sideM b = a4 at *
  generalize ha6 : sideM r = a6 at *
  generalize ha7 : lineM (62, lackM r, rl) w = a7 at *
  refine AW.of hΓ mixed [0] _ _ _ rfl ?_
  simp only [go_sem, sWriteS, sPrSide, sLineI]
  refine AW.cut ⟨[(0, .pt 0 v 0), (2, .val (.int .i64 w)), (4, .pt 2 nx 0)], [(0, .box v 149 2 (bldC f 0 v 1 u l.length)), (1, rowB u l), (2, .box nx 112 9 (ePt.enc (ll, bl, rl, h, t, lf, b, r, hb)))], 53, 3, nx + 1, []⟩ ?_ ?_
  · simp only [go_sem, sWriteS, sPrSide, sLineI]
    exact ⟨RowLe.refl _, RowLe.refl _, RowLe.refl _⟩
  refine AW.still 4 2 nx 112 9 _ rfl rfl (fun j hj => match j, hj with | 0, _ => rfl | 1, _ => rfl | 2, _ => rfl | 3, _ => rfl | 4, _ => rfl | 5, _ => rfl | 6, _ => rfl | 7, _ => rfl | 8, _ => rfl) ?_
  refine AW.of hΓ mixed [99999] _ _ _ rfl ?_
  simp only [go_sem, sWriteS, sPrSide, sLineI, ha1]
  cases hb with
  | true =>
    simp only [if_true] at hl hK
    generalize ha5 : lineM (61, lackM b, []) w = a5 at *
    rw [show a1 ++ (a2 ++ (a3 ++ (a4 ++ (a5 ++ (a6 ++ a7))))) = a1 ++ a2 ++ a3 ++ a4 ++ a5 ++ a6 ++ a7 by simp only [List.append_assoc]] at hl hK
    have hl : l.length + a1.length + a2.length + a3.length + a4.length + a5.length + a6.length + a7.length ≤ 100000000000 := by
      simp only [List.length_append] at hl
      omega
    refine ⟨⟨.inl rfl, hw1, hw2, by omega⟩, write_go rfl (by decide) (RowLe.refl _) (RowLe.refl _) (by decide) (by omega) fun u1 n1 g1 h1 => ?_⟩
    simp only [go_sem, sWriteS, sPrSide, sLineI]
    refine bld_go ⟨lf, rfl, ha2.symm, rfl, by omega⟩ (by simp [Nat.add_assoc]) (by decide) (RowLe.refl _) (RowLe.refl _) (by decide) (by simp; omega) fun u2 n2 g2 h2 => ?_
    simp only [go_sem, sWriteS, sPrSide, sLineI]
    rw [ha3]
    refine ⟨⟨.inr (.inl rfl), hw1, hw2, by omega⟩, write_go (by simp [Nat.add_assoc]) (by decide) (RowLe.refl _) (RowLe.refl _) (by decide) (by simp; omega) fun u3 n3 g3 h3 => ?_⟩
    simp only [go_sem, sWriteS, sPrSide, sLineI]
    refine bld_go ⟨b, rfl, ha4.symm, rfl, by omega⟩ (by simp [Nat.add_assoc]) (by decide) (RowLe.refl _) (RowLe.refl _) (by decide) (by simp; omega) fun u4 n4 g4 h4 => ?_
    simp only [go_sem, sWriteS, sPrSide, sLineI, ha5]
    refine ⟨⟨.inr (.inr (.inl rfl)), hw1, hw2⟩, write_go (by simp [Nat.add_assoc]) (by decide) (RowLe.refl _) (RowLe.refl _) (by decide) (by simp; omega) fun u5 n5 g5 h5 => ?_⟩
    simp only [go_sem, sWriteS, sPrSide, sLineI]
    refine bld_go ⟨r, rfl, ha6.symm, rfl, by omega⟩ (by simp [Nat.add_assoc]) (by decide) (RowLe.refl _) (RowLe.refl _) (by decide) (by simp; omega) fun u6 n6 g6 h6 => ?_
    simp only [go_sem, sWriteS, sPrSide, sLineI, ha7]
    refine ⟨⟨.inr (.inr (.inr rfl)), hw1, hw2, by omega⟩, write_go (by simp [Nat.add_assoc]) (by decide) (RowLe.refl _) (RowLe.refl _) (by decide) (by simp; omega) fun u7 n7 g7 h7 => ?_⟩
    simp only [go_sem, sWriteS, sPrSide, sLineI]
    refine ⟨_, toFitsV (fun p => p) (l := []) (r := [(0, .box v 149 2 (bldC true 0 v 1 u7 (l ++ (a1 ++ a2 ++ a3 ++ a4 ++ a5 ++ a6 ++ a7)).length)), (1, rowB u7 (l ++ (a1 ++ a2 ++ a3 ++ a4 ++ a5 ++ a6 ++ a7)))]) (sz := 53) (top := 2) (nx := n7) (df := []) ?_, ?_⟩
    · simp only [go_sem, sWriteS, sPrSide, sLineI]
      exact ⟨bld_len (by simp [Nat.add_assoc]), rowB_eq (by simp)⟩
    · simp only [go_sem, sWriteS, sPrSide, sLineI]
      have := hK u7 n7 (by omega) (by omega)
      simp only [List.length_append, len_cons, len_nil] at this
      exact this
  | false =>
    have e0 : (if false = true then a3 ++ (a4 ++ (lineM (61, lackM b, []) w ++ (a6 ++ a7))) else lineM (61, lackM lf, []) w ++ (a6 ++ a7)) = lineM (61, lackM lf, []) w ++ (a6 ++ a7) := if_neg (by simp)
    rw [e0] at hl hK
    generalize ha5 : lineM (61, lackM lf, []) w = a5 at *
    rw [show a1 ++ (a2 ++ (a5 ++ (a6 ++ a7))) = a1 ++ a2 ++ a5 ++ a6 ++ a7 by simp only [List.append_assoc]] at hl hK
    have hl : l.length + a1.length + a2.length + a5.length + a6.length + a7.length ≤ 100000000000 := by
      simp only [List.length_append] at hl
      omega
    refine ⟨⟨.inl rfl, hw1, hw2, by omega⟩, write_go rfl (by decide) (RowLe.refl _) (RowLe.refl _) (by decide) (by omega) fun u1 n1 g1 h1 => ?_⟩
    simp only [go_sem, sWriteS, sPrSide, sLineI]
    refine bld_go ⟨lf, rfl, ha2.symm, rfl, by omega⟩ (by simp) (by decide) (RowLe.refl _) (RowLe.refl _) (by decide) (by simp; omega) fun u2 n2 g2 h2 => ?_
    simp only [go_sem, sWriteS, sPrSide, sLineI, ha5]
    refine ⟨⟨.inr (.inr (.inl rfl)), hw1, hw2⟩, write_go (by simp [Nat.add_assoc]) (by decide) (RowLe.refl _) (RowLe.refl _) (by decide) (by simp; omega) fun u5 n5 g5 h5 => ?_⟩
    simp only [go_sem, sWriteS, sPrSide, sLineI]
    refine bld_go ⟨r, rfl, ha6.symm, rfl, by omega⟩ (by simp [Nat.add_assoc]) (by decide) (RowLe.refl _) (RowLe.refl _) (by decide) (by simp; omega) fun u6 n6 g6 h6 => ?_
    simp only [go_sem, sWriteS, sPrSide, sLineI, ha7]
    refine ⟨⟨.inr (.inr (.inr rfl)), hw1, hw2, by omega⟩, write_go (by simp [Nat.add_assoc]) (by decide) (RowLe.refl _) (RowLe.refl _) (by decide) (by simp; omega) fun u7 n7 g7 h7 => ?_⟩
    simp only [go_sem, sWriteS, sPrSide, sLineI]
    refine ⟨_, toFitsV (fun p => p) (l := []) (r := [(0, .box v 149 2 (bldC true 0 v 1 u7 (l ++ (a1 ++ a2 ++ a5 ++ a6 ++ a7)).length)), (1, rowB u7 (l ++ (a1 ++ a2 ++ a5 ++ a6 ++ a7)))]) (sz := 53) (top := 2) (nx := n7) (df := []) ?_, ?_⟩
    · simp only [go_sem, sWriteS, sPrSide, sLineI]
      exact ⟨bld_len (by simp [Nat.add_assoc]), rowB_eq (by simp)⟩
    · simp only [go_sem, sWriteS, sPrSide, sLineI]
      have := hK u7 n7 (by omega) (by omega)
      simp only [List.length_append, len_cons, len_nil] at this
      exact this
def sPrConf : MSpec := framed sPrConf0
theorem okPrConf : MethOK Tryz.prog 91 sPrConf := okPrConf0.frame
def printL (w : Int) (d : List Pt) : BS := (d.map (printP w)).flatten
theorem printL_snoc (w : Int) (l : List Pt) (p : Pt) : printL w (l ++ [p]) = printL w l ++ printP w p := by simp [printL]
theorem printL_take (w : Int) (d : List Pt) (i : Nat) : (printL w (d.take i)).length ≤ (printL w d).length := by
  have h : printL w d = printL w (d.take i) ++ printL w (d.drop i) := by
    unfold printL
    rw [← List.flatten_append, ← List.map_append, List.take_append_drop]
  rw [h, List.length_append]
  omega
theorem conf_of {d : List Pt} {i : Nat} (h : rightD d = true) (hi : i < d.length) (hh : hkP (d.getD i ePt.dflt) = false) : isTextD (d.getD i ePt.dflt) = true ∧ txP (d.getD i ePt.dflt) ≠ [] := by
  have h1 := of_decide_eq_true h i hi
  unfold okAt at h1
  simp only [Bool.and_eq_true, Bool.or_eq_true] at h1
  rcases h1.2 with h2 | h2
  · unfold confD at h2
    simp only [Bool.and_eq_true] at h2
    rw [show hkP (d.getD i ePt.dflt) = (d.getD i ePt.dflt).2.2.2.1 from rfl] at hh
    rw [h2.1] at hh
    cases hh
  · unfold aheadD at h2
    simp only [Bool.and_eq_true, decide_eq_true_eq] at h2
    exact ⟨h2.1, h2.2.1⟩
theorem printL_ne {w : Int} {d : List Pt} (hw : wideM w = true) (h : rightD d = true) (h0 : d ≠ []) : printL w d ≠ [] := by
  have hi : 0 < d.length := List.length_pos_iff.2 h0
  have hn : printP w (d.getD 0 ePt.dflt) ≠ [] := by
    unfold printP
    cases hh : hkP (d.getD 0 ePt.dflt) with
    | true =>
      rw [if_pos rfl]
      have hw2 := wide_iff.1 hw
      obtain ⟨n, hn⟩ : ∃ n, w.toNat = n + 1 := ⟨w.toNat - 1, by omega⟩
      unfold lineM
      rw [hn, List.replicate_succ]
      simp
    | false =>
      rw [if_neg (by simp)]
      exact (conf_of h hi hh).2
  cases d with
  | nil => exact absurd rfl h0
  | cons p d =>
    intro e
    unfold printL at e
    simp only [List.map_cons, List.flatten_cons, List.append_eq_nil_iff] at e
    exact hn e.1
def printR (d : List Pt) (w : Int) : BS × Int := if wideM w = false then ([], 4) else if rightD d = false then ([], 11) else if fitsD d w = false then ([], 4) else (printL w d, 0)
def sPrintM : Spec := Spec.f2 (kL ePt) kI (fun d w => (d.length < 100000000 ∧ ∀ p ∈ d, okPt p) ∧ (wideM w = true → (printL w d).length ≤ 90000000000)) (fun d w => tu2 (kS.enc (printR d w).1) (kI.enc (printR d w).2))
theorem okPrintM : SpecOK Tryz.prog 45 sPrintM := by
  refine SpecOK.f2 Tryz.func45 rfl (by decide) Tryz.results45 Tryz.ntmps45 (by decide) fun d w ⟨⟨hd1, hd2⟩, hd3⟩ => ?_
  have hΓ : GOK Tryz.prog (gam [(89, sIsWidth), (68, sRightD), (90, sFitsD), (91, sPrConf), (92, sWriteS), (93, sStr)]) := (.cons okIsWidth (.cons okRightD (.cons okFitsD (.cons okPrConf (.cons okWriteS (.cons okStr .nil))))))
  unfold printR
  by_cases hw : wideM w = false
  · refine AW.of hΓ mixed [] _ _ _ rfl ?_
    simp only [go_sem, sIsWidth, sRightD, sFitsD, sPrConf, sWriteS, sStr, hw]
  have hw' : wideM w = true := by simpa using hw
  have hw2 := wide_iff.1 hw'
  rw [if_neg hw]
  by_cases hr : rightD d = false
  · refine AW.of hΓ mixed [] _ _ _ rfl ?_
    simp only [go_sem, sIsWidth, sRightD, sFitsD, sPrConf, sWriteS, sStr, hw', hr]
    exact ⟨hd1, hd2⟩
  have hr' : rightD d = true := by simpa using hr
  rw [if_neg hr]
  by_cases hf : fitsD d w = false
  · refine AW.of hΓ mixed [] _ _ _ rfl ?_
    simp only [go_sem, sIsWidth, sRightD, sFitsD, sPrConf, sWriteS, sStr, hw', hr', hf]
    exact ⟨hd1, hd2⟩
  have hf' : fitsD d w = true := by simpa using hf
  rw [if_neg hf]
  refine AW.of hΓ mixed [0] _ _ _ rfl ?_
  simp only [go_sem, sIsWidth, sRightD, sFitsD, sPrConf, sWriteS, sStr]
  refine AW.seqTo (fun _ : Unit => Sh.st ⟨[(0, sL ePt d), (1, .val (.int .i64 w))], [], 38, 0, 0, []⟩) ?_ fun _ => ?_
  · refine AW.of hΓ mixed [] _ _ _ rfl ?_
    simp only [go_sem, sIsWidth, sRightD, sFitsD, sPrConf, sWriteS, sStr, hw', hr', hf']
    refine ⟨⟨hd1, hd2⟩, ⟨hd1, hd2⟩, (), toFits ?_⟩
    simp only [go_sem, sIsWidth, sRightD, sFitsD, sPrConf, sWriteS, sStr]
  refine AW.fork (AW.regionO hΓ [true] ?_)
  simp only [go_sem, sIsWidth, sRightD, sFitsD, sPrConf, sWriteS, sStr]
  refine alloc_wp rfl zero149 (Nat.lt_of_lt_of_le (by decide : 6 < 38) (Nat.le_refl _)) ?_
  simp only [go_sem, sIsWidth, sRightD, sFitsD, sPrConf, sWriteS, sStr]
  by_cases h0 : d = []
  · subst h0
    refine AW.cut ⟨[(0, sL ePt []), (1, .val (.int .i64 w)), (6, .pt 0 0 0)], [(0, .box 0 149 2 bld0)], 38, 1, 1, []⟩ ?_ ?_
    · simp only [go_sem, sIsWidth, sRightD, sFitsD, sPrConf, sWriteS, sStr]
      refine RowLe.box fun j hj => ?_
      match j, hj with
      | 0, _ => exact AVle.refl _
      | 1, _ => exact AVle.refl _
    refine AW.of hΓ mixed [] _ _ _ rfl ?_
    simp only [go_sem, sIsWidth, sRightD, sFitsD, sPrConf, sWriteS, sStr]
    refine AW.round (α := Nat) (fun nx => ⟨[(6, .pt 0 0 0), (22, sL ePt []), (23, .val (.int .i64 0)), (24, .val (.int .i64 0))], [(0, .box 0 149 2 bld0)], 38, 1, nx, []⟩) (fun _ => 0) 1 ?_ ?_
    · simp only [go_sem, sIsWidth, sRightD, sFitsD, sPrConf, sWriteS, sStr]
      exact RowLe.refl _
    · intro nx
      refine AW.of hΓ mixed [99999] _ _ _ rfl ?_
      simp only [go_sem, sIsWidth, sRightD, sFitsD, sPrConf, sWriteS, sStr]
      exact .inr ⟨0, 0, rfl, rfl, rfl⟩
  · refine AW.cut ⟨[(0, sL ePt d), (1, .val (.int .i64 w)), (6, .pt 0 0 0)], [(0, .box 0 149 2 fun j => if j = 0 then .val (.pointer none) else .em)], 38, 1, 1, []⟩ ?_ ?_
    · simp only [go_sem, sIsWidth, sRightD, sFitsD, sPrConf, sWriteS, sStr]
      refine RowLe.box fun j hj => ?_
      match j, hj with
      | 0, _ => exact AVle.refl _
      | 1, _ => exact nil_em
    refine AW.adoptB (q := 0) 1 5 1 (byteC []) rfl rfl ?_
    refine AW.cut ⟨[(0, sL ePt d), (1, .val (.int .i64 w)), (6, .pt 0 0 0)], [(0, .box 0 149 2 (bldC false 0 0 1 1 0)), (1, rowB 1 [])], 38, 2, 2, []⟩ ?_ ?_
    · simp only [go_sem, sIsWidth, sRightD, sFitsD, sPrConf, sWriteS, sStr]
      refine ⟨RowLe.box fun j hj => ?_, RowLe.refl _⟩
      match j, hj with
      | 0, _ => exact AVle.refl _
      | 1, _ => exact AVle.refl _
    refine AW.of hΓ mixed [] _ _ _ rfl ?_
    simp only [go_sem, sIsWidth, sRightD, sFitsD, sPrConf, sWriteS, sStr]
    refine AW.round (α := { x : Nat × Bool × Nat × Nat // x.1 ≤ d.length })
      (fun x => ⟨[(1, .val (.int .i64 w)), (6, .pt 0 0 0), (22, sL ePt d), (23, .val (.int .i64 d.length)), (24, .val (.int .i64 x.1.1))],
        [(0, .box 0 149 2 (bldC x.1.2.1 0 0 1 x.1.2.2.1 (printL w (d.take x.1.1)).length)), (1, rowB x.1.2.2.1 (printL w (d.take x.1.1)))], 38, 2, x.1.2.2.2, []⟩) (fun x => d.length - x.1.1) ⟨(0, false, 1, 2), Nat.zero_le _⟩ ?_ ?_
    · simp only [go_sem, sIsWidth, sRightD, sFitsD, sPrConf, sWriteS, sStr]
      exact ⟨RowLe.refl _, RowLe.refl _⟩
    · rintro ⟨⟨i, f, u, nx⟩, hi⟩
      simp only at hi
      refine AW.of hΓ mixed [10, 99999] _ _ _ rfl ?_
      simp only [go_sem, sIsWidth, sRightD, sFitsD, sPrConf, sWriteS, sStr]
      refine ⟨fun hlt => ⟨by omega, ?_⟩, fun hge => ?_⟩
      · have hlt' : i < d.length := by omega
        have hpi : okPt (d.getD i ePt.dflt) := by
          rw [gd_lt d _ hlt']
          exact hd2 _ (List.getElem_mem _)
        have hcf := conf_of (i := i) hr' hlt'
        have hsn := printL_snoc w (d.take i) (d.getD i ePt.dflt)
        rw [← take_snoc d ePt.dflt hlt'] at hsn
        have htl := printL_take w d (i + 1)
        have hd3 := hd3 hw'
        rw [hsn, List.length_append] at htl
        generalize hpe : d.getD i ePt.dflt = p at *
        refine AW.cut ⟨[(1, .val (.int .i64 w)), (6, .pt 0 0 0), (8, .pt 2 nx 0), (22, sL ePt d), (23, .val (.int .i64 d.length)), (24, .val (.int .i64 i))],
          [(0, .box 0 149 2 (bldC f 0 0 1 u (printL w (d.take i)).length)), (1, rowB u (printL w (d.take i))), (2, .box nx 112 9 (ePt.enc p))], 38, 3, nx + 1, []⟩ ?_ ?_
        · simp only [go_sem, sIsWidth, sRightD, sFitsD, sPrConf, sWriteS, sStr]
          exact ⟨RowLe.refl _, RowLe.refl _, RowLe.box fun j hj => AVle.of_eq (stC_in (Nat.zero_le _) (by omega))⟩
        refine AW.still 8 2 nx 112 9 _ rfl rfl (fun j hj => match j, hj with | 0, _ => rfl | 1, _ => rfl | 2, _ => rfl | 3, _ => rfl | 4, _ => rfl | 5, _ => rfl | 6, _ => rfl | 7, _ => rfl | 8, _ => rfl) ?_
        generalize hte : printL w (d.take i) = t at *
        refine AW.of hΓ mixed [99999] _ _ _ rfl ?_
        simp only [go_sem, sIsWidth, sRightD, sFitsD, sPrConf, sWriteS, sStr, pt_eta]
        refine ⟨fun hc => ?_, fun hc => ?_⟩
        · refine bld_go ⟨p, w, rfl, rfl, rfl, hc, hpi, by omega, by omega⟩ rfl (by decide) (RowLe.refl _) (RowLe.refl _) (by decide) (by omega) fun u1 n1 g1 h1 => ?_
          simp only [go_sem, sIsWidth, sRightD, sFitsD, sPrConf, sWriteS, sStr]
          refine ⟨by omega, ⟨(i + 1, true, u1, n1), by dsimp only; omega⟩, ⟨Nat.le_refl _, by dsimp only; omega, bld_len ?_, rowB_eq ?_⟩, by dsimp only; omega⟩
          · dsimp only
            rw [hsn, List.length_append]
          · dsimp only
            rw [hsn]
        · have htx : printP w p = p.2.2.2.2.1 := if_neg (by rw [show hkP p = p.2.2.2.1 from rfl, hc]; simp)
          rw [htx] at htl hsn
          refine write_go rfl (by decide) (RowLe.refl _) (RowLe.refl _) (by decide) (by omega) fun u1 n1 g1 h1 => ?_
          simp only [go_sem, sIsWidth, sRightD, sFitsD, sPrConf, sWriteS, sStr]
          refine ⟨by omega, ⟨(i + 1, true, u1, n1), by dsimp only; omega⟩, ⟨Nat.le_refl _, by dsimp only; omega, bld_len ?_, rowB_eq ?_⟩, by dsimp only; omega⟩
          · dsimp only
            rw [hsn, List.length_append]
          · dsimp only
            rw [hsn]
      · obtain rfl : i = d.length := by omega
        rw [List.take_length]
        refine .inl ⟨f, 0, 0, 1, u, printL w d, rfl, rfl, rfl, printL_ne hw' hr' h0, by have := hd3 hw'; omega, rfl⟩
end Go.Proofs.YtjfmigpahglajaaGreatDoor
set_option linter.unusedSimpArgs false
set_option linter.unusedVariables false
set_option maxRecDepth 100000
set_option maxHeartbeats 2000000
namespace Go.Proofs.YtjfmigpahglajaaGreatDoor
open Go
attribute [local irreducible] AW AVle ASle RowLe
theorem rangeMap (l : List BS) : (List.range l.length).map (fun i => l.getD i []) = l := by
  refine list_ext_getD [] (by simp) fun t ht => ?_
  simp at ht
  simp [List.getD, ht]
def sWith0 : MSpec := fun args hp top nx K => ∃ (d : List Pt) (v : Nat) (ts : List BS) (u : Nat), args = [.ow 0 v d.length, .ow 1 u ts.length] ∧ hp = rws [(0, rowL v 112 ePt d), (1, rowL u 9 eS ts)] ∧ top = 2 ∧ d.length < 100000000 ∧ okLs ts ∧
  ∀ v' nx', (v' = v ∨ nx ≤ v') → nx ≤ nx' → K (.ow 0 v' (withD d ts).length) (rws [(0, rowL v' 112 ePt (withD d ts)), (1, rowL u 9 eS ts)]) 2 nx'
theorem okWith0 : MethOK Tryz.prog 120 sWith0 := by
  refine MethOK.mk Tryz.func120 rfl (by decide) Tryz.results120 Tryz.ntmps120 ?_
  rintro args hp top nx K ⟨d, v, ts, u, rfl, rfl, rfl, hl, hts, hK⟩
  have hΓ : GOK Tryz.prog (gam [(42, sJoin)]) := (.cons okJoin .nil)
  refine ⟨Nat.le_of_ble_eq_true rfl, AW.late ?_⟩
  refine AW.of hΓ mixed [99999] _ _ _ rfl ?_
  simp only [go_sem, sJoin, rangeMap]
  refine ⟨hts, fun h => ⟨by omega, ?_⟩, fun h => ?_⟩
  · have e : withD d ts = d ++ [textP ts.flatten] := if_neg h
    refine ⟨_, toFitsV (fun p => p) (l := [(4, .ow 0 nx (d.length + 1))]) (r := [(0, rowL nx 112 ePt (withD d ts)), (1, rowL u 9 eS ts)]) (sz := 16) (top := 2) (nx := nx + 1) (df := []) ?_, ?_⟩
    · rw [e]
      simp only [go_sem, sJoin]
      refine ⟨row_app1 (E := ePt) rfl rfl rfl rfl (by simp) fun j hj => ?_, RowLe.refl _⟩
      match j, hj with
      | 0, _ => exact AVle.refl _
      | 1, _ => exact AVle.refl _
      | 2, _ => exact AVle.refl _
      | 3, _ => exact AVle.refl _
      | 4, _ => exact AVle.refl _
      | 5, _ => exact AVle.refl _
      | 6, _ => exact AVle.refl _
      | 7, _ => exact AVle.refl _
      | 8, _ => exact AVle.refl _
    · simp only [go_sem, sJoin]
      have := hK nx (nx + 1) (.inr (Nat.le_refl _)) (by omega)
      rwa [show (withD d ts).length = d.length + 1 by rw [e]; simp] at this
  · have e : withD d ts = d := if_pos (Decidable.not_not.1 h)
    refine ⟨_, ASle.refl _, ?_⟩
    simp only [go_sem, sJoin]
    have := hK v nx (.inl rfl) (Nat.le_refl _)
    rwa [e] at this
def sWith : MSpec := framed sWith0
theorem okWith : MethOK Tryz.prog 120 sWith := okWith0.frame
theorem rows_two {hp : Nat → Row} {p q : Nat} {r s : Row} (h : RowLe (hp p) r) (h2 : RowLe (hp q) s) : ∀ (i o : Nat), [p, q][i]? = some o → RowLe (hp o) (rws [(0, r), (1, s)] i) := by
  intro i o hq
  match i with
  | 0 =>
    simp only [List.getElem?_cons_zero, Option.some.injEq] at hq
    subst hq
    exact h
  | 1 =>
    simp only [List.getElem?_cons_succ, List.getElem?_cons_zero, Option.some.injEq] at hq
    subst hq
    exact h2
  | i + 2 => simp at hq
theorem with_go {d : List Pt} {ts : List BS} {p q v u n m : Nat} {hp : Nat → Row} {top nx : Nat} {K : AV → (Nat → Row) → Nat → Nat → Prop} (hn : n = d.length) (hm : m = ts.length) (hpq : p ≠ q)
    (hr : RowLe (hp p) (rowL v 112 ePt d)) (hr2 : RowLe (hp q) (rowL u 9 eS ts)) (ht : p < top ∧ q < top) (hl : d.length < 100000000) (hts : okLs ts)
    (hK : ∀ v' nx', nx ≤ nx' → K (.ow p v' (withD d ts).length) (updR (updR hp p (rowL v' 112 ePt (withD d ts))) q (rowL u 9 eS ts)) top nx') :
    sWith [.ow p v n, .ow q u m] hp top nx K := by
  subst hn hm
  have e1 : (hp p).ver = some v := hr.vers.symm
  have e2 : (hp q).ver = some u := hr2.vers.symm
  refine ⟨[p, q], [.ow 0 v d.length, .ow 1 u ts.length], rws [(0, rowL v 112 ePt d), (1, rowL u 9 eS ts)], by simp [hpq], by simp; omega, .cons AVle.ow (.cons AVle.ow .nil), rows_two hr hr2, fun i hi => rws_top (top := 2) (by simp) i (by simpa using hi), d, v, ts, u, rfl, rfl, rfl, hl, hts, fun v' nx' h1 h3 => ?_⟩
  refine ⟨.ow p v' (withD d ts).length, _, AVle.ow, fun i o ho => ?_, fun o ho => ?_, fun o ho w hv => ?_, hK v' nx' h3⟩
  · match i with
    | 0 =>
      simp only [List.getElem?_cons_zero, Option.some.injEq] at ho
      subst ho
      rw [updR_ne _ _ hpq, updR_at]
      exact RowLe.refl _
    | 1 =>
      simp only [List.getElem?_cons_succ, List.getElem?_cons_zero, Option.some.injEq] at ho
      subst ho
      rw [updR_at]
      exact RowLe.refl _
    | i + 2 => simp at ho
  · simp only [List.mem_cons, List.not_mem_nil, or_false, not_or] at ho
    rw [updR_ne _ _ ho.2, updR_ne _ _ ho.1]
  · simp only [List.mem_cons, List.not_mem_nil, or_false] at ho
    rcases ho with rfl | rfl
    · rw [updR_ne _ _ hpq, updR_at] at hv
      have : some v' = some w := hv
      obtain rfl := Option.some.inj this
      rcases h1 with rfl | h1
      · exact .inl e1
      · exact .inr h1
    · rw [updR_at] at hv
      have : some u = some w := hv
      obtain rfl := Option.some.inj this
      exact .inl e2
theorem with_len (d : List Pt) (ts : List BS) : (withD d ts).length ≤ d.length + ts.length := by
  unfold withD
  split
  · omega
  · rename_i h
    have : 0 < ts.length := List.length_pos_iff.2 fun e => h (by rw [e]; rfl)
    simp only [List.length_append, List.length_cons, List.length_nil]
    omega
def sOfD : Spec := Spec.f1 (kL ePt) (fun l => l.length < 100000000 ∧ sumT l ≤ 1000000000) (fun l => sL ePt (ofD l))
theorem okOfD : SpecOK Tryz.prog 67 sOfD := by
  refine SpecOK.f1 Tryz.func67 rfl (by decide) Tryz.results67 Tryz.ntmps67 (by decide) fun l ⟨hl, hs⟩ => ?_
  have hΓ : GOK Tryz.prog (gam [(119, sIsText), (120, sWith)]) := (.cons okIsText (.cons okWith .nil))
  refine AW.of hΓ mixed [2, 200008] _ _ _ rfl ?_
  simp only [go_sem, sIsText, sWith]
  refine AW.adopt 3 112 9 (fun i => ePt.enc (([] : List Pt).getD i ePt.dflt)) rfl ?_
  refine AW.adopt 4 9 1 (fun i => eS.enc (([] : List BS).getD i [])) rfl ?_
  refine AW.of hΓ mixed [3, 200008] _ _ _ rfl ?_
  simp only [go_sem, sIsText, sWith]
  refine AW.block (AW.roundL (α := { x : Nat × List Pt × List BS × Nat × Nat × Nat // x.1 ≤ l.length ∧ ofD l = ofGo (l.drop x.1) x.2.1 x.2.2.1 ∧ x.2.1.length + x.2.2.1.length ≤ x.1 ∧ x.2.2.1.length ≤ x.1 ∧ x.2.2.1.flatten.length ≤ sumT (l.take x.1) })
    (fun x => (Sh.mk [(3, .ow 0 x.1.2.2.2.1 x.1.2.1.length), (4, .ow 1 x.1.2.2.2.2.1 x.1.2.2.1.length), (7, sL ePt l), (8, .val (.int .i64 l.length)), (9, .val (.int .i64 x.1.1))]
      [(0, rowL x.1.2.2.2.1 112 ePt x.1.2.1), (1, rowL x.1.2.2.2.2.1 9 eS x.1.2.2.1)] 30 2 x.1.2.2.2.2.2 []).st) (fun x => l.length - x.1.1) ⟨(0, [], [], 0, 1, 2), Nat.zero_le _, rfl, by simp, by simp, by simp⟩ ?_ ?_)
  · refine Sh.fitsV.le (σ := fun p => p) ?_
    simp only [go_sem, sIsText, sWith]
    exact ⟨RowLe.refl _, RowLe.refl _⟩
  · rintro ⟨⟨i, d, ts, v, u, nx⟩, hi, he, hd, ht, hs2⟩
    simp only at hi he hd ht hs2
    refine AW.of hΓ mixed [5, 99999, 200008] _ _ _ rfl ?_
    simp only [go_sem, sIsText, sWith]
    have hst := sumT_take l i
    refine ⟨fun hil => ⟨by omega, ?_⟩, fun hil => ?_⟩
    · have hlt : i < l.length := by omega
      have hdr : l.drop i = l.getD i ePt.dflt :: l.drop (i + 1) := by
        rw [List.drop_eq_getElem_cons hlt, ← gd_lt l ePt.dflt hlt]
      have hsum : sumT (l.take (i + 1)) = sumT (l.take i) + (txP (l.getD i ePt.dflt)).length := by
        rw [take_snoc l ePt.dflt hlt, sumT_app, sumT_one]
      have hst1 := sumT_take l (i + 1)
      rw [hdr, ofGo] at he
      generalize hpe : l.getD i ePt.dflt = p at *
      refine AW.cut ⟨[(3, .ow 0 v d.length), (4, .ow 1 u ts.length), (6, .pt 2 nx 0), (7, sL ePt l), (8, .val (.int .i64 l.length)), (9, .val (.int .i64 i))],
        [(0, rowL v 112 ePt d), (1, rowL u 9 eS ts), (2, .box nx 112 9 (ePt.enc p))], 30, 3, nx + 1, []⟩ ?_ ?_
      · simp only [go_sem, sIsText, sWith]
        exact ⟨RowLe.refl _, RowLe.refl _, RowLe.box fun j hj => AVle.of_eq (stC_in (Nat.zero_le _) (by omega))⟩
      refine AW.still 6 2 nx 112 9 _ rfl rfl (fun j hj => match j, hj with | 0, _ => rfl | 1, _ => rfl | 2, _ => rfl | 3, _ => rfl | 4, _ => rfl | 5, _ => rfl | 6, _ => rfl | 7, _ => rfl | 8, _ => rfl) ?_
      refine AW.of hΓ mixed [99999, 200008] _ _ _ rfl ?_
      simp only [go_sem, sIsText, sWith, pt_eta]
      refine ⟨fun hp => ⟨by omega, by omega, ⟨(i + 1, d, ts ++ [txP p], v, nx + 1, nx + 1 + 1), by dsimp only; omega, ?_, by simp; omega, by simp; omega, ?_⟩, ?_, by dsimp only; omega⟩, fun hp => ?_⟩
      · dsimp only
        rw [he, if_pos hp]
      · dsimp only
        rw [hsum, List.flatten_append, List.length_append]
        exact Nat.add_le_add hs2 (by simp)
      · refine toFitsV (fun p => p) ?_
        simp only [go_sem, sIsText, sWith]
        refine ⟨by omega, RowLe.refl _, ?_⟩
        exact row_app1 (E := eS) rfl rfl rfl rfl (by simp) fun j hj => AVle.refl _
      · rw [if_neg (by simp [hp])] at he
        refine AW.drawZ hΓ mixed 2 [3, 4] [3, 4] [] (by decide +kernel) ?_
        simp only [go_sem, sIsText, sWith]
        have hwl := with_len d ts
        refine with_go rfl rfl (by decide) (RowLe.refl _) (RowLe.refl _) (by decide) (by omega) ⟨by omega, by omega⟩ fun v1 n1 h1 => ?_
        generalize withD d ts = w at *
        simp only [go_sem, sIsText, sWith]
        refine ⟨by omega, by omega, ⟨(i + 1, w ++ [p], [], n1, n1 + 1, n1 + 2), by dsimp only; omega, he, by simp; omega, by simp, by simp⟩, ?_, by dsimp only; omega⟩
        refine (ASle.adopt (s := 4) 9 1 (fun i => eS.enc (([] : List BS).getD i [])) rfl).trans (toFitsV (fun p => if p = 1 then 3 else p) ?_)
        simp only [go_sem, sIsText, sWith]
        exact ⟨by omega, row_app1 (E := ePt) rfl rfl rfl rfl (by simp) fun j hj => AVle.refl _, RowLe.refl _⟩
    · obtain rfl : i = l.length := by omega
      rw [List.drop_length, ofGo] at he
      have hwl := with_len d ts
      refine with_go rfl rfl (by decide) (RowLe.refl _) (RowLe.refl _) (by decide) (by omega) ⟨by omega, by omega⟩ fun v1 n1 h1 => ?_
      generalize withD d ts = w at *
      simp only [go_sem, sIsText, sWith]
      rw [he]
      exact vw_all (E := ePt) rfl rfl rfl
end Go.Proofs.YtjfmigpahglajaaGreatDoor
set_option linter.unusedSimpArgs false
set_option linter.unusedVariables false
set_option maxRecDepth 100000
set_option maxHeartbeats 2000000
namespace Go.Proofs.YtjfmigpahglajaaGreatDoor
open Go
attribute [local irreducible] AW AVle ASle RowLe
def sRefRunT : Spec := Spec.f1 kS (fun s => s.length ≤ 100000000) (fun s => kI.enc (longL (splitL s)))
theorem okRefRunT : SpecOK Tryz.prog 60 sRefRunT := by
  refine SpecOK.f1 Tryz.func60 rfl (by decide) Tryz.results60 Tryz.ntmps60 (by decide) fun s hs => ?_
  have hΓ : GOK Tryz.prog (gam [(33, sRefSplit), (110, sRefLongest)]) := (.cons okRefSplit (.cons okRefLongest .nil))
  refine AW.of hΓ mixed [] _ _ _ rfl ?_
  simp only [go_sem, sRefSplit, sRefLongest]
  exact ⟨hs, okLs_split hs⟩
def lenP (p : Pt) : Nat := p.2.2.2.2.1.length + p.2.2.2.2.2.1.length + p.2.2.2.2.2.2.1.length + p.2.2.2.2.2.2.2.1.length + p.1.length + p.2.1.length + p.2.2.1.length
def sumP (l : List Pt) : Nat := (l.map lenP).sum
theorem sumP_mem {l : List Pt} {p : Pt} (h : p ∈ l) : lenP p ≤ sumP l := by
  induction l with
  | nil => cases h
  | cons t l ih =>
    have e : sumP (t :: l) = lenP t + sumP l := by simp [sumP]
    rcases List.mem_cons.1 h with rfl | h
    · omega
    · have := ih h
      omega
end Go.Proofs.YtjfmigpahglajaaGreatDoor
set_option linter.unusedSimpArgs false
set_option linter.unusedVariables false
set_option maxRecDepth 100000
set_option maxHeartbeats 2000000
namespace Go.Proofs.YtjfmigpahglajaaGreatDoor
open Go
attribute [local irreducible] AW AVle ASle RowLe
def sRefFits : Spec := Spec.f2 (kL ePt) kI (fun l _ => l.length < 100000000 ∧ ∀ p ∈ l, ∀ s ∈ fourP p, s.length ≤ 100000000) (fun l w => kB.enc (fitsD l w))
theorem okRefFits : SpecOK Tryz.prog 82 sRefFits := by
  refine SpecOK.f2 Tryz.func82 rfl (by decide) Tryz.results82 Tryz.ntmps82 (by decide) fun l w ⟨hl, hp⟩ => ?_
  have hΓ : GOK Tryz.prog (gam [(60, sRefRunT)]) := (.cons okRefRunT .nil)
  refine AW.of hΓ mixed [] _ _ _ rfl ?_
  simp only [go_sem, sRefRunT]
  refine ⟨fun h => (by unfold fitsD; rw [decide_eq_false (by omega)]; rfl), fun h => ?_⟩
  refine AW.round (α := { x : Nat × Nat × Nat // x.1 ≤ l.length ∧ ∀ k, k < x.1 → (longT (fourP (l.getD k ePt.dflt)) : Int) < w })
    (fun x => ⟨[(0, sL ePt l), (1, .val (.int .i64 w)), (5, .val (.int .i64 x.1.1))], [], 45, 0, x.1.2.1, []⟩) (fun x => l.length - x.1.1) ⟨(0, 0, 0), Nat.zero_le _, fun k hk => absurd hk (Nat.not_lt_zero _)⟩ ?_ ?_
  · simp only [go_sem, sRefRunT]
  · rintro ⟨⟨i, nx, tp⟩, hi, hk⟩
    simp only at hi hk
    refine AW.of hΓ mixed [6, 99999] _ _ _ rfl ?_
    simp only [go_sem, sRefRunT]
    refine ⟨fun hlt => ⟨by omega, ?_⟩, fun hge => ?_⟩
    · have hlt' : i < l.length := by omega
      have hpi : ∀ s ∈ fourP (l.getD i ePt.dflt), s.length ≤ 100000000 := by
        rw [gd_lt l _ hlt']
        exact hp _ (List.getElem_mem _)
      have hm : l.getD i ePt.dflt ∈ l := by
        rw [gd_lt l _ hlt']
        exact List.getElem_mem _
      generalize hpe : l.getD i ePt.dflt = p at *
      refine AW.cut ⟨[(0, sL ePt l), (1, .val (.int .i64 w)), (5, .val (.int .i64 i)), (6, .pt 0 nx 0)], [(0, .box nx 44 9 (ePt.enc p))], 45, 1, nx + 1, []⟩ ?_ ?_
      · simp only [go_sem, sRefRunT]
        exact RowLe.box fun j hj => AVle.of_eq (stC_in (Nat.zero_le _) (by omega))
      refine AW.still 6 0 nx 44 9 _ rfl rfl (fun j hj => match j, hj with | 0, _ => rfl | 1, _ => rfl | 2, _ => rfl | 3, _ => rfl | 4, _ => rfl | 5, _ => rfl | 6, _ => rfl | 7, _ => rfl | 8, _ => rfl) ?_
      refine AW.of hΓ mixed [99999] _ _ _ rfl ?_
      simp only [go_sem, sRefRunT, pt_eta]
      have h1 : p.2.2.2.2.1.length ≤ 100000000 := hpi _ (by simp [fourP])
      have h2 : p.2.2.2.2.2.1.length ≤ 100000000 := hpi _ (by simp [fourP])
      have h3 : p.2.2.2.2.2.2.1.length ≤ 100000000 := hpi _ (by simp [fourP])
      have h4 : p.2.2.2.2.2.2.2.1.length ≤ 100000000 := hpi _ (by simp [fourP])
      have h5 : longT (fourP p) = max (max (max (longL (splitL p.2.2.2.2.1)) (longL (splitL p.2.2.2.2.2.1))) (longL (splitL p.2.2.2.2.2.2.1))) (longL (splitL p.2.2.2.2.2.2.2.1)) := by
        unfold longT fourP
        simp
      generalize longL (splitL p.2.2.2.2.1) = a at *
      generalize longL (splitL p.2.2.2.2.2.1) = b at *
      generalize longL (splitL p.2.2.2.2.2.2.1) = c at *
      generalize longL (splitL p.2.2.2.2.2.2.2.1) = e at *
      refine ⟨h1, fun _ => h2, fun g => by rw [decide_eq_false g]; rfl, fun _ => h3, fun g => by rw [g]; rfl, fun _ => h4, fun g => by rw [g]; rfl, fun g => ?_, fun g => ⟨by omega, ⟨(i + 1, nx + 1, 0), by dsimp only; omega, fun k hk' => ?_⟩, ⟨Nat.le_refl _, by dsimp only; omega⟩, by dsimp only; omega⟩⟩
      · simp only [Bool.or_eq_true, decide_eq_true_eq] at g
        unfold fitsD
        rw [decide_eq_false (p := ∀ p ∈ l, _) (fun hh => by have := hh _ hm; omega), Bool.and_false]
      · simp only [Bool.or_eq_false_iff, decide_eq_false_iff_not] at g
        dsimp only at hk'
        rcases Nat.lt_or_ge k i with h' | h'
        · exact hk k h'
        · obtain rfl : k = i := by omega
          rw [hpe]
          omega
    · unfold fitsD
      rw [decide_eq_true (by omega), decide_eq_true (p := ∀ p ∈ l, _) fun p hp' => ?_]
      · rfl
      · obtain ⟨k, hk', rfl⟩ := List.getElem_of_mem hp'
        have := hk k (by omega)
        rwa [gd_lt l _ hk'] at this
def sRefSide : Spec := Spec.f1 kS (fun s => s.length ≤ 1000000000) (fun s => tu2 (kS.enc (sideM s)) (kB.enc (lackM s)))
theorem okRefSide : SpecOK Tryz.prog 83 sRefSide := by
  refine SpecOK.f1 Tryz.func83 rfl (by decide) Tryz.results83 Tryz.ntmps83 (by decide) fun s hs => ?_
  have hΓ : GOK Tryz.prog (gam [(128, sRefEnds)]) := (.cons okRefEnds .nil)
  refine AW.of hΓ mixed [] _ _ _ rfl ?_
  simp only [go_sem, sRefEnds]
  have hlk : (decide ¬s = [] && !endsL s) = lackM s := rfl
  refine ⟨fun _ => by omega, fun hc => ?_, fun hc => ?_⟩
  · have hk : lackM s = true := by
      rw [← hlk, decide_eq_true hc.1, hc.2]
      rfl
    exact ⟨by omega, (if_pos hk).symm, hk.symm⟩
  · have hk : lackM s = false := by
      rw [← hlk]
      by_cases h0 : s = []
      · rw [decide_eq_false (by simpa using h0), Bool.false_and]
      · rw [hc h0, Bool.and_false]
    exact ⟨(if_neg (by rw [hk]; simp)).symm, hk.symm⟩
theorem conf_text {d : List Pt} {i : Nat} (h : rightD d = true) (hi : i < d.length) (hh : hkP (d.getD i ePt.dflt) = true) : (d.getD i ePt.dflt).2.2.2.2.1 = [] := by
  have h1 := of_decide_eq_true h i hi
  rw [okAt_ref] at h1
  unfold okRef at h1
  simp only [Bool.and_eq_true] at h1
  have h2 := h1.1.1
  unfold oneR at h2
  rw [if_pos hh] at h2
  simp only [Bool.and_eq_true, decide_eq_true_eq] at h2
  exact h2.1
def okPs (p : Pt) : Prop := (p.1.length ≤ 100000000 ∧ p.2.1.length ≤ 100000000 ∧ p.2.2.1.length ≤ 100000000) ∧ (txP p).length ≤ 100000000 ∧ p.2.2.2.2.2.1.length ≤ 100000000 ∧ p.2.2.2.2.2.2.1.length ≤ 100000000 ∧ p.2.2.2.2.2.2.2.1.length ≤ 100000000
def sRefPrint : Spec := Spec.f2 (kL ePt) kI (fun d w => (d.length < 100000000 ∧ ∀ p ∈ d, okPs p) ∧ (wideM w = true → (printL w d).length ≤ 90000000000)) (fun d w => tu2 (kS.enc (printR d w).1) (kI.enc (printR d w).2))
theorem okRefPrint : SpecOK Tryz.prog 38 sRefPrint := by
  refine SpecOK.f2 Tryz.func38 rfl (by decide) Tryz.results38 Tryz.ntmps38 (by decide) fun d w ⟨⟨hd1, hd2⟩, hd3⟩ => ?_
  have hΓ : GOK Tryz.prog (gam [(80, sRefWide), (81, sRefRight), (82, sRefFits), (83, sRefSide), (84, sRefLineI)]) := (.cons okRefWide (.cons okRefRight (.cons okRefFits (.cons okRefSide (.cons okRefLineI .nil)))))
  have hR : ∀ p ∈ d, (p.1.length ≤ 100000000 ∧ p.2.1.length ≤ 100000000 ∧ p.2.2.1.length ≤ 100000000) ∧ (txP p).length ≤ 100000000 := fun p hp => ⟨(hd2 p hp).1, (hd2 p hp).2.1⟩
  have hF : ∀ p ∈ d, ∀ s ∈ fourP p, s.length ≤ 100000000 := fun p hp s hs => by
    obtain ⟨_, h1, h2, h3, h4⟩ := hd2 p hp
    simp only [fourP, List.mem_cons, List.not_mem_nil, or_false] at hs
    rcases hs with rfl | rfl | rfl | rfl
    · exact h1
    · exact h2
    · exact h3
    · exact h4
  unfold printR
  by_cases hw : wideM w = false
  · refine AW.of hΓ mixed [] _ _ _ rfl ?_
    simp only [go_sem, sRefWide, sRefRight, sRefFits, sRefSide, sRefLineI, hw]
  have hw' : wideM w = true := by simpa using hw
  have hw2 := wide_iff.1 hw'
  rw [if_neg hw]
  by_cases hr : rightD d = false
  · refine AW.of hΓ mixed [] _ _ _ rfl ?_
    simp only [go_sem, sRefWide, sRefRight, sRefFits, sRefSide, sRefLineI, hw', hr]
    exact ⟨hd1, hR⟩
  have hr' : rightD d = true := by simpa using hr
  rw [if_neg hr]
  by_cases hf : fitsD d w = false
  · refine AW.of hΓ mixed [] _ _ _ rfl ?_
    simp only [go_sem, sRefWide, sRefRight, sRefFits, sRefSide, sRefLineI, hw', hr', hf]
    exact ⟨⟨hd1, hR⟩, ⟨hd1, hF⟩⟩
  have hf' : fitsD d w = true := by simpa using hf
  rw [if_neg hf]
  refine AW.of hΓ mixed [] _ _ _ rfl ?_
  simp only [go_sem, sRefWide, sRefRight, sRefFits, sRefSide, sRefLineI, hw', hr', hf']
  refine ⟨⟨hd1, hR⟩, ⟨hd1, hF⟩, ?_⟩
  have hd3 := hd3 hw'
  refine AW.round (α := { x : Nat × Nat × Nat // x.1 ≤ d.length })
    (fun x => ⟨[(0, sL ePt d), (1, .val (.int .i64 w)), (6, .st (printL w (d.take x.1.1))), (7, .val (.int .i64 x.1.1))], [], 98, 0, x.1.2.1, []⟩) (fun x => d.length - x.1.1) ⟨(0, 0, 0), Nat.zero_le _⟩ ?_ ?_
  · simp only [go_sem, sRefWide, sRefRight, sRefFits, sRefSide, sRefLineI]
    rfl
  · rintro ⟨⟨i, nx, tp⟩, hi⟩
    simp only at hi
    refine AW.of hΓ mixed [11, 99999] _ _ _ rfl ?_
    simp only [go_sem, sRefWide, sRefRight, sRefFits, sRefSide, sRefLineI]
    refine ⟨fun hlt => ⟨by omega, ?_⟩, fun hge => ?_⟩
    · have hlt' : i < d.length := by omega
      have hpi : okPs (d.getD i ePt.dflt) := by
        rw [gd_lt d _ hlt']
        exact hd2 _ (List.getElem_mem _)
      have hcf := conf_text (i := i) hr' hlt'
      have hsn := printL_snoc w (d.take i) (d.getD i ePt.dflt)
      rw [← take_snoc d ePt.dflt hlt'] at hsn
      have htl := printL_take w d (i + 1)
      rw [hsn, List.length_append] at htl
      generalize hpe : d.getD i ePt.dflt = p at *
      refine AW.cut ⟨[(0, sL ePt d), (1, .val (.int .i64 w)), (6, .st (printL w (d.take i))), (7, .val (.int .i64 i)), (8, .pt 0 nx 0)], [(0, .box nx 44 9 (ePt.enc p))], 98, 1, nx + 1, []⟩ ?_ ?_
      · simp only [go_sem, sRefWide, sRefRight, sRefFits, sRefSide, sRefLineI]
        exact RowLe.box fun j hj => AVle.of_eq (stC_in (Nat.zero_le _) (by omega))
      refine AW.still 8 0 nx 44 9 _ rfl rfl (fun j hj => match j, hj with | 0, _ => rfl | 1, _ => rfl | 2, _ => rfl | 3, _ => rfl | 4, _ => rfl | 5, _ => rfl | 6, _ => rfl | 7, _ => rfl | 8, _ => rfl) ?_
      generalize hte : printL w (d.take i) = t at *
      obtain ⟨ll, bl, rl, h, x, lf, b, r, hb⟩ := p
      obtain ⟨⟨p1, p2, p3⟩, p4, p5, p6, p7⟩ := hpi
      simp only [txP] at p1 p2 p3 p4 p5 p6 p7
      cases h with
      | false =>
        have e : printP w (ll, bl, rl, false, x, lf, b, r, hb) = x := rfl
        rw [e] at hsn htl
        refine AW.of hΓ mixed [99999] _ _ _ rfl ?_
        simp only [go_sem, sRefWide, sRefRight, sRefFits, sRefSide, sRefLineI]
        exact ⟨by omega, by omega, ⟨(i + 1, nx + 1, 0), by dsimp only; omega⟩, ⟨Nat.le_refl _, hsn.symm, by dsimp only; omega⟩, by dsimp only; omega⟩
      | true =>
        have hx : x = [] := hcf rfl
        subst hx
        unfold printP at hsn htl
        rw [if_pos rfl] at hsn htl
        simp only at hsn htl
        cases hb with
        | true =>
          rw [if_pos rfl] at hsn htl
          simp only [List.length_append] at htl
          refine AW.of hΓ mixed [99999] _ _ _ rfl ?_
          simp only [go_sem, sRefWide, sRefRight, sRefFits, sRefSide, sRefLineI]
          refine ⟨by omega, by omega, by omega, by omega, ⟨by omega, by omega⟩, by omega, by omega, ⟨by omega, by omega⟩, by omega, by omega, by omega, by omega, by omega, ⟨by omega, by omega⟩, by omega, by omega, ⟨(i + 1, nx + 1, 0), by dsimp only; omega⟩, ⟨Nat.le_refl _, ?_, by dsimp only; omega⟩, by dsimp only; omega⟩
          dsimp only
          rw [hsn]
          simp only [List.append_nil, List.append_assoc]
        | false =>
          rw [if_neg (by simp)] at hsn htl
          simp only [List.length_append] at htl
          refine AW.of hΓ mixed [99999] _ _ _ rfl ?_
          simp only [go_sem, sRefWide, sRefRight, sRefFits, sRefSide, sRefLineI]
          refine ⟨by omega, by omega, by omega, by omega, ⟨by omega, by omega⟩, by omega, by omega, by omega, by omega, by omega, ⟨by omega, by omega⟩, by omega, by omega, ⟨(i + 1, nx + 1, 0), by dsimp only; omega⟩, ⟨Nat.le_refl _, ?_, by dsimp only; omega⟩, by dsimp only; omega⟩
          dsimp only
          rw [hsn]
          simp only [List.append_nil, List.append_assoc]
    · obtain rfl : i = d.length := by omega
      rw [List.take_length]
theorem printP_len (w : Int) (p : Pt) : (printP w p).length ≤ 4 * w.toNat + lenP p + 15 := by
  obtain ⟨ll, bl, rl, h, x, lf, b, r, hb⟩ := p
  unfold printP lenP
  simp only [hkP, txP]
  have h1 := lineM_len (60, false, ll) w
  have h2 := lineM_len (124, lackM lf, bl) w
  have h3 := lineM_len (61, lackM b, []) w
  have h4 := lineM_len (62, lackM r, rl) w
  have h5 := lineM_len (61, lackM lf, []) w
  have h6 := sideM_len lf
  have h7 := sideM_len b
  have h8 := sideM_len r
  simp only at h1 h2 h3 h4 h5
  simp only [List.length_nil] at h3 h5
  by_cases hh : h = true
  · rw [if_pos hh]
    by_cases hh2 : hb = true
    · rw [if_pos hh2]
      simp only [List.length_append]
      omega
    · rw [if_neg hh2]
      simp only [List.length_append]
      omega
  · rw [if_neg hh]
    omega
theorem printL_len (w : Int) : ∀ (d : List Pt), (printL w d).length ≤ d.length * (4 * w.toNat + 15) + sumP d
  | [] => by simp [printL]
  | p :: d => by
    have h1 := printL_len w d
    have h2 := printP_len w p
    have e : sumP (p :: d) = lenP p + sumP d := by simp [sumP]
    have e2 : printL w (p :: d) = printP w p ++ printL w d := by simp [printL]
    rw [e2, List.length_append, e, List.length_cons, Nat.succ_mul]
    omega
end Go.Proofs.YtjfmigpahglajaaGreatDoor
set_option linter.unusedSimpArgs false
set_option linter.unusedVariables false
set_option maxRecDepth 100000
namespace Go.Proofs.YtjfmigpahglajaaGreatDoor
open Go
theorem splitL_app {a : BS} (b : BS) (h : a = [] ∨ endsL a = true) : splitL (a ++ b) = splitL a ++ splitL b := by
  induction a with
  | nil => rfl
  | cons x a ih =>
    by_cases ha : a = []
    · subst ha
      have hx : x = 10 := by
        rcases h with h | h
        · cases h
        · simpa [endsL] using h
      subst hx
      rfl
    · have h' : endsL a = true := by
        rcases h with h | h
        · cases h
        · unfold endsL at h ⊢
          rw [List.getLast?_cons_of_ne_nil ha] at h
          exact h
      have := ih (.inr h')
      rw [List.cons_append]
      simp only [splitL]
      by_cases hx : x = 10
      · rw [if_pos hx, if_pos hx, this]
        rfl
      · rw [if_neg hx, if_neg hx, this]
        cases hs : splitL a with
        | nil =>
          have := splitL_flat a
          rw [hs] at this
          exact absurd this.symm ha
        | cons y ys => rfl
theorem longL_mem {l : List BS} {x : BS} (h : x ∈ l) : runL x ≤ longL l := by
  have key : ∀ (l : List BS) (n : Nat), (∀ x ∈ l, runL x ≤ l.foldl (fun n x => max n (runL x)) n) ∧ n ≤ l.foldl (fun n x => max n (runL x)) n := by
    intro l
    induction l with
    | nil => intro n; exact ⟨fun x h => by simp at h, Nat.le_refl _⟩
    | cons y l ih =>
      intro n
      obtain ⟨h1, h2⟩ := ih (max n (runL y))
      refine ⟨fun x hx => ?_, Nat.le_trans (Nat.le_max_left ..) h2⟩
      rcases List.mem_cons.1 hx with rfl | hx
      · exact Nat.le_trans (Nat.le_max_right ..) h2
      · exact h1 x hx
  exact (key l 0).1 x h
end Go.Proofs.YtjfmigpahglajaaGreatDoor
set_option linter.unusedVariables false
namespace Go.Proofs.YtjfmigpahglajaaGreatDoor
section
variable (a b : List Int)
def nextR (x : Int) (prev : Nat → Nat) : Nat → Nat
  | 0 => 0
  | k + 1 => if x = b.getD k 0 then prev k + 1 else max (prev (k + 1)) (nextR x prev k)
def tabL : Nat → Nat → Nat
  | 0 => fun _ => 0
  | i + 1 => nextR b (a.getD i 0) (tabL i)
end
section
variable {a b : List Int}
theorem tabL_0 (k : Nat) : tabL a b 0 k = 0 := rfl
theorem tabL_i0 (i : Nat) : tabL a b i 0 = 0 := by cases i <;> rfl
theorem tabL_eq {i k : Nat} (h : a.getD i 0 = b.getD k 0) : tabL a b (i + 1) (k + 1) = tabL a b i k + 1 := by
  show nextR b (a.getD i 0) (tabL a b i) (k + 1) = _
  rw [nextR, if_pos h]
theorem tabL_ne {i k : Nat} (h : a.getD i 0 ≠ b.getD k 0) : tabL a b (i + 1) (k + 1) = max (tabL a b i (k + 1)) (tabL a b (i + 1) k) := by
  show nextR b (a.getD i 0) (tabL a b i) (k + 1) = _
  rw [nextR, if_neg h]
  rfl
theorem tabL_steps : ∀ (n i k : Nat), i + k ≤ n → tabL a b i k ≤ tabL a b (i + 1) k ∧ tabL a b (i + 1) k ≤ tabL a b i k + 1 ∧ tabL a b i k ≤ tabL a b i (k + 1) ∧ tabL a b i (k + 1) ≤ tabL a b i k + 1
  | n, i, k, hn => by
    have hB : ∀ i k, i + k ≤ n → tabL a b i k ≤ tabL a b i (k + 1) ∧ tabL a b i (k + 1) ≤ tabL a b i k + 1 := by
      intro i k hik
      cases i with
      | zero => simp [tabL_0]
      | succ i =>
        cases n with
        | zero => omega
        | succ n =>
          have h1 := tabL_steps n i k (by omega)
          by_cases h : a.getD i 0 = b.getD k 0
          · rw [tabL_eq h]; omega
          · rw [tabL_ne h]; omega
    have hA : tabL a b i k ≤ tabL a b (i + 1) k ∧ tabL a b (i + 1) k ≤ tabL a b i k + 1 := by
      cases k with
      | zero => simp [tabL_i0]
      | succ k =>
        cases n with
        | zero => omega
        | succ n =>
          have h1 := tabL_steps n i k (by omega)
          by_cases h : a.getD i 0 = b.getD k 0
          · rw [tabL_eq h]; omega
          · have h2 := hB i k (by omega)
            rw [tabL_ne h]; omega
    exact ⟨hA.1, hA.2, hB i k hn⟩
theorem tabL_right (i k : Nat) : tabL a b i k ≤ tabL a b (i + 1) k ∧ tabL a b (i + 1) k ≤ tabL a b i k + 1 := ⟨(tabL_steps _ i k (Nat.le_refl _)).1, (tabL_steps _ i k (Nat.le_refl _)).2.1⟩
theorem tabL_down (i k : Nat) : tabL a b i k ≤ tabL a b i (k + 1) ∧ tabL a b i (k + 1) ≤ tabL a b i k + 1 := (tabL_steps _ i k (Nat.le_refl _)).2.2
theorem tabL_diag (i k : Nat) : tabL a b (i + 1) (k + 1) ≤ tabL a b i k + 1 := by
  by_cases h : a.getD i 0 = b.getD k 0
  · rw [tabL_eq h]; omega
  · rw [tabL_ne h]
    have := tabL_right (a := a) (b := b) i k
    have := tabL_down (a := a) (b := b) i k
    omega
theorem tabL_le (i k : Nat) : tabL a b i k ≤ i ∧ tabL a b i k ≤ k := by
  induction i with
  | zero => simp [tabL_0]
  | succ i ih =>
    constructor
    · have := (tabL_right (a := a) (b := b) i k).2; omega
    · clear ih
      induction k with
      | zero => simp [tabL_i0]
      | succ k ih => have := (tabL_down (a := a) (b := b) (i + 1) k).2; omega
end
theorem sub_snoc {c l : List Int} {z : Int} (h : c.Sublist (l ++ [z])) : c.Sublist l ∨ ∃ d, c = d ++ [z] ∧ d.Sublist l := by
  rw [List.sublist_append_iff] at h
  obtain ⟨c1, c2, rfl, h1, h2⟩ := h
  cases c2 with
  | nil => exact .inl (by simpa using h1)
  | cons y r =>
    have hl := h2.length_le
    simp only [List.length_cons, List.length_nil] at hl
    have hr : r = [] := List.length_eq_zero_iff.1 (by omega)
    subst hr
    have hy : y = z := by
      have := h2.subset (List.mem_cons_self ..)
      simpa using this
    subst hy
    exact .inr ⟨c1, rfl, h1⟩
theorem take_snoc' {l : List Int} {i : Nat} (h : i < l.length) : l.take (i + 1) = l.take i ++ [l.getD i 0] := by
  rw [List.take_add_one, gd_lt _ _ h]; simp [h]
section
variable {a b : List Int}
theorem tabL_max : ∀ (n i k : Nat), i + k ≤ n → i ≤ a.length → k ≤ b.length → ∀ c : List Int, c.Sublist (a.take i) → c.Sublist (b.take k) → c.length ≤ tabL a b i k
  | n, 0, k, _, _, _, c, h1, _ => by simp at h1; simp [h1]
  | n, i + 1, 0, _, _, _, c, _, h2 => by simp at h2; simp [h2]
  | 0, i + 1, k + 1, hn, _, _, _, _, _ => by omega
  | n + 1, i + 1, k + 1, hn, hi, hk, c, h1, h2 => by
    have h1' := h1
    have h2' := h2
    rw [take_snoc' (by omega)] at h1 h2
    by_cases h : a.getD i 0 = b.getD k 0
    · rw [tabL_eq h]
      have d1 : c.dropLast.Sublist (a.take i) := by
        rcases sub_snoc h1 with h | ⟨d, rfl, h⟩
        · exact (List.dropLast_sublist c).trans h
        · simpa using h
      have d2 : c.dropLast.Sublist (b.take k) := by
        rcases sub_snoc h2 with h | ⟨d, rfl, h⟩
        · exact (List.dropLast_sublist c).trans h
        · simpa using h
      have := tabL_max n i k (by omega) (by omega) (by omega) _ d1 d2
      simp at this
      omega
    · rw [tabL_ne h]
      rcases sub_snoc h1 with g1 | ⟨d, rfl, g1⟩
      · have := tabL_max n i (k + 1) (by omega) (by omega) hk c g1 h2'
        omega
      · rcases sub_snoc h2 with g2 | ⟨e, he, g2⟩
        · have := tabL_max n (i + 1) k (by omega) hi (by omega) _ h1' g2
          omega
        · have := List.append_inj' he rfl
          simp at this
          exact absurd this.2 h
theorem tabL_some : ∀ (n i k : Nat), i + k ≤ n → i ≤ a.length → k ≤ b.length → ∃ c : List Int, c.Sublist (a.take i) ∧ c.Sublist (b.take k) ∧ c.length = tabL a b i k
  | n, 0, k, _, _, _ => ⟨[], by simp, by simp, rfl⟩
  | n, i + 1, 0, _, _, _ => ⟨[], by simp, by simp, by simp [tabL_i0]⟩
  | 0, i + 1, k + 1, hn, _, _ => by omega
  | n + 1, i + 1, k + 1, hn, hi, hk => by
    by_cases h : a.getD i 0 = b.getD k 0
    · obtain ⟨c, h1, h2, h3⟩ := tabL_some n i k (by omega) (by omega) (by omega)
      refine ⟨c ++ [a.getD i 0], ?_, ?_, ?_⟩
      · rw [take_snoc' (by omega)]; exact h1.append (List.Sublist.refl _)
      · rw [take_snoc' (by omega), h]; exact h2.append (List.Sublist.refl _)
      · rw [tabL_eq h]; simp [h3]
    · rw [tabL_ne h]
      rcases Nat.le_total (tabL a b i (k + 1)) (tabL a b (i + 1) k) with g | g
      · obtain ⟨c, h1, h2, h3⟩ := tabL_some n (i + 1) k (by omega) hi (by omega)
        refine ⟨c, h1, ?_, by omega⟩
        rw [take_snoc' (by omega)]
        exact h2.trans (List.sublist_append_left _ _)
      · obtain ⟨c, h1, h2, h3⟩ := tabL_some n i (k + 1) (by omega) (by omega) hk
        refine ⟨c, ?_, h2, by omega⟩
        rw [take_snoc' (by omega)]
        exact h1.trans (List.sublist_append_left _ _)
end
def lcsN (a b : List Int) : Nat := tabL a b a.length b.length
theorem lcsN_max {a b c : List Int} (h1 : c.Sublist a) (h2 : c.Sublist b) : c.length ≤ lcsN a b :=
  tabL_max _ _ _ (Nat.le_refl _) (Nat.le_refl _) (Nat.le_refl _) c (by simpa using h1) (by simpa using h2)
theorem lcsN_some (a b : List Int) : ∃ c : List Int, c.Sublist a ∧ c.Sublist b ∧ c.length = lcsN a b := by
  obtain ⟨c, h1, h2, h3⟩ := tabL_some (a := a) (b := b) _ _ _ (Nat.le_refl _) (Nat.le_refl _) (Nat.le_refl _)
  exact ⟨c, by simpa using h1, by simpa using h2, h3⟩
theorem lcsN_eq {a b : List Int} {v : Nat} (h : ∃ c : List Int, c.Sublist a ∧ c.Sublist b ∧ c.length = v) (k : ∀ c : List Int, c.Sublist a → c.Sublist b → c.length ≤ v) : lcsN a b = v := by
  obtain ⟨c, h1, h2, h3⟩ := h
  obtain ⟨e, g1, g2, g3⟩ := lcsN_some a b
  have := lcsN_max h1 h2
  have := k e g1 g2
  omega
theorem tabL_lcs {a b : List Int} {i k : Nat} (hi : i ≤ a.length) (hk : k ≤ b.length) : tabL a b i k = lcsN (a.take i) (b.take k) := by
  refine (lcsN_eq ?_ ?_).symm
  · exact tabL_some _ _ _ (Nat.le_refl _) hi hk
  · exact tabL_max _ _ _ (Nat.le_refl _) hi hk
theorem lcsN_comm (a b : List Int) : lcsN a b = lcsN b a := by
  obtain ⟨c, h1, h2, h3⟩ := lcsN_some b a
  refine lcsN_eq ⟨c, h2, h1, h3⟩ fun c h1 h2 => lcsN_max h2 h1
theorem lcsN_rev (a b : List Int) : lcsN a.reverse b.reverse = lcsN a b := by
  obtain ⟨c, h1, h2, h3⟩ := lcsN_some a b
  refine lcsN_eq ⟨c.reverse, h1.reverse, h2.reverse, by simpa using h3⟩ fun c h1 h2 => ?_
  have := lcsN_max (c := c.reverse) (by simpa using h1.reverse) (by simpa using h2.reverse)
  simpa using this
theorem lcsN_append (a a' b b' : List Int) : lcsN a b + lcsN a' b' ≤ lcsN (a ++ a') (b ++ b') := by
  obtain ⟨c, h1, h2, h3⟩ := lcsN_some a b
  obtain ⟨d, g1, g2, g3⟩ := lcsN_some a' b'
  have := lcsN_max (h1.append g1) (h2.append g2)
  simp at this
  omega
theorem lcsN_nil (b : List Int) : lcsN [] b = 0 := by
  refine lcsN_eq ⟨[], by simp, by simp, rfl⟩ fun c h1 _ => ?_
  have := h1.length_le
  simpa using this
theorem lcsN_nil' (b : List Int) : lcsN b [] = 0 := by rw [lcsN_comm, lcsN_nil]
theorem lcsN_le (a b : List Int) : lcsN a b ≤ a.length ∧ lcsN a b ≤ b.length := tabL_le _ _
theorem lcsN_cons (x : Int) (a b : List Int) : lcsN (x :: a) (x :: b) = lcsN a b + 1 := by
  obtain ⟨c, h1, h2, h3⟩ := lcsN_some a b
  refine lcsN_eq ⟨x :: c, h1.cons_cons x, h2.cons_cons x, by simp [h3]⟩ fun c h1 h2 => ?_
  have t1 : c.tail.Sublist a := by
    cases c with
    | nil => simp
    | cons y c =>
      rcases List.sublist_cons_iff.1 h1 with h | ⟨r, e, h⟩
      · exact (List.tail_sublist _).trans h
      · injection e with _ e; subst e; exact h
  have t2 : c.tail.Sublist b := by
    cases c with
    | nil => simp
    | cons y c =>
      rcases List.sublist_cons_iff.1 h2 with h | ⟨r, e, h⟩
      · exact (List.tail_sublist _).trans h
      · injection e with _ e; subst e; exact h
  have := lcsN_max t1 t2
  simp at this
  omega
theorem lcsN_ahead (p a b : List Int) : lcsN (p ++ a) (p ++ b) = p.length + lcsN a b := by
  induction p with
  | nil => simp
  | cons x p ih => simp only [List.cons_append, lcsN_cons, ih, List.length_cons]; omega
theorem lcsN_behind (p a b : List Int) : lcsN (a ++ p) (b ++ p) = lcsN a b + p.length := by
  rw [← lcsN_rev, List.reverse_append, List.reverse_append, lcsN_ahead, lcsN_rev]
  simp; omega
end Go.Proofs.YtjfmigpahglajaaGreatDoor
set_option linter.unusedVariables false
namespace Go.Proofs.YtjfmigpahglajaaGreatDoor
section
variable (a b : List Int)
def dst (x y : Nat) : Int := (x : Int) + y - 2 * tabL a b x y
def onD (e : Nat) (k : Int) (x : Int) : Prop := 0 ≤ x ∧ k ≤ x ∧ x ≤ a.length ∧ x - k ≤ b.length ∧ dst a b x.toNat (x - k).toNat < e
def topD (e : Nat) (k : Int) (v : Int) : Prop := (v = -1 ∧ ∀ x, ¬ onD a b e k x) ∨ (onD a b e k v ∧ ∀ x, onD a b e k x → x ≤ v)
end
section
variable {a b : List Int}
theorem dst_right (x y : Nat) : dst a b (x + 1) y ≤ dst a b x y + 1 ∧ dst a b x y ≤ dst a b (x + 1) y + 1 := by
  have := tabL_right (a := a) (b := b) x y
  simp only [dst]; omega
theorem dst_down (x y : Nat) : dst a b x (y + 1) ≤ dst a b x y + 1 ∧ dst a b x y ≤ dst a b x (y + 1) + 1 := by
  have := tabL_down (a := a) (b := b) x y
  simp only [dst]; omega
theorem dst_diag (x y : Nat) : dst a b x y ≤ dst a b (x + 1) (y + 1) := by
  have := tabL_diag (a := a) (b := b) x y
  simp only [dst]; omega
theorem dst_eq {x y : Nat} (h : a.getD x 0 = b.getD y 0) : dst a b (x + 1) (y + 1) = dst a b x y := by
  simp only [dst, tabL_eq h]; omega
theorem dst_ne {x y : Nat} (h : a.getD x 0 ≠ b.getD y 0) : dst a b (x + 1) (y + 1) = dst a b x (y + 1) + 1 ∨ dst a b (x + 1) (y + 1) = dst a b (x + 1) y + 1 := by
  simp only [dst, tabL_ne h]; omega
theorem dst_nonneg (x y : Nat) : 0 ≤ dst a b x y := by
  have := tabL_le (a := a) (b := b) x y
  simp only [dst]; omega
theorem dst_abs (x y : Nat) : (x : Int) - y ≤ dst a b x y ∧ (y : Int) - x ≤ dst a b x y := by
  have := tabL_le (a := a) (b := b) x y
  simp only [dst]; omega
theorem dst_0 (y : Nat) : dst a b 0 y = y := by simp [dst, tabL_0]
theorem dst_i0 (x : Nat) : dst a b x 0 = x := by simp [dst, tabL_i0]
theorem onD_less {e : Nat} {k x : Int} (h : onD a b e k (x + 1)) (h0 : 0 ≤ x) (hk : k ≤ x) : onD a b e k x := by
  obtain ⟨h1, h2, h3, h4, h5⟩ := h
  refine ⟨h0, hk, by omega, by omega, ?_⟩
  have e1 : (x + 1).toNat = x.toNat + 1 := by omega
  have e2 : (x + 1 - k).toNat = (x - k).toNat + 1 := by omega
  rw [e1, e2] at h5
  have := dst_diag (a := a) (b := b) x.toNat (x - k).toNat
  omega
theorem onD_down {e : Nat} {k : Int} : ∀ (n : Nat) (x y : Int), (x - y).toNat ≤ n → y ≤ x → onD a b e k x → 0 ≤ y → k ≤ y → onD a b e k y
  | 0, x, y, hn, hy, h, _, _ => by
    have : y = x := by omega
    subst this; exact h
  | n + 1, x, y, hn, hy, h, h0, hk => by
    rcases Int.lt_or_eq_of_le hy with g | g
    · exact onD_down n (x - 1) y (by omega) (by omega) (onD_less (by simpa using h) (by omega) (by omega)) h0 hk
    · subst g; exact h
theorem onD_le {e : Nat} {k x y : Int} (hy : y ≤ x) (h : onD a b e k x) (h0 : 0 ≤ y) (hk : k ≤ y) : onD a b e k y := onD_down _ x y (Nat.le_refl _) hy h h0 hk
theorem topD_ge {e : Nat} {k v x : Int} (h : topD a b e k v) (hx : onD a b e k x) : x ≤ v := by
  rcases h with ⟨_, h⟩ | ⟨_, h⟩
  · exact absurd hx (h x)
  · exact h x hx
theorem topD_on {e : Nat} {k v : Int} (h : topD a b e k v) (hv : 0 ≤ v) : onD a b e k v := by
  rcases h with ⟨h, _⟩ | ⟨h, _⟩
  · omega
  · exact h
theorem topD_m1 {e : Nat} {k v : Int} (h : topD a b e k v) : -1 ≤ v := by
  rcases h with ⟨h, _⟩ | ⟨h, _⟩
  · omega
  · have := h.1; omega
def startD (a b : List Int) (u v k : Int) : Int := min (min (max (u + 1) v) a.length) (b.length + k)
theorem start_ok {d : Nat} {k u v : Int} (hk : -(b.length : Int) ≤ k ∧ k ≤ a.length) (hd : -(d : Int) ≤ k ∧ k ≤ d) (hu : topD a b d (k - 1) u) (hv : topD a b d (k + 1) v) :
    0 ≤ startD a b u v k ∧ k ≤ startD a b u v k ∧ startD a b u v k ≤ a.length ∧ startD a b u v k - k ≤ b.length ∧ onD a b (d + 1) k (startD a b u v k) := by
  have hu1 := topD_m1 hu
  have hv1 := topD_m1 hv
  have hup : 0 < k → k - 1 ≤ u := fun h => by
    refine topD_ge hu ⟨by omega, by omega, by omega, by omega, ?_⟩
    have e : (k - 1 - (k - 1)).toNat = 0 := by omega
    rw [e, dst_i0]
    omega
  have h0 : 0 ≤ startD a b u v k := by unfold startD; omega
  have h1 : k ≤ startD a b u v k := by
    rcases Int.lt_or_le 0 k with h | h
    · have := hup h; unfold startD; omega
    · omega
  have h2 : startD a b u v k ≤ a.length := by unfold startD; omega
  have h3 : startD a b u v k - k ≤ b.length := by unfold startD; omega
  refine ⟨h0, h1, h2, h3, h0, h1, h2, h3, ?_⟩
  rcases Int.le_total v (u + 1) with hw | hw
  · -- from the diagonal below
    rcases Int.lt_or_le u 0 with hu0 | hu0
    · have hk0 : k ≤ 0 := by
        rcases Int.lt_or_le 0 k with h | h
        · have := hup h; omega
        · exact h
      have e : startD a b u v k = 0 := by unfold startD; omega
      rw [e]
      show dst a b 0 _ < _
      rw [dst_0]
      omega
    · obtain ⟨g1, g2, g3, g4, g5⟩ := topD_on hu hu0
      rcases Int.lt_or_le u a.length with hn | hn
      · have e : startD a b u v k = u + 1 := by unfold startD; omega
        have e1 : (u + 1).toNat = u.toNat + 1 := by omega
        have e2 : (u + 1 - k).toNat = (u - (k - 1)).toNat := by omega
        rw [e, e1, e2]
        have := (dst_right (a := a) (b := b) u.toNat (u - (k - 1)).toNat).1
        omega
      · have e : startD a b u v k = u := by unfold startD; omega
        have e2 : (u - (k - 1)).toNat = (u - k).toNat + 1 := by omega
        rw [e]
        rw [e2] at g5
        have := (dst_down (a := a) (b := b) u.toNat (u - k).toNat).2
        omega
  · -- from the diagonal above
    obtain ⟨g1, g2, g3, g4, g5⟩ := topD_on hv (by omega)
    rcases Int.lt_or_le (v - k) (b.length + 1) with hm | hm
    · have e : startD a b u v k = v := by unfold startD; omega
      have e2 : (v - k).toNat = (v - (k + 1)).toNat + 1 := by omega
      rw [e, e2]
      have := (dst_down (a := a) (b := b) v.toNat (v - (k + 1)).toNat).1
      omega
    · have e : startD a b u v k = v - 1 := by unfold startD; omega
      have e1 : v.toNat = (v - 1).toNat + 1 := by omega
      have e2 : (v - 1 - k).toNat = (v - (k + 1)).toNat := by omega
      rw [e, e2]
      rw [e1] at g5
      have := (dst_right (a := a) (b := b) (v - 1).toNat (v - (k + 1)).toNat).2
      omega
theorem onD_snake {e : Nat} {k x : Int} (h : onD a b e k x) : ∀ n : Nat, n ≤ ahd (a.drop x.toNat) (b.drop (x - k).toNat) → onD a b e k (x + n)
  | 0, _ => by simpa using h
  | n + 1, hn => by
    obtain ⟨h1, h2, h3, h4, h5⟩ := onD_snake h n (by omega)
    have hs := (ahd_spec (0 : Int) (a.drop x.toNat) (b.drop (x - k).toNat)).1 n (by omega)
    have hl := ahd_le (a.drop x.toNat) (b.drop (x - k).toNat)
    simp only [List.length_drop] at hl
    have hx := h.1
    have hxk := h.2.1
    have e0 : ((n + 1 : Nat) : Int) = (n : Int) + 1 := by omega
    have e1 : (x + (n + 1 : Nat)).toNat = (x + n).toNat + 1 := by omega
    have e2 : (x + (n + 1 : Nat) - k).toNat = (x + n - k).toNat + 1 := by omega
    refine ⟨by omega, by omega, by omega, by omega, ?_⟩
    rw [e1, e2, dst_eq]
    · exact h5
    · have g1 : (a.drop x.toNat).getD n 0 = a.getD (x + n).toNat 0 := by
        have : (x + n).toNat = x.toNat + n := by omega
        simp [List.getD, this]
      have g2 : (b.drop (x - k).toNat).getD n 0 = b.getD (x + n - k).toNat 0 := by
        have : (x + n - k).toNat = (x - k).toNat + n := by omega
        simp [List.getD, this]
      rw [← g1, ← g2]
      exact hs
theorem adv_top {d : Nat} {k u v : Int} (hk : -(b.length : Int) ≤ k ∧ k ≤ a.length) (hd : -(d : Int) ≤ k ∧ k ≤ d) (hu : topD a b d (k - 1) u) (hv : topD a b d (k + 1) v) :
    topD a b (d + 1) k (startD a b u v k + ahd (a.drop (startD a b u v k).toNat) (b.drop (startD a b u v k - k).toNat)) := by
  obtain ⟨h0, h1, h2, h3, h4⟩ := start_ok hk hd hu hv
  have hge : ∀ x : Int, x ≤ a.length → x - k ≤ b.length → x ≤ u + 1 ∨ x ≤ v → x ≤ startD a b u v k := fun x g1 g2 g3 => by unfold startD; omega
  generalize startD a b u v k = x1 at *
  have hs := onD_snake h4 _ (Nat.le_refl _)
  have hstop := (ahd_spec (0 : Int) (a.drop x1.toNat) (b.drop (x1 - k).toNat)).2
  simp only [List.length_drop] at hstop
  generalize hsn : ahd (a.drop x1.toNat) (b.drop (x1 - k).toNat) = s at *
  refine .inr ⟨hs, fun x hx => ?_⟩
  rcases Int.lt_or_le (x1 + s) x with g | g
  · exfalso
    have hn := onD_le (y := x1 + s + 1) (by omega) hx (by omega) (by omega)
    obtain ⟨p1, p2, p3, p4, p5⟩ := hn
    have hne : a.getD (x1 + s).toNat 0 ≠ b.getD (x1 + s - k).toNat 0 := by
      have := hstop (by omega) (by omega)
      have g1 : (a.drop x1.toNat).getD s 0 = a.getD (x1 + s).toNat 0 := by
        have : (x1 + s).toNat = x1.toNat + s := by omega
        simp [List.getD, this]
      have g2 : (b.drop (x1 - k).toNat).getD s 0 = b.getD (x1 + s - k).toNat 0 := by
        have : (x1 + s - k).toNat = (x1 - k).toNat + s := by omega
        simp [List.getD, this]
      rwa [g1, g2] at this
    have e1 : (x1 + s + 1).toNat = (x1 + s).toNat + 1 := by omega
    have e2 : (x1 + s + 1 - k).toNat = (x1 + s - k).toNat + 1 := by omega
    rw [e1, e2] at p5
    rcases dst_ne hne with q | q
    · have : onD a b d (k - 1) (x1 + s) := ⟨by omega, by omega, by omega, by omega, by
        have e3 : (x1 + s - (k - 1)).toNat = (x1 + s - k).toNat + 1 := by omega
        rw [e3]; omega⟩
      have := topD_ge hu this
      have := hge (x1 + s + 1) (by omega) (by omega) (.inl (by omega))
      omega
    · have : onD a b d (k + 1) (x1 + s + 1) := ⟨by omega, by omega, by omega, by omega, by
        have e3 : (x1 + s + 1 - (k + 1)).toNat = (x1 + s - k).toNat := by omega
        rw [e3, e1]; omega⟩
      have := topD_ge hv this
      have := hge (x1 + s + 1) (by omega) (by omega) (.inr (by omega))
      omega
  · exact g
theorem top_parity {e : Nat} {k v : Int} (h : topD a b e k v) (hp : (k - e) % 2 ≠ 0) : topD a b (e + 1) k v := by
  have key : ∀ x, onD a b (e + 1) k x → onD a b e k x := by
    rintro x ⟨h1, h2, h3, h4, h5⟩
    refine ⟨h1, h2, h3, h4, ?_⟩
    have : dst a b x.toNat (x - k).toNat = 2 * x - k - 2 * tabL a b x.toNat (x - k).toNat := by simp only [dst]; omega
    omega
  rcases h with ⟨h, g⟩ | ⟨h, g⟩
  · exact .inl ⟨h, fun x hx => g x (key x hx)⟩
  · obtain ⟨h1, h2, h3, h4, h5⟩ := h
    exact .inr ⟨⟨h1, h2, h3, h4, by omega⟩, fun x hx => g x (key x hx)⟩
theorem top_out {e : Nat} {k : Int} (h : k < -(b.length : Int) ∨ (a.length : Int) < k ∨ (e : Int) ≤ k ∨ (e : Int) ≤ -k) : topD a b e k (-1) := by
  refine .inl ⟨rfl, ?_⟩
  rintro x ⟨h1, h2, h3, h4, h5⟩
  have := dst_abs (a := a) (b := b) x.toNat (x - k).toNat
  omega
end
end Go.Proofs.YtjfmigpahglajaaGreatDoor
set_option linter.unusedVariables false
namespace Go.Proofs.YtjfmigpahglajaaGreatDoor
def rch (m : Nat) (far : List Int) (k : Int) : Int := far.getD (k + m + 1).toNat 0
def advF (a b far : List Int) (k : Int) : Option (Int × List Int) :=
  if 0 ≤ startD a b (rch b.length far (k - 1)) (rch b.length far (k + 1)) k ∧ k ≤ startD a b (rch b.length far (k - 1)) (rch b.length far (k + 1)) k ∧ -(b.length : Int) ≤ k ∧ k ≤ a.length ∧ far.length = a.length + b.length + 3 then
    some (startD a b (rch b.length far (k - 1)) (rch b.length far (k + 1)) k + ahd (a.drop (startD a b (rch b.length far (k - 1)) (rch b.length far (k + 1)) k).toNat) (b.drop (startD a b (rch b.length far (k - 1)) (rch b.length far (k + 1)) k - k).toNat),
      far.set (k + b.length + 1).toNat (startD a b (rch b.length far (k - 1)) (rch b.length far (k + 1)) k + ahd (a.drop (startD a b (rch b.length far (k - 1)) (rch b.length far (k + 1)) k).toNat) (b.drop (startD a b (rch b.length far (k - 1)) (rch b.length far (k + 1)) k - k).toNat)))
  else none
def stepF (a b : List Int) (chk : Bool) (other : List Int) (high : Int) : Nat → Int → List Int → Option (Sum (Int × Int) (List Int))
  | 0, _, _ => none
  | f + 1, k, far => if k ≤ high then
      match advF a b far k with
      | none => none
      | some (x, far') => if chk = true ∧ (a.length : Int) ≤ x + rch b.length other (a.length - b.length - k) then some (.inl (x, x - k)) else stepF a b chk other high f (k + 2) far'
    else some (.inr far)
def lowD (d : Nat) (m : Nat) : Int := if (d : Int) > m then -(m : Int) + ((d : Int) - m).tmod 2 else -(d : Int)
def highD (d : Nat) (n : Nat) : Int := if (d : Int) > n then (n : Int) - ((d : Int) - n).tmod 2 else d
def oddD (n m : Nat) : Bool := decide (((n : Int) - m).tmod 2 ≠ 0)
def midF (a b : List Int) : Nat → Nat → List Int → List Int → Option (Int × Int)
  | 0, _, _, _ => none
  | f + 1, d, fwd, bwd => match stepF a b (oddD a.length b.length) bwd (highD d a.length) (a.length + b.length + 3) (lowD d b.length) fwd with
    | none => none
    | some (.inl p) => some p
    | some (.inr fwd') => match stepF a.reverse b.reverse (!oddD a.length b.length) fwd' (highD d a.length) (a.length + b.length + 3) (lowD d b.length) bwd with
      | none => none
      | some (.inl p) => some (a.length - p.1, b.length - p.2)
      | some (.inr bwd') => midF a b f (d + 1) fwd' bwd'
section
variable {a b : List Int}
theorem rch_set {far : List Int} {m : Nat} {k k' x : Int} (hl : (k + m + 1).toNat < far.length) (h0 : 0 ≤ k + m + 1) (h1 : 0 ≤ k' + m + 1) : rch m (far.set (k + m + 1).toNat x) k' = if k' = k then x else rch m far k' := by
  unfold rch
  by_cases h : k' = k
  · subst h; simp [List.getD, hl]
  · rw [if_neg h]
    have : (k + m + 1).toNat ≠ (k' + m + 1).toNat := by omega
    simp [List.getD, List.getElem?_set_ne this]
def midTop (a b : List Int) (d : Nat) (k : Int) (far : List Int) : Prop :=
  far.length = a.length + b.length + 3 ∧ ∀ k', -(b.length : Int) - 1 ≤ k' → k' ≤ a.length + 1 → topD a b (if (k' - d) % 2 = 0 ∧ k' < k then d + 1 else d) k' (rch b.length far k')
def allTop (a b : List Int) (e : Nat) (far : List Int) : Prop :=
  far.length = a.length + b.length + 3 ∧ ∀ k', -(b.length : Int) - 1 ≤ k' → k' ≤ a.length + 1 → topD a b e k' (rch b.length far k')
theorem tmod2 (n : Int) (h : 0 ≤ n) : n.tmod 2 = n % 2 := by rw [Int.tmod_eq_emod_of_nonneg h]
theorem low_facts (d m : Nat) : -(d : Int) ≤ lowD d m ∧ -(m : Int) ≤ lowD d m ∧ (lowD d m - d) % 2 = 0 ∧ (∀ k : Int, (k - d) % 2 = 0 → -(d : Int) ≤ k → -(m : Int) ≤ k → lowD d m ≤ k) ∧ lowD d m ≤ 1 := by
  unfold lowD
  split
  · rw [tmod2 _ (by omega)]
    refine ⟨by omega, by omega, by omega, fun k h1 h2 h3 => by omega, by omega⟩
  · refine ⟨by omega, by omega, by omega, fun k h1 h2 h3 => by omega, by omega⟩
theorem high_facts (d n : Nat) : highD d n ≤ d ∧ highD d n ≤ n ∧ (highD d n - d) % 2 = 0 ∧ (∀ k : Int, (k - d) % 2 = 0 → k ≤ d → k ≤ n → k ≤ highD d n) := by
  unfold highD
  split
  · rw [tmod2 _ (by omega)]
    refine ⟨by omega, by omega, by omega, fun k h1 h2 h3 => by omega⟩
  · refine ⟨by omega, by omega, by omega, fun k h1 h2 h3 => by omega⟩
theorem top_uniq {e : Nat} {k u v : Int} (h : topD a b e k u) (g : topD a b e k v) : u = v := by
  rcases h with ⟨h1, h2⟩ | ⟨h1, h2⟩
  · rcases g with ⟨g1, g2⟩ | ⟨g1, g2⟩
    · omega
    · exact absurd g1 (h2 v)
  · rcases g with ⟨g1, g2⟩ | ⟨g1, g2⟩
    · exact absurd h1 (g2 u)
    · have := h2 v g1
      have := g2 u h1
      omega
theorem adv_spec {d : Nat} {k : Int} {far : List Int} (h : midTop a b d k far) (hp : (k - d) % 2 = 0) (h1 : -(d : Int) ≤ k ∧ k ≤ d) (h2 : -(b.length : Int) ≤ k ∧ k ≤ a.length) :
    ∃ x far', advF a b far k = some (x, far') ∧ topD a b (d + 1) k x ∧ 0 ≤ x ∧ midTop a b d (k + 2) far' ∧ rch b.length far' k = x := by
  obtain ⟨hl, ht⟩ := h
  have hu := ht (k - 1) (by omega) (by omega)
  rw [if_neg (by omega)] at hu
  have hv := ht (k + 1) (by omega) (by omega)
  rw [if_neg (by omega)] at hv
  obtain ⟨s0, s1, _, _, _⟩ := start_ok h2 h1 hu hv
  have hx := adv_top h2 h1 hu hv
  refine ⟨_, _, if_pos ⟨s0, s1, h2.1, h2.2, hl⟩, hx, by omega, ⟨by simpa using hl, fun k' g1 g2 => ?_⟩, ?_⟩
  · rw [rch_set (by omega) (by omega) (by omega)]
    by_cases e : k' = k
    · subst e
      rw [if_pos rfl, if_pos ⟨hp, by omega⟩]
      exact hx
    · rw [if_neg e]
      have := ht k' g1 g2
      by_cases c : (k' - d) % 2 = 0 ∧ k' < k
      · rw [if_pos c] at this
        rw [if_pos ⟨c.1, by omega⟩]
        exact this
      · rw [if_neg c] at this
        rw [if_neg (by omega)]
        exact this
  · rw [rch_set (by omega) (by omega) (by omega), if_pos rfl]
theorem step_spec {d : Nat} {chk : Bool} {other : List Int} : ∀ (f : Nat) (k : Int) (far : List Int), midTop a b d k far → (k - d) % 2 = 0 → -(d : Int) ≤ k → -(b.length : Int) ≤ k → highD d a.length - k + 3 ≤ f → k ≤ highD d a.length + 2 →
    (∀ k' : Int, (k' - d) % 2 = 0 → lowD d b.length ≤ k' → k' < k → chk = true → ¬ ((a.length : Int) ≤ rch b.length far k' + rch b.length other (a.length - b.length - k'))) →
    (∃ x k', stepF a b chk other (highD d a.length) f k far = some (.inl (x, x - k')) ∧ chk = true ∧ topD a b (d + 1) k' x ∧ 0 ≤ x ∧ -(b.length : Int) ≤ k' ∧ k' ≤ a.length ∧ (a.length : Int) ≤ x + rch b.length other (a.length - b.length - k')) ∨
    (∃ far', stepF a b chk other (highD d a.length) f k far = some (.inr far') ∧ allTop a b (d + 1) far' ∧
      ∀ k' : Int, (k' - d) % 2 = 0 → lowD d b.length ≤ k' → k' ≤ highD d a.length → chk = true → ¬ ((a.length : Int) ≤ rch b.length far' k' + rch b.length other (a.length - b.length - k')))
  | 0, k, far, h, hp, h1, h2, hf, hf2, hno => by omega
  | f + 1, k, far, h, hp, h1, h2, hf, hf2, hno => by
    obtain ⟨g1, g2, g3, g4⟩ := high_facts d a.length
    by_cases hk : k ≤ highD d a.length
    · obtain ⟨x, far', e, hx, hx0, hm, hr⟩ := adv_spec h hp ⟨h1, by omega⟩ ⟨h2, by omega⟩
      have hstep : stepF a b chk other (highD d a.length) (f + 1) k far = if chk = true ∧ (a.length : Int) ≤ x + rch b.length other (a.length - b.length - k) then some (.inl (x, x - k)) else stepF a b chk other (highD d a.length) f (k + 2) far' := by
        rw [stepF, if_pos hk, e]
      by_cases hc : chk = true ∧ (a.length : Int) ≤ x + rch b.length other (a.length - b.length - k)
      · rw [hstep, if_pos hc]
        exact .inl ⟨x, k, rfl, hc.1, hx, hx0, h2, by omega, hc.2⟩
      · rw [hstep, if_neg hc]
        refine step_spec f (k + 2) far' hm (by omega) (by omega) (by omega) (by omega) (by omega) fun k' p1 p2 p3 p4 => ?_
        rcases Int.lt_or_le k' k with q | q
        · have hl := h.1
          have hr' : rch b.length far' k' = rch b.length far k' := by
            unfold advF at e
            split at e
            · simp only [Option.some.injEq, Prod.mk.injEq] at e
              obtain ⟨_, rfl⟩ := e
              have := low_facts d b.length
              rw [rch_set (by omega) (by omega) (by omega), if_neg (by omega)]
            · cases e
          rw [hr']
          exact hno k' p1 p2 q p4
        · have : k' = k := by omega
          subst this
          rw [hr]
          exact fun hh => hc ⟨p4, hh⟩
    · have hstep : stepF a b chk other (highD d a.length) (f + 1) k far = some (.inr far) := by rw [stepF, if_neg hk]
      refine .inr ⟨far, hstep, ⟨h.1, fun k' p1 p2 => ?_⟩, fun k' p1 p2 p3 p4 => hno k' p1 p2 (by omega) p4⟩
      have := h.2 k' p1 p2
      by_cases c : (k' - d) % 2 = 0 ∧ k' < k
      · rw [if_pos c] at this; exact this
      · rw [if_neg c] at this
        by_cases c1 : (k' - d) % 2 = 0
        · -- too far out
          have hge : k ≤ k' := by omega
          have hout : (d : Int) < k' ∨ (a.length : Int) < k' := by
            rcases Int.lt_or_le (d : Int) k' with q | q
            · exact .inl q
            · rcases Int.lt_or_le (a.length : Int) k' with q2 | q2
              · exact .inr q2
              · have := g4 k' c1 q q2; omega
          have e1 := top_uniq this (top_out (a := a) (b := b) (by omega))
          rw [e1]
          exact top_out (by omega)
        · exact top_parity this c1
theorem len_rev (l : List Int) : l.reverse.length = l.length := List.length_reverse
def dstR (a b : List Int) (x y : Nat) : Int := dst a.reverse b.reverse (a.length - x) (b.length - y)
theorem dst_lcs {x y : Nat} (hx : x ≤ a.length) (hy : y ≤ b.length) : dst a b x y = (x : Int) + y - 2 * lcsN (a.take x) (b.take y) := by rw [dst, tabL_lcs hx hy]
theorem dstR_lcs {x y : Nat} (hx : x ≤ a.length) (hy : y ≤ b.length) : dstR a b x y = ((a.length : Int) - x) + (b.length - y) - 2 * lcsN (a.drop x) (b.drop y) := by
  unfold dstR
  rw [dst_lcs (by simp) (by simp), List.take_reverse, List.take_reverse, lcsN_rev]
  have e1 : a.length - (a.length - x) = x := by omega
  have e2 : b.length - (b.length - y) = y := by omega
  rw [e1, e2]
  omega
theorem dst_sum {x y : Nat} (hx : x ≤ a.length) (hy : y ≤ b.length) : dst a b a.length b.length ≤ dst a b x y + dstR a b x y := by
  rw [dst_lcs (Nat.le_refl _) (Nat.le_refl _), dst_lcs hx hy, dstR_lcs hx hy]
  have := lcsN_append (a.take x) (a.drop x) (b.take y) (b.drop y)
  simp only [List.take_append_drop, List.take_length] at this ⊢
  omega
theorem mid_place : ∀ (n i k : Nat), i + k ≤ n → i ≤ a.length → k ≤ b.length → ∀ t : Nat, (t : Int) ≤ dst a b i k → ∃ x y, x ≤ i ∧ y ≤ k ∧ dst a b x y = t ∧ lcsN ((a.take i).drop x) ((b.take k).drop y) + tabL a b x y ≥ tabL a b i k
  | n, 0, k, hn, hi, hk, t, ht => by
    rw [dst_0] at ht
    exact ⟨0, t, Nat.le_refl _, by omega, dst_0 _, by simp [tabL_0]⟩
  | n, i + 1, 0, hn, hi, hk, t, ht => by
    rw [dst_i0] at ht
    exact ⟨t, 0, by omega, Nat.le_refl _, dst_i0 _, by simp [tabL_i0]⟩
  | 0, i + 1, k + 1, hn, _, _, _, _ => by omega
  | n + 1, i + 1, k + 1, hn, hi, hk, t, ht => by
    rcases Int.lt_or_eq_of_le ht with hlt | heq
    · by_cases h : a.getD i 0 = b.getD k 0
      · rw [dst_eq h] at ht hlt
        obtain ⟨x, y, hx, hy, h1, h2⟩ := mid_place n i k (by omega) (by omega) (by omega) t ht
        refine ⟨x, y, by omega, by omega, h1, ?_⟩
        rw [tabL_eq h, take_snoc' (by omega), take_snoc' (by omega), List.drop_append_of_le_length (by simp; omega), List.drop_append_of_le_length (by simp; omega), h, lcsN_behind]
        simp only [List.length_cons, List.length_nil]
        omega
      · rcases dst_ne h with e | e
        · rw [e] at hlt
          obtain ⟨x, y, hx, hy, h1, h2⟩ := mid_place n i (k + 1) (by omega) (by omega) hk t (by omega)
          refine ⟨x, y, by omega, hy, h1, ?_⟩
          have e2 : tabL a b (i + 1) (k + 1) = tabL a b i (k + 1) := by simp only [dst] at e; omega
          rw [e2, take_snoc' (l := a) (by omega), List.drop_append_of_le_length (by simp; omega)]
          have := lcsN_append ((a.take i).drop x) [a.getD i 0] ((b.take (k + 1)).drop y) []
          simp only [List.append_nil, lcsN_nil'] at this
          omega
        · rw [e] at hlt
          obtain ⟨x, y, hx, hy, h1, h2⟩ := mid_place n (i + 1) k (by omega) hi (by omega) t (by omega)
          refine ⟨x, y, hx, by omega, h1, ?_⟩
          have e2 : tabL a b (i + 1) (k + 1) = tabL a b (i + 1) k := by simp only [dst] at e; omega
          rw [e2, take_snoc' (l := b) (by omega), List.drop_append_of_le_length (l₁ := b.take k) (by simp; omega)]
          have := lcsN_append ((a.take (i + 1)).drop x) [] ((b.take k).drop y) [b.getD k 0]
          simp only [List.append_nil, lcsN_nil] at this
          omega
    · refine ⟨i + 1, k + 1, Nat.le_refl _, Nat.le_refl _, heq.symm, ?_⟩
      omega
theorem mid_at (t : Nat) (ht : (t : Int) ≤ dst a b a.length b.length) : ∃ x y, x ≤ a.length ∧ y ≤ b.length ∧ dst a b x y = t ∧ dst a b x y + dstR a b x y = dst a b a.length b.length := by
  obtain ⟨x, y, hx, hy, h1, h2⟩ := mid_place _ a.length b.length (Nat.le_refl _) (Nat.le_refl _) (Nat.le_refl _) t ht
  refine ⟨x, y, hx, hy, h1, ?_⟩
  have := dst_sum hx hy
  rw [dstR_lcs hx hy]
  rw [dstR_lcs hx hy] at this
  simp only [List.take_length] at h2
  simp only [dst] at this ⊢
  omega
theorem meet_at {e1 e2 : Nat} {k x x' : Int} (h1 : topD a b e1 k x) (h2 : topD a.reverse b.reverse e2 (a.length - b.length - k) x') (hx : 0 ≤ x) (hm : (a.length : Int) ≤ x + x') :
    ∃ p q : Nat, (p : Int) = x ∧ (q : Int) = x - k ∧ p ≤ a.length ∧ q ≤ b.length ∧ dst a b p q < e1 ∧ dstR a b p q < e2 := by
  obtain ⟨g1, g2, g3, g4, g5⟩ := topD_on h1 hx
  have hb := topD_on h2 (by omega)
  have hb2 := onD_le (y := a.length - x) (by omega) hb (by omega) (by omega)
  obtain ⟨_, _, _, _, q5⟩ := hb2
  refine ⟨x.toNat, (x - k).toNat, by omega, by omega, by omega, by omega, g5, ?_⟩
  unfold dstR
  have e3 : ((a.length : Int) - x).toNat = a.length - x.toNat := by omega
  have e4 : ((a.length : Int) - x - (a.length - b.length - k)).toNat = b.length - (x - k).toNat := by omega
  rw [e3, e4] at q5
  exact q5
theorem no_meet {d e2 : Nat} {far other : List Int} (hd : allTop a b (d + 1) far) (ho : allTop a.reverse b.reverse e2 other)
    (hno : ∀ k' : Int, (k' - d) % 2 = 0 → lowD d b.length ≤ k' → k' ≤ highD d a.length → ¬ ((a.length : Int) ≤ rch b.length far k' + rch b.length other (a.length - b.length - k'))) (he : e2 = d ∨ e2 = d + 1) :
    dst a b a.length b.length ≠ d + e2 - 1 := by
  intro h
  have hn := dst_nonneg (a := a) (b := b) a.length b.length
  obtain ⟨x, y, hx, hy, h1, h2⟩ := mid_at (a := a) (b := b) d (by omega)
  have hab := dst_abs (a := a) (b := b) x y
  have hpar : ((x : Int) - y - d) % 2 = 0 := by simp only [dst] at h1; omega
  have hlo := (low_facts d b.length).2.2.2.1 (x - y) hpar (by omega) (by omega)
  have hhi := (high_facts d a.length).2.2.2 (x - y) hpar (by omega) (by omega)
  refine hno (x - y) hpar hlo hhi ?_
  have t1 := topD_ge (hd.2 (x - y) (by omega) (by omega)) (x := x) ⟨by omega, by omega, by omega, by omega, by
    have e1 : (x : Int).toNat = x := by omega
    have e2 : ((x : Int) - (x - y)).toNat = y := by omega
    rw [e1, e2]; omega⟩
  have ho2 := ho.2 (a.length - b.length - (x - y)) (by simp only [len_rev]; omega) (by simp only [len_rev]; omega)
  simp only [len_rev] at ho2
  have t2 := topD_ge ho2 (x := a.length - x) ⟨by omega, by omega, by simp only [len_rev]; omega, by simp only [len_rev]; omega, by
    have e3 : ((a.length : Int) - x).toNat = a.length - x := by omega
    have e4 : ((a.length : Int) - x - (a.length - b.length - (x - y))).toNat = b.length - y := by omega
    rw [e3, e4]
    have : dstR a b x y = dst a.reverse b.reverse (a.length - x) (b.length - y) := rfl
    omega⟩
  omega
end
end Go.Proofs.YtjfmigpahglajaaGreatDoor
set_option linter.unusedVariables false
namespace Go.Proofs.YtjfmigpahglajaaGreatDoor
section
variable {a b : List Int}
theorem odd_iff : oddD a.length b.length = true ↔ (dst a b a.length b.length) % 2 = 1 := by
  unfold oddD
  rw [decide_eq_true_eq]
  have h : ((a.length : Int) - b.length).tmod 2 ≠ 0 ↔ ((a.length : Int) - b.length) % 2 ≠ 0 := by
    rw [ne_eq, ne_eq, ← Int.dvd_iff_tmod_eq_zero, ← Int.dvd_iff_emod_eq_zero]
  rw [h]
  simp only [dst]
  omega
theorem dst_rev : dst a.reverse b.reverse a.length b.length = dst a b a.length b.length := by
  have h1 := dst_lcs (a := a) (b := b) (Nat.le_refl _) (Nat.le_refl _)
  have h2 := dst_lcs (a := a.reverse) (b := b.reverse) (x := a.length) (y := b.length) (by simp) (by simp)
  rw [h1, h2, List.take_of_length_le (by simp), List.take_of_length_le (by simp), List.take_length, List.take_length, lcsN_rev]
theorem allTop_mid {d : Nat} {far : List Int} (h : allTop a b d far) : midTop a b d (lowD d b.length) far := by
  refine ⟨h.1, fun k' h1 h2 => ?_⟩
  have := h.2 k' h1 h2
  have hl := low_facts d b.length
  split
  · rename_i c
    rcases Int.lt_or_le k' (-(d : Int)) with g | g
    · rw [top_uniq this (top_out (a := a) (b := b) (by omega))]; exact top_out (by omega)
    · rcases Int.lt_or_le k' (-(b.length : Int)) with g2 | g2
      · rw [top_uniq this (top_out (a := a) (b := b) (by omega))]; exact top_out (by omega)
      · have := hl.2.2.2.1 k' c.1 g g2; omega
  · exact this
theorem mid_spec : ∀ (f d : Nat) (fwd bwd : List Int), allTop a b d fwd → allTop a.reverse b.reverse d bwd →
    ((dst a b a.length b.length) % 2 = 1 → 2 * (d : Int) - 1 ≤ dst a b a.length b.length) → ((dst a b a.length b.length) % 2 = 0 → 2 * (d : Int) ≤ dst a b a.length b.length) → dst a b a.length b.length + 1 < 2 * ((d : Int) + f) →
    ∃ p q : Nat, midF a b f d fwd bwd = some ((p : Int), (q : Int)) ∧ p ≤ a.length ∧ q ≤ b.length ∧ dst a b p q + dstR a b p q = dst a b a.length b.length ∧ dst a b p q ≤ dstR a b p q + 1 ∧ dstR a b p q ≤ dst a b p q
  | 0, d, fwd, bwd, hF, hB, ho, he, hf => by omega
  | f + 1, d, fwd, bwd, hF, hB, ho, he, hf => by
    have hl := low_facts d b.length
    have hh := high_facts d a.length
    have hhge : -1 ≤ highD d a.length := by
      unfold highD
      split
      · rw [tmod2 _ (by omega)]; omega
      · omega
    have hodd := odd_iff (a := a) (b := b)
    rcases step_spec (d := d) (chk := oddD a.length b.length) (other := bwd) (a.length + b.length + 3) (lowD d b.length) fwd (allTop_mid hF) hl.2.2.1 hl.1 hl.2.1 (by omega) (by omega) (fun k' _ _ h _ => by omega) with
      ⟨x, k', e, hc, ht, hx0, k1, k2, hm⟩ | ⟨fwd', e, hF', hno⟩
    · -- met, forth
      have ho1 := hodd.1 hc
      have hb := hB.2 (a.length - b.length - k') (by simp only [len_rev]; omega) (by simp only [len_rev]; omega)
      simp only [len_rev] at hb
      obtain ⟨p, q, hp, hq, p1, q1, g1, g2⟩ := meet_at ht hb hx0 hm
      have hs := dst_sum p1 q1
      have := ho ho1
      refine ⟨p, q, ?_, p1, q1, by omega, by omega, by omega⟩
      rw [midF, e]
      simp only [hp, hq]
    · have hlr := low_facts d b.reverse.length
      have hhr := high_facts d a.reverse.length
      simp only [len_rev] at hlr hhr
      have hl2 : lowD d b.length = lowD d b.reverse.length := by rw [len_rev]
      have hh2 : highD d a.length = highD d a.reverse.length := by rw [len_rev]
      rcases step_spec (a := a.reverse) (b := b.reverse) (d := d) (chk := !oddD a.length b.length) (other := fwd') (a.length + b.length + 3) (lowD d b.reverse.length) bwd (allTop_mid hB) (by simp only [len_rev]; exact hlr.2.2.1) (by simp only [len_rev]; exact hlr.1) (by simp only [len_rev]; exact hlr.2.1)
          (by simp only [len_rev]; omega) (by simp only [len_rev]; omega) (fun k' _ _ h _ => by omega) with
        ⟨x, k', e2, hc, ht, hx0, k1, k2, hm⟩ | ⟨bwd', e2, hB', hno2⟩
      · -- met, back
        simp only [len_rev] at e2 k1 k2 hm
        have hne : ¬ oddD a.length b.length = true := by simpa using hc
        have ho1 : ¬ (dst a b a.length b.length) % 2 = 1 := fun h => hne (hodd.2 h)
        have hb := hF'.2 (a.length - b.length - k') (by omega) (by omega)
        have ht2 : topD a.reverse.reverse b.reverse.reverse (d + 1) (a.reverse.length - b.reverse.length - k') (rch b.length fwd' (a.length - b.length - k')) := by
          simpa using hb
        obtain ⟨p, q, hp, hq, p1, q1, g1, g2⟩ := meet_at ht ht2 hx0 (by simp only [len_rev]; exact hm)
        simp only [len_rev] at p1 q1
        have e3 : dstR a.reverse b.reverse p q = dst a b (a.length - p) (b.length - q) := by
          unfold dstR; simp
        have e4 : dst a.reverse b.reverse p q = dstR a b (a.length - p) (b.length - q) := by
          unfold dstR
          rw [show a.length - (a.length - p) = p by omega, show b.length - (b.length - q) = q by omega]
        rw [e3] at g2
        rw [e4] at g1
        have hs := dst_sum (a := a) (b := b) (x := a.length - p) (y := b.length - q) (by omega) (by omega)
        have := he (by omega)
        refine ⟨a.length - p, b.length - q, ?_, by omega, by omega, by omega, by omega, by omega⟩
        have e2' : stepF a.reverse b.reverse (!oddD a.length b.length) fwd' (highD d a.length) (a.length + b.length + 3) (lowD d b.length) bwd = some (.inl (x, x - k')) := e2
        rw [midF, e]
        simp only
        rw [e2']
        simp only
        congr 2 <;> omega
      · -- none
        simp only [len_rev] at e2
        have hB2 : allTop a.reverse b.reverse (d + 1) bwd' := hB'
        have n1 : oddD a.length b.length = true → dst a b a.length b.length ≠ d + d - 1 := fun hc => by
          have := no_meet (e2 := d) hF' hB (fun k' h1 h2 h3 => hno k' h1 h2 h3 hc) (.inl rfl)
          exact this
        have n2 : oddD a.length b.length = false → dst a b a.length b.length ≠ d + (d + 1) - 1 := fun hc => by
          have hFr : allTop a.reverse.reverse b.reverse.reverse (d + 1) fwd' := by simpa using hF'
          have := no_meet (a := a.reverse) (b := b.reverse) (e2 := d + 1) hB' hFr (fun k' h1 h2 h3 => hno2 k' h1 h2 h3 (by simp [hc])) (.inr rfl)
          simp only [len_rev] at this
          rw [dst_rev] at this
          exact this
        obtain ⟨p, q, g1, g2⟩ := mid_spec f (d + 1) fwd' bwd' hF' hB' (fun h => by
            have := n1 (hodd.2 h)
            have := ho h
            omega) (fun h => by
            have := n2 (by
              cases hc : oddD a.length b.length with
              | false => rfl
              | true => have := hodd.1 hc; omega)
            have := he h
            omega) (by omega)
        refine ⟨p, q, ?_, g2⟩
        rw [midF, e]
        simp only
        rw [e2]
        exact g1
end
end Go.Proofs.YtjfmigpahglajaaGreatDoor
set_option linter.unusedVariables false
namespace Go.Proofs.YtjfmigpahglajaaGreatDoor
def prs (i j : Int) (n : Nat) : List (Int × Int) := (List.range n).map fun r : Nat => (i + (r : Int), j + (r : Int))
def shP (i j : Int) (l : List (Int × Int)) : List (Int × Int) := l.map fun p => (i + p.1, j + p.2)
def startR (n : Nat) : List Int := List.replicate n (-1)
def bh (a b : List Int) : Nat := bhd (a.drop (ahd a b)) (b.drop (ahd a b))
def core (a b : List Int) : List Int := (a.drop (ahd a b)).take (a.length - ahd a b - bh a b)
def coreR (a b : List Int) : List Int := (b.drop (ahd a b)).take (b.length - ahd a b - bh a b)
def cutF (a b : List Int) : Option (Int × Int) := midF a b (a.length + b.length + 1) 0 (startR (a.length + b.length + 3)) (startR (a.length + b.length + 3))
def stepP (g : List Int → List Int → List (Int × Int)) (a b : List Int) : List (Int × Int) :=
  if (core a b).length ≠ 0 ∧ (coreR a b).length ≠ 0 then
    match cutF (core a b) (coreR a b) with
    | none => []
    | some pq =>
      shP (ahd a b) (ahd a b) (g ((core a b).take pq.1.toNat) ((coreR a b).take pq.2.toNat)) ++
      shP (ahd a b + pq.1) (ahd a b + pq.2) (g ((core a b).drop pq.1.toNat) ((coreR a b).drop pq.2.toNat))
  else []
def findF : Nat → List Int → List Int → List (Int × Int)
  | 0, _, _ => []
  | f + 1, a, b => prs 0 0 (ahd a b) ++ (stepP (findF f) a b ++ prs ((a.length : Int) - bh a b) ((b.length : Int) - bh a b) (bh a b))
theorem findF_succ (f : Nat) (a b : List Int) : findF (f + 1) a b = prs 0 0 (ahd a b) ++ (stepP (findF f) a b ++ prs ((a.length : Int) - bh a b) ((b.length : Int) - bh a b) (bh a b)) := rfl
section
variable {a b : List Int}
theorem bh_le : ahd a b + bh a b ≤ a.length ∧ ahd a b + bh a b ≤ b.length := by
  have h1 := ahd_le a b
  have h2 := bhd_le (a.drop (ahd a b)) (b.drop (ahd a b))
  simp only [List.length_drop] at h2
  unfold bh
  omega
theorem core_len : (core a b).length = a.length - ahd a b - bh a b ∧ (coreR a b).length = b.length - ahd a b - bh a b := by
  have := bh_le (a := a) (b := b)
  constructor <;> simp only [core, coreR, List.length_take, List.length_drop] <;> omega
theorem core_split : a = a.take (ahd a b) ++ (core a b ++ a.drop (a.length - bh a b)) := by
  have h := bh_le (a := a) (b := b)
  rw [show a.drop (a.length - bh a b) = (a.drop (ahd a b)).drop (a.length - ahd a b - bh a b) by rw [List.drop_drop]; congr 1; omega]
  rw [core, List.take_append_drop, List.take_append_drop]
theorem coreR_split : b = b.take (ahd a b) ++ (coreR a b ++ b.drop (b.length - bh a b)) := by
  have h := bh_le (a := a) (b := b)
  rw [show b.drop (b.length - bh a b) = (b.drop (ahd a b)).drop (b.length - ahd a b - bh a b) by rw [List.drop_drop]; congr 1; omega]
  rw [coreR, List.take_append_drop, List.take_append_drop]
theorem getD_drop' (l : List Int) (i k : Nat) : (l.drop i).getD k 0 = l.getD (i + k) 0 := by simp [List.getD]
theorem getD_take' (l : List Int) {i k : Nat} (h : k < i) : (l.take i).getD k 0 = l.getD k 0 := by simp [List.getD, h]
theorem heads_same : a.take (ahd a b) = b.take (ahd a b) := by
  have h := bh_le (a := a) (b := b)
  refine list_ext_getD 0 (by simp only [List.length_take]; omega) fun k hk => ?_
  simp only [List.length_take] at hk
  rw [getD_take' _ (by omega), getD_take' _ (by omega)]
  exact (ahd_spec 0 a b).1 k (by omega)
theorem tails_same : a.drop (a.length - bh a b) = b.drop (b.length - bh a b) := by
  have h := bh_le (a := a) (b := b)
  refine list_ext_getD 0 (by simp only [List.length_drop]; omega) fun k hk => ?_
  simp only [List.length_drop] at hk
  rw [getD_drop', getD_drop']
  have := (bhd_spec 0 (a.drop (ahd a b)) (b.drop (ahd a b))).1 (bh a b - 1 - k) (by unfold bh at *; omega)
  simp only [List.length_drop, getD_drop'] at this
  rw [show ahd a b + (a.length - ahd a b - 1 - (bh a b - 1 - k)) = a.length - bh a b + k by omega,
    show ahd a b + (b.length - ahd a b - 1 - (bh a b - 1 - k)) = b.length - bh a b + k by omega] at this
  exact this
theorem core_ends (h1 : (core a b).length ≠ 0) (h2 : (coreR a b).length ≠ 0) :
    (core a b).getD 0 0 ≠ (coreR a b).getD 0 0 ∧ (core a b).getD ((core a b).length - 1) 0 ≠ (coreR a b).getD ((coreR a b).length - 1) 0 := by
  have h := bh_le (a := a) (b := b)
  have hl := core_len (a := a) (b := b)
  rw [hl.1] at h1
  rw [hl.2] at h2
  constructor
  · rw [core, coreR, getD_take' _ (by omega), getD_take' _ (by omega), getD_drop', getD_drop']
    exact (ahd_spec 0 a b).2 (by omega) (by omega)
  · rw [hl.1, hl.2, core, coreR, getD_take' _ (by omega), getD_take' _ (by omega), getD_drop', getD_drop']
    have := (bhd_spec 0 (a.drop (ahd a b)) (b.drop (ahd a b))).2 (by simp only [List.length_drop]; unfold bh at *; omega) (by simp only [List.length_drop]; unfold bh at *; omega)
    simp only [List.length_drop, getD_drop'] at this
    change a.getD (ahd a b + (a.length - ahd a b - 1 - bh a b)) 0 ≠ b.getD (ahd a b + (b.length - ahd a b - 1 - bh a b)) 0 at this
    rw [show a.length - ahd a b - 1 - bh a b = a.length - ahd a b - bh a b - 1 by omega, show b.length - ahd a b - 1 - bh a b = b.length - ahd a b - bh a b - 1 by omega] at this
    exact this
theorem lcs_core : lcsN a b = ahd a b + lcsN (core a b) (coreR a b) + bh a b := by
  have h := bh_le (a := a) (b := b)
  have e1 := core_split (a := a) (b := b)
  have e2 := coreR_split (a := a) (b := b)
  rw [← heads_same, ← tails_same] at e2
  have : lcsN a b = lcsN (a.take (ahd a b) ++ (core a b ++ a.drop (a.length - bh a b))) (a.take (ahd a b) ++ (coreR a b ++ a.drop (a.length - bh a b))) := by
    rw [← e1, ← e2]
  rw [this, lcsN_ahead, lcsN_behind]
  simp only [List.length_take, List.length_drop]
  omega
end
theorem sub_one {a b : List Int} (h : a.Sublist b) (hl : b.length = a.length + 1) : ∃ u v z, a = u ++ v ∧ b = u ++ z :: v := by
  induction h with
  | slnil => simp at hl
  | @cons l1 l2 x h ih =>
    simp only [List.length_cons] at hl
    have := h.eq_of_length (by omega)
    subst this
    exact ⟨[], l1, x, rfl, rfl⟩
  | @cons_cons l1 l2 x h ih =>
    simp only [List.length_cons] at hl
    obtain ⟨u, v, z, e1, e2⟩ := ih (by omega)
    exact ⟨x :: u, v, z, by rw [e1]; rfl, by rw [e2]; rfl⟩
theorem one_end {a b : List Int} (h : a.Sublist b) (hl : b.length = a.length + 1) (h0 : a.length ≠ 0) :
    a.getD 0 0 = b.getD 0 0 ∨ a.getD (a.length - 1) 0 = b.getD (b.length - 1) 0 := by
  obtain ⟨u, v, z, rfl, rfl⟩ := sub_one h hl
  cases u with
  | cons x u => left; rfl
  | nil =>
    right
    simp only [List.nil_append, List.length_cons] at h0 ⊢
    rw [show v.length + 1 - 1 = (v.length - 1) + 1 by omega]
    rfl
theorem two_apart {a b : List Int} (h1 : a.length ≠ 0) (h2 : b.length ≠ 0) (h3 : a.getD 0 0 ≠ b.getD 0 0) (h4 : a.getD (a.length - 1) 0 ≠ b.getD (b.length - 1) 0) :
    2 ≤ dst a b a.length b.length := by
  obtain ⟨c, g1, g2, g3⟩ := lcsN_some a b
  have l1 := g1.length_le
  have l2 := g2.length_le
  have hd : dst a b a.length b.length = (a.length : Int) + b.length - 2 * c.length := by rw [dst, g3]; rfl
  rw [hd]
  by_cases e1 : a.length = c.length
  · have := g1.eq_of_length e1.symm
    subst this
    by_cases e2 : b.length = c.length
    · have := g2.eq_of_length e2.symm
      subst this
      exact absurd rfl h3
    · by_cases e3 : b.length = c.length + 1
      · rcases one_end g2 e3 h1 with g | g
        · exact absurd g h3
        · exact absurd g h4
      · omega
  · by_cases e2 : b.length = c.length
    · have := g2.eq_of_length e2.symm
      subst this
      by_cases e3 : a.length = c.length + 1
      · rcases one_end g1 e3 h2 with g | g
        · exact absurd g.symm h3
        · exact absurd g.symm h4
      · omega
    · omega
theorem start_top (a b : List Int) : allTop a b 0 (startR (a.length + b.length + 3)) := by
  refine ⟨by simp [startR], fun k h1 h2 => .inl ⟨?_, fun x h => ?_⟩⟩
  · unfold rch startR
    simp only [List.getD]
    rw [List.getElem?_replicate, if_pos (by omega)]
    rfl
  · have := h.2.2.2.2
    have := dst_nonneg (a := a) (b := b) x.toNat (x - k).toNat
    omega
theorem cut_spec {a b : List Int} (h1 : a.length ≠ 0) (h2 : b.length ≠ 0) (h3 : a.getD 0 0 ≠ b.getD 0 0) (h4 : a.getD (a.length - 1) 0 ≠ b.getD (b.length - 1) 0) :
    ∃ p q : Nat, cutF a b = some ((p : Int), (q : Int)) ∧ p ≤ a.length ∧ q ≤ b.length ∧ 0 < p + q ∧ p + q < a.length + b.length ∧ lcsN (a.take p) (b.take q) + lcsN (a.drop p) (b.drop q) = lcsN a b := by
  have ht := two_apart h1 h2 h3 h4
  have hle := (tabL_le (a := a) (b := b) a.length b.length)
  have hd : dst a b a.length b.length = (a.length : Int) + b.length - 2 * lcsN a b := rfl
  have s2 := start_top a.reverse b.reverse
  simp only [len_rev] at s2
  obtain ⟨p, q, e, p1, q1, g1, g2, g3⟩ := mid_spec (a := a) (b := b) (a.length + b.length + 1) 0 _ _ (start_top a b) s2 (fun _ => by omega) (fun _ => by omega) (by omega)
  have e1 := dst_lcs (a := a) (b := b) p1 q1
  have e2 := dstR_lcs (a := a) (b := b) p1 q1
  refine ⟨p, q, e, p1, q1, ?_, ?_, by omega⟩
  · have := (lcsN_le (a.take p) (b.take q))
    omega
  · have : ¬ (p = a.length ∧ q = b.length) := fun ⟨x, y⟩ => by
      subst x; subst y
      simp only [List.drop_length, lcsN_nil] at e2
      omega
    omega
def inM (a b : List Int) (p : Int × Int) : Prop := 0 ≤ p.1 ∧ p.1 < a.length ∧ 0 ≤ p.2 ∧ p.2 < b.length ∧ a.getD p.1.toNat 0 = b.getD p.2.toNat 0
def isM (a b : List Int) (l : List (Int × Int)) : Prop := l.Pairwise (fun p q => p.1 < q.1 ∧ p.2 < q.2) ∧ ∀ p ∈ l, inM a b p
theorem isM_nil (a b : List Int) : isM a b [] := ⟨.nil, fun _ h => nomatch h⟩
theorem shP_len (i j : Int) (l : List (Int × Int)) : (shP i j l).length = l.length := by simp [shP]
theorem prs_len (i j : Int) (n : Nat) : (prs i j n).length = n := by simp [prs]
theorem shP_shP (i j i' j' : Int) (l : List (Int × Int)) : shP i j (shP i' j' l) = shP (i + i') (j + j') l := by
  simp only [shP, List.map_map]
  refine List.map_congr_left fun p _ => ?_
  simp only [Function.comp]
  congr 1 <;> omega
theorem shP_app (i j : Int) (l l' : List (Int × Int)) : shP i j (l ++ l') = shP i j l ++ shP i j l' := by simp [shP]
theorem shP_prs (i j i' j' : Int) (n : Nat) : shP i j (prs i' j' n) = prs (i + i') (j + j') n := by
  simp only [shP, prs, List.map_map]
  refine List.map_congr_left fun p _ => ?_
  simp only [Function.comp]
  congr 1 <;> omega
theorem shP_0 (l : List (Int × Int)) : shP 0 0 l = l := by
  simp only [shP, Int.zero_add]
  exact List.map_id l
theorem isM_app {a b a' b' : List Int} {l l' : List (Int × Int)} (h : isM a b l) (h' : isM a' b' l') : isM (a ++ a') (b ++ b') (l ++ shP a.length b.length l') := by
  constructor
  · refine List.pairwise_append.2 ⟨h.1, ?_, fun p hp q hq => ?_⟩
    · exact List.pairwise_map.2 (h'.1.imp fun {p q} hpq => by dsimp only; omega)
    · obtain ⟨r, hr, rfl⟩ := List.mem_map.1 hq
      have h1 := h.2 p hp
      have h2 := h'.2 r hr
      unfold inM at h1 h2
      dsimp only
      omega
  · intro p hp
    rcases List.mem_append.1 hp with hp | hp
    · have h1 := h.2 p hp
      unfold inM at *
      simp only [List.length_append]
      refine ⟨by omega, by omega, by omega, by omega, ?_⟩
      simp only [List.getD]
      rw [List.getElem?_append_left (by omega), List.getElem?_append_left (by omega)]
      exact h1.2.2.2.2
    · obtain ⟨r, hr, rfl⟩ := List.mem_map.1 hp
      have h1 := h'.2 r hr
      unfold inM at *
      simp only [List.length_append]
      refine ⟨by omega, by omega, by omega, by omega, ?_⟩
      simp only [List.getD]
      rw [List.getElem?_append_right (by omega), List.getElem?_append_right (by omega)]
      rw [show (a.length + r.1).toNat - a.length = r.1.toNat by omega, show (b.length + r.2).toNat - b.length = r.2.toNat by omega]
      exact h1.2.2.2.2
theorem isM_prs (a : List Int) : isM a a (prs 0 0 a.length) := by
  constructor
  · refine List.pairwise_map.2 (List.pairwise_lt_range.imp fun {p q} hpq => by dsimp only; omega)
  · intro p hp
    obtain ⟨r, hr, rfl⟩ := List.mem_map.1 hp
    have := List.mem_range.1 hr
    unfold inM
    dsimp only
    refine ⟨by omega, by omega, by omega, by omega, rfl⟩
theorem find_spec : ∀ (f : Nat) (a b : List Int), a.length + b.length < f →
    isM a b (findF f a b) ∧ (findF f a b).length = lcsN a b ∧ ∀ f', a.length + b.length < f' → findF f' a b = findF f a b
  | 0, a, b, h => by omega
  | f + 1, a, b, h => by
    have hb := bh_le (a := a) (b := b)
    have hl := core_len (a := a) (b := b)
    have e1 := core_split (a := a) (b := b)
    have e2 := coreR_split (a := a) (b := b)
    have hh := heads_same (a := a) (b := b)
    have ht := tails_same (a := a) (b := b)
    have hc := lcs_core (a := a) (b := b)
    have key : ∀ m, isM (core a b) (coreR a b) m → isM a b (prs 0 0 (ahd a b) ++ (shP (ahd a b) (ahd a b) m ++ prs ((a.length : Int) - bh a b) ((b.length : Int) - bh a b) (bh a b))) := by
      intro m hm
      have k1 := isM_prs (a.take (ahd a b))
      have k2 := isM_prs (a.drop (a.length - bh a b))
      have k3 := isM_app k1 (isM_app hm k2)
      simp only [List.length_take, List.length_drop, shP_app, shP_prs] at k3
      rw [Nat.min_eq_left (by omega), show a.length - (a.length - bh a b) = bh a b by omega] at k3
      rw [show a.take (ahd a b) ++ (coreR a b ++ a.drop (a.length - bh a b)) = b by rw [hh, ht]; exact e2.symm] at k3
      rw [← e1] at k3
      rw [show ((ahd a b : Nat) : Int) + ((core a b).length + 0) = a.length - bh a b by omega, show ((ahd a b : Nat) : Int) + ((coreR a b).length + 0) = b.length - bh a b by omega] at k3
      exact k3
    by_cases c : (core a b).length ≠ 0 ∧ (coreR a b).length ≠ 0
    · have hce := core_ends c.1 c.2
      obtain ⟨p, q, e, p1, q1, g1, g2, g3⟩ := cut_spec c.1 c.2 hce.1 hce.2
      have r1 := find_spec f ((core a b).take p) ((coreR a b).take q) (by simp only [List.length_take]; omega)
      have r2 := find_spec f ((core a b).drop p) ((coreR a b).drop q) (by simp only [List.length_drop]; omega)
      have ef : ∀ f', findF (f' + 1) a b = prs 0 0 (ahd a b) ++ (shP (ahd a b) (ahd a b) (findF f' ((core a b).take p) ((coreR a b).take q) ++ shP p q (findF f' ((core a b).drop p) ((coreR a b).drop q))) ++ prs ((a.length : Int) - bh a b) ((b.length : Int) - bh a b) (bh a b)) := fun f' => by
        rw [findF_succ, stepP, if_pos c, e]
        simp only [Int.toNat_natCast, shP_app, shP_shP]
      rw [ef]
      refine ⟨key _ ?_, ?_, fun f' hf' => ?_⟩
      · have := isM_app r1.1 r2.1
        simp only [List.length_take] at this
        rw [List.take_append_drop, List.take_append_drop, Nat.min_eq_left p1, Nat.min_eq_left q1] at this
        exact this
      · simp only [List.length_append, prs_len, shP_len, r1.2.1, r2.2.1]
        omega
      · cases f' with
        | zero => omega
        | succ f' =>
          rw [ef, r1.2.2 f' (by simp only [List.length_take]; omega), r2.2.2 f' (by simp only [List.length_drop]; omega)]
    · have ef : ∀ f', findF (f' + 1) a b = prs 0 0 (ahd a b) ++ (shP (ahd a b) (ahd a b) [] ++ prs ((a.length : Int) - bh a b) ((b.length : Int) - bh a b) (bh a b)) := fun f' => by
        rw [findF_succ, stepP, if_neg c]; rfl
      rw [ef]
      refine ⟨key _ (isM_nil _ _), ?_, fun f' hf' => ?_⟩
      · simp only [List.length_append, prs_len, shP_len, List.length_nil]
        rw [hc]
        have : lcsN (core a b) (coreR a b) = 0 := by
          have := lcsN_le (core a b) (coreR a b)
          omega
        omega
      · cases f' with
        | zero => omega
        | succ f' => rw [ef]
end Go.Proofs.YtjfmigpahglajaaGreatDoor
set_option linter.unusedVariables false
namespace Go.Proofs.YtjfmigpahglajaaGreatDoor
def plc (q : Int → Bool) : Int → List Int → List Int
  | _, [] => []
  | i, x :: l => if q x then i :: plc q (i + 1) l else plc q (i + 1) l
def shI (a b : List Int) : List Int := a.filter fun x => b.contains x
def shQ (a b : List Int) : List Int := plc (fun x => b.contains x) 0 a
theorem plc_snoc (q : Int → Bool) (x : Int) : ∀ (i : Int) (l : List Int), plc q i (l ++ [x]) = plc q i l ++ (if q x then [i + l.length] else [])
  | i, [] => by simp [plc]
  | i, y :: l => by
    have := plc_snoc q x (i + 1) l
    simp only [List.cons_append, plc, List.length_cons]
    rw [this, show i + 1 + (l.length : Int) = i + ((l.length + 1 : Nat) : Int) by omega]
    split <;> rfl
theorem plc_len (q : Int → Bool) : ∀ (i : Int) (l : List Int), (plc q i l).length = (l.filter q).length
  | i, [] => rfl
  | i, y :: l => by
    have := plc_len q (i + 1) l
    simp only [plc, List.filter_cons]
    split <;> simp [this]
theorem plc_mem (q : Int → Bool) : ∀ (i : Int) (l : List Int), ∀ p ∈ plc q i l, i ≤ p ∧ p < i + l.length
  | i, [], p, h => nomatch h
  | i, y :: l, p, h => by
    have := plc_mem q (i + 1) l p
    simp only [plc] at h
    simp only [List.length_cons]
    split at h
    · rcases List.mem_cons.1 h with h | h
      · omega
      · have := this h; omega
    · have := this h; omega
theorem plc_rise (q : Int → Bool) : ∀ (i : Int) (l : List Int), (plc q i l).Pairwise (· < ·)
  | i, [] => .nil
  | i, y :: l => by
    have := plc_rise q (i + 1) l
    simp only [plc]
    split
    · exact .cons (fun p hp => by have := plc_mem q (i + 1) l p hp; omega) this
    · exact this
theorem plc_at (q : Int → Bool) : ∀ (i : Int) (l : List Int) (k : Nat), k < (l.filter q).length → l.getD ((plc q i l).getD k 0 - i).toNat 0 = (l.filter q).getD k 0
  | i, [], k, h => by simp at h
  | i, y :: l, k, h => by
    simp only [plc, List.filter_cons] at h ⊢
    split at h
    · rename_i c
      simp only [c, if_true]
      cases k with
      | zero => simp
      | succ k =>
        simp only [List.length_cons] at h
        have := plc_at q (i + 1) l k (by omega)
        have hm := plc_mem q (i + 1) l ((plc q (i + 1) l).getD k 0) (by
          rw [gd_lt _ _ (by rw [plc_len]; omega)]; exact List.getElem_mem _)
        simp only [List.getD_cons_succ]
        rw [show ((plc q (i + 1) l).getD k 0 - i).toNat = ((plc q (i + 1) l).getD k 0 - (i + 1)).toNat + 1 by omega, List.getD_cons_succ]
        exact this
    · rename_i c
      simp only [c]
      have := plc_at q (i + 1) l k h
      have hm := plc_mem q (i + 1) l ((plc q (i + 1) l).getD k 0) (by
        rw [gd_lt _ _ (by rw [plc_len]; omega)]; exact List.getElem_mem _)
      simp only [Bool.false_eq_true, if_false]
      rw [show ((plc q (i + 1) l).getD k 0 - i).toNat = ((plc q (i + 1) l).getD k 0 - (i + 1)).toNat + 1 by omega, List.getD_cons_succ]
      exact this
theorem plc_lt {q : Int → Bool} {i : Int} {l : List Int} {k k' : Nat} (h : k < k') (h' : k' < (l.filter q).length) : (plc q i l).getD k 0 < (plc q i l).getD k' 0 := by
  have := List.pairwise_iff_getElem.1 (plc_rise q i l) k k' (by rw [plc_len]; omega) (by rw [plc_len]; omega) h
  rw [gd_lt _ _ (by rw [plc_len]; omega), gd_lt _ _ (by rw [plc_len]; omega)]
  exact this
def mapM (pa pb : List Int) (l : List (Int × Int)) : List (Int × Int) := l.map fun p => (pa.getD p.1.toNat 0, pb.getD p.2.toNat 0)
def matchF (a b : List Int) : List (Int × Int) := mapM (shQ a b) (shQ b a) (findF ((shI a b).length + (shI b a).length + 1) (shI a b) (shI b a))
theorem lcs_shared (a b : List Int) : lcsN (shI a b) (shI b a) = lcsN a b := by
  obtain ⟨c, h1, h2, h3⟩ := lcsN_some a b
  refine lcsN_eq ⟨c, ?_, ?_, h3⟩ fun d g1 g2 => ?_
  · have := h1.filter fun x => b.contains x
    rwa [List.filter_eq_self.2 fun x hx => by simpa using h2.subset hx] at this
  · have := h2.filter fun x => a.contains x
    rwa [List.filter_eq_self.2 fun x hx => by simpa using h1.subset hx] at this
  · exact lcsN_max (g1.trans List.filter_sublist) (g2.trans List.filter_sublist)
theorem match_spec (a b : List Int) : isM a b (matchF a b) ∧ (matchF a b).length = lcsN a b := by
  have h := find_spec ((shI a b).length + (shI b a).length + 1) (shI a b) (shI b a) (by omega)
  refine ⟨⟨?_, ?_⟩, by simp only [matchF, mapM, List.length_map]; rw [h.2.1, lcs_shared]⟩
  · refine List.pairwise_map.2 (h.1.1.imp_of_mem fun {p q} hp hq hpq => ?_)
    have h1 := h.1.2 p hp
    have h2 := h.1.2 q hq
    unfold inM shI at h1 h2
    exact ⟨plc_lt (by omega) (by omega), plc_lt (by omega) (by omega)⟩
  · intro p hp
    obtain ⟨r, hr, rfl⟩ := List.mem_map.1 hp
    have h1 := h.1.2 r hr
    unfold inM shI at h1
    have ma := plc_mem (fun x => b.contains x) 0 a ((shQ a b).getD r.1.toNat 0) (by
      unfold shQ
      rw [gd_lt _ _ (by rw [plc_len]; omega)]; exact List.getElem_mem _)
    have mb := plc_mem (fun x => a.contains x) 0 b ((shQ b a).getD r.2.toNat 0) (by
      unfold shQ
      rw [gd_lt _ _ (by rw [plc_len]; omega)]; exact List.getElem_mem _)
    have ea := plc_at (fun x => b.contains x) 0 a r.1.toNat (by omega)
    have eb := plc_at (fun x => a.contains x) 0 b r.2.toNat (by omega)
    unfold inM
    dsimp only
    refine ⟨by omega, by omega, by omega, by omega, ?_⟩
    rw [Int.sub_zero] at ea eb
    unfold shQ
    rw [ea, eb]
    exact h1.2.2.2.2
theorem rgt_isM {a b : List Int} : ∀ (l : List (Int × Int)) (u v : Int), isM a b l → (∀ p ∈ l, u < p.1 ∧ v < p.2) → rgt a b u v l = true
  | [], _, _, _, _ => rfl
  | p :: l, u, v, h, hu => by
    have h1 := h.2 p (List.mem_cons_self ..)
    have h2 := hu p (List.mem_cons_self ..)
    unfold inM at h1
    rw [rgt, Bool.and_eq_true, decide_eq_true_eq]
    refine ⟨⟨h2.1, h2.2, h1.2.1, h1.2.2.2.1, h1.2.2.2.2⟩, rgt_isM l _ _ ⟨(List.pairwise_cons.1 h.1).2, fun q hq => h.2 q (List.mem_cons_of_mem _ hq)⟩ fun q hq => (List.pairwise_cons.1 h.1).1 q hq⟩
theorem rgt_match (a b : List Int) : rgt a b (-1) (-1) (matchF a b) = true :=
  rgt_isM _ _ _ (match_spec a b).1 fun p hp => by have := (match_spec a b).1.2 p hp; unfold inM at this; omega
end Go.Proofs.YtjfmigpahglajaaGreatDoor
set_option linter.unusedSimpArgs false
set_option linter.unusedVariables false
namespace Go.Proofs.YtjfmigpahglajaaGreatDoor
theorem num_two (a b : List BS) : ∃ φ : BS → Int, numA a b = a.map φ ∧ numB a b = b.map φ ∧ ∀ x y, (x ∈ a ∨ x ∈ b) → (y ∈ a ∨ y ∈ b) → φ x = φ y → x = y := by
  obtain ⟨φ, e, inj⟩ := num_three a b []
  simp only [numF, List.map_nil, List.cons.injEq] at e
  refine ⟨φ, ?_, ?_, fun x y hx hy => inj x y (hx.elim .inl fun h => .inr (.inl h)) (hy.elim .inl fun h => .inr (.inl h))⟩
  · unfold numA
    simp only [numF, List.getD_cons_zero]
    exact e.1
  · unfold numB
    simp only [numF, List.getD_cons_zero, List.getD_cons_succ]
    exact e.2.1
theorem tab_map {x y : List BS} {φ ψ : BS → Int} (h : ∀ u v, u ∈ x → v ∈ y → (φ u = φ v ↔ ψ u = ψ v)) : ∀ (n i k : Nat), i + k ≤ n → i ≤ x.length → k ≤ y.length → tabL (x.map φ) (y.map φ) i k = tabL (x.map ψ) (y.map ψ) i k
  | _, 0, k, _, _, _ => by rw [tabL_0, tabL_0]
  | _, i + 1, 0, _, _, _ => by rw [tabL_i0, tabL_i0]
  | 0, i + 1, k + 1, hn, _, _ => by omega
  | n + 1, i + 1, k + 1, hn, hi, hk => by
    have e1 := tab_map h n i k (by omega) (by omega) (by omega)
    have e2 := tab_map h n i (k + 1) (by omega) (by omega) hk
    have e3 := tab_map h n (i + 1) k (by omega) hi (by omega)
    have hx := map_getD φ 0 (show i < x.length by omega)
    have hy := map_getD φ 0 (show k < y.length by omega)
    have hx' := map_getD ψ 0 (show i < x.length by omega)
    have hy' := map_getD ψ 0 (show k < y.length by omega)
    have hh := h _ _ (getD_mem (show i < x.length by omega)) (getD_mem (show k < y.length by omega))
    by_cases c : φ (x.getD i []) = φ (y.getD k [])
    · rw [tabL_eq (by rw [hx, hy]; exact c), tabL_eq (by rw [hx', hy']; exact hh.1 c), e1]
    · rw [tabL_ne (by rw [hx, hy]; exact c), tabL_ne (by rw [hx', hy']; exact fun d => c (hh.2 d)), e2, e3]
theorem lcs_map {x y : List BS} {φ ψ : BS → Int} (h : ∀ u v, u ∈ x → v ∈ y → (φ u = φ v ↔ ψ u = ψ v)) : lcsN (x.map φ) (y.map φ) = lcsN (x.map ψ) (y.map ψ) := by
  unfold lcsN
  simp only [List.length_map]
  exact tab_map h _ _ _ (Nat.le_refl _) (Nat.le_refl _) (Nat.le_refl _)
theorem rgt_map {x y : List BS} {φ ψ : BS → Int} (h : ∀ u v, u ∈ x → v ∈ y → (φ u = φ v ↔ ψ u = ψ v)) : ∀ (l : List (Int × Int)) (u v : Int), -1 ≤ u → -1 ≤ v → rgt (x.map φ) (y.map φ) u v l = true → rgt (x.map ψ) (y.map ψ) u v l = true
  | [], _, _, _, _, _ => rfl
  | p :: l, u, v, hu, hv, g => by
    rw [rgt, Bool.and_eq_true, decide_eq_true_eq] at g ⊢
    obtain ⟨⟨g1, g2, g3, g4, g5⟩, g6⟩ := g
    simp only [List.length_map] at g3 g4
    have k1 : p.1.toNat < x.length := by omega
    have k2 : p.2.toNat < y.length := by omega
    rw [map_getD φ 0 k1, map_getD φ 0 k2] at g5
    refine ⟨⟨g1, g2, by simpa using g3, by simpa using g4, ?_⟩, rgt_map h l _ _ (by omega) (by omega) g6⟩
    rw [map_getD ψ 0 k1, map_getD ψ 0 k2]
    exact (h _ _ (getD_mem k1) (getD_mem k2)).1 g5
def prsF (x y : List BS) : List (Int × Int) := matchF (numA x y) (numB x y)
theorem prs_by {x y : List BS} {φ : BS → Int} (inj : ∀ u v, u ∈ x → v ∈ y → φ u = φ v → u = v) : rgt (x.map φ) (y.map φ) (-1) (-1) (prsF x y) = true ∧ (prsF x y).length = lcsN (x.map φ) (y.map φ) := by
  obtain ⟨ψ, e1, e2, i2⟩ := num_two x y
  have h : ∀ u v, u ∈ x → v ∈ y → (ψ u = ψ v ↔ φ u = φ v) := fun u v hu hv => ⟨fun e => by rw [i2 u v (.inl hu) (.inr hv) e], fun e => by rw [inj u v hu hv e]⟩
  unfold prsF
  rw [e1, e2]
  exact ⟨rgt_map h _ _ _ (Int.le_refl _) (Int.le_refl _) (rgt_match _ _), by rw [(match_spec _ _).2, lcs_map h]⟩
theorem prsF_len (x y : List BS) : (prsF x y).length ≤ x.length ∧ (prsF x y).length ≤ y.length := by
  unfold prsF
  rw [(match_spec _ _).2]
  have := lcsN_le (numA x y) (numB x y)
  rw [numA_len, numB_len] at this
  exact this
theorem prs_three (f : Fl) : mtch f (prsF f.1 f.2.1) (prsF f.1 f.2.2) ∧ (prsF f.1 f.2.1).length = lcsN ((numF [] [f.1, f.2.1, f.2.2]).getD 0 []) ((numF [] [f.1, f.2.1, f.2.2]).getD 1 []) ∧ (prsF f.1 f.2.2).length = lcsN ((numF [] [f.1, f.2.1, f.2.2]).getD 0 []) ((numF [] [f.1, f.2.1, f.2.2]).getD 2 []) := by
  obtain ⟨φ, e, inj⟩ := num_three f.1 f.2.1 f.2.2
  have h1 := prs_by (x := f.1) (y := f.2.1) (φ := φ) fun u v hu hv => inj u v (.inl hu) (.inr (.inl hv))
  have h2 := prs_by (x := f.1) (y := f.2.2) (φ := φ) fun u v hu hv => inj u v (.inl hu) (.inr (.inr hv))
  unfold mtch
  rw [e]
  simp only [List.getD_cons_zero, List.getD_cons_succ]
  exact ⟨⟨h1.1, h2.1⟩, h1.2, h2.2⟩
def mrgK (f : Fl) : List Ck := cksF f (prsF f.1 f.2.1) (prsF f.1 f.2.2)
theorem mrg_ch (f : Fl) : chF (0, 0, 0) none (mrgK f) (endP f) := cks_ch (prs_three f).1
theorem mrg_good (f : Fl) : ∀ c ∈ mrgK f, goodC f c := cks_good (prs_three f).1
theorem longL_leM {l : List BS} {n : Nat} (h : ∀ x ∈ l, runL x ≤ n) : longL l ≤ n := by
  unfold longL
  have key : ∀ (l : List BS) (m : Nat), m ≤ n → (∀ x ∈ l, runL x ≤ n) → l.foldl (fun n x => max n (runL x)) m ≤ n := by
    intro l
    induction l with
    | nil => exact fun m hm _ => hm
    | cons x l ih =>
      intro m hm hl
      rw [List.foldl_cons]
      exact ih _ (Nat.max_le.2 ⟨hm, hl x (List.mem_cons_self ..)⟩) fun y hy => hl y (List.mem_cons_of_mem _ hy)
  exact key l 0 (Nat.zero_le _) h
theorem longT_leM {l : List BS} {n : Nat} (h : ∀ s ∈ l, longL (splitL s) ≤ n) : longT l ≤ n := by
  unfold longT
  have key : ∀ (l : List BS) (m : Nat), m ≤ n → (∀ x ∈ l, longL (splitL x) ≤ n) → l.foldl (fun n s => max n (longL (splitL s))) m ≤ n := by
    intro l
    induction l with
    | nil => exact fun m hm _ => hm
    | cons x l ih =>
      intro m hm hl
      rw [List.foldl_cons]
      exact ih _ (Nat.max_le.2 ⟨hm, hl x (List.mem_cons_self ..)⟩) fun y hy => hl y (List.mem_cons_of_mem _ hy)
  exact key l 0 (Nat.zero_le _) h
theorem longT_mem {l : List BS} {s : BS} (h : s ∈ l) : longL (splitL s) ≤ longT l := by
  unfold longT
  have key : ∀ (l : List BS) (m : Nat), m ≤ l.foldl (fun n s => max n (longL (splitL s))) m ∧ ∀ s ∈ l, longL (splitL s) ≤ l.foldl (fun n s => max n (longL (splitL s))) m := by
    intro l
    induction l with
    | nil => exact fun m => ⟨Nat.le_refl _, fun s hs => by simp at hs⟩
    | cons x l ih =>
      intro m
      rw [List.foldl_cons]
      obtain ⟨h1, h2⟩ := ih (max m (longL (splitL x)))
      refine ⟨by omega, fun s hs => ?_⟩
      rcases List.mem_cons.1 hs with rfl | hs
      · omega
      · exact h2 s hs
  exact (key l 0).2 s h
def shrt (m : Nat) (s : BS) : Prop := ∀ x ∈ splitL s, runL x < m
def ftP (m : Nat) (p : Pt) : Prop := ∀ s ∈ fourP p, shrt m s
theorem shrt_nil (m : Nat) : shrt m [] := fun x hx => by simp [splitL] at hx
theorem ft_text {m : Nat} {t : BS} (h : shrt m t) : ftP m (textP t) := by
  intro s hs
  simp only [fourP, textP, List.mem_cons, List.not_mem_nil, or_false] at hs
  rcases hs with rfl | rfl | rfl | rfl
  · exact h
  · exact shrt_nil m
  · exact shrt_nil m
  · exact shrt_nil m
theorem ft_tx {m : Nat} {p : Pt} (h : ftP m p) : shrt m (txP p) := h _ (by simp [fourP, txP])
theorem shrt_app {m : Nat} {a b : BS} (ha : shrt m a) (hb : shrt m b) (he : a = [] ∨ endsL a = true) : shrt m (a ++ b) := by
  intro x hx
  rw [splitL_app b he] at hx
  rcases List.mem_append.1 hx with hx | hx
  · exact ha x hx
  · exact hb x hx
theorem Sr_last {m : List Pt} {q : Pt} (h : SrP (m ++ [q])) (hq : isTextD q = true) : endsL (txP q) = true := by
  have := h m.length (by simp)
  unfold okS at this
  rw [snocPt] at this
  simp only [Bool.and_eq_true, Bool.or_eq_true] at this
  rcases this.2 with h1 | h1
  · rw [conf_noText h1] at hq; cases hq
  · unfold aheadD at h1
    simp only [Bool.and_eq_true, Bool.or_eq_true] at h1
    simpa using h1.2.2
theorem join_ft {m : Nat} {out : List Pt} {p : Pt} (h : ∀ q ∈ out, ftP m q) (hs : SrP out) (hp : ftP m p) : ∀ q ∈ joinR out p, ftP m q := by
  cases ht : isTextD p with
  | false =>
    rw [join_no ht]
    intro q hq
    rcases List.mem_append.1 hq with hq | hq
    · exact h q hq
    · simp only [List.mem_singleton] at hq
      subst hq
      exact hp
  | true =>
    rcases join_cases out p ht with ⟨_, e⟩ | ⟨h0, ⟨n, q, rfl, hq, e⟩ | ⟨hl, e⟩⟩
    · rw [e]; exact h
    · rw [e]
      intro r hr
      rcases List.mem_append.1 hr with hr | hr
      · exact h r (List.mem_append_left _ hr)
      · simp only [List.mem_singleton] at hr
        subst hr
        exact ft_text (shrt_app (ft_tx (h q (by simp))) (ft_tx hp) (.inr (Sr_last hs hq)))
    · rw [e]
      intro q hq
      rcases List.mem_append.1 hq with hq | hq
      · exact h q hq
      · simp only [List.mem_singleton] at hq
        subst hq
        exact hp
theorem fold_ft {m : Nat} : ∀ (l out : List Pt), SrP out → (∀ q ∈ out, ftP m q) → (∀ p ∈ l, confD p = true ∨ (isTextD p = true ∧ (txP p = [] ∨ endsL (txP p) = true))) → (∀ p ∈ l, ftP m p) → ∀ q ∈ l.foldl joinR out, ftP m q
  | [], _, _, h, _, _ => h
  | p :: l, out, hs, h, hl, hf => fold_ft l _ (join_Sr hs (hl p (List.mem_cons_self ..))) (join_ft h hs (hf p (List.mem_cons_self ..))) (fun q hq => hl q (List.mem_cons_of_mem p hq)) fun q hq => hf q (List.mem_cons_of_mem p hq)
theorem of_ft {m : Nat} {l : List Pt} (h2 : ∀ p ∈ l.dropLast, confD p = true ∨ (isTextD p = true ∧ (txP p = [] ∨ endsL (txP p) = true))) (hf : ∀ p ∈ l, ftP m p) : ∀ q ∈ ofD l, ftP m q := by
  rw [ofD_eq]
  rcases l.eq_nil_or_concat with rfl | ⟨n, p, rfl⟩
  · intro q hq; simp at hq
  · rw [List.concat_eq_append] at *
    rw [List.dropLast_concat] at h2
    rw [List.foldl_append]
    exact join_ft (fold_ft n [] (fun i hi => by simp at hi) (fun q hq => by simp at hq) h2 fun q hq => hf q (by simp [hq])) (fold_Sr n [] (fun i hi => by simp at hi) h2) (hf p (by simp))
theorem fits_ft {m : Nat} (hm : 0 < m) {d : List Pt} (h : ∀ p ∈ d, ftP m p) : fitsD d m = true := by
  unfold fitsD
  rw [Bool.and_eq_true, decide_eq_true_eq, decide_eq_true_eq]
  refine ⟨by omega, fun p hp => ?_⟩
  have := longT_leM (l := fourP p) (n := m - 1) fun s hs => longL_leM fun x hx => by
    have := h p hp s hs x hx
    omega
  omega
theorem whole_cut {l : List BS} (h : wholeL l = true) (i j : Nat) (hj : j ≤ l.length) : wholeL (cutL l i j) = true := by
  rw [wholeL_iff] at h ⊢
  intro k hk
  rw [cutL_len' l hj] at hk ⊢
  rw [cutL_at hk hj]
  obtain ⟨h1, h2⟩ := h (i + k) (by omega)
  exact ⟨h1, fun h3 => h2 (by omega)⟩
theorem whole_take {l : List BS} (h : wholeL l = true) {n : Nat} (hn : n ≤ l.length) : wholeL (l.take n) = true := by
  have := whole_cut h 0 n hn
  simpa [cutL] using this
theorem whole_drop {l : List BS} (h : wholeL l = true) (n : Nat) : wholeL (l.drop n) = true := by
  have := whole_cut h n l.length (Nat.le_refl _)
  simpa [cutL] using this
theorem whole_cutS {l : List BS} (h : wholeL l = true) (s : Sp) : wholeL (cutS s l) = true := by
  unfold cutS
  split
  · rfl
  · rename_i hc
    exact whole_cut h _ _ (by omega)
theorem cutS_mem {l : List BS} {s : Sp} {x : BS} (h : x ∈ cutS s l) : x ∈ l := by
  unfold cutS at h
  split at h
  · simp at h
  · exact List.mem_of_mem_take (List.mem_of_mem_drop h)
theorem shrt_whole {m : Nat} {l : List BS} (hw : wholeL l = true) (h : ∀ x ∈ l, runL x < m) : shrt m l.flatten := by
  unfold shrt
  rw [wholeL_split l hw]
  exact h
def shF (m : Nat) (f : Fl) : Prop := (∀ x ∈ f.1, runL x < m) ∧ (∀ x ∈ f.2.1, runL x < m) ∧ ∀ x ∈ f.2.2, runL x < m
theorem ckPs_ft {m : Nat} {f : Fl} (hw : wholeF f) (hs : shF m f) (st : Int) (lb : BS × BS × BS) (v : Int) (c : Ck) : ∀ p ∈ ckPs f st lb v c, ftP m p := by
  have wB : wholeL (cutB f c) = true := whole_cutS hw.1 _
  have wO : wholeL (cutO f c) = true := whole_cutS hw.2.1 _
  have wT : wholeL (cutT f c) = true := whole_cutS hw.2.2 _
  have sB : ∀ x ∈ cutB f c, runL x < m := fun x hx => hs.1 x (cutS_mem hx)
  have sO : ∀ x ∈ cutO f c, runL x < m := fun x hx => hs.2.1 x (cutS_mem hx)
  have sT : ∀ x ∈ cutT f c, runL x < m := fun x hx => hs.2.2 x (cutS_mem hx)
  unfold ckPs
  split
  · have hh := hoist_le st (cutO f c) (cutT f c)
    intro p hp
    simp only [confL, List.mem_cons, List.not_mem_nil, or_false] at hp
    rcases hp with rfl | rfl | rfl
    · exact ft_text (shrt_whole (whole_take wO (by omega)) fun x hx => sO x (List.mem_of_mem_take hx))
    · intro s hs
      simp only [fourP, confP, List.mem_cons, List.not_mem_nil, or_false] at hs
      rcases hs with rfl | rfl | rfl | rfl
      · exact shrt_nil m
      · exact shrt_whole (whole_cut wO _ _ (by omega)) fun x hx => sO x (List.mem_of_mem_take (List.mem_of_mem_drop hx))
      · split
        · exact shrt_nil m
        · exact shrt_whole wB sB
      · exact shrt_whole (whole_cut wT _ _ (by omega)) fun x hx => sT x (List.mem_of_mem_take (List.mem_of_mem_drop hx))
    · exact ft_text (shrt_whole (whole_drop wO _) fun x hx => sO x (List.mem_of_mem_drop hx))
  · intro p hp
    simp only [List.mem_singleton] at hp
    subst hp
    refine ft_text ?_
    unfold sideF
    split
    · exact shrt_whole wB sB
    · split
      · exact shrt_whole wT sT
      · split
        · exact shrt_whole wT sT
        · exact shrt_whole wO sO
theorem doc_fits {m : Nat} (hm : 0 < m) {f : Fl} (hw : wholeF f) (hs : shF m f) {L : List Ck} (hc : chF (0, 0, 0) none L (endP f)) (hg : ∀ c ∈ L, goodC f c) {st : Int} {lb : BS × BS × BS} {v : Int} (hp : plainLb lb = true) : fitsD (ofD (L.flatMap (ckPs f st lb v))) m = true := by
  refine fits_ft hm (of_ft (fun p h => ?_) fun p h => ?_)
  · have hends := ch_ends hw L (0, 0, 0) none hc (leP_refl _) hg
    have hin := ch_in hc
    rcases L.eq_nil_or_concat with rfl | ⟨n, c, rfl⟩
    · simp at h
    · rw [List.concat_eq_append] at h hends hin
      rw [List.flatMap_append, dropLast_app _ _ (by simpa using ckPs_ne f st lb v c)] at h
      rcases List.mem_append.1 h with h | h
      · obtain ⟨d, hd, hd2⟩ := List.mem_flatMap.1 h
        exact ckPs_end hp (hends d (by simpa using hd)) p hd2
      · have h : p ∈ (ckPs f st lb v c).dropLast := by simpa using h
        exact ckPs_last hw hp (hin c (by simp)) p h
  · obtain ⟨c, _, hc2⟩ := List.mem_flatMap.1 h
    exact ckPs_ft hw hs st lb v c p hc2
theorem none_cnt {f : Fl} {L : List Ck} (h : ∀ c ∈ L, clsF f c ≠ 4) : cntF f L = 0 := by
  unfold cntF
  rw [List.length_eq_zero_iff, List.filter_eq_nil_iff]
  exact fun c hc e => h c hc (of_decide_eq_true e)
theorem flat_no {f : Fl} {L : List Ck} (h : ∀ c ∈ L, clsF f c ≠ 4) (st : Int) (lb : BS × BS × BS) (v : Int) : L.flatMap (ckPs f st lb v) = L.flatMap (ckPs f st lb 1) := by
  rw [List.flatMap_def, List.flatMap_def]
  congr 1
  refine List.map_congr_left fun c hc => ?_
  unfold ckPs
  rw [if_neg (fun e => h c hc e.1), if_neg (fun e => h c hc e.1)]
  unfold sideF
  have a1 : ¬ (clsF f c = 4 ∧ v = 3) := fun e => h c hc e.1
  have a2 : ¬ (clsF f c = 4 ∧ (1 : Int) = 3) := fun e => h c hc e.1
  rw [if_neg a1, if_neg a2]
theorem print_text (w : Int) (t : BS) : printL w (if t = [] then [] else [textP t]) = t := by
  split
  · rename_i h; rw [h]; rfl
  · simp [printL, printP, textP, hkP]
theorem clean_doc {f : Fl} {L : List Ck} (h : ∀ c ∈ L, clsF f c ≠ 4) (st : Int) (lb : BS × BS × BS) (v : Int) : ofD (L.flatMap (ckPs f st lb v)) = if favT f L 1 = [] then [] else [textP (favT f L 1)] := by
  rw [flat_no h, doc_fav f st lb (by decide)]
theorem clean_print {f : Fl} {L : List Ck} (h : ∀ c ∈ L, clsF f c ≠ 4) (st : Int) (lb : BS × BS × BS) (v w : Int) : printL w (ofD (L.flatMap (ckPs f st lb v))) = favT f L 1 := by
  rw [clean_doc h, print_text]
theorem good_mrg {f : Fl} {c : Ck} (hc : c ∈ mrgK f) (hs : c.1 = true) : cutO f c = cutB f c ∧ cutT f c = cutB f c := good_same (ch_in (mrg_ch f) c hc) (mrg_good f c hc) hs
theorem spanO (f : Fl) : ((mrgK f).map (cutO f)).flatten = f.2.1 := span_all cmpO (mrg_ch f) rfl
theorem spanT (f : Fl) : ((mrgK f).map (cutT f)).flatten = f.2.2 := span_all cmpT (mrg_ch f) rfl
theorem spanB (f : Fl) : ((mrgK f).map (cutB f)).flatten = f.1 := span_all cmpB (mrg_ch f) rfl
theorem cut3 {O : List BS} {u j : Nat} (h : u ≤ j) : (O.take u).flatten.length + (cutL O u j).flatten.length + (O.drop j).flatten.length = O.flatten.length := by
  have e : O.take u ++ cutL O u j ++ O.drop j = O := by
    have h1 : O.take u = cutL O 0 u := by simp [cutL]
    have h2 : cutL O 0 j = O.take j := by simp [cutL]
    rw [h1, cutL_join O (Nat.zero_le _) h, h2, List.take_append_drop]
  have := congrArg (fun l : List BS => l.flatten.length) e
  simp only [List.flatten_append, List.length_append] at this
  exact this
theorem sumT_le {f : Fl} (st : Int) (lb : BS × BS × BS) (v : Int) (c : Ck) : sumT (ckPs f st lb v c) ≤ (cutB f c).flatten.length + (cutO f c).flatten.length + (cutT f c).flatten.length := by
  unfold ckPs
  split
  · have hh := hoist_le st (cutO f c) (cutT f c)
    have e : sumT (confL f c st lb) = ((cutO f c).take (hoistF st (cutO f c) (cutT f c)).1).flatten.length + ((cutO f c).drop ((cutO f c).length - (hoistF st (cutO f c) (cutT f c)).2)).flatten.length := by
      unfold sumT confL
      simp [textP, txP, confP]
    have e2 := cut3 (O := cutO f c) (u := (hoistF st (cutO f c) (cutT f c)).1) (j := (cutO f c).length - (hoistF st (cutO f c) (cutT f c)).2) (by omega)
    rw [e]
    omega
  · rw [sumT_one]
    show (sideF f c (clsF f c) v).flatten.length ≤ _
    unfold sideF
    split
    · omega
    · split
      · omega
      · split <;> omega
theorem sumT_mrg (f : Fl) (st : Int) (lb : BS × BS × BS) (v : Int) : sumT ((mrgK f).flatMap (ckPs f st lb v)) ≤ f.1.flatten.length + f.2.1.flatten.length + f.2.2.flatten.length := by
  have key : ∀ L : List Ck, sumT (L.flatMap (ckPs f st lb v)) ≤ (L.map (cutB f)).flatten.flatten.length + (L.map (cutO f)).flatten.flatten.length + (L.map (cutT f)).flatten.flatten.length := by
    intro L
    induction L with
    | nil => simp [sumT]
    | cons c L ih =>
      have := sumT_le (f := f) st lb v c
      simp only [List.flatMap_cons, sumT_app, List.map_cons, List.flatten_cons, List.flatten_append, List.length_append]
      omega
  have := key (mrgK f)
  rw [spanB, spanO, spanT] at this
  exact this
end Go.Proofs.YtjfmigpahglajaaGreatDoor
set_option linter.unusedSimpArgs false
set_option linter.unusedVariables false
set_option maxRecDepth 100000
set_option maxHeartbeats 2000000
namespace Go.Proofs.YtjfmigpahglajaaGreatDoor
open Go
attribute [local irreducible] AW AVle ASle RowLe
abbrev eFl : El Fl := eP (eL eS) (eP (eL eS) (eL eS))
def okFl (f : Fl) : Prop := (f.1.length ≤ 10000000 ∧ f.1.flatten.length ≤ 10000000) ∧ (f.2.1.length ≤ 10000000 ∧ f.2.1.flatten.length ≤ 10000000) ∧ f.2.2.length ≤ 10000000 ∧ f.2.2.flatten.length ≤ 10000000
def sIsSty : Spec := Spec.f1 kI (fun _ => True) (fun n => kB.enc (styOK n))
theorem okIsSty : SpecOK Tryz.prog 104 sIsSty := by
  refine SpecOK.f1 Tryz.func104 rfl (by decide) Tryz.results104 Tryz.ntmps104 (by decide) fun n _ => ?_
  have hΓ : GOK Tryz.prog (gam []) := GOK.nil
  refine AW.of hΓ mixed [] _ _ _ rfl ?_
  simp only [go_sem]
  refine ⟨fun h => by rw [decide_eq_false h]; rfl, fun h => by rw [h]; rfl, ?_⟩
  unfold styOK
  rw [Bool.or_assoc]
def sIsFav : Spec := Spec.f1 kI (fun _ => True) (fun n => kB.enc (favOK n))
theorem okIsFav : SpecOK Tryz.prog 105 sIsFav := by
  refine SpecOK.f1 Tryz.func105 rfl (by decide) Tryz.results105 Tryz.ntmps105 (by decide) fun n _ => ?_
  have hΓ : GOK Tryz.prog (gam []) := GOK.nil
  refine AW.of hΓ mixed [] _ _ _ rfl ?_
  simp only [go_sem]
  refine ⟨fun h => by rw [decide_eq_false h]; rfl, fun h => by rw [h]; rfl, ?_⟩
  unfold favOK
  rw [Bool.or_assoc]
def sTextB : Spec := Spec.f1 (kL eS) okLs (fun l => (kA ePt).enc (textP l.flatten))
theorem okTextB : SpecOK Tryz.prog 107 sTextB := by
  refine SpecOK.f1 Tryz.func107 rfl (by decide) Tryz.results107 Tryz.ntmps107 (by decide) fun l hl => ?_
  have hΓ : GOK Tryz.prog (gam [(42, sJoin)]) := (.cons okJoin .nil)
  refine AW.of hΓ mixed [] _ _ _ rfl ?_
  simp only [go_sem, sJoin]
  exact ⟨hl, pt_le rfl rfl rfl rfl rfl rfl rfl rfl rfl⟩
def sSideB : Spec := Spec.f4 (kA eFl) (kA eCk) kI kI (fun f _ _ _ => okFl f) (fun f c k v => sL eS (sideF f c k v))
theorem okSideB : SpecOK Tryz.prog 108 sSideB := by
  refine SpecOK.f4 Tryz.func108 rfl (by decide) Tryz.results108 Tryz.ntmps108 (by decide) fun f c k v ⟨hf1, hf2, hf3⟩ => ?_
  have hΓ : GOK Tryz.prog (gam [(43, sCutK)]) := (.cons okCutK .nil)
  obtain ⟨fb, fl, fr⟩ := f
  obtain ⟨cs, ⟨cb1, cb2⟩, ⟨cl1, cl2⟩, cr1, cr2⟩ := c
  dsimp only at hf1 hf2 hf3
  unfold sideF cutB cutT cutO
  refine AW.of hΓ mixed [99999] _ _ _ rfl ?_
  simp only [go_sem, sCutK]
  refine ⟨fun h => ⟨by omega, by rw [if_pos h]; exact AVle.refl _⟩, fun h => ⟨fun h2 => ⟨by omega, by rw [if_neg h, if_pos h2]; exact AVle.refl _⟩, fun h2 => ⟨fun h3 => ⟨fun h4 => ⟨by omega, by rw [if_neg h, if_neg h2, if_pos ⟨h3, h4⟩]; exact AVle.refl _⟩, fun h4 => ⟨by omega, by rw [if_neg h, if_neg h2, if_neg fun e => h4 e.2]; exact AVle.refl _⟩⟩, fun h3 => ⟨by omega, by rw [if_neg h, if_neg h2, if_neg fun e => h3 e.1]; exact AVle.refl _⟩⟩⟩⟩
def sHoistB : Spec := Spec.f2 (kL eS) (kL eS) (fun a b => a.length < 1000000000 ∧ b.length < 1000000000) (fun a b => tu2 (kI.enc (ahd a b)) (kI.enc (bhd (a.drop (ahd a b)) (b.drop (ahd a b)))))
theorem okHoistB : SpecOK Tryz.prog 140 sHoistB := by
  refine SpecOK.f2 Tryz.func140 rfl (by decide) Tryz.results140 Tryz.ntmps140 (by decide) fun a b ⟨ha, hb⟩ => ?_
  have hΓ : GOK Tryz.prog (gam [(159, sEndsS)]) := (.cons okEndsS .nil)
  refine AW.of hΓ mixed [] _ _ _ rfl ?_
  simp only [go_sem, sEndsS]
  exact ⟨ha, hb⟩
theorem sub_flat {a b : List BS} (h : a.Sublist b) : a.flatten.length ≤ b.flatten.length := by
  induction h with
  | slnil => exact Nat.le_refl _
  | cons x _ ih => rw [List.flatten_cons, List.length_append]; omega
  | cons_cons x _ ih => rw [List.flatten_cons, List.flatten_cons, List.length_append, List.length_append]; omega
theorem okLs_sub {a b : List BS} (h : a.Sublist b) (h1 : b.length ≤ 10000000) (h2 : b.flatten.length ≤ 10000000) : okLs a := by
  have := h.length_le
  have := sub_flat h
  exact ⟨by omega, by omega⟩
theorem cutS_sub (s : Sp) (l : List BS) : (cutS s l).Sublist l := by
  unfold cutS
  split
  · exact List.nil_sublist _
  · exact (List.drop_sublist _ _).trans (List.take_sublist _ _)
theorem pt_box {ver ety : Nat} {ll bl rl : BS} {h : Bool} {t l b r : BS} {hb : Bool} {c : Nat → AV} (h0 : c 0 = .st ll) (h1 : c 1 = .st bl) (h2 : c 2 = .st rl) (h3 : c 3 = .val (.bool h)) (h4 : c 4 = .st t) (h5 : c 5 = .st l) (h6 : c 6 = .st b) (h7 : c 7 = .st r) (h8 : c 8 = .val (.bool hb)) :
    RowLe (.box ver ety 9 c) (.box ver ety 9 (ePt.enc (ll, bl, rl, h, t, l, b, r, hb))) :=
  RowLe.box fun j hj => AVle.of_eq (match j, hj with
    | 0, _ => h0
    | 1, _ => h1
    | 2, _ => h2
    | 3, _ => h3
    | 4, _ => h4
    | 5, _ => h5
    | 6, _ => h6
    | 7, _ => h7
    | 8, _ => h8)
theorem sn_parts {l : List (Nat → AV)} {L : List Pt} {n : Nat} (hn : n = L.length) (h : ∀ i, i < n → ∀ j, j < 9 → AVle (l.getD i (fun _ => .any) j) (ePt.enc (L.getD i ePt.dflt) j)) : AVle (.sn n 9 fun i => l.getD i fun _ => .any) (sL ePt L) := by
  subst hn
  exact AVle.sn h
def sConflB : Spec := Spec.f4 (kA eFl) (kA eCk) kI (kA eLb) (fun f _ _ _ => okFl f) (fun f c st lb => sL ePt (confL f c st lb))
theorem okConflB : SpecOK Tryz.prog 106 sConflB := by
  refine SpecOK.f4 Tryz.func106 rfl (by decide) Tryz.results106 Tryz.ntmps106 (by decide) fun f c st lb ⟨hf1, hf2, hf3⟩ => ?_
  have hΓ : GOK Tryz.prog (gam [(43, sCutK), (140, sHoistB), (42, sJoin), (107, sTextB)]) := (.cons okCutK (.cons okHoistB (.cons okJoin (.cons okTextB .nil))))
  obtain ⟨fb, fl, fr⟩ := f
  obtain ⟨cs, ⟨cb1, cb2⟩, ⟨cl1, cl2⟩, cr1, cr2⟩ := c
  obtain ⟨lb1, lb2, lb3⟩ := lb
  dsimp only at hf1 hf2 hf3
  refine AW.of hΓ mixed [0] _ _ _ rfl ?_
  simp only [go_sem, sCutK, sHoistB, sJoin, sTextB]
  refine AW.still 4 0 0 95 3 _ rfl rfl (fun j hj => match j, hj with | 0, _ => rfl | 1, _ => rfl | 2, _ => rfl) ?_
  refine AW.still 5 1 1 63 7 _ rfl rfl (fun j hj => match j, hj with | 0, _ => rfl | 1, _ => rfl | 2, _ => rfl | 3, _ => rfl | 4, _ => rfl | 5, _ => rfl | 6, _ => rfl) ?_
  refine AW.still 7 2 2 38 3 _ rfl rfl (fun j hj => match j, hj with | 0, _ => rfl | 1, _ => rfl | 2, _ => rfl) ?_
  have g1 := cutS_sub (cb1, cb2) fb
  have g2 := cutS_sub (cl1, cl2) fl
  have g3 := cutS_sub (cr1, cr2) fr
  unfold confL confP cutO cutT cutB
  refine AW.of hΓ mixed [2] _ _ _ rfl ?_
  simp only [go_sem, sCutK, sHoistB, sJoin, sTextB]
  refine ⟨by omega, by omega, ?_⟩
  generalize cutS (cl1, cl2) fl = O at *
  generalize cutS (cr1, cr2) fr = T at *
  have hO := okLs_sub g2 hf2.1 hf2.2
  have hT := okLs_sub g3 hf3.1 hf3.2
  have hB := okLs_sub g1 hf1.1 hf1.2
  have hh := hoist_le st O T
  have i1 := g2.length_le
  have i2 := g3.length_le
  refine AW.cut ⟨[(2, .val (.int .i64 st)), (4, .ps 3 (eFl.enc (fb, fl, fr))), (5, .ps 7 (eCk.enc (cs, (cb1, cb2), (cl1, cl2), cr1, cr2))), (7, .ps 3 (eLb.enc (lb1, lb2, lb3))), (9, sL eS O), (10, sL eS T), (11, .val (.int .i64 0)), (12, .val (.int .i64 0))], [], 74, 3, 3, []⟩ ?_ ?_
  · simp only [go_sem, sCutK, sHoistB, sJoin, sTextB]
  refine AW.seqTo (fun _ : Unit => Sh.st ⟨[(2, .val (.int .i64 st)), (4, .ps 3 (eFl.enc (fb, fl, fr))), (5, .ps 7 (eCk.enc (cs, (cb1, cb2), (cl1, cl2), cr1, cr2))), (7, .ps 3 (eLb.enc (lb1, lb2, lb3))), (9, sL eS O), (10, sL eS T), (11, .val (.int .i64 (hoistF st O T).1)), (12, .val (.int .i64 (hoistF st O T).2))], [], 74, 3, 3, []⟩) ?_ fun _ => ?_
  · refine AW.of hΓ mixed [99999] _ _ _ rfl ?_
    simp only [go_sem, sCutK, sHoistB, sJoin, sTextB]
    refine ⟨fun h2 => ⟨⟨by omega, by omega⟩, (), toFits ?_⟩, fun h2 => ⟨(), toFits ?_⟩⟩
    · unfold hoistF
      rw [if_pos h2]
      simp only [go_sem, sCutK, sHoistB, sJoin, sTextB]
    · unfold hoistF
      rw [if_neg h2]
      simp only [go_sem, sCutK, sHoistB, sJoin, sTextB]
  generalize hoistF st O T = h at *
  obtain ⟨u, v⟩ := h
  dsimp only at hh ⊢
  have eO : (List.range (((O.length : Int) - (v : Int)).toNat - u)).map (fun i => O.getD (u + i) []) = cutL O u (O.length - v) := by
    rw [cut_map (by omega), show ((O.length : Int) - (v : Int)).toNat - u = O.length - v - u by omega]
  have eT : (List.range (((T.length : Int) - (v : Int)).toNat - u)).map (fun i => T.getD (u + i) []) = cutL T u (T.length - v) := by
    rw [cut_map (by omega), show ((T.length : Int) - (v : Int)).toNat - u = T.length - v - u by omega]
  have sO : (cutL O u (O.length - v)).Sublist O := (List.drop_sublist _ _).trans (List.take_sublist _ _)
  have sT : (cutL T u (T.length - v)).Sublist T := (List.drop_sublist _ _).trans (List.take_sublist _ _)
  have kO : okLs (cutL O u (O.length - v)) := okLs_sub (sO.trans g2) hf2.1 hf2.2
  have kT : okLs (cutL T u (T.length - v)) := okLs_sub (sT.trans g3) hf3.1 hf3.2
  have kA1 : okLs (O.take u) := okLs_sub ((List.take_sublist _ _).trans g2) hf2.1 hf2.2
  have kA2 : okLs (O.drop (O.length - v)) := okLs_sub ((List.drop_sublist _ _).trans g2) hf2.1 hf2.2
  refine AW.of hΓ mixed [6] _ _ _ rfl ?_
  simp only [go_sem, sCutK, sHoistB, sJoin, sTextB, eO, eT]
  refine ⟨⟨by omega, by omega⟩, ⟨by omega, by omega, by omega⟩, kO, ⟨by omega, by omega⟩, ⟨by omega, by omega, by omega⟩, kT, ?_⟩
  generalize (cutL O u (O.length - v)).flatten = X at *
  generalize (cutL T u (T.length - v)).flatten = Y at *
  refine AW.cut ⟨[(2, .val (.int .i64 st)), (4, .ps 3 (eFl.enc (fb, fl, fr))), (5, .ps 7 (eCk.enc (cs, (cb1, cb2), (cl1, cl2), cr1, cr2))), (9, sL eS O), (11, .val (.int .i64 u)), (12, .val (.int .i64 v)), (13, .val (.int .i64 ((O.length : Int) - v))), (14, .pt 3 3 0)],
    [(3, .box 3 112 9 (ePt.enc (lb1, lb2, lb3, true, [], X, [], Y, false)))], 74, 4, 4, []⟩ ?_ ?_
  · simp only [go_sem, sCutK, sHoistB, sJoin, sTextB]
    exact pt_box rfl rfl rfl rfl rfl rfl rfl rfl rfl
  refine AW.seqTo (fun _ : Unit => Sh.st ⟨[(9, sL eS O), (11, .val (.int .i64 u)), (12, .val (.int .i64 v)), (13, .val (.int .i64 ((O.length : Int) - v))), (14, .pt 3 3 0)],
    [(3, .box 3 112 9 (ePt.enc (lb1, (if st = 0 then [] else lb2), lb3, true, [], X, (if st = 0 then [] else (cutS (cb1, cb2) fb).flatten), Y, decide (st ≠ 0))))], 74, 4, 4, []⟩) ?_ fun _ => ?_
  · refine AW.of hΓ mixed [99999] _ _ _ rfl ?_
    simp only [go_sem, sCutK, sHoistB, sJoin, sTextB]
    refine ⟨fun h0 => ⟨(), toFits ?_⟩, fun h0 => ⟨by omega, hB, (), toFits ?_⟩⟩
    · subst h0
      simp only [go_sem, sCutK, sHoistB, sJoin, sTextB]
      exact pt_box rfl rfl rfl rfl rfl rfl rfl rfl rfl
    · rw [if_neg h0, if_neg h0, decide_eq_true h0]
      simp only [go_sem, sCutK, sHoistB, sJoin, sTextB]
      exact pt_box rfl rfl rfl rfl rfl rfl rfl rfl rfl
  have eA1 : (List.range (u - 0)).map (fun i => O.getD i []) = O.take u := by
    refine list_ext_getD [] (by simp; omega) fun k hk => ?_
    have hk : k < u := by simpa using hk
    simp [List.getD, List.getElem?_take, hk]
  have eA2 : (List.range (O.length - ((O.length : Int) - (v : Int)).toNat)).map (fun i => O.getD (((O.length : Int) - (v : Int)).toNat + i) []) = O.drop (O.length - v) := by
    have e : ((O.length : Int) - (v : Int)).toNat = O.length - v := by omega
    rw [e]
    refine list_ext_getD [] (by simp) fun k hk => ?_
    have hk : k < O.length - (O.length - v) := by simpa using hk
    simp [List.getD, hk]
    rw [List.getElem?_eq_getElem (by omega)]
    rfl
  refine AW.of hΓ mixed [] _ _ _ rfl ?_
  simp only [go_sem, sCutK, sHoistB, sJoin, sTextB, eA1, eA2]
  refine ⟨⟨by omega, by omega⟩, kA1, ⟨by omega, by omega, by omega⟩, kA2, ?_⟩
  exact sn_parts rfl fun i hi j hj => match i, hi with
    | 0, _ => AVle.refl _
    | 1, _ => AVle.refl _
    | 2, _ => AVle.refl _
end Go.Proofs.YtjfmigpahglajaaGreatDoor
set_option linter.unusedSimpArgs false
set_option linter.unusedVariables false
set_option maxRecDepth 100000
set_option maxHeartbeats 2000000
namespace Go.Proofs.YtjfmigpahglajaaGreatDoor
open Go
attribute [local irreducible] AW AVle ASle RowLe
theorem textP_sum (t : BS) : sumT [textP t] = t.length := by rw [sumT_one]; rfl
theorem cut_len (s : Sp) {l : List BS} (h : l.flatten.length ≤ 10000000) : (cutS s l).flatten.length ≤ 10000000 := Nat.le_trans (sub_flat (cutS_sub s l)) h
theorem ckPs_len (f : Fl) (st : Int) (lb : BS × BS × BS) (v : Int) (c : Ck) : (ckPs f st lb v c).length ≤ 3 := by
  unfold ckPs
  split
  · exact Nat.le_refl 3
  · exact Nat.le_of_ble_eq_true rfl
theorem ckPs_sum {f : Fl} (hf : okFl f) (st : Int) (lb : BS × BS × BS) (v : Int) (c : Ck) : sumT (ckPs f st lb v c) ≤ 20000000 := by
  obtain ⟨h1, h2, h3⟩ := hf
  have c1 : (cutB f c).flatten.length ≤ 10000000 := cut_len _ h1.2
  have c2 : (cutO f c).flatten.length ≤ 10000000 := cut_len _ h2.2
  have c3 : (cutT f c).flatten.length ≤ 10000000 := cut_len _ h3.2
  unfold ckPs
  split
  · unfold confL
    have e1 : ∀ a b d : Pt, sumT [a, b, d] = (txP a).length + (txP b).length + (txP d).length := fun a b d => by
      rw [show [a, b, d] = [a] ++ ([b] ++ [d]) from rfl, sumT_app, sumT_app, sumT_one, sumT_one, sumT_one]
      omega
    rw [e1]
    have s1 := sub_flat (List.take_sublist (hoistF st (cutO f c) (cutT f c)).1 (cutO f c))
    have s2 := sub_flat (List.drop_sublist ((cutO f c).length - (hoistF st (cutO f c) (cutT f c)).2) (cutO f c))
    have z : (txP (confP f c st lb)).length = 0 := rfl
    have z1 : ∀ t : BS, (txP (textP t)).length = t.length := fun _ => rfl
    rw [z, z1, z1]
    omega
  · rw [textP_sum]
    unfold sideF
    split
    · omega
    · split
      · omega
      · split <;> omega
theorem flat_sum {f : Fl} (hf : okFl f) (st : Int) (lb : BS × BS × BS) (v : Int) : ∀ L : List Ck, sumT (L.flatMap (ckPs f st lb v)) ≤ 20000000 * L.length ∧ (L.flatMap (ckPs f st lb v)).length ≤ 3 * L.length
  | [] => by simp [sumT]
  | c :: L => by
    obtain ⟨h1, h2⟩ := flat_sum hf st lb v L
    have h3 := ckPs_sum hf st lb v c
    have h4 := ckPs_len f st lb v c
    rw [List.flatMap_cons, sumT_app, List.length_append, List.length_cons]
    omega
def okLb (lb : BS × BS × BS) : Prop := lb.1.length ≤ 100000000 ∧ lb.2.1.length ≤ 100000000 ∧ lb.2.2.length ≤ 100000000
def sDocB : Spec := Spec.f5 (kA eFl) (kL eCk) kI (kA eLb) kI (fun f L st lb v => (okFl f ∧ L.length ≤ 10000 ∧ sumT (L.flatMap (ckPs f st lb v)) ≤ 1000000000) ∧ okLb lb) (fun f L st lb v => tu2 (sL ePt (docF f L st lb v).1) (kI.enc (docF f L st lb v).2))
theorem okDocB : SpecOK Tryz.prog 54 sDocB := by
  refine SpecOK.f5 Tryz.func54 rfl (by decide) Tryz.results54 Tryz.ntmps54 (by decide) fun f L st lb v ⟨⟨hf, hL, hsum⟩, hlb1, hlb2, hlb3⟩ => ?_
  have hΓ : GOK Tryz.prog (gam [(104, sIsSty), (105, sIsFav), (95, sPlainL), (44, sClassK), (106, sConflB), (108, sSideB), (107, sTextB), (67, sOfD)]) := (.cons okIsSty (.cons okIsFav (.cons okPlainL (.cons okClassK (.cons okConflB (.cons okSideB (.cons okTextB (.cons okOfD .nil))))))))
  have hff := hf
  obtain ⟨fb, fl, fr⟩ := f
  obtain ⟨lb1, lb2, lb3⟩ := lb
  obtain ⟨hf1, hf2, hf3⟩ := hff
  dsimp only at hf1 hf2 hf3 hlb1 hlb2 hlb3
  have fs := fun j => flat_sum hf st (lb1, lb2, lb3) v (L.take j)
  have d5 : (styOK st && favOK v) = false → docF (fb, fl, fr) L st (lb1, lb2, lb3) v = ([], 5) := fun h => by unfold docF; rw [if_pos h]
  have d3 : (styOK st && favOK v) = true → plainLb (lb1, lb2, lb3) = false → docF (fb, fl, fr) L st (lb1, lb2, lb3) v = ([], 3) := fun h h2 => by unfold docF; rw [if_neg (by rw [h]; simp), if_pos h2]
  have d0 : (styOK st && favOK v) = true → plainLb (lb1, lb2, lb3) = true → docF (fb, fl, fr) L st (lb1, lb2, lb3) v = (ofD (L.flatMap (ckPs (fb, fl, fr) st (lb1, lb2, lb3) v)), 0) := fun h h2 => by unfold docF; rw [if_neg (by rw [h]; simp), if_neg (by rw [h2]; simp)]
  refine AW.of hΓ mixed [0] _ _ _ rfl ?_
  simp only [go_sem]
  refine AW.still 5 0 0 95 3 _ rfl rfl (fun j hj => match j, hj with | 0, _ => rfl | 1, _ => rfl | 2, _ => rfl) ?_
  refine AW.still 8 1 1 38 3 _ rfl rfl (fun j hj => match j, hj with | 0, _ => rfl | 1, _ => rfl | 2, _ => rfl) ?_
  cases h1 : styOK st with
  | false =>
    rw [d5 (by rw [h1]; rfl)]
    refine AW.of hΓ mixed [] _ _ _ rfl ?_
    simp only [go_sem, sIsSty, sIsFav, sPlainL, sClassK, sConflB, sSideB, sTextB, sOfD, h1]
    exact em_sL _
  | true =>
    cases h2 : favOK v with
    | false =>
      rw [d5 (by rw [h1, h2]; rfl)]
      refine AW.of hΓ mixed [] _ _ _ rfl ?_
      simp only [go_sem, sIsSty, sIsFav, sPlainL, sClassK, sConflB, sSideB, sTextB, sOfD, h1, h2]
      exact em_sL _
    | true =>
      cases hp : plainLb (lb1, lb2, lb3) with
      | false =>
        rw [d3 (by rw [h1, h2]; rfl) hp]
        unfold plainLb at hp
        dsimp only at hp
        refine AW.of hΓ mixed [] _ _ _ rfl ?_
        simp only [go_sem, sIsSty, sIsFav, sPlainL, sClassK, sConflB, sSideB, sTextB, sOfD, h1, h2, hp]
        exact ⟨⟨by omega, by omega, by omega⟩, em_sL _⟩
      | true =>
        rw [d0 (by rw [h1, h2]; rfl) hp]
        unfold plainLb at hp
        dsimp only at hp
        refine AW.of hΓ mixed [5] _ _ _ rfl ?_
        simp only [go_sem, sIsSty, sIsFav, sPlainL, sClassK, sConflB, sSideB, sTextB, sOfD, h1, h2, hp]
        refine ⟨⟨by omega, by omega, by omega⟩, ?_⟩
        refine AW.adopt 12 112 9 (fun i => ePt.enc (([] : List Pt).getD i ePt.dflt)) rfl ?_
        refine AW.seqTo (fun x : Nat × Nat => Sh.st ⟨[(12, .ow 2 x.1 (L.flatMap (ckPs (fb, fl, fr) st (lb1, lb2, lb3) v)).length)], [(2, rowL x.1 112 ePt (L.flatMap (ckPs (fb, fl, fr) st (lb1, lb2, lb3) v)))], 66, 3, x.2, []⟩) ?_ fun ⟨u, nx⟩ => ?_
        rotate_left
        · have fL := flat_sum hf st (lb1, lb2, lb3) v L
          generalize L.flatMap (ckPs (fb, fl, fr) st (lb1, lb2, lb3) v) = S at *
          refine AW.freeze 2 u 112 9 S.length (fun i => ePt.enc (S.getD i ePt.dflt)) rfl (fun _ _ j hj => match j, hj with | 0, _ => rfl | 1, _ => rfl | 2, _ => rfl | 3, _ => rfl | 4, _ => rfl | 5, _ => rfl | 6, _ => rfl | 7, _ => rfl | 8, _ => rfl) ?_
          refine AW.cut ⟨[(12, sL ePt S)], [], 66, 3, nx, []⟩ ?_ ?_
          · simp only [go_sem, sIsSty, sIsFav, sPlainL, sClassK, sConflB, sSideB, sTextB, sOfD]
            exact vw_all (E := ePt) rfl rfl rfl
          refine AW.of hΓ mixed [] _ _ _ rfl ?_
          simp only [go_sem, sIsSty, sIsFav, sPlainL, sClassK, sConflB, sSideB, sTextB, sOfD]
          exact ⟨by omega, by omega⟩
        refine AW.of hΓ mixed [] _ _ _ rfl ?_
        simp only [go_sem, sIsSty, sIsFav, sPlainL, sClassK, sConflB, sSideB, sTextB, sOfD]
        refine AW.round (α := { x : Nat × List Pt × Nat × Nat // x.1 ≤ L.length ∧ x.2.1 = (L.take x.1).flatMap (ckPs (fb, fl, fr) st (lb1, lb2, lb3) v) })
          (fun x => ⟨[(2, .val (.int .i64 st)), (4, .val (.int .i64 v)), (5, .ps 3 (eFl.enc (fb, fl, fr))), (8, .ps 3 (eLb.enc (lb1, lb2, lb3))), (12, .ow 2 x.1.2.2.1 x.1.2.1.length), (27, sL eCk L), (28, .val (.int .i64 L.length)), (29, .val (.int .i64 x.1.1))],
            [(2, rowL x.1.2.2.1 112 ePt x.1.2.1)], 66, 3, x.1.2.2.2, []⟩) (fun x => L.length - x.1.1) ⟨(0, [], 2, 3), Nat.zero_le _, rfl⟩ ?_ ?_
        · simp only [go_sem, sIsSty, sIsFav, sPlainL, sClassK, sConflB, sSideB, sTextB, sOfD]
          exact RowLe.refl _
        · rintro ⟨⟨i, S, u, nx⟩, hi, hS⟩
          simp only at hi hS
          have fi := fs i
          rw [← hS, List.length_take] at fi
          refine AW.of hΓ mixed [8, 99999] _ _ _ rfl ?_
          simp only [go_sem, sIsSty, sIsFav, sPlainL, sClassK, sConflB, sSideB, sTextB, sOfD]
          refine ⟨fun hlt => ⟨by omega, ?_⟩, fun hge => ?_⟩
          · have hlt' : i < L.length := by omega
            have hsn : (L.take (i + 1)).flatMap (ckPs (fb, fl, fr) st (lb1, lb2, lb3) v) = S ++ ckPs (fb, fl, fr) st (lb1, lb2, lb3) v (L.getD i eCk.dflt) := by
              rw [take_snoc L eCk.dflt hlt', List.flatMap_append, ← hS]
              simp
            generalize L.getD i eCk.dflt = c at *
            obtain ⟨cs, ⟨cb1, cb2⟩, ⟨cl1, cl2⟩, cr1, cr2⟩ := c
            have hcl := ckPs_len (fb, fl, fr) st (lb1, lb2, lb3) v (cs, (cb1, cb2), (cl1, cl2), cr1, cr2)
            have hcs : ckPs (fb, fl, fr) st (lb1, lb2, lb3) v (cs, (cb1, cb2), (cl1, cl2), cr1, cr2) = if clsF (fb, fl, fr) (cs, (cb1, cb2), (cl1, cl2), cr1, cr2) = 4 ∧ v = 0 then confL (fb, fl, fr) (cs, (cb1, cb2), (cl1, cl2), cr1, cr2) st (lb1, lb2, lb3) else [textP (sideF (fb, fl, fr) (cs, (cb1, cb2), (cl1, cl2), cr1, cr2) (clsF (fb, fl, fr) (cs, (cb1, cb2), (cl1, cl2), cr1, cr2)) v).flatten] := rfl
            have hsd : okLs (sideF (fb, fl, fr) (cs, (cb1, cb2), (cl1, cl2), cr1, cr2) (clsF (fb, fl, fr) (cs, (cb1, cb2), (cl1, cl2), cr1, cr2)) v) := by
              unfold sideF
              split
              · exact okLs_sub (cutS_sub _ _) hf1.1 hf1.2
              · split
                · exact okLs_sub (cutS_sub _ _) hf3.1 hf3.2
                · split
                  · exact okLs_sub (cutS_sub _ _) hf3.1 hf3.2
                  · exact okLs_sub (cutS_sub _ _) hf2.1 hf2.2
            have hcc : classK (cs, (cb1, cb2), (cl1, cl2), cr1, cr2) fb fl fr = clsF (fb, fl, fr) (cs, (cb1, cb2), (cl1, cl2), cr1, cr2) := rfl
            generalize clsF (fb, fl, fr) (cs, (cb1, cb2), (cl1, cl2), cr1, cr2) = k at *
            refine AW.cut ⟨[(2, .val (.int .i64 st)), (4, .val (.int .i64 v)), (5, .ps 3 (eFl.enc (fb, fl, fr))), (8, .ps 3 (eLb.enc (lb1, lb2, lb3))), (12, .ow 2 u S.length), (14, .pt 3 nx 0), (27, sL eCk L), (28, .val (.int .i64 L.length)), (29, .val (.int .i64 i))],
              [(2, rowL u 112 ePt S), (3, .box nx 63 7 (eCk.enc (cs, (cb1, cb2), (cl1, cl2), cr1, cr2)))], 66, 4, nx + 1, []⟩ ?_ ?_
            · simp only [go_sem, sIsSty, sIsFav, sPlainL, sClassK, sConflB, sSideB, sTextB, sOfD]
              exact ⟨RowLe.refl _, box_st⟩
            refine AW.still 14 3 nx 63 7 _ rfl rfl (fun j hj => match j, hj with | 0, _ => rfl | 1, _ => rfl | 2, _ => rfl | 3, _ => rfl | 4, _ => rfl | 5, _ => rfl | 6, _ => rfl) ?_
            refine AW.of hΓ mixed [99999] _ _ _ rfl ?_
            simp only [go_sem, sIsSty, sIsFav, sPlainL, sClassK, sConflB, sSideB, sTextB, sOfD, hcc]
            refine ⟨⟨by omega, by omega, by omega⟩, fun hk => ?_, fun hk => ?_⟩
            · rw [if_pos hk] at hcs
              rw [hcs] at hsn hcl
              refine ⟨hf, by omega, ⟨by omega, by omega⟩, ⟨(i + 1, S ++ confL (fb, fl, fr) (cs, (cb1, cb2), (cl1, cl2), cr1, cr2) st (lb1, lb2, lb3), nx + 1, nx + 2), by dsimp only; omega, hsn.symm⟩, ⟨Nat.le_refl _, ⟨⟨rfl, by dsimp only; rw [List.length_append]⟩, by dsimp only; omega⟩, ?_⟩, by dsimp only; omega⟩
              exact row_app (E := ePt) rfl rfl rfl rfl (by simp) fun i _ j _ => AVle.refl _
            · rw [if_neg (fun e => hk e.1 e.2)] at hcs
              rw [hcs] at hsn hcl
              refine ⟨hf, hsd, by omega, ⟨by omega, by omega⟩, ⟨(i + 1, S ++ [textP (sideF (fb, fl, fr) (cs, (cb1, cb2), (cl1, cl2), cr1, cr2) k v).flatten], nx + 1, nx + 2), by dsimp only; omega, hsn.symm⟩, ⟨Nat.le_refl _, ⟨⟨rfl, by simp⟩, by dsimp only; omega⟩, ?_⟩, by dsimp only; omega⟩
              exact row_app1 (E := ePt) rfl rfl rfl rfl (by simp) fun j _ => AVle.refl _
          · obtain rfl : i = L.length := by omega
            rw [List.take_length] at hS
            refine ⟨(u, nx), toFits ?_⟩
            rw [← hS]
            simp only [go_sem, sIsSty, sIsFav, sPlainL, sClassK, sConflB, sSideB, sTextB, sOfD]
            exact RowLe.refl _
theorem cnt_le (f : Fl) (L : List Ck) : cntF f L ≤ L.length := List.length_filter_le _ _
def sCountB : Spec := Spec.f2 (kA eFl) (kL eCk) (fun f L => okFl f ∧ L.length ≤ 10000) (fun f L => kI.enc (cntF f L))
theorem okCountB : SpecOK Tryz.prog 55 sCountB := by
  refine SpecOK.f2 Tryz.func55 rfl (by decide) Tryz.results55 Tryz.ntmps55 (by decide) fun f L ⟨hf, hL⟩ => ?_
  have hΓ : GOK Tryz.prog (gam [(44, sClassK)]) := (.cons okClassK .nil)
  have hff := hf
  obtain ⟨fb, fl, fr⟩ := f
  obtain ⟨hf1, hf2, hf3⟩ := hff
  dsimp only at hf1 hf2 hf3
  refine AW.of hΓ mixed [0] _ _ _ rfl ?_
  simp only [go_sem, sClassK]
  refine AW.still 2 0 0 95 3 _ rfl rfl (fun j hj => match j, hj with | 0, _ => rfl | 1, _ => rfl | 2, _ => rfl) ?_
  refine AW.of hΓ mixed [] _ _ _ rfl ?_
  simp only [go_sem, sClassK]
  refine AW.round (α := { x : Nat × Nat // x.1 ≤ L.length })
    (fun x => ⟨[(2, .ps 3 (eFl.enc (fb, fl, fr))), (5, .val (.int .i64 (cntF (fb, fl, fr) (L.take x.1.1)))), (8, sL eCk L), (9, .val (.int .i64 L.length)), (10, .val (.int .i64 x.1.1))], [], 27, 1, x.1.2, []⟩) (fun x => L.length - x.1.1) ⟨(0, 1), Nat.zero_le _⟩ ?_ ?_
  · simp only [go_sem, sClassK]
    rfl
  · rintro ⟨⟨i, nx⟩, hi⟩
    simp only at hi
    have hcn := cnt_le (fb, fl, fr) (L.take i)
    rw [List.length_take] at hcn
    refine AW.of hΓ mixed [4, 99999] _ _ _ rfl ?_
    simp only [go_sem, sClassK]
    refine ⟨fun hlt => ⟨by omega, ?_⟩, fun hge => ?_⟩
    · have hlt' : i < L.length := by omega
      have hsn := cnt_snoc (fb, fl, fr) (L.getD i eCk.dflt) (L.take i)
      rw [← take_snoc L eCk.dflt hlt'] at hsn
      generalize L.getD i eCk.dflt = c at *
      obtain ⟨cs, ⟨cb1, cb2⟩, ⟨cl1, cl2⟩, cr1, cr2⟩ := c
      have hcc : classK (cs, (cb1, cb2), (cl1, cl2), cr1, cr2) fb fl fr = clsF (fb, fl, fr) (cs, (cb1, cb2), (cl1, cl2), cr1, cr2) := rfl
      generalize clsF (fb, fl, fr) (cs, (cb1, cb2), (cl1, cl2), cr1, cr2) = k at *
      refine AW.cut ⟨[(2, .ps 3 (eFl.enc (fb, fl, fr))), (5, .val (.int .i64 (cntF (fb, fl, fr) (L.take i)))), (7, .pt 1 nx 0), (8, sL eCk L), (9, .val (.int .i64 L.length)), (10, .val (.int .i64 i))],
        [(1, .box nx 63 7 (eCk.enc (cs, (cb1, cb2), (cl1, cl2), cr1, cr2)))], 27, 2, nx + 1, []⟩ ?_ ?_
      · simp only [go_sem, sClassK]
        exact box_st
      refine AW.still 7 1 nx 63 7 _ rfl rfl (fun j hj => match j, hj with | 0, _ => rfl | 1, _ => rfl | 2, _ => rfl | 3, _ => rfl | 4, _ => rfl | 5, _ => rfl | 6, _ => rfl) ?_
      refine AW.of hΓ mixed [99999] _ _ _ rfl ?_
      simp only [go_sem, sClassK, hcc]
      refine ⟨⟨by omega, by omega, by omega⟩, fun hk => ⟨⟨by omega, by omega⟩, ⟨by omega, by omega⟩, ⟨(i + 1, nx + 1), by dsimp only; omega⟩, ⟨Nat.le_refl _, ?_, by dsimp only; omega⟩, by dsimp only; omega⟩, fun hk => ⟨⟨by omega, by omega⟩, ⟨(i + 1, nx + 1), by dsimp only; omega⟩, ⟨Nat.le_refl _, ?_, by dsimp only; omega⟩, by dsimp only; omega⟩⟩
      · dsimp only
        rw [hsn, if_pos hk]
        omega
      · dsimp only
        rw [hsn, if_neg hk]
        omega
    · obtain rfl : i = L.length := by omega
      rw [List.take_length]
end Go.Proofs.YtjfmigpahglajaaGreatDoor
set_option linter.unusedSimpArgs false
set_option linter.unusedVariables false
set_option maxRecDepth 100000
set_option maxHeartbeats 4000000
namespace Go.Proofs.YtjfmigpahglajaaGreatDoor
open Go
attribute [local irreducible] AW AVle ASle RowLe
def sRefTextB : Spec := Spec.f1 (kL eS) okLs (fun l => (kA ePt).enc (textP l.flatten))
theorem okRefTextB : SpecOK Tryz.prog 76 sRefTextB := by
  refine SpecOK.f1 Tryz.func76 rfl (by decide) Tryz.results76 Tryz.ntmps76 (by decide) fun l hl => ?_
  have hΓ : GOK Tryz.prog (gam [(78, sRefJoin)]) := (.cons okRefJoin .nil)
  refine AW.of hΓ mixed [] _ _ _ rfl ?_
  simp only [go_sem, sRefJoin]
  exact ⟨hl, pt_le rfl rfl rfl rfl rfl rfl rfl rfl rfl⟩
def sRefCountB : Spec := Spec.f2 (kA eFl) (kL eCk) (fun f L => okFl f ∧ L.length ≤ 10000) (fun f L => kI.enc (cntF f L))
theorem okRefCountB : SpecOK Tryz.prog 39 sRefCountB := by
  refine SpecOK.f2 Tryz.func39 rfl (by decide) Tryz.results39 Tryz.ntmps39 (by decide) fun f L ⟨hf, hL⟩ => ?_
  have hΓ : GOK Tryz.prog (gam [(75, sRefClassK)]) := (.cons okRefClassK .nil)
  have hff := hf
  obtain ⟨fb, fl, fr⟩ := f
  obtain ⟨hf1, hf2, hf3⟩ := hff
  dsimp only at hf1 hf2 hf3
  refine AW.of hΓ mixed [0] _ _ _ rfl ?_
  simp only [go_sem, sRefClassK]
  refine AW.still 2 0 0 79 3 _ rfl rfl (fun j hj => match j, hj with | 0, _ => rfl | 1, _ => rfl | 2, _ => rfl) ?_
  refine AW.of hΓ mixed [] _ _ _ rfl ?_
  simp only [go_sem, sRefClassK]
  refine AW.round (α := { x : Nat × Nat // x.1 ≤ L.length })
    (fun x => ⟨[(1, sL eCk L), (2, .ps 3 (eFl.enc (fb, fl, fr))), (5, .val (.int .i64 (cntF (fb, fl, fr) (L.take x.1.1)))), (6, .val (.int .i64 x.1.1))], [], 28, 1, x.1.2, []⟩) (fun x => L.length - x.1.1) ⟨(0, 1), Nat.zero_le _⟩ ?_ ?_
  · simp only [go_sem, sRefClassK]
    rfl
  · rintro ⟨⟨i, nx⟩, hi⟩
    simp only at hi
    have hcn := cnt_le (fb, fl, fr) (L.take i)
    rw [List.length_take] at hcn
    rcases Nat.lt_or_ge i L.length with hlt' | hge
    · have hlI : ((i : Int) < (L.length : Nat)) = True := eq_true (by omega)
      have hsn := cnt_snoc (fb, fl, fr) (L.getD i eCk.dflt) (L.take i)
      rw [← take_snoc L eCk.dflt hlt'] at hsn
      generalize hce : L.getD i eCk.dflt = c at *
      obtain ⟨cs, ⟨cb1, cb2⟩, ⟨cl1, cl2⟩, cr1, cr2⟩ := c
      have hcc : classK (cs, (cb1, cb2), (cl1, cl2), cr1, cr2) fb fl fr = clsF (fb, fl, fr) (cs, (cb1, cb2), (cl1, cl2), cr1, cr2) := rfl
      generalize clsF (fb, fl, fr) (cs, (cb1, cb2), (cl1, cl2), cr1, cr2) = k at *
      refine AW.of hΓ mixed [99999] _ _ _ rfl ?_
      simp only [go_sem, sRefClassK, hce, hcc, hlI]
      refine ⟨by omega, ⟨by omega, by omega, by omega⟩, fun hk => ⟨⟨by omega, by omega⟩, ⟨by omega, by omega⟩, ⟨(i + 1, nx), by dsimp only; omega⟩, ⟨Nat.le_refl _, ?_, by dsimp only; omega⟩, by dsimp only; omega⟩, fun hk => ⟨⟨by omega, by omega⟩, ⟨(i + 1, nx), by dsimp only; omega⟩, ⟨Nat.le_refl _, ?_, by dsimp only; omega⟩, by dsimp only; omega⟩⟩
      · dsimp only
        rw [hsn, if_pos hk]
        omega
      · dsimp only
        rw [hsn, if_neg hk]
        rfl
    · obtain rfl : i = L.length := by omega
      refine AW.of hΓ mixed [99999] _ _ _ rfl ?_
      simp only [go_sem, sRefClassK]
def lbP (p : Pt) : BS × BS × BS := (p.1, p.2.1, p.2.2.1)
def sRefDocB : Spec := Spec.f5 (kA eFl) (kL eCk) kI (kA ePt) kI (fun f L st p v => (okFl f ∧ L.length ≤ 10000 ∧ sumT (L.flatMap (ckPs f st (lbP p) v)) ≤ 1000000000) ∧ okLb (lbP p)) (fun f L st p v => tu2 (sL ePt (docF f L st (lbP p) v).1) (kI.enc (docF f L st (lbP p) v).2))
theorem okRefDocB : SpecOK Tryz.prog 37 sRefDocB := by
  refine SpecOK.f5 Tryz.func37 rfl (by decide) Tryz.results37 Tryz.ntmps37 (by decide) fun f L st p v ⟨⟨hf, hL, hsum⟩, hlb1, hlb2, hlb3⟩ => ?_
  have hΓ : GOK Tryz.prog (gam [(56, sRefPlain), (74, sRefCutK), (75, sRefClassK), (77, sRefEndsS), (78, sRefJoin), (76, sRefTextB), (79, sRefOf)]) := (.cons okRefPlain (.cons okRefCutK (.cons okRefClassK (.cons okRefEndsS (.cons okRefJoin (.cons okRefTextB (.cons okRefOf .nil)))))))
  have hff := hf
  obtain ⟨fb, fl, fr⟩ := f
  obtain ⟨lb1, lb2, lb3, ph, pt, pl, pb, pr, phb⟩ := p
  obtain ⟨hf1, hf2, hf3⟩ := hff
  dsimp only [lbP] at hf1 hf2 hf3 hsum hlb1 hlb2 hlb3 ⊢
  have fs := fun j => flat_sum hf st (lb1, lb2, lb3) v (L.take j)
  have d5 : (styOK st && favOK v) = false → docF (fb, fl, fr) L st (lb1, lb2, lb3) v = ([], 5) := fun h => by unfold docF; rw [if_pos h]
  have d3 : (styOK st && favOK v) = true → plainLb (lb1, lb2, lb3) = false → docF (fb, fl, fr) L st (lb1, lb2, lb3) v = ([], 3) := fun h h2 => by unfold docF; rw [if_neg (by rw [h]; simp), if_pos h2]
  have d0 : (styOK st && favOK v) = true → plainLb (lb1, lb2, lb3) = true → docF (fb, fl, fr) L st (lb1, lb2, lb3) v = (ofD (L.flatMap (ckPs (fb, fl, fr) st (lb1, lb2, lb3) v)), 0) := fun h h2 => by unfold docF; rw [if_neg (by rw [h]; simp), if_neg (by rw [h2]; simp)]
  refine AW.of hΓ mixed [0, 200022] _ _ _ rfl ?_
  simp only [go_sem, sRefPlain, sRefCutK, sRefClassK, sRefEndsS, sRefJoin, sRefTextB, sRefOf]
  refine AW.still 5 0 0 79 3 _ rfl rfl (fun j hj => match j, hj with | 0, _ => rfl | 1, _ => rfl | 2, _ => rfl) ?_
  refine AW.still 8 1 1 44 9 _ rfl rfl (fun j hj => match j, hj with | 0, _ => rfl | 1, _ => rfl | 2, _ => rfl | 3, _ => rfl | 4, _ => rfl | 5, _ => rfl | 6, _ => rfl | 7, _ => rfl | 8, _ => rfl) ?_
  cases hs : styOK st && favOK v with
  | false =>
    rw [d5 hs]
    have h3 : st < 0 ∨ 2 < st ∨ (v ≠ 0 ∧ v ≠ 1 ∧ v ≠ 3) := by
      unfold styOK favOK at hs
      simp only [Bool.and_eq_false_iff, Bool.or_eq_false_iff, decide_eq_false_iff_not] at hs
      omega
    by_cases e1 : st < 0
    · have g1 : (st < 0) = True := eq_true e1
      refine AW.of hΓ mixed [200022] _ _ _ rfl ?_
      simp only [go_sem, sRefPlain, sRefCutK, sRefClassK, sRefEndsS, sRefJoin, sRefTextB, sRefOf, g1]
      exact em_sL _
    · have g1 : (st < 0) = False := eq_false e1
      by_cases e2 : 2 < st
      · have g2 : (2 < st) = True := eq_true e2
        refine AW.of hΓ mixed [200022] _ _ _ rfl ?_
        simp only [go_sem, sRefPlain, sRefCutK, sRefClassK, sRefEndsS, sRefJoin, sRefTextB, sRefOf, g1, g2]
        exact em_sL _
      · have g2 : (2 < st) = False := eq_false e2
        obtain ⟨e3, e4, e5⟩ : v ≠ 0 ∧ v ≠ 1 ∧ v ≠ 3 := by omega
        refine AW.of hΓ mixed [200022] _ _ _ rfl ?_
        simp only [go_sem, sRefPlain, sRefCutK, sRefClassK, sRefEndsS, sRefJoin, sRefTextB, sRefOf, g1, g2, e3, e4, e5]
        exact em_sL _
  | true =>
    have hst : st = 0 ∨ st = 1 ∨ st = 2 := by
      unfold styOK at hs
      simp only [Bool.and_eq_true, Bool.or_eq_true, decide_eq_true_eq] at hs
      exact hs.1
    have hv : v = 0 ∨ v = 1 ∨ v = 3 := by
      unfold favOK at hs
      simp only [Bool.and_eq_true, Bool.or_eq_true, decide_eq_true_eq] at hs
      exact hs.2
    have g1 : (st < 0) = False := eq_false (by omega)
    have g2 : (2 < st) = False := eq_false (by omega)
    refine AW.seqTo (fun _ : Unit => Sh.st ⟨[(1, sL eCk L), (2, .val (.int .i64 st)), (4, .val (.int .i64 v)), (5, .ps 3 (eFl.enc (fb, fl, fr))), (8, .ps 9 (ePt.enc (lb1, lb2, lb3, ph, pt, pl, pb, pr, phb)))], [], 175, 2, 2, []⟩) ?_ fun _ => ?_
    · rcases hv with rfl | rfl | rfl
      · refine AW.of hΓ mixed [99999] _ _ _ rfl ?_
        simp only [go_sem, sRefPlain, sRefCutK, sRefClassK, sRefEndsS, sRefJoin, sRefTextB, sRefOf, g1, g2]
        exact ⟨(), toFits (by
          simp only [go_sem])⟩
      · refine AW.of hΓ mixed [99999] _ _ _ rfl ?_
        simp only [go_sem, sRefPlain, sRefCutK, sRefClassK, sRefEndsS, sRefJoin, sRefTextB, sRefOf, g1, g2]
        exact ⟨(), toFits (by
          simp only [go_sem])⟩
      · refine AW.of hΓ mixed [99999] _ _ _ rfl ?_
        simp only [go_sem, sRefPlain, sRefCutK, sRefClassK, sRefEndsS, sRefJoin, sRefTextB, sRefOf, g1, g2]
        exact ⟨(), toFits (by
          simp only [go_sem])⟩
    cases hp : plainLb (lb1, lb2, lb3) with
    | false =>
      rw [d3 hs hp]
      unfold plainLb at hp
      dsimp only at hp
      refine AW.of hΓ mixed [200022] _ _ _ rfl ?_
      simp only [go_sem, sRefPlain, sRefCutK, sRefClassK, sRefEndsS, sRefJoin, sRefTextB, sRefOf, hp, plainD]
      exact ⟨⟨by omega, by omega, by omega⟩, em_sL _⟩
    | true =>
      rw [d0 hs hp]
      unfold plainLb at hp
      dsimp only at hp
      refine AW.of hΓ mixed [5, 200022] _ _ _ rfl ?_
      simp only [go_sem, sRefPlain, sRefCutK, sRefClassK, sRefEndsS, sRefJoin, sRefTextB, sRefOf, hp, plainD]
      refine ⟨⟨by omega, by omega, by omega⟩, ?_⟩
      refine AW.adopt 12 44 9 (fun i => ePt.enc (([] : List Pt).getD i ePt.dflt)) rfl ?_
      refine AW.seqTo (fun x : Nat × Nat => Sh.st ⟨[(12, .ow 2 x.1 (L.flatMap (ckPs (fb, fl, fr) st (lb1, lb2, lb3) v)).length)], [(2, rowL x.1 44 ePt (L.flatMap (ckPs (fb, fl, fr) st (lb1, lb2, lb3) v)))], 175, 3, x.2, []⟩) ?_ fun ⟨u, nx⟩ => ?_
      rotate_left
      · have fL := flat_sum hf st (lb1, lb2, lb3) v L
        generalize L.flatMap (ckPs (fb, fl, fr) st (lb1, lb2, lb3) v) = S at *
        refine AW.freeze 2 u 44 9 S.length (fun i => ePt.enc (S.getD i ePt.dflt)) rfl (fun _ _ j hj => match j, hj with | 0, _ => rfl | 1, _ => rfl | 2, _ => rfl | 3, _ => rfl | 4, _ => rfl | 5, _ => rfl | 6, _ => rfl | 7, _ => rfl | 8, _ => rfl) ?_
        refine AW.cut ⟨[(12, sL ePt S)], [], 175, 3, nx, []⟩ ?_ ?_
        · simp only [go_sem, sRefPlain, sRefCutK, sRefClassK, sRefEndsS, sRefJoin, sRefTextB, sRefOf]
          exact vw_all (E := ePt) rfl rfl rfl
        refine AW.of hΓ mixed [] _ _ _ rfl ?_
        simp only [go_sem, sRefPlain, sRefCutK, sRefClassK, sRefEndsS, sRefJoin, sRefTextB, sRefOf]
        exact ⟨by omega, by omega⟩
      refine AW.of hΓ mixed [200022] _ _ _ rfl ?_
      simp only [go_sem, sRefPlain, sRefCutK, sRefClassK, sRefEndsS, sRefJoin, sRefTextB, sRefOf]
      refine AW.round (α := { x : Nat × List Pt × Nat × Nat // x.1 ≤ L.length ∧ x.2.1 = (L.take x.1).flatMap (ckPs (fb, fl, fr) st (lb1, lb2, lb3) v) })
        (fun x => ⟨[(1, sL eCk L), (2, .val (.int .i64 st)), (4, .val (.int .i64 v)), (5, .ps 3 (eFl.enc (fb, fl, fr))), (8, .ps 9 (ePt.enc (lb1, lb2, lb3, ph, pt, pl, pb, pr, phb))), (12, .ow 2 x.1.2.2.1 x.1.2.1.length), (13, .val (.int .i64 x.1.1))],
          [(2, rowL x.1.2.2.1 44 ePt x.1.2.1)], 175, 3, x.1.2.2.2, []⟩) (fun x => L.length - x.1.1) ⟨(0, [], 2, 3), Nat.zero_le _, rfl⟩ ?_ ?_
      · simp only [go_sem, sRefPlain, sRefCutK, sRefClassK, sRefEndsS, sRefJoin, sRefTextB, sRefOf]
        exact RowLe.refl _
      · rintro ⟨⟨i, S, u, nx⟩, hi, hS⟩
        simp only at hi hS
        have fi := fs i
        rw [← hS, List.length_take] at fi
        rcases Nat.lt_or_ge i L.length with hlt' | hge
        · have hlI : ((i : Int) < (L.length : Nat)) = True := eq_true (by omega)
          have hsn : (L.take (i + 1)).flatMap (ckPs (fb, fl, fr) st (lb1, lb2, lb3) v) = S ++ ckPs (fb, fl, fr) st (lb1, lb2, lb3) v (L.getD i eCk.dflt) := by
            rw [take_snoc L eCk.dflt hlt', List.flatMap_append, ← hS]
            simp
          generalize hce : L.getD i eCk.dflt = c at *
          obtain ⟨cs, ⟨cb1, cb2⟩, ⟨cl1, cl2⟩, cr1, cr2⟩ := c
          have hcc : classK (cs, (cb1, cb2), (cl1, cl2), cr1, cr2) fb fl fr = clsF (fb, fl, fr) (cs, (cb1, cb2), (cl1, cl2), cr1, cr2) := rfl
          have hkk : clsF (fb, fl, fr) (cs, (cb1, cb2), (cl1, cl2), cr1, cr2) = 0 ∨ clsF (fb, fl, fr) (cs, (cb1, cb2), (cl1, cl2), cr1, cr2) = 1 ∨ clsF (fb, fl, fr) (cs, (cb1, cb2), (cl1, cl2), cr1, cr2) = 2 ∨ clsF (fb, fl, fr) (cs, (cb1, cb2), (cl1, cl2), cr1, cr2) = 3 ∨ clsF (fb, fl, fr) (cs, (cb1, cb2), (cl1, cl2), cr1, cr2) = 4 := by
            rcases cls_cases (fb, fl, fr) (cs, (cb1, cb2), (cl1, cl2), cr1, cr2) with ⟨h, _⟩ | ⟨_, ⟨h, _⟩ | ⟨h, _⟩ | ⟨h, _⟩ | ⟨h, _⟩⟩
            · exact .inl h
            · exact .inr (.inr (.inl h))
            · exact .inr (.inl h)
            · exact .inr (.inr (.inr (.inl h)))
            · exact .inr (.inr (.inr (.inr h)))
          generalize hke : clsF (fb, fl, fr) (cs, (cb1, cb2), (cl1, cl2), cr1, cr2) = k at *
          have sB := cutS_sub (cb1, cb2) fb
          have sO := cutS_sub (cl1, cl2) fl
          have sT := cutS_sub (cr1, cr2) fr
          refine AW.of hΓ mixed [10, 99999, 200022] _ _ _ rfl ?_
          simp only [go_sem, sRefPlain, sRefCutK, sRefClassK, sRefEndsS, sRefJoin, sRefTextB, sRefOf, hce, hcc, hlI]
          refine ⟨by omega, by omega, by omega, by omega, by omega, by omega, by omega, ⟨by omega, by omega, by omega⟩, ?_⟩
          have kB := okLs_sub sB hf1.1 hf1.2
          have kO := okLs_sub sO hf2.1 hf2.2
          have kT := okLs_sub sT hf3.1 hf3.2
          refine AW.cut ⟨[(1, sL eCk L), (2, .val (.int .i64 st)), (4, .val (.int .i64 v)), (5, .ps 3 (eFl.enc (fb, fl, fr))), (8, .ps 9 (ePt.enc (lb1, lb2, lb3, ph, pt, pl, pb, pr, phb))), (12, .ow 2 u S.length), (13, .val (.int .i64 i)), (14, sL eS (cutS (cb1, cb2) fb)), (15, sL eS (cutS (cl1, cl2) fl)), (16, sL eS (cutS (cr1, cr2) fr)), (17, .val (.int .i64 k))],
            [(2, rowL u 44 ePt S)], 175, 3, nx, []⟩ ?_ ?_
          · simp only [go_sem, sRefPlain, sRefCutK, sRefClassK, sRefEndsS, sRefJoin, sRefTextB, sRefOf]
            exact RowLe.refl _
          rcases hkk with hk | hk | hk | hk | hk
          · subst hk
            have hcs : ckPs (fb, fl, fr) st (lb1, lb2, lb3) v (cs, (cb1, cb2), (cl1, cl2), cr1, cr2) = [textP (cutS (cb1, cb2) fb).flatten] := by
              unfold ckPs
              rw [hke, if_neg (by omega)]
              rfl
            rw [hcs] at hsn
            refine AW.of hΓ mixed [99999, 200022] _ _ _ rfl ?_
            simp only [go_sem, sRefPlain, sRefCutK, sRefClassK, sRefEndsS, sRefJoin, sRefTextB, sRefOf]
            refine ⟨kB, by omega, ⟨by omega, by omega⟩, ⟨(i + 1, S ++ [textP (cutS (cb1, cb2) fb).flatten], nx, nx + 1), by dsimp only; omega, hsn.symm⟩, ⟨Nat.le_refl _, ⟨⟨rfl, by simp⟩, by dsimp only; omega⟩, ?_⟩, by dsimp only; omega⟩
            exact row_app1 (E := ePt) rfl rfl rfl rfl (by simp) fun j _ => AVle.refl _
          · subst hk
            have hcs : ckPs (fb, fl, fr) st (lb1, lb2, lb3) v (cs, (cb1, cb2), (cl1, cl2), cr1, cr2) = [textP (cutS (cl1, cl2) fl).flatten] := by
              unfold ckPs
              rw [hke, if_neg (by omega)]
              rfl
            rw [hcs] at hsn
            refine AW.of hΓ mixed [99999, 200022] _ _ _ rfl ?_
            simp only [go_sem, sRefPlain, sRefCutK, sRefClassK, sRefEndsS, sRefJoin, sRefTextB, sRefOf]
            refine ⟨kO, by omega, ⟨by omega, by omega⟩, ⟨(i + 1, S ++ [textP (cutS (cl1, cl2) fl).flatten], nx, nx + 1), by dsimp only; omega, hsn.symm⟩, ⟨Nat.le_refl _, ⟨⟨rfl, by simp⟩, by dsimp only; omega⟩, ?_⟩, by dsimp only; omega⟩
            exact row_app1 (E := ePt) rfl rfl rfl rfl (by simp) fun j _ => AVle.refl _
          · subst hk
            have hcs : ckPs (fb, fl, fr) st (lb1, lb2, lb3) v (cs, (cb1, cb2), (cl1, cl2), cr1, cr2) = [textP (cutS (cr1, cr2) fr).flatten] := by
              unfold ckPs
              rw [hke, if_neg (by omega)]
              rfl
            rw [hcs] at hsn
            refine AW.of hΓ mixed [99999, 200022] _ _ _ rfl ?_
            simp only [go_sem, sRefPlain, sRefCutK, sRefClassK, sRefEndsS, sRefJoin, sRefTextB, sRefOf]
            refine ⟨kT, by omega, ⟨by omega, by omega⟩, ⟨(i + 1, S ++ [textP (cutS (cr1, cr2) fr).flatten], nx, nx + 1), by dsimp only; omega, hsn.symm⟩, ⟨Nat.le_refl _, ⟨⟨rfl, by simp⟩, by dsimp only; omega⟩, ?_⟩, by dsimp only; omega⟩
            exact row_app1 (E := ePt) rfl rfl rfl rfl (by simp) fun j _ => AVle.refl _
          · subst hk
            have hcs : ckPs (fb, fl, fr) st (lb1, lb2, lb3) v (cs, (cb1, cb2), (cl1, cl2), cr1, cr2) = [textP (cutS (cl1, cl2) fl).flatten] := by
              unfold ckPs
              rw [hke, if_neg (by omega)]
              rfl
            rw [hcs] at hsn
            refine AW.of hΓ mixed [99999, 200022] _ _ _ rfl ?_
            simp only [go_sem, sRefPlain, sRefCutK, sRefClassK, sRefEndsS, sRefJoin, sRefTextB, sRefOf]
            refine ⟨kO, by omega, ⟨by omega, by omega⟩, ⟨(i + 1, S ++ [textP (cutS (cl1, cl2) fl).flatten], nx, nx + 1), by dsimp only; omega, hsn.symm⟩, ⟨Nat.le_refl _, ⟨⟨rfl, by simp⟩, by dsimp only; omega⟩, ?_⟩, by dsimp only; omega⟩
            exact row_app1 (E := ePt) rfl rfl rfl rfl (by simp) fun j _ => AVle.refl _
          · subst hk
            have hcs : ckPs (fb, fl, fr) st (lb1, lb2, lb3) v (cs, (cb1, cb2), (cl1, cl2), cr1, cr2) = if v = 0 then confL (fb, fl, fr) (cs, (cb1, cb2), (cl1, cl2), cr1, cr2) st (lb1, lb2, lb3) else if v = 3 then [textP (cutS (cr1, cr2) fr).flatten] else [textP (cutS (cl1, cl2) fl).flatten] := by
              unfold ckPs sideF
              rw [hke]
              by_cases h0 : v = 0
              · rw [if_pos ⟨rfl, h0⟩, if_pos h0]
              · rw [if_neg (fun e => h0 e.2), if_neg h0, if_neg (by decide), if_neg (by decide)]
                by_cases h3 : v = 3
                · rw [if_pos ⟨rfl, h3⟩, if_pos h3]
                  rfl
                · rw [if_neg (fun e => h3 e.2), if_neg h3]
                  rfl
            rw [hcs] at hsn
            rcases hv with hv | hv | hv
            · subst hv
              rw [if_pos rfl] at hsn
              refine AW.of hΓ mixed [17, 99999, 200022] _ _ _ rfl ?_
              simp only [go_sem, sRefPlain, sRefCutK, sRefClassK, sRefEndsS, sRefJoin, sRefTextB, sRefOf]
              have hh := hoist_le st (cutS (cl1, cl2) fl) (cutS (cr1, cr2) fr)
              have i1 := sO.length_le
              have i2 := sT.length_le
              have hcf : confL (fb, fl, fr) (cs, (cb1, cb2), (cl1, cl2), cr1, cr2) st (lb1, lb2, lb3) = [textP ((cutS (cl1, cl2) fl).take (hoistF st (cutS (cl1, cl2) fl) (cutS (cr1, cr2) fr)).1).flatten,
                (lb1, (if st = 0 then [] else lb2), lb3, true, [], (cutL (cutS (cl1, cl2) fl) (hoistF st (cutS (cl1, cl2) fl) (cutS (cr1, cr2) fr)).1 ((cutS (cl1, cl2) fl).length - (hoistF st (cutS (cl1, cl2) fl) (cutS (cr1, cr2) fr)).2)).flatten, (if st = 0 then [] else (cutS (cb1, cb2) fb).flatten), (cutL (cutS (cr1, cr2) fr) (hoistF st (cutS (cl1, cl2) fl) (cutS (cr1, cr2) fr)).1 ((cutS (cr1, cr2) fr).length - (hoistF st (cutS (cl1, cl2) fl) (cutS (cr1, cr2) fr)).2)).flatten, decide (st ≠ 0)),
                textP ((cutS (cl1, cl2) fl).drop ((cutS (cl1, cl2) fl).length - (hoistF st (cutS (cl1, cl2) fl) (cutS (cr1, cr2) fr)).2)).flatten] := rfl
              rw [hcf] at hsn
              clear hcf hcs hke hcc hce d5 d3 d0
              generalize cutS (cb1, cb2) fb = B at *
              generalize cutS (cl1, cl2) fl = O at *
              generalize cutS (cr1, cr2) fr = T at *
              refine AW.cut ⟨[(2, .val (.int .i64 st)), (8, .ps 9 (ePt.enc (lb1, lb2, lb3, ph, pt, pl, pb, pr, phb))), (1, sL eCk L), (4, .val (.int .i64 0)), (5, .ps 3 (eFl.enc (fb, fl, fr))), (12, .ow 2 u S.length), (13, .val (.int .i64 i)), (14, sL eS B), (15, sL eS O), (16, sL eS T), (18, .val (.int .i64 0)), (19, .val (.int .i64 0))],
                [(2, rowL u 44 ePt S)], 175, 3, nx, []⟩ ?_ ?_
              · simp only [go_sem, sRefPlain, sRefCutK, sRefClassK, sRefEndsS, sRefJoin, sRefTextB, sRefOf]
                exact RowLe.refl _
              refine AW.seqTo (fun _ : Unit => Sh.st ⟨[(2, .val (.int .i64 st)), (8, .ps 9 (ePt.enc (lb1, lb2, lb3, ph, pt, pl, pb, pr, phb))), (1, sL eCk L), (4, .val (.int .i64 0)), (5, .ps 3 (eFl.enc (fb, fl, fr))), (12, .ow 2 u S.length), (13, .val (.int .i64 i)), (14, sL eS B), (15, sL eS O), (16, sL eS T), (18, .val (.int .i64 (hoistF st O T).1)), (19, .val (.int .i64 (hoistF st O T).2))],
                [(2, rowL u 44 ePt S)], 175, 3, nx, []⟩) ?_ fun _ => ?_
              · refine AW.of hΓ mixed [99999] _ _ _ rfl ?_
                simp only [go_sem, sRefPlain, sRefCutK, sRefClassK, sRefEndsS, sRefJoin, sRefTextB, sRefOf]
                refine ⟨fun h2 => ⟨⟨by omega, by omega⟩, (), toFits ?_⟩, fun h2 => ⟨(), toFits ?_⟩⟩
                · unfold hoistF
                  rw [if_pos h2]
                  simp only [go_sem, sRefPlain, sRefCutK, sRefClassK, sRefEndsS, sRefJoin, sRefTextB, sRefOf]
                  exact RowLe.refl _
                · unfold hoistF
                  rw [if_neg h2]
                  simp only [go_sem, sRefPlain, sRefCutK, sRefClassK, sRefEndsS, sRefJoin, sRefTextB, sRefOf]
                  exact RowLe.refl _
              generalize hoistF st O T = h at *
              obtain ⟨h1, h2⟩ := h
              dsimp only at hh hsn ⊢
              have eO : (List.range (((O.length : Int) - (h2 : Int)).toNat - h1)).map (fun i => O.getD (h1 + i) []) = cutL O h1 (O.length - h2) := by
                rw [cut_map (by omega), show ((O.length : Int) - (h2 : Int)).toNat - h1 = O.length - h2 - h1 by omega]
              have eT : (List.range (((T.length : Int) - (h2 : Int)).toNat - h1)).map (fun i => T.getD (h1 + i) []) = cutL T h1 (T.length - h2) := by
                rw [cut_map (by omega), show ((T.length : Int) - (h2 : Int)).toNat - h1 = T.length - h2 - h1 by omega]
              have jO : okLs (cutL O h1 (O.length - h2)) := okLs_sub (((List.drop_sublist _ _).trans (List.take_sublist _ _)).trans sO) hf2.1 hf2.2
              have jT : okLs (cutL T h1 (T.length - h2)) := okLs_sub (((List.drop_sublist _ _).trans (List.take_sublist _ _)).trans sT) hf3.1 hf3.2
              have jA : okLs (O.take h1) := okLs_sub ((List.take_sublist _ _).trans sO) hf2.1 hf2.2
              have jD : okLs (O.drop (O.length - h2)) := okLs_sub ((List.drop_sublist _ _).trans sO) hf2.1 hf2.2
              refine AW.of hΓ mixed [20, 99999, 200022] _ _ _ rfl ?_
              simp only [go_sem, sRefPlain, sRefCutK, sRefClassK, sRefEndsS, sRefJoin, sRefTextB, sRefOf, eO, eT]
              refine ⟨⟨by omega, by omega⟩, ⟨by omega, by omega, by omega⟩, jO, ⟨by omega, by omega⟩, ⟨by omega, by omega, by omega⟩, jT, ?_⟩
              generalize (cutL O h1 (O.length - h2)).flatten = X at *
              generalize (cutL T h1 (T.length - h2)).flatten = Y at *
              refine AW.cut ⟨[(2, .val (.int .i64 st)), (8, .ps 9 (ePt.enc (lb1, lb2, lb3, ph, pt, pl, pb, pr, phb))), (1, sL eCk L), (4, .val (.int .i64 0)), (5, .ps 3 (eFl.enc (fb, fl, fr))), (12, .ow 2 u S.length), (13, .val (.int .i64 i)), (14, sL eS B), (15, sL eS O), (18, .val (.int .i64 h1)), (19, .val (.int .i64 h2)), (20, .pt 3 nx 0)],
                [(2, rowL u 44 ePt S), (3, .box nx 44 9 (ePt.enc (lb1, [], lb3, true, [], X, [], Y, false)))], 175, 4, nx + 1, []⟩ ?_ ?_
              · simp only [go_sem, sRefPlain, sRefCutK, sRefClassK, sRefEndsS, sRefJoin, sRefTextB, sRefOf]
                exact ⟨RowLe.refl _, pt_box rfl rfl rfl rfl rfl rfl rfl rfl rfl⟩
              refine AW.seqTo (fun _ : Unit => Sh.st ⟨[(2, .val (.int .i64 st)), (8, .ps 9 (ePt.enc (lb1, lb2, lb3, ph, pt, pl, pb, pr, phb))), (1, sL eCk L), (4, .val (.int .i64 0)), (5, .ps 3 (eFl.enc (fb, fl, fr))), (12, .ow 2 u S.length), (13, .val (.int .i64 i)), (15, sL eS O), (18, .val (.int .i64 h1)), (19, .val (.int .i64 h2)), (20, .pt 3 nx 0)],
                [(2, rowL u 44 ePt S), (3, .box nx 44 9 (ePt.enc (lb1, (if st = 0 then [] else lb2), lb3, true, [], X, (if st = 0 then [] else B.flatten), Y, decide (st ≠ 0))))], 175, 4, nx + 1, []⟩) ?_ fun _ => ?_
              · refine AW.of hΓ mixed [99999, 200022] _ _ _ rfl ?_
                simp only [go_sem, sRefPlain, sRefCutK, sRefClassK, sRefEndsS, sRefJoin, sRefTextB, sRefOf]
                refine ⟨fun h0 => ?_, fun h0 => ⟨(), toFits ?_⟩⟩
                · rw [if_neg (by omega), if_neg (by omega), decide_eq_true (by omega)]
                  refine AW.drawZ hΓ mixed 5 [6, 8] [1, 2, 3, 4, 6, 8] [] (by kernel_rfl) ?_
                  simp only [go_sem, sRefPlain, sRefCutK, sRefClassK, sRefEndsS, sRefJoin, sRefTextB, sRefOf]
                  refine ⟨kB, (), toFits ?_⟩
                  simp only [go_sem, sRefPlain, sRefCutK, sRefClassK, sRefEndsS, sRefJoin, sRefTextB, sRefOf]
                  exact ⟨RowLe.refl _, pt_box rfl rfl rfl rfl rfl rfl rfl rfl rfl⟩
                · obtain rfl : st = 0 := by omega
                  simp only [go_sem, sRefPlain, sRefCutK, sRefClassK, sRefEndsS, sRefJoin, sRefTextB, sRefOf]
                  exact ⟨RowLe.refl _, pt_box rfl rfl rfl rfl rfl rfl rfl rfl rfl⟩
              have eA1 : (List.range (h1 - 0)).map (fun i => O.getD i []) = O.take h1 := by
                refine list_ext_getD [] (by simp; omega) fun k hk => ?_
                have hk : k < h1 := by simpa using hk
                simp [List.getD, List.getElem?_take, hk]
              have eA2 : (List.range (O.length - ((O.length : Int) - (h2 : Int)).toNat)).map (fun i => O.getD (((O.length : Int) - (h2 : Int)).toNat + i) []) = O.drop (O.length - h2) := by
                have e : ((O.length : Int) - (h2 : Int)).toNat = O.length - h2 := by omega
                rw [e]
                refine list_ext_getD [] (by simp) fun k hk => ?_
                have hk : k < O.length - (O.length - h2) := by simpa using hk
                simp [List.getD, hk]
                rw [List.getElem?_eq_getElem (by omega)]
                rfl
              refine AW.of hΓ mixed [99999, 200022] _ _ _ rfl ?_
              simp only [go_sem, sRefPlain, sRefCutK, sRefClassK, sRefEndsS, sRefJoin, sRefTextB, sRefOf, eA1, eA2]
              refine ⟨⟨by omega, by omega⟩, jA, ⟨by omega, by omega⟩, ⟨by omega, by omega, by omega⟩, jD, by omega, ⟨by omega, by omega⟩, ⟨(i + 1, S ++ [textP (O.take h1).flatten, (lb1, (if st = 0 then [] else lb2), lb3, true, [], X, (if st = 0 then [] else B.flatten), Y, decide (st ≠ 0)), textP (O.drop (O.length - h2)).flatten], nx + 1, nx + 2), by dsimp only; omega, hsn.symm⟩, ⟨Nat.le_refl _, ⟨⟨rfl, by simp⟩, by dsimp only; omega⟩, ?_⟩, by dsimp only; omega⟩
              exact row_app (E := ePt) rfl rfl rfl rfl (by simp) fun i hi j _ => match i, hi with
                | 0, _ => AVle.refl _
                | 1, _ => AVle.refl _
                | 2, _ => AVle.refl _
            · subst hv
              rw [if_neg (by decide), if_neg (by decide)] at hsn
              refine AW.of hΓ mixed [99999, 200022] _ _ _ rfl ?_
              simp only [go_sem, sRefPlain, sRefCutK, sRefClassK, sRefEndsS, sRefJoin, sRefTextB, sRefOf]
              refine ⟨kO, by omega, ⟨by omega, by omega⟩, ⟨(i + 1, S ++ [textP (cutS (cl1, cl2) fl).flatten], nx, nx + 1), by dsimp only; omega, hsn.symm⟩, ⟨Nat.le_refl _, ⟨⟨rfl, by simp⟩, by dsimp only; omega⟩, ?_⟩, by dsimp only; omega⟩
              exact row_app1 (E := ePt) rfl rfl rfl rfl (by simp) fun j _ => AVle.refl _
            · subst hv
              rw [if_neg (by decide), if_pos rfl] at hsn
              refine AW.of hΓ mixed [99999, 200022] _ _ _ rfl ?_
              simp only [go_sem, sRefPlain, sRefCutK, sRefClassK, sRefEndsS, sRefJoin, sRefTextB, sRefOf]
              refine ⟨kT, by omega, ⟨by omega, by omega⟩, ⟨(i + 1, S ++ [textP (cutS (cr1, cr2) fr).flatten], nx, nx + 1), by dsimp only; omega, hsn.symm⟩, ⟨Nat.le_refl _, ⟨⟨rfl, by simp⟩, by dsimp only; omega⟩, ?_⟩, by dsimp only; omega⟩
              exact row_app1 (E := ePt) rfl rfl rfl rfl (by simp) fun j _ => AVle.refl _
        · obtain rfl : i = L.length := by omega
          rw [List.take_length] at hS
          refine AW.of hΓ mixed [99999, 200022] _ _ _ rfl ?_
          simp only [go_sem, sRefPlain, sRefCutK, sRefClassK, sRefEndsS, sRefJoin, sRefTextB, sRefOf]
          refine ⟨(u, nx), toFits ?_⟩
          rw [← hS]
          simp only [go_sem, sRefPlain, sRefCutK, sRefClassK, sRefEndsS, sRefJoin, sRefTextB, sRefOf]
          exact RowLe.refl _
end Go.Proofs.YtjfmigpahglajaaGreatDoor
set_option linter.unusedSimpArgs false
set_option linter.unusedVariables false
set_option maxRecDepth 100000
set_option maxHeartbeats 2000000
namespace Go.Proofs.YtjfmigpahglajaaGreatDoor
open Go
attribute [local irreducible] AW AVle ASle RowLe
def sLcsLength : Spec := Spec.f2 (kL eI) (kL eI) (fun a b => a.length < 100000000 ∧ b.length < 100000000) (fun a b => kI.enc (lcsN a b))
def rowN (n : Nat) (f : Nat → Nat) : List Int := (List.range n).map fun k => (f k : Int)
theorem rowN_len (n : Nat) (f : Nat → Nat) : (rowN n f).length = n := by simp [rowN]
theorem rowN_at {n : Nat} (f : Nat → Nat) {k : Nat} (h : k < n) : (rowN n f).getD k 0 = f k := by simp [rowN, List.getD, h]
theorem rowN_set {n k : Nat} {f g : Nat → Nat} {w : Int} (hw : w = g k) (h : ∀ t, t < n → t ≠ k → f t = g t) : (rowN n f).set k w = rowN n g := by
  refine list_ext_getD 0 (by simp [rowN]) fun t ht => ?_
  simp only [List.length_set, rowN_len] at ht
  rw [rowN_at _ ht]
  by_cases e : t = k
  · subst e
    simp [List.getD, rowN_len, ht, hw]
  · have e2 : ((rowN n f).set k w).getD t 0 = (rowN n f).getD t 0 := by simp only [List.getD]; rw [List.getElem?_set_ne (by omega)]
    rw [e2, rowN_at _ ht, h t ht e]
theorem okLcsLength : SpecOK Tryz.prog 59 sLcsLength := by
  refine SpecOK.f2 Tryz.func59 rfl (by decide) Tryz.results59 Tryz.ntmps59 (by decide) fun a b ⟨ha, hb⟩ => ?_
  have hΓ : GOK Tryz.prog (gam []) := GOK.nil
  refine AW.of hΓ mixed [] _ _ _ rfl ?_
  simp only [go_sem]
  refine ⟨by omega, by omega, ?_⟩
  refine AW.round (α := { x : Nat × Nat × Nat // x.1 ≤ a.length })
    (fun x => ⟨[(0, sL eI a), (1, sL eI b), (5, .ow 0 x.1.2.1 (b.length + 1)), (6, .val (.int .i64 x.1.1))], [(0, rowL x.1.2.1 3 eI (rowN (b.length + 1) (tabL a b x.1.1)))], 67, 1, x.1.2.2, []⟩) (fun x => a.length - x.1.1) ⟨(0, 0, 1), Nat.zero_le _⟩ ?_ ?_
  · simp only [go_sem]
    refine RowLe.sl (rowN_len _ _) fun k hk j hj => AVle.of_eq ?_
    match j, hj with
    | 0, _ =>
      rw [rowN_at _ hk]
      rfl
  · rintro ⟨⟨i, v, nx⟩, hi⟩
    simp only at hi
    refine AW.of hΓ mixed [5, 99999] _ _ _ rfl ?_
    simp only [go_sem]
    refine ⟨fun hlt => ?_, fun hge => ?_⟩
    · refine ⟨by omega, by omega, ?_⟩
      refine AW.seqTo (fun n3 : Nat => Sh.st ⟨[(0, sL eI a), (1, sL eI b), (6, .val (.int .i64 i)), (7, .ow 0 nx (b.length + 1))], [(0, rowL nx 3 eI (rowN (b.length + 1) (tabL a b (i + 1))))], 67, 1, n3, []⟩) ?_ ?_
      · refine AW.of hΓ mixed [] _ _ _ rfl ?_
        simp only [go_sem]
        refine AW.round (α := { x : Nat × Nat // x.1 ≤ b.length })
          (fun x => ⟨[(0, sL eI a), (1, sL eI b), (5, .ow 0 v (b.length + 1)), (6, .val (.int .i64 i)), (7, .ow 1 nx (b.length + 1)), (8, .val (.int .i64 x.1.1))],
            [(0, rowL v 3 eI (rowN (b.length + 1) (tabL a b i))), (1, rowL nx 3 eI (rowN (b.length + 1) fun t => if t ≤ x.1.1 then tabL a b (i + 1) t else 0))], 67, 2, x.1.2, []⟩) (fun x => b.length - x.1.1) ⟨(0, nx + 1), Nat.zero_le _⟩ ?_ ?_
        · simp only [go_sem]
          refine ⟨RowLe.refl _, RowLe.sl (rowN_len _ _) fun k hk j hj => AVle.of_eq ?_⟩
          match j, hj with
          | 0, _ =>
            rw [rowN_at _ hk]
            by_cases h0 : k ≤ 0
            · obtain rfl : k = 0 := by omega
              rw [if_pos (Nat.le_refl _), tabL_i0]
              rfl
            · rw [if_neg h0]
              rfl
        · rintro ⟨⟨k, n2⟩, hk⟩
          simp only at hk
          refine AW.of hΓ mixed [9, 99999] _ _ _ rfl ?_
          simp only [go_sem]
          refine ⟨fun hlt2 => ?_, fun hge2 => ?_⟩
          · have k1 : k < b.length := by omega
            have g1 := rowN_at (n := b.length + 1) (tabL a b i) (k := k + 1) (by omega)
            have g2 := rowN_at (n := b.length + 1) (fun t => if t ≤ k then tabL a b (i + 1) t else 0) (k := k) (by omega)
            rw [if_pos (Nat.le_refl _)] at g2
            have g3 := rowN_at (n := b.length + 1) (tabL a b i) (k := k) (by omega)
            have g4 := (tabL_le (a := a) (b := b) i k)
            refine ⟨by omega, by omega, by omega, by rw [rowN_len]; omega, by omega, by rw [rowN_len]; omega, by omega, by rw [rowN_len]; omega, ?_⟩
            refine AW.cut ⟨[(0, sL eI a), (1, sL eI b), (5, .ow 0 v (b.length + 1)), (6, .val (.int .i64 i)), (7, .ow 1 nx (b.length + 1)), (8, .val (.int .i64 k))],
              [(0, rowL v 3 eI (rowN (b.length + 1) (tabL a b i))), (1, rowL nx 3 eI ((rowN (b.length + 1) fun t => if t ≤ k then tabL a b (i + 1) t else 0).set (k + 1) (max (tabL a b i (k + 1) : Int) (tabL a b (i + 1) k))))], 67, 2, n2, []⟩ ?_ ?_
            · simp only [go_sem]
              refine ⟨RowLe.refl _, row_set (E := eI) rfl rfl rfl (by simp) fun j hj => AVle.of_eq ?_⟩
              rw [g1, g2]
              rfl
            · by_cases he : a.getD i 0 = b.getD k 0
              · refine AW.of hΓ mixed [99999] _ _ _ rfl ?_
                simp only [go_sem, he, g3]
                have hset : rowN (b.length + 1) (fun t => if t ≤ k + 1 then tabL a b (i + 1) t else 0) = (((rowN (b.length + 1) fun t => if t ≤ k then tabL a b (i + 1) t else 0).set (k + 1) (max (tabL a b i (k + 1) : Int) (tabL a b (i + 1) k))).set (k + 1) ((tabL a b i k : Int) + 1)) := by
                  rw [List.set_set]
                  refine (rowN_set ?_ fun t ht hne => ?_).symm
                  · rw [if_pos (Nat.le_refl _), tabL_eq he]
                    omega
                  · by_cases h1 : t ≤ k
                    · rw [if_pos h1, if_pos (by omega)]
                    · rw [if_neg h1, if_neg (by omega)]
                refine ⟨by omega, by omega, by omega, by omega, by rw [rowN_len]; omega, by omega, by omega, by rw [rowN_len]; omega, by omega, ⟨(k + 1, n2), by dsimp only; omega⟩, ⟨Nat.le_refl _, rfl, RowLe.refl _, ?_⟩, by dsimp only; omega⟩
                exact row_set (E := eI) rfl hset (by simp) (by simp) (fun j hj => AVle.refl _)
              · refine AW.of hΓ mixed [99999] _ _ _ rfl ?_
                simp only [go_sem, he]
                have hset : (rowN (b.length + 1) fun t => if t ≤ k then tabL a b (i + 1) t else 0).set (k + 1) (max (tabL a b i (k + 1) : Int) (tabL a b (i + 1) k)) = rowN (b.length + 1) fun t => if t ≤ k + 1 then tabL a b (i + 1) t else 0 := by
                  refine rowN_set ?_ fun t ht hne => ?_
                  · rw [if_pos (Nat.le_refl _), tabL_ne he]
                    omega
                  · by_cases h1 : t ≤ k
                    · rw [if_pos h1, if_pos (by omega)]
                    · rw [if_neg h1, if_neg (by omega)]
                refine ⟨by omega, by omega, by omega, ⟨(k + 1, n2), by dsimp only; omega⟩, ⟨Nat.le_refl _, rfl, RowLe.refl _, ?_⟩, by dsimp only; omega⟩
                rw [hset, rowN_len, rowN_len]
                exact RowLe.refl _
          · obtain rfl : k = b.length := by omega
            refine ⟨n2, toFitsV (fun _ => 1) ?_⟩
            simp only [go_sem]
            have hall : (rowN (b.length + 1) fun t => if t ≤ b.length then tabL a b (i + 1) t else 0) = rowN (b.length + 1) (tabL a b (i + 1)) := by
              unfold rowN
              refine List.map_congr_left fun t ht => ?_
              dsimp only
              rw [if_pos (by have := List.mem_range.1 ht; omega)]
            rw [hall]
            exact RowLe.refl _
      · intro n3
        refine AW.of hΓ mixed [] _ _ _ rfl ?_
        simp only [go_sem]
        exact ⟨by omega, ⟨(i + 1, nx, n3), by dsimp only; omega⟩, ⟨Nat.le_refl _, ⟨rfl, rfl⟩, RowLe.refl _⟩, by dsimp only; omega⟩
    · obtain rfl : i = a.length := by omega
      have e := rowN_at (n := b.length + 1) (tabL a b a.length) (k := b.length) (by omega)
      exact ⟨by omega, by rw [rowN_len]; omega, e⟩
end Go.Proofs.YtjfmigpahglajaaGreatDoor
set_option linter.unusedSimpArgs false
set_option linter.unusedVariables false
set_option maxRecDepth 100000
set_option maxHeartbeats 2000000
namespace Go.Proofs.YtjfmigpahglajaaGreatDoor
open Go
attribute [local irreducible] AW AVle ASle RowLe
theorem ck_box {v e : Nat} {s : Bool} {b1 b2 l1 l2 r1 r2 : Int} {c : Nat → AV} (h0 : c 0 = .val (.bool s)) (h1 : c 1 = .val (.int .i64 b1)) (h2 : c 2 = .val (.int .i64 b2)) (h3 : c 3 = .val (.int .i64 l1)) (h4 : c 4 = .val (.int .i64 l2)) (h5 : c 5 = .val (.int .i64 r1)) (h6 : c 6 = .val (.int .i64 r2)) :
    RowLe (.box v e 7 c) (.box v e 7 (eCk.enc (s, (b1, b2), (l1, l2), r1, r2))) := RowLe.box fun j hj => AVle.of_eq (match j, hj with
  | 0, _ => h0
  | 1, _ => h1
  | 2, _ => h2
  | 3, _ => h3
  | 4, _ => h4
  | 5, _ => h5
  | 6, _ => h6)
theorem valI {a b : Int} (h : a = b) : AV.val (.int .i64 a) = AV.val (.int .i64 b) := by rw [h]
theorem fP_some {l r : List (Int × Int)} {t y w : Nat} (h1 : atL l t = y) (h2 : atL r t = w) : fP l r t = some ((t : Int), (y : Int), (w : Int)) := by
  unfold fP
  rw [h1, h2, if_neg (by omega)]
def sRefOfK : Spec := Spec.f5 kI kI kI (kL (eP eI eI)) (kL (eP eI eI)) (fun a b c l r => a < 100000000 ∧ b < 100000000 ∧ c < 100000000 ∧ l.length < 10000000 ∧ r.length < 10000000)
  (fun a b c l r => if fitK a b c l r then tu2 (sL eCk (ofK (a, b, c) (bothF l r) [] (0, 0, 0))) (kB.enc true) else tu2 .em (kB.enc false))
theorem okRefOfK : SpecOK Tryz.prog 36 sRefOfK := by
  refine SpecOK.f5 Tryz.func36 rfl (by decide) Tryz.results36 Tryz.ntmps36 (by decide) fun a b c l r ⟨ha, hb, hc, hl, hr⟩ => ?_
  have hΓ : GOK Tryz.prog (gam [(72, sRefRises), (73, sAtL)]) := (.cons okRefRises (.cons okAtL .nil))
  rcases hf : fitK a b c l r with _ | _
  · have hbad : (decide (a < 0) || decide (b < 0) || decide (c < 0) || !riseB a b (-1) (-1) l || !riseB a c (-1) (-1) r) = true := by
      cases h : (decide (a < 0) || decide (b < 0) || decide (c < 0) || !riseB a b (-1) (-1) l || !riseB a c (-1) (-1) r) with
      | true => rfl
      | false =>
        simp only [Bool.or_eq_false_iff, decide_eq_false_iff_not, Bool.not_eq_false'] at h
        obtain ⟨⟨⟨⟨h1, h2⟩, h3⟩, h4⟩, h5⟩ := h
        have : fitK a b c l r = true := by
          unfold fitK
          rw [h4, h5, decide_eq_true (by omega)]
          rfl
        rw [this] at hf
        cases hf
    refine AW.of hΓ mixed [3] _ _ _ rfl ?_
    simp only [go_sem, sRefRises, sAtL, hf]
    refine ⟨fun h => by simp [h], fun h => by rw [h]; rfl, fun _ => by omega, fun h => by rw [h]; rfl, fun _ => by omega, fun h => by rw [h]; rfl, fun h => by rw [hbad] at h; cases h⟩
  · have hf' := hf
    unfold fitK at hf'
    simp only [Bool.and_eq_true, decide_eq_true_eq] at hf'
    obtain ⟨⟨a0, b0, c0⟩, g1, g2⟩ := hf'
    have d1 : (a < 0) = False := eq_false (by omega)
    have d2 : (b < 0) = False := eq_false (by omega)
    have d3 : (c < 0) = False := eq_false (by omega)
    refine AW.of hΓ mixed [3] _ _ _ rfl ?_
    simp only [go_sem, sRefRises, sAtL, hf, d1, d2, d3, g1, g2]
    refine ⟨by omega, by omega, ?_⟩
    refine AW.adopt 12 115 7 (fun i => eCk.enc (([] : List Ck).getD i eCk.dflt)) rfl ?_
    refine AW.of hΓ mixed [4] _ _ _ rfl ?_
    simp only [go_sem, sRefRises, sAtL]
    obtain ⟨A, rfl⟩ : ∃ A : Nat, a = A := ⟨a.toNat, by omega⟩
    obtain ⟨B, rfl⟩ : ∃ B : Nat, b = B := ⟨b.toNat, by omega⟩
    obtain ⟨C, rfl⟩ : ∃ C : Nat, c = C := ⟨c.toNat, by omega⟩
    rw [both_all g1 g2]
    clear d1 d2 d3 hf a0 b0 c0
    refine AW.fork (AW.block (AW.round (α := { x : (Nat × Nat × Nat) × List Ck × Nat × Nat // (x.1.1 ≤ A ∧ x.1.2.1 ≤ B ∧ x.1.2.2 ≤ C) ∧ x.2.1.length ≤ x.1.1 + x.1.2.1 + x.1.2.2 ∧
        ofK ((A : Int), (B : Int), (C : Int)) (mF l r A 0) [] (0, 0, 0) = ofK ((A : Int), (B : Int), (C : Int)) (mF l r (A - x.1.1) x.1.1) x.2.1 ((x.1.1 : Int), (x.1.2.1 : Int), (x.1.2.2 : Int)) ∧
        (∀ z : Nat, x.1.1 ≤ z → atL l z = -1 ∨ (x.1.2.1 : Int) ≤ atL l z) ∧ (∀ z : Nat, x.1.1 ≤ z → atL r z = -1 ∨ (x.1.2.2 : Int) ≤ atL r z) ∧
        (lastSt x.2.1 = true → fP l r x.1.1 ≠ some ((x.1.1 : Int), (x.1.2.1 : Int), (x.1.2.2 : Int))) })
      (fun x => ⟨[(0, .val (.int .i64 A)), (1, .val (.int .i64 B)), (2, .val (.int .i64 C)), (3, sL (eP eI eI) l), (4, sL (eP eI eI) r), (12, .ow 0 x.1.2.2.1 x.1.2.1.length), (13, .val (.int .i64 x.1.1.1)), (14, .val (.int .i64 x.1.1.2.1)), (15, .val (.int .i64 x.1.1.2.2))],
        [(0, rowL x.1.2.2.1 115 eCk x.1.2.1)], 164, 1, x.1.2.2.2, []⟩) (fun x => A + B + C - x.1.1.1 - x.1.1.2.1 - x.1.1.2.2)
      ⟨((0, 0, 0), [], 0, 1), ⟨Nat.zero_le _, Nat.zero_le _, Nat.zero_le _⟩, Nat.zero_le _, rfl, fun z hz => ?_, fun z hz => ?_, fun h => by cases h⟩ ?_ ?_))
    · by_cases e : atL l z = -1
      · exact .inl e
      · have := at_in g1 z e
        exact .inr (by dsimp only; omega)
    · by_cases e : atL r z = -1
      · exact .inl e
      · have := at_in g2 z e
        exact .inr (by dsimp only; omega)
    · simp only [go_sem, sRefRises, sAtL]
      exact RowLe.refl _
    · rintro ⟨⟨⟨o, p, q⟩, s, v, nx⟩, ⟨ho, hp, hq⟩, hsl, hW, hL, hR, hlast⟩
      simp only at ho hp hq hsl hW hL hR hlast
      refine AW.of hΓ mixed [10, 99999] _ _ _ rfl ?_
      simp only [go_sem, sRefRises, sAtL]
      refine ⟨fun h => by rw [decide_eq_false h]; rfl, fun h => by rw [h]; rfl, fun hgo => ?_, fun hend => ?_⟩
      · simp only [Bool.or_eq_true, decide_eq_true_eq] at hgo
        refine AW.round (α := { x : Nat × Nat // o + x.1 ≤ A ∧ ∀ j, j < x.1 → fP l r (o + j) = some (((o + j : Nat) : Int), (p : Int) + j, (q : Int) + j) })
          (fun x => ⟨[(0, .val (.int .i64 A)), (1, .val (.int .i64 B)), (2, .val (.int .i64 C)), (3, sL (eP eI eI) l), (4, sL (eP eI eI) r), (12, .ow 0 v s.length), (13, .val (.int .i64 o)), (14, .val (.int .i64 p)), (15, .val (.int .i64 q)), (16, .val (.int .i64 x.1.1))],
            [(0, rowL v 115 eCk s)], 164, 1, x.1.2, []⟩) (fun x => A - o - x.1.1) ⟨(0, nx), by simpa using ho, fun j hj => absurd hj (Nat.not_lt_zero _)⟩ ?_ ?_
        · simp only [go_sem, sRefRises, sAtL]
          exact RowLe.refl _
        · rintro ⟨⟨k, n1⟩, hk, hfk⟩
          simp only at hk hfk
          have hpk : p + k ≤ B := by
            cases k with
            | zero => exact hp
            | succ k =>
              have h1 := hfk k (by omega)
              unfold fP at h1
              by_cases e : atL l ((o + k : Nat) : Int) = -1 ∨ atL r ((o + k : Nat) : Int) = -1
              · rw [if_pos e] at h1; cases h1
              · rw [if_neg e] at h1
                have h2 := Prod.mk.inj (Prod.mk.inj (Option.some.inj h1)).2
                have := at_in g1 _ (fun h => e (.inl h))
                omega
          have hqk : q + k ≤ C := by
            cases k with
            | zero => exact hq
            | succ k =>
              have h1 := hfk k (by omega)
              unfold fP at h1
              by_cases e : atL l ((o + k : Nat) : Int) = -1 ∨ atL r ((o + k : Nat) : Int) = -1
              · rw [if_pos e] at h1; cases h1
              · rw [if_neg e] at h1
                have h2 := Prod.mk.inj (Prod.mk.inj (Option.some.inj h1)).2
                have := at_in g2 _ (fun h => e (.inr h))
                omega
          have ec : ((o + k : Nat) : Int) = (o : Int) + k := by omega
          refine AW.of hΓ mixed [10, 99999] _ _ _ rfl ?_
          simp only [go_sem, sRefRises, sAtL]
          refine ⟨by omega, fun _ => by omega, fun _ => by omega, fun _ => by omega, fun _ => by omega, fun _ => by omega, fun _ => by omega, fun ⟨⟨h1, h2⟩, h3⟩ => ?_, fun hx => ?_⟩
          · refine ⟨by omega, ⟨(k + 1, n1), by dsimp only; omega, fun j hj => ?_⟩, ⟨Nat.le_refl _, by dsimp only; omega, RowLe.refl _⟩, by dsimp only; omega⟩
            dsimp only at hj
            rcases Nat.lt_or_ge j k with h' | h'
            · exact hfk j h'
            · obtain rfl : j = k := by omega
              unfold fP
              rw [ec, h2, h3, if_neg (by omega)]
          · refine ⟨by omega, by omega, by omega, ?_⟩
            have hstop : fP l r (o + k) ≠ some (((o + k : Nat) : Int), ((p + k : Nat) : Int), ((q + k : Nat) : Int)) := fun h => by
              unfold fP at h
              by_cases e : atL l ((o + k : Nat) : Int) = -1 ∨ atL r ((o + k : Nat) : Int) = -1
              · rw [if_pos e] at h; cases h
              · rw [if_neg e] at h
                have h2 := Prod.mk.inj (Prod.mk.inj (Option.some.inj h)).2
                have h3 := at_in g1 _ (fun h => e (.inl h))
                rw [ec] at h2 h3
                exact hx ⟨by omega, by omega⟩ (by omega)
            refine AW.to (fun x : { x : (Nat × Nat × Nat) × Bool × Nat // (x.1.1 ≤ A ∧ x.1.2.1 ≤ B ∧ x.1.2.2 ≤ C) ∧ o + p + q < x.1.1 + x.1.2.1 + x.1.2.2 ∧
                ofK ((A : Int), (B : Int), (C : Int)) (mF l r (A - o) o) s ((o : Int), (p : Int), (q : Int)) = ofK ((A : Int), (B : Int), (C : Int)) (mF l r (A - x.1.1) x.1.1) (s ++ [(x.2.1, ((o : Int), (x.1.1 : Int)), ((p : Int), (x.1.2.1 : Int)), ((q : Int), (x.1.2.2 : Int)))]) ((x.1.1 : Int), (x.1.2.1 : Int), (x.1.2.2 : Int)) ∧
                (∀ z : Nat, x.1.1 ≤ z → atL l z = -1 ∨ (x.1.2.1 : Int) ≤ atL l z) ∧ (∀ z : Nat, x.1.1 ≤ z → atL r z = -1 ∨ (x.1.2.2 : Int) ≤ atL r z) ∧
                (x.2.1 = true → fP l r x.1.1 ≠ some ((x.1.1 : Int), (x.1.2.1 : Int), (x.1.2.2 : Int))) } =>
              Sh.st ⟨[(0, .val (.int .i64 A)), (1, .val (.int .i64 B)), (2, .val (.int .i64 C)), (3, sL (eP eI eI) l), (4, sL (eP eI eI) r), (12, .ow 0 v s.length), (17, .pt 1 n1 0)],
                [(0, rowL v 115 eCk s), (1, .box n1 115 7 (eCk.enc (x.1.2.1, ((o : Int), (x.1.1.1 : Int)), ((p : Int), (x.1.1.2.1 : Int)), ((q : Int), (x.1.1.2.2 : Int)))))], 164, 2, x.1.2.2, []⟩) ?_ ?_
            · refine AW.of hΓ mixed [99999] _ _ _ rfl ?_
              simp only [go_sem, sRefRises, sAtL]
              refine ⟨fun hk0 => ?_, fun hk0 => ?_⟩
              · obtain rfl : k = 0 := by omega
                refine AW.round (α := { x : Nat × Nat // o ≤ x.1 ∧ x.1 ≤ A ∧ ∀ z, o ≤ z → z < x.1 → fP l r z = none })
                  (fun x => ⟨[(0, .val (.int .i64 A)), (1, .val (.int .i64 B)), (2, .val (.int .i64 C)), (3, sL (eP eI eI) l), (4, sL (eP eI eI) r), (12, .ow 0 v s.length), (13, .val (.int .i64 o)), (14, .val (.int .i64 p)), (15, .val (.int .i64 q)), (17, .pt 1 n1 0), (18, .val (.int .i64 x.1.1))],
                    [(0, rowL v 115 eCk s), (1, .box n1 115 7 (eCk.enc (false, ((o : Int), (o : Int)), ((p : Int), (p : Int)), ((q : Int), (q : Int)))))], 164, 2, x.1.2, []⟩) (fun x => A - x.1.1) ⟨(o, n1 + 1), Nat.le_refl _, ho, fun z h1 h2 => absurd h1 (by dsimp only at h2; omega)⟩ ?_ ?_
                · simp only [go_sem, sRefRises, sAtL]
                  exact ⟨RowLe.refl _, ck_box rfl rfl (valI (show (o : Int) + 0 = o by omega)) rfl (valI (show (p : Int) + 0 = p by omega)) rfl (valI (show (q : Int) + 0 = q by omega))⟩
                · rintro ⟨⟨t, n2⟩, hot, htA, hno⟩
                  simp only at hot htA hno
                  have hLt := hL t hot
                  have hRt := hR t hot
                  have hsk := mF_skip (l := l) (r := r) (A - o) o (t - o) (by omega) fun j hj => hno (o + j) (by omega) (by omega)
                  rw [show A - o - (t - o) = A - t by omega, show o + (t - o) = t by omega] at hsk
                  refine AW.of hΓ mixed [99999] _ _ _ rfl ?_
                  simp only [go_sem, sRefRises, sAtL]
                  refine ⟨fun _ => by omega, fun _ => by omega, fun h0 h1 => by rw [decide_eq_true h0, decide_eq_false h1]; rfl, fun ⟨h0, h1⟩ => ?_, fun hx => ⟨fun h0 => ?_, fun h0 => ?_⟩⟩
                  · simp only [Bool.or_eq_true, decide_eq_true_eq] at h1
                    refine ⟨by omega, ⟨(t + 1, n2), by dsimp only; omega, by dsimp only; omega, fun z hz1 hz2 => ?_⟩, ⟨Nat.le_refl _, by dsimp only; omega, RowLe.refl _, RowLe.refl _⟩, by dsimp only; omega⟩
                    dsimp only at hz2
                    rcases Nat.lt_or_ge z t with h' | h'
                    · exact hno z hz1 h'
                    · obtain rfl : z = t := by omega
                      unfold fP
                      rw [if_pos (by omega)]
                  · have hx := hx h0
                    simp only [Bool.or_eq_false_iff, decide_eq_false_iff_not] at hx
                    obtain ⟨y, hy⟩ : ∃ y : Nat, atL l t = y := ⟨(atL l t).toNat, by omega⟩
                    obtain ⟨w, hw⟩ : ∃ w : Nat, atL r t = w := ⟨(atL r t).toNat, by omega⟩
                    have hin1 := at_in g1 t (by omega)
                    have hin2 := at_in g2 t (by omega)
                    have hfs := fP_some hy hw
                    have hne : (((t : Int), (y : Int), (w : Int)) : Pl) ≠ ((o : Int), (p : Int), (q : Int)) := fun h => by
                      have h2 := Prod.mk.inj h
                      obtain rfl : t = o := by omega
                      exact hstop (by rw [Nat.add_zero, hfs, h]; simp)
                    obtain ⟨m, hm⟩ : ∃ m, A - t = m + 1 := ⟨A - t - 1, by omega⟩
                    refine ⟨by omega, by omega, ⟨((t, y, w), false, n2), ⟨by dsimp only; omega, by dsimp only; omega, by dsimp only; omega⟩, ?_, ?_, fun z hz => ?_, fun z hz => ?_, fun h => by cases h⟩, toFits ?_⟩
                    · dsimp only
                      rcases Nat.lt_or_ge (o + p + q) (t + y + w) with h' | h'
                      · exact h'
                      · exact absurd (by rw [show t = o by omega, show y = p by omega, show w = q by omega]) hne
                    · dsimp only
                      rw [hsk, hm, mF_some hfs, of_gap hne]
                      rfl
                    · dsimp only at hz ⊢
                      by_cases e : atL l z = -1
                      · exact .inl e
                      · rcases Nat.lt_or_ge t z with h' | h'
                        · have := at_mono g1 (t : Int) z (by omega) (by omega) e
                          exact .inr (by omega)
                        · obtain rfl : z = t := by omega
                          exact .inr (by omega)
                    · dsimp only at hz ⊢
                      by_cases e : atL r z = -1
                      · exact .inl e
                      · rcases Nat.lt_or_ge t z with h' | h'
                        · have := at_mono g2 (t : Int) z (by omega) (by omega) e
                          exact .inr (by omega)
                        · obtain rfl : z = t := by omega
                          exact .inr (by omega)
                    · simp only [go_sem, sRefRises, sAtL]
                      exact ⟨RowLe.refl _, ck_box rfl rfl rfl rfl (valI hy) rfl (valI hw)⟩
                  · obtain rfl : t = A := by omega
                    have hne : ¬ (((o : Int), (p : Int), (q : Int)) : Pl) = ((t : Int), (B : Int), (C : Int)) := fun h => by
                      have h2 := Prod.mk.inj h
                      have h3 := Prod.mk.inj h2.2
                      omega
                    refine ⟨⟨((t, B, C), false, n2), ⟨Nat.le_refl _, Nat.le_refl _, Nat.le_refl _⟩, by dsimp only; omega, ?_, fun z hz => ?_, fun z hz => ?_, fun h => by cases h⟩, toFits ?_⟩
                    · dsimp only
                      rw [hsk, Nat.sub_self, mF, ofK, ofK, if_neg hne, if_pos rfl]
                      rfl
                    · dsimp only at hz ⊢
                      by_cases e : atL l z = -1
                      · exact .inl e
                      · have := at_in g1 z e
                        omega
                    · dsimp only at hz ⊢
                      by_cases e : atL r z = -1
                      · exact .inl e
                      · have := at_in g2 z e
                        omega
                    · simp only [go_sem, sRefRises, sAtL]
                      exact ⟨RowLe.refl _, ck_box rfl rfl rfl rfl rfl rfl rfl⟩
              · obtain ⟨k, rfl⟩ : ∃ m, k = m + 1 := ⟨k - 1, by omega⟩
                have hs : lastSt s = false := by
                  cases h : lastSt s with
                  | false => rfl
                  | true =>
                    have h0 := hfk 0 (by omega)
                    exact absurd (by simpa using h0) (hlast h)
                have hrun := of_run (ends := ((A : Int), (B : Int), (C : Int))) hs (A - o) o (p : Int) (q : Int) (k + 1) (by omega) (by omega) hfk
                have hlk : atL l ((o + k : Nat) : Int) = (p : Int) + k ∧ atL r ((o + k : Nat) : Int) = (q : Int) + k := by
                  have h1 := hfk k (by omega)
                  unfold fP at h1
                  by_cases e : atL l ((o + k : Nat) : Int) = -1 ∨ atL r ((o + k : Nat) : Int) = -1
                  · rw [if_pos e] at h1; cases h1
                  · rw [if_neg e] at h1
                    have h2 := Prod.mk.inj (Prod.mk.inj (Option.some.inj h1)).2
                    exact h2
                refine ⟨⟨((o + (k + 1), p + (k + 1), q + (k + 1)), true, n1 + 1), ⟨by dsimp only; omega, by dsimp only; omega, by dsimp only; omega⟩, by dsimp only; omega, ?_, fun z hz => ?_, fun z hz => ?_, fun _ => hstop⟩, toFits ?_⟩
                · simp only [Int.natCast_add, Nat.sub_sub] at hrun ⊢
                  exact hrun
                · dsimp only at hz ⊢
                  by_cases e : atL l z = -1
                  · exact .inl e
                  · have := at_mono g1 ((o + k : Nat) : Int) z (by omega) (by omega) e
                    exact .inr (by omega)
                · dsimp only at hz ⊢
                  by_cases e : atL r z = -1
                  · exact .inl e
                  · have := at_mono g2 ((o + k : Nat) : Int) z (by omega) (by omega) e
                    exact .inr (by omega)
                · simp only [go_sem, sRefRises, sAtL]
                  exact ⟨RowLe.refl _, ck_box (by show AV.val (.bool (decide (0 < ((k + 1 : Nat) : Int)))) = _; rw [decide_eq_true (by omega)]) rfl (valI (show (o : Int) + ((k + 1 : Nat) : Int) = ((o + (k + 1) : Nat) : Int) by omega)) rfl (valI (show (p : Int) + ((k + 1 : Nat) : Int) = ((p + (k + 1) : Nat) : Int) by omega)) rfl (valI (show (q : Int) + ((k + 1 : Nat) : Int) = ((q + (k + 1) : Nat) : Int) by omega))⟩
            · rintro ⟨⟨⟨o', p', q'⟩, st, n2⟩, ⟨ho', hp', hq'⟩, hlt, hW', hL', hR', hlast'⟩
              simp only at ho' hp' hq' hlt hW' hL' hR' hlast'
              simp only [go_sem, sRefRises, sAtL]
              refine ⟨by omega, ⟨((o', p', q'), s ++ [(st, ((o : Int), (o' : Int)), ((p : Int), (p' : Int)), ((q : Int), (q' : Int)))], n2, n2 + 1), ⟨ho', hp', hq'⟩, by simp; omega, by dsimp only; rw [hW, hW'], hL', hR', fun h => hlast' (by rw [last_snoc] at h; exact h)⟩, ⟨Nat.le_refl _, ⟨⟨rfl, by simp⟩, rfl, rfl, rfl⟩, ?_⟩, by dsimp only; omega⟩
              exact row_app1 (E := eCk) rfl rfl rfl rfl (by simp) fun j hj => AVle.refl _
      · simp only [Bool.or_eq_false_iff, decide_eq_false_iff_not] at hend
        refine AW.of hΓ mixed [] _ _ _ rfl ?_
        simp only [go_sem, sRefRises, sAtL]
        obtain rfl : o = A := by omega
        obtain rfl : p = B := by omega
        obtain rfl : q = C := by omega
        rw [hW, Nat.sub_self, mF, ofK, if_pos rfl]
        exact vw_all (E := eCk) rfl rfl rfl
end Go.Proofs.YtjfmigpahglajaaGreatDoor
set_option linter.unusedSimpArgs false
set_option linter.unusedVariables false
namespace Go.Proofs.YtjfmigpahglajaaGreatDoor
open Go
theorem sumP_app (a b : List Pt) : sumP (a ++ b) = sumP a + sumP b := by simp [sumP]
theorem sumP_one (p : Pt) : sumP [p] = lenP p := by simp [sumP]
theorem len_textP (t : BS) : lenP (textP t) = t.length := by
  show t.length + 0 + 0 + 0 + 0 + 0 + 0 = _
  omega
theorem join_sumP (out : List Pt) (p : Pt) : sumP (joinR out p) ≤ sumP out + lenP p := by
  cases hp : isTextD p with
  | false => rw [join_no hp, sumP_app, sumP_one]; exact Nat.le_refl _
  | true =>
    rcases join_cases out p hp with ⟨_, e⟩ | ⟨_, ⟨m, q, rfl, hq, e⟩ | ⟨_, e⟩⟩
    · rw [e]; omega
    · rw [e, sumP_app, sumP_app, sumP_one, sumP_one, len_textP, List.length_append]
      have h1 : (txP q).length ≤ lenP q := by unfold lenP txP; omega
      have h2 : (txP p).length ≤ lenP p := by unfold lenP txP; omega
      omega
    · rw [e, sumP_app, sumP_one]; exact Nat.le_refl _
theorem fold_sumP : ∀ (l out : List Pt), sumP (l.foldl joinR out) ≤ sumP out + sumP l
  | [], _ => by simp [sumP]
  | p :: l, out => by
    have h1 := fold_sumP l (joinR out p)
    have h2 := join_sumP out p
    have h3 : sumP (p :: l) = lenP p + sumP l := by simp [sumP]
    rw [List.foldl_cons]
    omega
theorem of_sumP (l : List Pt) : sumP (ofD l) ≤ sumP l := by
  rw [ofD_eq]
  have := fold_sumP l []
  have e : sumP [] = 0 := rfl
  omega
theorem sum_okPt {d : List Pt} (h : sumP d ≤ 100000000) : ∀ p ∈ d, okPt p := fun p hp => by
  have := sumP_mem hp
  unfold lenP at this
  unfold okPt txP
  omega
end Go.Proofs.YtjfmigpahglajaaGreatDoor
set_option linter.unusedSimpArgs false
set_option linter.unusedVariables false
set_option maxRecDepth 100000
set_option maxHeartbeats 4000000
namespace Go.Proofs.YtjfmigpahglajaaGreatDoor
open Go
attribute [local irreducible] AW AVle ASle RowLe
theorem keeps_sL {α : Type} {E : El α} {l : List α} {j i : Nat} {row : Row} {r : List (Nat × AV × Row)} {st : AS} : keeps j ((i, sL E l, row) :: r) st = keeps j r st := rfl
def filesF (a b c : BS) : Fl := (splitL a, splitL b, splitL c)
end Go.Proofs.YtjfmigpahglajaaGreatDoor
set_option linter.unusedSimpArgs false
set_option linter.unusedVariables false
set_option maxRecDepth 100000
namespace Go.Proofs.YtjfmigpahglajaaGreatDoor
open Go
theorem of_lenM (ends : Pl) : ∀ (M : List Pl) (s : List Ck) (t : Pl), (ofK ends M s t).length ≤ s.length + 2 * M.length + 1
  | [], s, t => by
    rw [ofK]
    split
    · omega
    · simp
  | p :: M, s, t => by
    rw [ofK]
    have h1 := stretch_len (if p = t then s else s ++ [btw t p]) p
    have h2 : (if p = t then s else s ++ [btw t p]).length ≤ s.length + 1 := by
      split
      · omega
      · simp
    have h3 := of_lenM ends M (stretchF (if p = t then s else s ++ [btw t p]) p) (nextP p)
    simp only [List.length_cons]
    omega
theorem mrgK_len (f : Fl) : (mrgK f).length ≤ 2 * f.1.length + 1 ∧ (mrgK f).length ≤ 2 * f.2.1.length + 1 := by
  have h1 := of_lenM (f.1.length, f.2.1.length, f.2.2.length) (bothF (prsF f.1 f.2.1) (prsF f.1 f.2.2)) [] (0, 0, 0)
  have h2 := both_len _ (prsF f.1 f.2.1) (prsF f.1 f.2.2) (Nat.le_refl _)
  have h3 := prsF_len f.1 f.2.1
  unfold mrgK cksF
  simp only [List.length_nil] at h1
  omega
def lbN (lb : BS × BS × BS) : Nat := lb.1.length + lb.2.1.length + lb.2.2.length
theorem sumP_ck {f : Fl} (st : Int) (lb : BS × BS × BS) (v : Int) (c : Ck) : sumP (ckPs f st lb v c) ≤ (cutB f c).flatten.length + (cutO f c).flatten.length + (cutT f c).flatten.length + lbN lb := by
  unfold ckPs
  split
  · have hh := hoist_le st (cutO f c) (cutT f c)
    have e1 : ∀ a b d : Pt, sumP [a, b, d] = lenP a + lenP b + lenP d := fun a b d => by
      rw [show [a, b, d] = [a] ++ ([b] ++ [d]) from rfl, sumP_app, sumP_app, sumP_one, sumP_one, sumP_one]
      omega
    have e2 := cut3 (O := cutO f c) (u := (hoistF st (cutO f c) (cutT f c)).1) (j := (cutO f c).length - (hoistF st (cutO f c) (cutT f c)).2) (by omega)
    have e3 := cut3 (O := cutT f c) (u := (hoistF st (cutO f c) (cutT f c)).1) (j := (cutT f c).length - (hoistF st (cutO f c) (cutT f c)).2) (by omega)
    have s5 : (if st = 0 then [] else (cutB f c).flatten).length ≤ (cutB f c).flatten.length := by
      split
      · exact Nat.zero_le _
      · exact Nat.le_refl _
    have s6 : (if st = 0 then [] else lb.2.1).length ≤ lb.2.1.length := by
      split
      · exact Nat.zero_le _
      · exact Nat.le_refl _
    unfold confL
    rw [e1, len_textP, len_textP]
    unfold lenP confP lbN
    dsimp only
    simp only [List.length_nil]
    omega
  · rw [sumP_one, len_textP]
    unfold sideF
    split
    · omega
    · split
      · omega
      · split <;> omega
theorem sumP_mrg (f : Fl) (st : Int) (lb : BS × BS × BS) (v : Int) : sumP ((mrgK f).flatMap (ckPs f st lb v)) ≤ f.1.flatten.length + f.2.1.flatten.length + f.2.2.flatten.length + (mrgK f).length * lbN lb := by
  have key : ∀ L : List Ck, sumP (L.flatMap (ckPs f st lb v)) ≤ (L.map (cutB f)).flatten.flatten.length + (L.map (cutO f)).flatten.flatten.length + (L.map (cutT f)).flatten.flatten.length + L.length * lbN lb := by
    intro L
    induction L with
    | nil => simp [sumP]
    | cons c L ih =>
      have := sumP_ck (f := f) st lb v c
      simp only [List.flatMap_cons, sumP_app, List.map_cons, List.flatten_cons, List.flatten_append, List.length_append, List.length_cons, Nat.succ_mul]
      omega
  have := key (mrgK f)
  rw [spanB, spanO, spanT] at this
  exact this
theorem flat_three (f : Fl) (st : Int) (lb : BS × BS × BS) (v : Int) : ∀ L : List Ck, (L.flatMap (ckPs f st lb v)).length ≤ 3 * L.length
  | [] => by simp
  | c :: L => by
    have h1 := flat_three f st lb v L
    have h4 := ckPs_len f st lb v c
    rw [List.flatMap_cons, List.length_append, List.length_cons]
    omega
def mrgW (w : Int) (a b c : BS) : Int := max w ((longT [a, b, c] : Nat) + 1)
def mrgD (a b c : BS) (st : Int) (lb : BS × BS × BS) (v : Int) : List Pt := ofD ((mrgK (filesF a b c)).flatMap (ckPs (filesF a b c) st lb v))
def okM (a b c : BS) : Prop := a.length ≤ 3000000 ∧ b.length ≤ 3000000 ∧ c.length ≤ 3000000 ∧ ((splitL a).length ≤ 300 ∨ (splitL b).length ≤ 300)
theorem fits_mono {d : List Pt} {m w : Int} (h : fitsD d m = true) (hw : m ≤ w) : fitsD d w = true := by
  unfold fitsD at h ⊢
  rw [Bool.and_eq_true, decide_eq_true_eq, decide_eq_true_eq] at h ⊢
  exact ⟨by omega, fun p hp => by have := h.2 p hp; omega⟩
theorem files_w (a b c : BS) : wholeF (filesF a b c) := ⟨wholeL_splitL _ a (Nat.le_refl _), wholeL_splitL _ b (Nat.le_refl _), wholeL_splitL _ c (Nat.le_refl _)⟩
theorem files_sh (a b c : BS) : shF (longT [a, b, c] + 1) (filesF a b c) := by
  have key : ∀ s ∈ [a, b, c], ∀ x ∈ splitL s, runL x < longT [a, b, c] + 1 := fun s hs x hx => by
    have h1 := longL_mem hx
    have h2 := longT_mem hs
    omega
  exact ⟨key a (by simp), key b (by simp), key c (by simp)⟩
theorem files_flat (a b c : BS) : (filesF a b c).1.flatten = a ∧ (filesF a b c).2.1.flatten = b ∧ (filesF a b c).2.2.flatten = c := ⟨splitL_flat a, splitL_flat b, splitL_flat c⟩
theorem longT_bnd {a b c : BS} {n : Nat} (ha : a.length ≤ n) (hb : b.length ≤ n) (hc : c.length ≤ n) : longT [a, b, c] ≤ n := by
  refine longT_leM fun s hs => longL_leM fun x hx => ?_
  have h1 := runL_le x
  have h2 : x.length ≤ s.length := by
    have h3 : x.length ≤ (splitL s).flatten.length := by
      have := List.sublist_flatten_of_mem hx
      exact this.length_le
    rw [splitL_flat] at h3
    exact h3
  simp only [List.mem_cons, List.not_mem_nil, or_false] at hs
  rcases hs with rfl | rfl | rfl <;> omega
structure MrgF (a b c : BS) (w st : Int) (lb : BS × BS × BS) (v : Int) : Prop where
  ok : okFl (filesF a b c)
  len : (mrgK (filesF a b c)).length ≤ 601
  sum : sumT ((mrgK (filesF a b c)).flatMap (ckPs (filesF a b c) st lb v)) ≤ 1000000000
  right : rightD (mrgD a b c st lb v) = true
  fits : fitsD (mrgD a b c st lb v) (mrgW w a b c) = true
  wide : wideM (mrgW w a b c) = true
  wle : mrgW w a b c ≤ 3000001
  dlen : (mrgD a b c st lb v).length ≤ 1803
  sump : sumP (mrgD a b c st lb v) ≤ 20000000
  pr : (printL (mrgW w a b c) (mrgD a b c st lb v)).length ≤ 90000000000
  confl : v = 0 → conflD (mrgD a b c st lb v) = cntF (filesF a b c) (mrgK (filesF a b c))
theorem mrg_facts {a b c : BS} (h : okM a b c) {w : Int} (hw : 7 ≤ w ∧ w ≤ 64) (st : Int) {lb : BS × BS × BS} (hl : lbN lb ≤ 3000) (hp : plainLb lb = true) (v : Int) : MrgF a b c w st lb v := by
  obtain ⟨h1, h2, h3, h4⟩ := h
  have l1 := splitL_len a
  have l2 := splitL_len b
  have l3 := splitL_len c
  have e1 := mrgK_len (filesF a b c)
  have e2 : (filesF a b c).1.length = (splitL a).length := rfl
  have e3 : (filesF a b c).2.1.length = (splitL b).length := rfl
  obtain ⟨f1, f2, f3⟩ := files_flat a b c
  have hk : (mrgK (filesF a b c)).length ≤ 601 := by omega
  have hT := sumT_mrg (filesF a b c) st lb v
  have hS := sumP_mrg (filesF a b c) st lb v
  have h3' := flat_three (filesF a b c) st lb v (mrgK (filesF a b c))
  have hD := (ofD_sum ((mrgK (filesF a b c)).flatMap (ckPs (filesF a b c) st lb v))).2
  have hE := of_sumP ((mrgK (filesF a b c)).flatMap (ckPs (filesF a b c) st lb v))
  have hm : (mrgK (filesF a b c)).length * lbN lb ≤ 601 * 3000 := Nat.mul_le_mul hk hl
  rw [f1, f2, f3] at hT hS
  have hlT := longT_bnd h1 h2 h3
  have hW : 1 ≤ mrgW w a b c ∧ mrgW w a b c ≤ 3000001 := by unfold mrgW; omega
  have hdl : (mrgD a b c st lb v).length ≤ 1803 := by unfold mrgD; omega
  have hsp : sumP (mrgD a b c st lb v) ≤ 20000000 := by unfold mrgD; omega
  have hfit := doc_fits (m := longT [a, b, c] + 1) (Nat.succ_pos _) (files_w a b c) (files_sh a b c) (mrg_ch _) (mrg_good _) (st := st) (v := v) hp
  refine ⟨⟨⟨by omega, ?_⟩, ⟨by omega, ?_⟩, ?_, ?_⟩, hk, by omega, doc_right (files_w a b c) (mrg_ch _) (mrg_good _) hp, fits_mono hfit (by unfold mrgW; omega), ?_, hW.2, hdl, hsp, ?_, fun hv => ?_⟩
  · rw [f1]; omega
  · rw [f2]; omega
  · show (splitL c).length ≤ _; omega
  · rw [f3]; omega
  · rw [wide_iff]; omega
  · have q1 := printL_len (mrgW w a b c) (mrgD a b c st lb v)
    have q2 : (mrgD a b c st lb v).length * (4 * (mrgW w a b c).toNat + 15) ≤ 1803 * (4 * 3000001 + 15) := Nat.mul_le_mul hdl (by omega)
    omega
  · subst hv
    unfold mrgD
    rw [of_confl, doc_confl]
theorem mrg_text {a b c : BS} {w st : Int} {lb : BS × BS × BS} {v : Int} (h : MrgF a b c w st lb v) : printR (mrgD a b c st lb v) (mrgW w a b c) = (printL (mrgW w a b c) (mrgD a b c st lb v), 0) := by
  unfold printR
  rw [if_neg (by rw [h.wide]; simp), if_neg (by rw [h.right]; simp), if_neg (by rw [h.fits]; simp)]
theorem sum_okPs {d : List Pt} (h : sumP d ≤ 100000000) : ∀ p ∈ d, okPs p := fun p hp => by
  have := sumP_mem hp
  unfold lenP at this
  unfold okPs txP
  omega
theorem doc_mrg {a b c : BS} {st : Int} {lb : BS × BS × BS} {v : Int} (h1 : (styOK st && favOK v) = true) (h2 : plainLb lb = true) : docF (filesF a b c) (mrgK (filesF a b c)) st lb v = (mrgD a b c st lb v, 0) := by
  unfold docF
  rw [if_neg (by rw [h1]; simp), if_neg (by rw [h2]; simp)]
  rfl
theorem mrg_clean {a b c : BS} (h : ∀ k ∈ mrgK (filesF a b c), clsF (filesF a b c) k ≠ 4) (st : Int) (lb : BS × BS × BS) (v w : Int) : printL w (mrgD a b c st lb v) = favT (filesF a b c) (mrgK (filesF a b c)) 1 := clean_print h st lb v w
end Go.Proofs.YtjfmigpahglajaaGreatDoor
