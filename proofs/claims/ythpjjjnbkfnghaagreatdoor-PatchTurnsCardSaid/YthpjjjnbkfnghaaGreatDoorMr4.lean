/-
  Part 4 of what the proof rests on: values that are told, code that is walked, what comes out.
-/
import Derived.Test.YthpjjjnbkfnghaaGreatDoorMr3
import Derived.LaidLaws
import Derived.LaidHandle
import Derived.Handed
import Derived.HandedShaped
import Derived.Lib.LaidTab
import Derived.Lay
import Derived.MakeChecks
set_option linter.unusedSimpArgs false
set_option linter.unusedVariables false
set_option maxRecDepth 100000
set_option maxHeartbeats 8000000
namespace Go.Proofs.YthpjjjnbkfnghaaGreatDoor
open Go
theorem SpecOK.ssT {P : Program} {f : FuncId} {fn : Func} {code : Code} {dom : List UInt8 → List UInt8 → Prop} {out : List UInt8 → List UInt8 → AV} (hf : P.funcs[f]? = some fn) (hb : fn.body = some code) (hn : (fn.name == "runtime.NumGoroutine") = false)
    (h : ∀ a b, dom a b → ∀ w, Tz w → Calls P f #[.string ⟨a.toArray⟩, .string ⟨b.toArray⟩] w fun e w' => ∃ v, e = .returned v ∧ Fr (fun _ => False) w w' ∧ ∀ L, Rep w' noEnv L (out a b) v) : SpecOK P f (Spec.f2 kS kS dom out) := by
  refine SpecOK.rawT hf hb hn fun args hp w L vs hT hL ha => ?_
  match args, hp with
  | [x, y], hp =>
    obtain ⟨h1, h2, h3⟩ := hp
    cases ha with
    | cons hx hr => cases hr with
      | cons hy hr => cases hr with
        | nil =>
          have ex := h1 _ _ _ _ hx
          have ey := h2 _ _ _ _ hy
          simp only [kS, Rep] at ex ey
          subst ex ey
          exact (h _ _ h3 w hT).mono fun e w' ⟨v, he, hf, hr⟩ => ⟨v, he, hf, hr L⟩
def sHasPre : Spec := Spec.f2 kS kS (fun _ _ => True) (fun a b => kB.enc (Lib.hasPrefix a b))
theorem okHasPre : SpecOK Tryz.prog 85 sHasPre := by
  refine SpecOK.ss Tryz.func85 rfl (by decide) fun a b hd w => ?_
  refine (Tryz.strings_HasPrefix ⟨a.toArray⟩ ⟨b.toArray⟩ w).mono ?_
  rintro e w' ⟨rfl, rfl⟩
  exact ⟨_, rfl, Fr.refl _ _, fun L => rfl⟩
def sTrimPre : Spec := Spec.f2 kS kS (fun _ _ => True) (fun a b => kS.enc (Lib.trimPrefix a b))
theorem okTrimPre : SpecOK Tryz.prog 142 sTrimPre := by
  refine SpecOK.ss Tryz.func142 rfl (by decide) fun a b hd w => ?_
  refine (Tryz.strings_TrimPrefix ⟨a.toArray⟩ ⟨b.toArray⟩ w).mono ?_
  rintro e w' ⟨rfl, rfl⟩
  exact ⟨_, rfl, Fr.refl _ _, fun L => rfl⟩
def sTrimSuf : Spec := Spec.f2 kS kS (fun a _ => a.length ≤ 100000000000) (fun a b => kS.enc (Lib.trimSuffix a b))
theorem okTrimSuf : SpecOK Tryz.prog 141 sTrimSuf := by
  refine SpecOK.ss Tryz.func141 rfl (by decide) fun a b hd w => ?_
  refine (Tryz.strings_TrimSuffix ⟨a.toArray⟩ ⟨b.toArray⟩ w (by rw [Lib.size_eq]; simp only [List.toList_toArray]; omega)).mono ?_
  rintro e w' ⟨rfl, rfl⟩
  exact ⟨_, rfl, Fr.refl _ _, fun L => rfl⟩
theorem Fr.drewN (w : World) (k : Nat) : Fr (fun _ => False) w (w.drewN k) := ⟨rfl, rfl, rfl, Nat.le_refl _, fun _ _ _ => rfl⟩
theorem tab_len {w : World} (hT : Tz w) : ∃ m, w.cell? ⟨0, 0, none⟩ = some (.int .i64 m) := by
  obtain ⟨o, ho, m, t, f, rfl⟩ := hT 0 lenZ rfl
  refine ⟨m, ?_⟩
  unfold World.cell?
  rw [show (⟨0, 0, none⟩ : Addr).block = 0 from rfl, ho]
  rfl
def sCutAt : Spec := Spec.f2 kS kS (fun a _ => a.length ≤ 4000000000) (fun a b => tu3 (kS.enc (Lib.cut a b).1) (kS.enc (Lib.cut a b).2.1) (kB.enc (Lib.cut a b).2.2))
theorem okCutAt : SpecOK Tryz.prog 143 sCutAt := by
  refine SpecOK.ssT Tryz.func143 rfl (by decide) fun a b hd w hT => ?_
  obtain ⟨m, hm⟩ := tab_len hT
  refine (Tryz.strings_Cut ⟨a.toArray⟩ ⟨b.toArray⟩ m w (by rw [Lib.size_eq]; simp only [List.toList_toArray]; omega) hm).mono ?_
  rintro e w' ⟨rfl, n, rfl⟩
  refine ⟨_, rfl, Fr.drewN w n, fun L => ?_⟩
  refine ⟨_, rfl, rfl, fun j hj => ?_⟩
  match j, hj with
  | 0, _ => exact ⟨_, rfl, rfl⟩
  | 1, _ => exact ⟨_, rfl, rfl⟩
  | 2, _ => exact ⟨_, rfl, rfl⟩
end Go.Proofs.YthpjjjnbkfnghaaGreatDoor
set_option linter.unusedSimpArgs false
set_option linter.unusedVariables false
set_option maxRecDepth 100000
set_option maxHeartbeats 8000000
namespace Go.Proofs.YthpjjjnbkfnghaaGreatDoor
open Go
def sAtoi : Spec := Spec.f1 kS (fun s => s.length ≤ 18 ∧ (Lib.atoi s).isSome = true) (fun s => tu2 (kI.enc ((Lib.atoi s).getD 0)) (.val .nilIface))
theorem Fr.bytes (w : World) (e : TypeId) (t : ByteArray) : Fr (fun _ => False) w (Lib.bytesWorld w e t) := by
  refine ⟨?_, ?_, ?_, by rw [Lib.bytesWorld_size]; omega, fun b hb _ => Lib.bytesWorld_at_old w e t b hb⟩
  all_goals (unfold Lib.bytesWorld World.freeze; split <;> rfl)
theorem atoi_calls {s : List UInt8} (h2 : s.length ≤ 18) (h3 : (Lib.atoi s).isSome = true) (w : World) (L : Nat → Prop) :
    Calls Tryz.prog 144 #[.string ⟨s.toArray⟩] w fun e w' => ∃ v, e = .returned v ∧ Fr (fun _ => False) w w' ∧ Rep w' noEnv L (tu2 (kI.enc ((Lib.atoi s).getD 0)) (.val .nilIface)) v := by
  obtain ⟨n, hn⟩ := Option.isSome_iff_exists.1 h3
  rw [hn]
  have hn' : Lib.atoi (⟨s.toArray⟩ : ByteArray).data.toList = some n := by
    rw [show (⟨s.toArray⟩ : ByteArray).data.toList = s from List.toList_toArray]; exact hn
  refine (Tryz.strconv_Atoi ⟨s.toArray⟩ n (by rw [Lib.size_eq]; simp only [List.toList_toArray]; exact h2) hn' w).mono ?_
  rintro e w' ⟨rfl, t, rfl⟩
  refine ⟨_, rfl, Fr.bytes w _ t, ?_⟩
  refine ⟨_, rfl, rfl, fun j hj => ?_⟩
  match j, hj with
  | 0, _ => exact ⟨_, rfl, rfl⟩
  | 1, _ => exact ⟨_, rfl, rfl⟩
theorem okAtoi : SpecOK Tryz.prog 144 sAtoi := by
  refine SpecOK.raw Tryz.func144 rfl (by decide) fun args hp w L vs hL ha => ?_
  match args, hp with
  | [x], hp =>
    obtain ⟨h1, h2, h3⟩ := hp
    cases ha with
    | cons hx hr => cases hr with
      | nil =>
        have ex := h1 _ _ _ _ hx
        simp only [kS, Rep] at ex
        subst ex
        exact atoi_calls h2 h3 w L
end Go.Proofs.YthpjjjnbkfnghaaGreatDoor
set_option linter.unusedSimpArgs false
set_option linter.unusedVariables false
set_option maxRecDepth 100000
set_option maxHeartbeats 4000000
namespace Go.Proofs.YthpjjjnbkfnghaaGreatDoor
open Go
attribute [local irreducible] AW AVle ASle RowLe
abbrev rSt (v : Nat) (l : List StE) : Row := rowL v 86 (eP eI (eL eS)) l
theorem put_cells {l : List StE} {k : Int} {ts : List (List UInt8)} {q v : Nat} {d : Nat → Nat → AV} (h0 : d 0 0 = .val (.int .i64 k)) (h1 : d 0 1 = .ow q v ts.length) :
    ∀ i, i < l.length + 1 → ∀ j, j < 2 → AVle (fz q v ts.length 1 (fun i => eS.enc (ts.getD i [])) (apC l.length (fun i => (eP eI (eL eS)).enc (l.getD i (0, []))) d i j)) ((eP eI (eL eS)).enc ((l ++ [(k, ts)]).getD i (0, [])) j) := fun i hi j hj => by
  unfold apC
  by_cases h : i < l.length
  · rw [if_pos h]
    rw [show (l ++ [(k, ts)]).getD i (0, []) = l.getD i (0, []) by simp [List.getD, List.getElem?_append_left h]]
    match j, hj with
    | 0, _ => exact AVle.refl _
    | 1, _ => exact AVle.refl _
  · obtain rfl : i = l.length := by omega
    rw [if_neg h, Nat.sub_self]
    rw [show (l ++ [(k, ts)]).getD l.length (0, []) = (k, ts) by simp [List.getD]]
    match j, hj with
    | 0, _ => rw [h0]; exact AVle.refl _
    | 1, _ =>
      rw [h1]
      simp only [fz, and_self, if_true, Nat.le_refl]
      exact AVle.refl _
def sPutA0 : MSpec := fun args hp top nx K => ∃ l v k y ts, AVle y (sL eS ts) ∧ args = [.ow 0 v l.length, kI.enc k, y] ∧ hp = rws [(0, rSt v l)] ∧ top = 1 ∧ l.length < 10000000 ∧ ts.length < 1000000000 ∧
  ∀ v' nx', (v' = v ∨ nx ≤ v') → nx ≤ nx' → K (.ow 0 v' (appP l k ts).length) (rws [(0, rSt v' (appP l k ts))]) 1 nx'
theorem okPutA0 : MethOK Tryz.prog 43 sPutA0 := by
  refine MethOK.mk Tryz.func43 rfl (by decide) Tryz.results43 Tryz.ntmps43 ?_
  rintro args hp top nx K ⟨l, v, k, y, ts, hy, rfl, rfl, rfl, hl, ht, hK⟩
  have hΓ : GOK Tryz.prog (gam [(103, sCloneS)]) := (.cons okCloneS .nil)
  refine ⟨Nat.le_of_ble_eq_true rfl, AW.late ?_⟩
  refine AW.le (stM_le (.cons (AVle.refl _) (.cons (AVle.refl _) (.cons hy .nil)))) ?_
  by_cases h0 : ts.length = 0
  · obtain rfl := List.length_eq_zero_iff.1 h0
    refine AW.of hΓ mixed [99999] _ _ _ rfl ?_
    simp only [go_sem, sCloneS, st_sz]
    refine ⟨_, ASle.refl _, ?_⟩
    simp only [go_sem, sCloneS]
    exact hK v nx (.inl rfl) (Nat.le_refl _)
  · have hts : ((ts.length : Int) = 0) = False := eq_false (by omega)
    refine AW.of hΓ mixed [99999] _ _ _ rfl ?_
    simp only [go_sem, sCloneS, st_sz, hts]
    refine ⟨sL eS ts, ts, rfl, AVle.refl _, ht, fun ver nx' h1 h2 => ⟨by omega, _, (ASle.freeze 1 ver 9 1 ts.length (fun i => eS.enc (ts.getD i [])) rfl fun i _ j _ => rfl).trans (toFitsV (fun p => p) (l := [(6, .ow 0 (nx' + 1) (l.length + 1))]) (r := [(0, rSt (nx' + 1) (appP l k ts))]) (sz := 18) (top := 1) (nx := nx' + 1 + 1) (df := []) ?_), ?_⟩⟩
    · rw [appP_ne h0]
      simp only [go_sem, sCloneS, st_sz]
      exact RowLe.sl (by simp) (put_cells rfl rfl)
    · simp only [go_sem, sCloneS]
      have := hK (nx' + 1) (nx' + 1 + 1) (.inr (by omega)) (by omega)
      rwa [show (appP l k ts).length = l.length + 1 by rw [appP_ne h0]; simp] at this
def sPutB0 : MSpec := fun args hp top nx K => ∃ k y ts, AVle y (sL eS ts) ∧ args = [.em, kI.enc k, y] ∧ hp = (fun _ => .dead) ∧ top = 0 ∧ ts.length < 1000000000 ∧ ∀ v' nx', nx ≤ v' → v' < nx' → K (.ow 0 v' (appP [] k ts).length) (rws [(0, rSt v' (appP [] k ts))]) 1 nx'
theorem okPutB0 : MethOK Tryz.prog 43 sPutB0 := by
  refine MethOK.mk Tryz.func43 rfl (by decide) Tryz.results43 Tryz.ntmps43 ?_
  rintro args hp top nx K ⟨k, y, ts, hy, rfl, rfl, rfl, ht, hK⟩
  have hΓ : GOK Tryz.prog (gam [(103, sCloneS)]) := (.cons okCloneS .nil)
  refine ⟨Nat.le_of_ble_eq_true rfl, AW.late ?_⟩
  refine AW.le (stM_le (.cons (AVle.refl _) (.cons (AVle.refl _) (.cons hy .nil)))) ?_
  refine AW.adopt 0 86 2 (fun i => (eP eI (eL eS)).enc (([] : List StE).getD i (0, []))) rfl ?_
  by_cases h0 : ts.length = 0
  · obtain rfl := List.length_eq_zero_iff.1 h0
    refine AW.of hΓ mixed [99999] _ _ _ rfl ?_
    simp only [go_sem, sCloneS, st_sz]
    refine ⟨_, toFitsV (fun p => p) (l := [(6, .ow 0 nx 0)]) (r := [(0, rSt nx [])]) (sz := 18) (top := 1) (nx := nx + 1) (df := []) ?_, ?_⟩
    · simp only [go_sem, sCloneS, st_sz]
      exact RowLe.refl _
    · simp only [go_sem, sCloneS]
      exact hK nx (nx + 1) (Nat.le_refl _) (by omega)
  · have hts : ((ts.length : Int) = 0) = False := eq_false (by omega)
    refine AW.of hΓ mixed [99999] _ _ _ rfl ?_
    simp only [go_sem, sCloneS, st_sz, hts]
    refine ⟨sL eS ts, ts, rfl, AVle.refl _, ht, fun ver nx' h1 h2 => ⟨_, (ASle.freeze 1 ver 9 1 ts.length (fun i => eS.enc (ts.getD i [])) rfl fun i _ j _ => rfl).trans (toFitsV (fun p => p) (l := [(6, .ow 0 (nx' + 1) 1)]) (r := [(0, rSt (nx' + 1) (appP [] k ts))]) (sz := 18) (top := 1) (nx := nx' + 1 + 1) (df := []) ?_), ?_⟩⟩
    · rw [appP_ne h0]
      simp only [go_sem, sCloneS, st_sz]
      exact RowLe.sl (by simp) (put_cells (l := []) rfl rfl)
    · simp only [go_sem, sCloneS]
      have := hK (nx' + 1) (nx' + 1 + 1) (by omega) (by omega)
      rwa [show (appP [] k ts).length = 1 by rw [appP_ne h0]; simp] at this
def sPutP : MSpec := fun args hp top nx K => framed sPutA0 args hp top nx K ∨ freshM sPutB0 args hp top nx K
theorem okPutP : MethOK Tryz.prog 43 sPutP := okPutA0.frame.or okPutB0.fresh
theorem putP_go {l : List StE} {v q n : Nat} {k : Int} {y : AV} {ts : List (List UInt8)} {hp : Nat → Row} {top nx : Nat} {K : AV → (Nat → Row) → Nat → Nat → Prop} (hn : n = l.length) (hy : AVle y (sL eS ts)) (hr : RowLe (hp q) (rSt v l)) (ht : q < top) (hl : l.length < 10000000) (hl2 : ts.length < 1000000000)
    (hK : ∀ v' nx', nx ≤ nx' → K (.ow q v' (appP l k ts).length) (updR hp q (rSt v' (appP l k ts))) top nx') : sPutP [.ow q v n, .val (.int .i64 k), y] hp top nx K := by
  subst hn
  have hver : (hp q).ver = some v := hr.vers.symm
  refine .inl ⟨[q], [.ow 0 v l.length, kI.enc k, y], rws [(0, rSt v l)], by simp, by simpa using ht, .cons AVle.ow (.cons (AVle.refl _) (.cons (AVle.refl _) .nil)), one_row hr, fun i hi => rws_top (top := 1) (by simp) i (by simpa using hi), l, v, k, y, ts, hy, rfl, rfl, rfl, hl, hl2, fun v' nx' h1 h3 => ?_⟩
  refine ⟨.ow q v' (appP l k ts).length, _, AVle.ow, fun i r hr => ?_, fun r hr => ?_, fun r hr w hw => ?_, hK v' nx' h3⟩
  · cases i with
    | zero =>
      simp only [List.getElem?_cons_zero, Option.some.injEq] at hr
      subst hr
      rw [updR_at]
      exact RowLe.refl _
    | succ i => simp at hr
  · rw [updR_ne _ _ (by simpa using hr)]
  · simp only [List.mem_singleton] at hr
    subst hr
    rw [updR_at] at hw
    have : some v' = some w := hw
    obtain rfl := Option.some.inj this
    rcases h1 with rfl | h1
    · exact .inl hver
    · exact .inr h1
theorem putN_go {k : Int} {y : AV} {ts : List (List UInt8)} {hp : Nat → Row} {top nx : Nat} {K : AV → (Nat → Row) → Nat → Nat → Prop} (hy : AVle y (sL eS ts)) (hl2 : ts.length < 1000000000)
    (hK : ∀ v' nx', nx ≤ v' → v' < nx' → K (.ow top v' (appP [] k ts).length) (updR hp top (rSt v' (appP [] k ts))) (top + 1) nx') : sPutP [.em, .val (.int .i64 k), y] hp top nx K :=
  .inr ⟨[.em, kI.enc k, y], .cons (AVle.refl _) (.cons (AVle.refl _) (.cons (AVle.refl _) .nil)), k, y, ts, hy, rfl, rfl, rfl, hl2, fun v' nx' h1 h2 => ⟨v', _, _, rfl, rfl, rfl, h1, hK v' nx' h1 h2⟩⟩
abbrev rHk (v : Nat) (l : List Hk) : Row := rowL v 84 (eP eI (eP eI (eL (eP eI (eL eS))))) l
def sClosed0 : MSpec := fun args hp top nx K => ∃ l v x h, AVle x ((kA (eP eI (eP eI (eL (eP eI (eL eS)))))).enc h) ∧ args = [.ow 0 v l.length, x] ∧ hp = rws [(0, rHk v l)] ∧ top = 1 ∧ l.length < 1000000 ∧ h.2.2.length < 100000000 ∧
  ∀ v' nx', (v' = v ∨ nx ≤ v') → nx ≤ nx' → K (.ow 0 v' (clsP l h).length) (rws [(0, rHk v' (clsP l h))]) 1 nx'
theorem okClosed0 : MethOK Tryz.prog 45 sClosed0 := by
  refine MethOK.mk Tryz.func45 rfl (by decide) Tryz.results45 Tryz.ntmps45 ?_
  rintro args hp top nx K ⟨l, v, x, h, hx, rfl, rfl, rfl, hl, hs, hK⟩
  have hΓ : GOK Tryz.prog (gam [(104, sChangesP)]) := (.cons okChangesP .nil)
  refine ⟨Nat.le_of_ble_eq_true rfl, AW.late ?_⟩
  refine AW.le (stM_le (.cons (AVle.refl _) (.cons hx .nil))) ?_
  cases hc : chgP h.2.2 with
  | false =>
    have e : clsP l h = l := by unfold clsP; rw [if_neg (by rw [hc]; simp)]
    refine AW.of hΓ mixed [99999] _ _ _ rfl ?_
    simp only [go_sem, sChangesP, hk_sz, hk_d, hk0, hk1, hk2, hc]
    refine ⟨hs, _, toFitsV (fun p => p) (l := [(4, .ow 0 v l.length)]) (r := [(0, rHk v l)]) (sz := 14) (top := 1) (nx := nx + 1) (df := []) ?_, ?_⟩
    · simp only [go_sem, sChangesP, hk_sz, hk_d]
      exact RowLe.refl _
    · simp only [go_sem, sChangesP]
      have := hK v (nx + 1) (.inl rfl) (by omega)
      rwa [e] at this
  | true =>
    have e : clsP l h = l ++ [h] := by unfold clsP; rw [if_pos hc]
    refine AW.of hΓ mixed [99999] _ _ _ rfl ?_
    simp only [go_sem, sChangesP, hk_sz, hk_d, hk0, hk1, hk2, hc]
    refine ⟨hs, by omega, _, toFitsV (fun p => p) (l := [(4, .ow 0 (nx + 1) (l.length + 1))]) (r := [(0, rHk (nx + 1) (clsP l h))]) (sz := 14) (top := 1) (nx := nx + 1 + 1) (df := []) ?_, ?_⟩
    · rw [e]
      simp only [go_sem, sChangesP, hk_sz, hk_d]
      exact row_app1 (E := eHk) rfl rfl rfl rfl (by simp) fun j hj => AVle.refl _
    · simp only [go_sem, sChangesP]
      have := hK (nx + 1) (nx + 1 + 1) (.inr (by omega)) (by omega)
      rwa [e, show (l ++ [h]).length = l.length + 1 by simp, ← e] at this
def sClosed : MSpec := framed sClosed0
theorem okClosedP : MethOK Tryz.prog 45 sClosed := okClosed0.frame
def sClosedP : MSpec := sClosed
theorem closed_go {l : List Hk} {v q n : Nat} {h : Hk} {x : AV} {hp : Nat → Row} {top nx : Nat} {K : AV → (Nat → Row) → Nat → Nat → Prop} (hn : n = l.length) (hx : AVle x ((kA (eP eI (eP eI (eL (eP eI (eL eS)))))).enc h)) (hr : RowLe (hp q) (rHk v l)) (ht : q < top) (hl : l.length < 1000000) (hl2 : h.2.2.length < 100000000)
    (hK : ∀ v' nx', nx ≤ nx' → K (.ow q v' (clsP l h).length) (updR hp q (rHk v' (clsP l h))) top nx') : sClosedP [.ow q v n, x] hp top nx K := by
  subst hn
  have hver : (hp q).ver = some v := hr.vers.symm
  refine ⟨[q], [.ow 0 v l.length, x], rws [(0, rHk v l)], by simp, by simpa using ht, .cons AVle.ow (.cons (AVle.refl _) .nil), one_row hr, fun i hi => rws_top (top := 1) (by simp) i (by simpa using hi), l, v, x, h, hx, rfl, rfl, rfl, hl, hl2, fun v' nx' h1 h3 => ?_⟩
  refine ⟨.ow q v' (clsP l h).length, _, AVle.ow, fun i r hr => ?_, fun r hr => ?_, fun r hr w hw => ?_, hK v' nx' h3⟩
  · cases i with
    | zero =>
      simp only [List.getElem?_cons_zero, Option.some.injEq] at hr
      subst hr
      rw [updR_at]
      exact RowLe.refl _
    | succ i => simp at hr
  · rw [updR_ne _ _ (by simpa using hr)]
  · simp only [List.mem_singleton] at hr
    subst hr
    rw [updR_at] at hw
    have : some v' = some w := hw
    obtain rfl := Option.some.inj this
    rcases h1 with rfl | h1
    · exact .inl hver
    · exact .inr h1
end Go.Proofs.YthpjjjnbkfnghaaGreatDoor
set_option linter.unusedSimpArgs false
set_option linter.unusedVariables false
set_option maxRecDepth 100000
namespace Go.Proofs.YthpjjjnbkfnghaaGreatDoor
open Go
attribute [local irreducible] AW AVle ASle RowLe
def sIndexByte : Spec := Spec.f2 kS kU (fun _ _ => True) (fun a c => kI.enc (Lib.indexByte a c.toNat.toUInt8))
theorem okIndexByte : SpecOK Tryz.prog 146 sIndexByte := by
  refine SpecOK.raw Tryz.func146 rfl (by decide) fun args hp w L vs hL ha => ?_
  match args, hp with
  | [x, y], hp =>
    obtain ⟨h1, h2, h3⟩ := hp
    cases ha with
    | cons hx hr => cases hr with
      | cons hy hr => cases hr with
        | nil =>
          have ex := okGet h1 hx
          have ey := okGet h2 hy
          obtain rfl := ex
          obtain rfl := ey
          refine (Tryz.strings_IndexByte _ _ w).mono ?_
          rintro e w' ⟨rfl, rfl⟩
          exact ⟨_, rfl, Fr.refl _ _, rfl⟩
theorem split_step {s : List UInt8} {a i : Nat} (h1 : a ≤ i) (h2 : i < s.length) (h3 : ∀ k, a ≤ k → k < i → s.getD k 0 ≠ 10) (h4 : s.getD i 0 = 10 ∨ i + 1 = s.length) :
    splitL (s.drop a) = (s.take (i + 1)).drop a :: splitL (s.drop (i + 1)) := by
  have e1 : s.drop a = (s.take i).drop a ++ s.getD i 0 :: s.drop (i + 1) := by
    have : s = s.take i ++ s.getD i 0 :: s.drop (i + 1) := by
      rw [gd_lt _ _ h2, ← List.drop_eq_getElem_cons h2, List.take_append_drop]
    conv => lhs; rw [this]
    rw [List.drop_append_of_le_length (by simp; omega)]
  have e2 : (s.take (i + 1)).drop a = (s.take i).drop a ++ [s.getD i 0] := by
    rw [take_snoc s 0 h2, List.drop_append_of_le_length (by simp; omega)]
  have hno : (10 : UInt8) ∉ (s.take i).drop a := by
    intro hm
    obtain ⟨k, hk, hx⟩ := List.mem_iff_getElem.1 hm
    simp only [List.length_drop, List.length_take] at hk
    rw [List.getElem_drop, List.getElem_take] at hx
    exact h3 (a + k) (by omega) (by omega) (by rw [gd_lt _ _ (by omega)]; exact hx)
  rw [e1, e2]
  by_cases hc : s.getD i 0 = 10
  · rw [hc, splitL_cut _ _ hno]
  · have hl : i + 1 = s.length := h4.resolve_left hc
    rw [hl, List.drop_length]
    have : (10 : UInt8) ∉ (s.take i).drop a ++ [s.getD i 0] := by
      simp only [List.mem_append, List.mem_singleton, not_or]
      exact ⟨hno, fun h => hc h.symm⟩
    rw [splitL_one _ this (by simp)]
    rfl
def sRefSplit : Spec := Spec.f1 kS (fun l => l.length ≤ 100000000) (fun l => sL eS (splitL l))
theorem okRefSplit : SpecOK Tryz.prog 37 sRefSplit := by
  refine SpecOK.f1 Tryz.func37 rfl (by decide) Tryz.results37 Tryz.ntmps37 (by decide) fun s hs => ?_
  have hΓ : GOK Tryz.prog (gam []) := GOK.nil
  refine AW.of hΓ mixed [] _ _ _ rfl ?_
  simp only [go_sem]
  refine AW.adopt 3 9 1 (fun _ _ => .any) rfl ?_
  refine AW.round (α := { x : Nat × Nat × List (List UInt8) × Nat × Nat // x.2.1 ≤ x.1 ∧ x.1 ≤ s.length ∧ x.2.2.1 ++ splitL (s.drop x.2.1) = splitL s ∧ (∀ k, x.2.1 ≤ k → k < x.1 → s.getD k 0 ≠ 10) ∧ (x.1 = s.length → x.2.1 = s.length) ∧ x.2.2.1.length ≤ x.1 })
    (fun x => ⟨[(0, .st s), (3, .ow 0 x.1.2.2.2.1 x.1.2.2.1.length), (4, .val (.int .i64 x.1.2.1)), (5, .val (.int .i64 x.1.1))], [(0, rowL x.1.2.2.2.1 9 eS x.1.2.2.1)], 34, 1, x.1.2.2.2.2, []⟩) (fun x => s.length - x.1.1) ⟨(0, 0, [], 0, 1), by simp⟩ ?_ ?_
  · simp only [go_sem]
    exact row_nil rfl
  · rintro ⟨⟨i, from_, out, v, nx⟩, h1, h2, h3, h4, h5, h6⟩
    simp only at h1 h2 h3 h4 h5 h6
    refine AW.of hΓ mixed [99999] _ _ _ rfl ?_
    simp only [go_sem]
    refine ⟨fun hil => ?_, fun hil => ?_⟩
    · have hlt : i < s.length := by omega
      refine ⟨by omega, fun _ => by omega, fun h => by simpa using h, fun hb => ?_, fun hb => ?_⟩
      · have hst := split_step h1 hlt h4 (by simp only [Bool.or_eq_true, decide_eq_true_eq] at hb; rcases hb with hb | hb; exact .inl hb; exact .inr (by omega))
        refine ⟨by omega, by omega, by omega, by omega, by omega, ⟨(i + 1, i + 1, out ++ [(s.take (i + 1)).drop from_], nx, nx + 1), ?_⟩, ⟨Nat.le_refl _, ⟨⟨rfl, by simp⟩, by dsimp only; omega, by dsimp only; omega⟩, ?_⟩, by dsimp only; omega⟩
        · dsimp only
          refine ⟨Nat.le_refl _, by omega, ?_, fun k ha hb => by omega, fun h => h, by simp; omega⟩
          rw [← h3, hst]
          simp
        · exact row_app1 rfl rfl rfl rfl (by simp) fun _ _ => AVle.refl _
      · simp only [Bool.or_eq_false_iff, decide_eq_false_iff_not] at hb
        refine ⟨by omega, ⟨(i + 1, from_, out, v, nx), ?_⟩, ⟨Nat.le_refl _, ⟨⟨rfl, rfl⟩, rfl, by dsimp only; omega⟩, RowLe.refl _⟩, by dsimp only; omega⟩
        dsimp only
        refine ⟨by omega, by omega, h3, fun k ha hk => ?_, fun h => by omega, by omega⟩
        rcases Nat.lt_or_ge k i with h' | h'
        · exact h4 k ha h'
        · obtain rfl : k = i := by omega
          exact hb.1
    · obtain rfl : i = s.length := by omega
      obtain rfl := h5 rfl
      rw [List.drop_length] at h3
      have h3 : out = splitL s := by simpa [splitL] using h3
      rw [h3]
      exact vw_all rfl rfl rfl
end Go.Proofs.YthpjjjnbkfnghaaGreatDoor
set_option linter.unusedSimpArgs false
set_option linter.unusedVariables false
set_option maxRecDepth 100000
set_option maxHeartbeats 4000000
namespace Go.Proofs.YthpjjjnbkfnghaaGreatDoor
open Go
theorem trimS_le (a b : List UInt8) : (Lib.trimSuffix a b).length ≤ a.length := by
  unfold Lib.trimSuffix
  split
  · rw [List.length_take]; omega
  · exact Nat.le_refl _
theorem trimP_le (a b : List UInt8) : (Lib.trimPrefix a b).length ≤ a.length := by
  unfold Lib.trimPrefix
  split
  · rw [List.length_drop]; omega
  · exact Nat.le_refl _
theorem cutP_leP (a b : List UInt8) : (Lib.cut a b).1.length ≤ a.length ∧ (Lib.cut a b).2.1.length ≤ a.length := by
  unfold Lib.cut
  split
  · simp only [List.length_take, List.length_drop]; omega
  · simp
theorem kindB_eq (line : List UInt8) : Lib.indexByte [32, 45, 43] (line.getD 0 0).toNat.toUInt8 = kindB line := by
  unfold kindB
  congr 1
  simp
theorem rdL_h {l : List Hk} {A B : Int} {line : List UInt8} {l' : List Hk} (h : rdL (l ++ [(A, B, [])]) line = some l') : line ≠ noEndB ∧ 0 ≤ kindB line ∧ l' = l ++ [(A, B, [] ++ [(kindB line, [] ++ [line.drop 1])])] := by
  rw [rdL_snoc] at h
  unfold rdS at h
  dsimp only at h
  by_cases h1 : line = noEndB
  · rw [if_pos h1] at h; simp at h
  · rw [if_neg h1] at h
    by_cases h2 : kindB line < 0
    · rw [if_pos h2] at h; simp at h
    · rw [if_neg h2] at h
      simp only [Option.map_some, Option.some.injEq] at h
      refine ⟨h1, by omega, ?_⟩
      rw [← h]
      rfl
theorem rdL_s {l : List Hk} {A B : Int} {st : List StE} {k : Int} {ts : List (List UInt8)} {t line : List UInt8} {l' : List Hk} (h : rdL (l ++ [(A, B, st ++ [(k, ts ++ [t])])]) line = some l') :
    (line = noEndB ∧ l' = l ++ [(A, B, st ++ [(k, ts ++ [Lib.trimSuffix t [10]])])]) ∨
    (line ≠ noEndB ∧ 0 ≤ kindB line ∧ ((k = kindB line ∧ l' = l ++ [(A, B, st ++ [(k, (ts ++ [t]) ++ [line.drop 1])])]) ∨ (k ≠ kindB line ∧ l' = l ++ [(A, B, (st ++ [(k, ts ++ [t])]) ++ [(kindB line, [] ++ [line.drop 1])])]))) := by
  rw [rdL_snoc] at h
  unfold rdS at h
  dsimp only at h
  by_cases h1 : line = noEndB
  · rw [if_pos h1, if_neg (by simp)] at h
    left
    refine ⟨h1, ?_⟩
    simp only [Option.map_some, Option.some.injEq] at h
    rw [← h]
    unfold cutS0
    rw [List.getLast?_append, List.getLast?_singleton, Option.some_or]
    dsimp only
    rw [List.dropLast_concat, List.dropLast_concat, List.getLast?_append, List.getLast?_singleton, Option.some_or]
    rfl
  · rw [if_neg h1] at h
    right
    by_cases h2 : kindB line < 0
    · rw [if_pos h2] at h; simp at h
    · rw [if_neg h2] at h
      simp only [Option.map_some, Option.some.injEq] at h
      refine ⟨h1, by omega, ?_⟩
      unfold addS at h
      rw [List.getLast?_append, List.getLast?_singleton, Option.some_or] at h
      dsimp only at h
      by_cases h3 : k = kindB line
      · rw [if_pos h3, List.dropLast_concat] at h
        exact .inl ⟨h3, by rw [← h, ← h3]⟩
      · rw [if_neg h3] at h
        exact .inr ⟨h3, by rw [← h]; rfl⟩
abbrev rHx (v : Nat) (l : List Hk) (A B : Int) (x : AV) : Row := .sl v 84 3 (l.length + 1) (apC l.length (fun i => (eP eI (eP eI (eL (eP eI (eL eS))))).enc (l.getD i (0, 0, []))) fun _ j => if j = 0 then .val (.int .i64 A) else if j = 1 then .val (.int .i64 B) else x)
abbrev rSx (v : Nat) (st : List StE) (k : Int) (x : AV) : Row := .sl v 86 2 (st.length + 1) (apC st.length (fun i => (eP eI (eL eS)).enc (st.getD i (0, []))) fun _ j => if j = 0 then .val (.int .i64 k) else x)
theorem apC_at (n : Nat) (c d : Nat → Nat → AV) (j : Nat) : apC n c d n j = d 0 j := by unfold apC; rw [if_neg (Nat.lt_irrefl _), Nat.sub_self]
theorem rSx_le {v p p' u n k' : Nat} {st : List StE} {k : Int} : RowLe (rSx v st k (.ow p u n)) (rSx v st k (.ow p' u n)) := RowLe.sl rfl fun i hi j hj => by
  unfold apC
  split
  · exact AVle.refl _
  · dsimp only
    split
    · exact AVle.refl _
    · exact AVle.ow
theorem texts_last {ts : List (List UInt8)} {t u : List UInt8} : ∀ i, i < ts.length + 1 → ∀ j, j < 1 → AVle (stE (fun i => eS.enc ((ts ++ [t]).getD i [])) ts.length 0 1 (fun _ => AV.st u) i j) (eS.enc ((ts ++ [u]).getD i []) j) := fun i hi j hj => by
  obtain rfl : j = 0 := by omega
  unfold stE
  by_cases h : i = ts.length
  · subst h
    rw [if_pos (by simp), show (ts ++ [u]).getD ts.length [] = u by simp [List.getD]]
    exact AVle.refl _
  · rw [if_neg (by simp [h])]
    dsimp only
    rw [show (ts ++ [t]).getD i [] = (ts ++ [u]).getD i [] by simp [List.getD, List.getElem?_append_left (show i < ts.length by omega)]]
    exact AVle.refl _
theorem rowL_snoc (u : Nat) (e : TypeId) (ts : List (List UInt8)) (x : List UInt8) : rowL u e eS (ts ++ [x]) = .sl u e 1 (ts.length + 1) fun i => eS.enc ((ts ++ [x]).getD i []) := by
  unfold rowL
  rw [show (ts ++ [x]).length = ts.length + 1 by simp]
  rfl
def sDropE0 : MSpec := fun args hp top nx K => ∃ (v u : Nat) (st : List StE) (k : Int) (ts : List (List UInt8)) (t : List UInt8), args = [.ow 0 v (st.length + 1)] ∧ hp = rws [(0, rSx v st k (.ow 1 u (ts.length + 1))), (1, rowL u 9 eS (ts ++ [t]))] ∧ top = 2 ∧ (st.length < 1000000000 ∧ ts.length < 1000000000 ∧ t.length ≤ 100000000000) ∧
  ∀ nx', nx ≤ nx' → K (.val (.bool true)) (rws [(0, rSx v st k (.ow 1 u (ts.length + 1))), (1, rowL u 9 eS (ts ++ [Lib.trimSuffix t [10]]))]) 2 nx'
attribute [local irreducible] AW AVle ASle RowLe
theorem okDropE0 : MethOK Tryz.prog 145 sDropE0 := by
  refine MethOK.mk Tryz.func145 rfl (by decide) Tryz.results145 Tryz.ntmps145 ?_
  rintro args hp top nx K ⟨v, u, st, k, ts, t, rfl, rfl, rfl, ⟨h1, h2, h3⟩, hK⟩
  have hΓ : GOK Tryz.prog (gam [(141, sTrimSuf)]) := (.cons okTrimSuf .nil)
  refine ⟨Nat.le_of_ble_eq_true rfl, AW.late ?_⟩
  have e1 : (((st.length + 1 : Nat) : Int) - 1).toNat = st.length := by omega
  have e2 : (((ts.length + 1 : Nat) : Int) - 1).toNat = ts.length := by omega
  have e3 : (((st.length + 1 : Nat) : Int) = 0) = False := eq_false (by omega)
  have e4 : (ts ++ [t]).getD ts.length [] = t := by simp [List.getD]
  refine AW.of hΓ mixed [99999] _ _ _ rfl ?_
  simp only [go_sem, sTrimSuf, e1, e2, e3, e4, apC_at, rowL, st_sz]
  refine ⟨by omega, by omega, by omega, by omega, by omega, by omega, by omega, h3, by omega, by omega, _, toFitsV (fun p => p) (l := [(2, .val (.bool true))]) (r := [(0, rSx v st k (.ow 1 u (ts.length + 1))), (1, rowL u 9 eS (ts ++ [Lib.trimSuffix t [10]]))]) (sz := 26) (top := 2) (nx := nx) (df := []) ?_, ?_⟩
  · simp only [go_sem, sTrimSuf]
    exact ⟨RowLe.refl _, RowLe.sl (by simp) fun i hi j hj => texts_last i hi j hj⟩
  · simp only [go_sem, sTrimSuf]
    have := hK nx (Nat.le_refl _)
    rw [rowL_snoc] at this
    exact this
def sDropE : MSpec := framed sDropE0
theorem okDropE : MethOK Tryz.prog 145 sDropE := okDropE0.frame
def outHead (line : List UInt8) : AV := tu2 (.ag 3 fun j => if j = 0 then .val (.int .i64 (rdH line).1) else if j = 1 then .val (.int .i64 (rdH line).2.1) else .em) (.val (.bool true))
def okHd (line : List UInt8) : Prop := line.length ≤ 1000000000 ∧ rdOK line = true ∧ numOK line ∧ ((-1 ≤ (rdH line).1 ∧ (rdH line).1 ≤ 1000000000) ∧ -1 ≤ (rdH line).2.1 ∧ (rdH line).2.1 ≤ 1000000000)
def sReadH : Spec := Spec.f1 kS okHd outHead
theorem okReadH : SpecOK Tryz.prog 86 sReadH := by
  refine SpecOK.f1 Tryz.func86 rfl (by decide) Tryz.results86 Tryz.ntmps86 (by decide) fun line ⟨h1, h2, h3, ⟨h4, h5⟩, h6, h7⟩ => ?_
  have hΓ : GOK Tryz.prog (gam [(142, sTrimPre), (141, sTrimSuf), (143, sCutAt), (144, sAtoi)]) := (.cons okTrimPre (.cons okTrimSuf (.cons okCutAt (.cons okAtoi .nil))))
  unfold rdOK at h2
  simp only [Bool.and_eq_true] at h2
  obtain ⟨a1, a2, a3⟩ := h2
  obtain ⟨⟨n1, n2⟩, n3, n4⟩ := h3 (by unfold rdOK; rw [a1, a2, a3]; rfl)
  have c1 : (rdIn line).length ≤ line.length := Nat.le_trans (trimS_le _ _) (trimP_le _ _)
  have c2 := trimP_le line opnB
  have c3 := cutP_leP (rdIn line) btwB
  have e1 : Lib.cut (Lib.trimSuffix (Lib.trimPrefix line [37, 37, 32, 45]) [32, 37, 37, 10]) [32, 43] = rdX line := rfl
  have e2 : Lib.cut (rdX line).1 [44] = rdA line := rfl
  have e3 : Lib.cut (rdX line).2.1 [44] = rdB line := rfl
  refine AW.of hΓ mixed [200009] _ _ _ rfl ?_
  simp only [go_sem, sTrimPre, sTrimSuf, sCutAt, sAtoi, e1, e2, e3, a1, a2, a3]
  have c4 : (Lib.trimPrefix line [37, 37, 32, 45]).length ≤ line.length := trimP_le _ _
  have c5 : (Lib.trimSuffix (Lib.trimPrefix line [37, 37, 32, 45]) [32, 37, 37, 10]).length ≤ line.length := Nat.le_trans (trimS_le _ _) c4
  have c6 : (rdX line).1.length ≤ (rdIn line).length := c3.1
  have c7 : (rdX line).2.1.length ≤ (rdIn line).length := c3.2
  refine ⟨by omega, by omega, by omega, by omega, ⟨n1, n2⟩, ⟨n3, n4⟩, ?_⟩
  refine AW.drawZ hΓ mixed 11 [] [8, 9, 10] [] (by decide +kernel) ?_
  have h4 : -1 ≤ (Lib.atoi (rdA line).1).getD 0 - 1 := h4
  have h5 : (Lib.atoi (rdA line).1).getD 0 - 1 ≤ 1000000000 := h5
  have h6 : -1 ≤ (Lib.atoi (rdB line).1).getD 0 - 1 := h6
  have h7 : (Lib.atoi (rdB line).1).getD 0 - 1 ≤ 1000000000 := h7
  simp only [go_sem, sTrimPre, sTrimSuf, sCutAt, sAtoi, e1, e2, e3, a1, a2, a3, outHead]
  refine ⟨by omega, by omega, show vwQ _ AV.em from ⟨rfl, .inl rfl⟩, AVle.ag fun j hj => ?_⟩
  match j, hj with
  | 0, _ => exact AVle.refl _
  | 1, _ => exact AVle.refl _
  | 2, _ => exact AVle.refl _
end Go.Proofs.YthpjjjnbkfnghaaGreatDoor
set_option linter.unusedSimpArgs false
set_option linter.unusedVariables false
set_option maxRecDepth 100000
set_option maxHeartbeats 8000000
namespace Go.Proofs.YthpjjjnbkfnghaaGreatDoor
open Go
theorem kc_nil : kCell (.slice none 0 0) = .em := rfl
theorem dropE_go {p q v u n : Nat} {st : List StE} {k : Int} {ts : List (List UInt8)} {t : List UInt8} {hp : Nat → Row} {top nx : Nat} {K : AV → (Nat → Row) → Nat → Nat → Prop} (hn : n = st.length + 1) (hpq : p ≠ q)
    (hr : RowLe (hp p) (rSx v st k (.ow q u (ts.length + 1)))) (hr2 : RowLe (hp q) (rowL u 9 eS (ts ++ [t]))) (ht : p < top ∧ q < top) (hl : st.length < 1000000000 ∧ ts.length < 1000000000 ∧ t.length ≤ 100000000000)
    (hK : ∀ nx', nx ≤ nx' → K (.val (.bool true)) (updR (updR hp p (rSx v st k (.ow q u (ts.length + 1)))) q (rowL u 9 eS (ts ++ [Lib.trimSuffix t [10]]))) top nx') :
    sDropE [.ow p v n] hp top nx K := by
  subst hn
  have e1 : (hp p).ver = some v := hr.vers.symm
  have e2 : (hp q).ver = some u := hr2.vers.symm
  refine ⟨[p, q], [.ow 0 v (st.length + 1)], rws [(0, rSx v st k (.ow 1 u (ts.length + 1))), (1, rowL u 9 eS (ts ++ [t]))], by simp [hpq], by simp; omega, .cons AVle.ow .nil, rows_2 (hr.trans (rSx_le (k' := 0))) hr2, fun i hi => rws_top (top := 2) (by simp) i (by simpa using hi), v, u, st, k, ts, t, rfl, rfl, rfl, hl, fun nx' h1 => ?_⟩
  refine ⟨_, _, AVle.refl _, fun i o ho => ?_, fun o ho => ?_, fun o ho w hv => ?_, hK nx' h1⟩
  · match i with
    | 0 =>
      simp only [List.getElem?_cons_zero, Option.some.injEq] at ho
      subst ho
      rw [updR_ne _ _ hpq, updR_at]
      exact rSx_le (k' := 0)
    | 1 =>
      simp only [List.getElem?_cons_succ, List.getElem?_cons_zero, Option.some.injEq] at ho
      subst ho
      rw [updR_at]
      exact RowLe.refl _
    | i + 2 => simp at ho
  · simp only [List.mem_cons, List.not_mem_nil, or_false, not_or] at ho
    rw [updR_ne _ _ ho.2, updR_ne _ _ ho.1]
  · simp only [List.mem_cons, List.not_mem_nil, or_false] at ho
    rcases ho with rfl | rfl
    · rw [updR_ne _ _ hpq, updR_at] at hv
      have : some v = some w := hv
      obtain rfl := Option.some.inj this
      exact .inl e1
    · rw [updR_at] at hv
      have : some u = some w := hv
      obtain rfl := Option.some.inj this
      exact .inl e2
theorem hk_put {l : List Hk} {A B : Int} {x : AV} {d : Nat → AV} {c0 : AV} {i j : Nat} (hi : i < l.length + 1) (hj : j < 3) (hd : AVle (d 0) x) :
    AVle (stE (apC l.length (fun i => (eP eI (eP eI (eL (eP eI (eL eS))))).enc (l.getD i (0, 0, []))) fun _ j => if j = 0 then .val (.int .i64 A) else if j = 1 then .val (.int .i64 B) else c0) l.length 2 1 d i j) (apC l.length (fun i => (eP eI (eP eI (eL (eP eI (eL eS))))).enc (l.getD i (0, 0, []))) (fun _ j => if j = 0 then .val (.int .i64 A) else if j = 1 then .val (.int .i64 B) else x) i j) := by
  unfold stE apC
  by_cases h : i < l.length
  · rw [if_neg (by omega), if_pos h, if_pos h]
    exact AVle.refl _
  · obtain rfl : i = l.length := by omega
    rw [if_neg h, if_neg h]
    match j, hj with
    | 0, _ => rw [if_neg (by omega)]; exact AVle.refl _
    | 1, _ => rw [if_neg (by omega)]; exact AVle.refl _
    | 2, _ =>
      rw [if_pos ⟨rfl, Nat.le_refl _, Nat.lt_succ_self _⟩]
      exact hd
theorem st_put {l : List StE} {k : Int} {x : AV} {d : Nat → AV} {c0 : AV} {i j : Nat} (hi : i < l.length + 1) (hj : j < 2) (hd : AVle (d 0) x) :
    AVle (stE (apC l.length (fun i => (eP eI (eL eS)).enc (l.getD i (0, []))) fun _ j => if j = 0 then .val (.int .i64 k) else c0) l.length 1 1 d i j) (apC l.length (fun i => (eP eI (eL eS)).enc (l.getD i (0, []))) (fun _ j => if j = 0 then .val (.int .i64 k) else x) i j) := by
  unfold stE apC
  by_cases h : i < l.length
  · rw [if_neg (by omega), if_pos h, if_pos h]
    exact AVle.refl _
  · obtain rfl : i = l.length := by omega
    rw [if_neg h, if_neg h]
    match j, hj with
    | 0, _ => rw [if_neg (by omega)]; exact AVle.refl _
    | 1, _ =>
      rw [if_pos ⟨rfl, Nat.le_refl _, Nat.lt_succ_self _⟩]
      exact hd
theorem rHx_le {v p p' u n : Nat} {l : List Hk} {A B : Int} : RowLe (rHx v l A B (.ow p u n)) (rHx v l A B (.ow p' u n)) := RowLe.sl rfl fun i hi j hj => by
  unfold apC
  split
  · exact AVle.refl _
  · dsimp only
    split
    · exact AVle.refl _
    · split
      · exact AVle.refl _
      · exact AVle.ow
theorem hk_fz {v v1 v2 n m z : Nat} {cc : Nat → Nat → AV} {l : List Hk} {A B : Int} : RowLe (.sl v 84 3 (l.length + 1) fun i j => fz 2 v2 n z cc (apC l.length (fun i => (eP eI (eP eI (eL (eP eI (eL eS))))).enc (l.getD i (0, 0, []))) (fun _ j => if j = 0 then .val (.int .i64 A) else if j = 1 then .val (.int .i64 B) else .ow 1 v1 m) i j)) (rHx v l A B (.ow 1 v1 m)) := RowLe.sl rfl fun i hi j hj => by
  unfold apC
  split
  · match j, hj with
    | 0, _ => exact AVle.refl _
    | 1, _ => exact AVle.refl _
    | 2, _ => exact AVle.refl _
  · match j, hj with
    | 0, _ => exact AVle.refl _
    | 1, _ => exact AVle.refl _
    | 2, _ => exact AVle.of_eq (show (if (1 : Nat) = 2 ∧ v1 = v2 ∧ m ≤ n then AV.sn m z cc else AV.ow 1 v1 m) = AV.ow 1 v1 m from if_neg (by omega))
theorem one_text {u e : Nat} {x : List UInt8} : RowLe (.sl u e 1 1 fun i => [fun _ => AV.st x].getD i fun _ => .any) (.sl u e 1 1 fun i => eS.enc ([x].getD i [])) := RowLe.sl rfl fun i hi j hj => by
  obtain rfl : i = 0 := by omega
  exact AVle.refl _
attribute [local irreducible] AW AVle ASle RowLe
def sReadLH : MSpec := fun args hp top nx K => ∃ (v : Nat) (l : List Hk) (A B : Int) (line : List UInt8), args = [.ow 0 v (l.length + 1), .st line] ∧ hp = rws [(0, rHx v l A B .em)] ∧ top = 3 ∧ l.length < 1000000000 ∧ line ≠ [] ∧ line.length ≤ 1000000000 ∧ line ≠ noEndB ∧ 0 ≤ kindB line ∧
  ∀ v1 v2 nx', nx ≤ nx' → K (.val (.bool true)) (rws [(0, rHx v l A B (.ow 1 v1 1)), (1, rSx v1 [] (kindB line) (.ow 2 v2 1)), (2, rowL v2 9 eS [line.drop 1])]) 3 nx'
theorem okReadLH : MethOK Tryz.prog 87 sReadLH := by
  refine MethOK.mk Tryz.func87 rfl (by decide) Tryz.results87 Tryz.ntmps87 ?_
  rintro args hp top nx K ⟨v, l, A, B, line, rfl, rfl, rfl, hl, hne, hll, hno, hk, hK⟩
  have hΓ : GOK Tryz.prog (gam [(146, sIndexByte), (145, sDropE)]) := (.cons okIndexByte (.cons okDropE .nil))
  refine ⟨Nat.le_of_ble_eq_true rfl, AW.late ?_⟩
  have e1 : (((l.length + 1 : Nat) : Int) - 1).toNat = l.length := by omega
  have e3 : (((l.length + 1 : Nat) : Int) = 0) = False := eq_false (by omega)
  have e4 : (line = [92, 32, 110, 111, 32, 101, 110, 100, 10]) = False := eq_false hno
  have e5 : (Lib.indexByte [32, 45, 43] (line.getD 0 0).toNat.toUInt8 < 0) = False := by rw [kindB_eq]; exact eq_false (by omega)
  have e6 : (kindB line < 0) = False := eq_false (by omega)
  have hpos : 0 < line.length := List.length_pos_iff.2 hne
  refine AW.of hΓ mixed [99999, 200013] _ _ _ rfl ?_
  simp only [go_sem, sIndexByte, sDropE, e1, e3, e4, e6, apC_at, hk_sz, kindB_eq, st_sz, kc_nil]
  refine ⟨by omega, by omega, by omega, by omega, by omega, by omega, ?_⟩
  refine AW.cut ⟨[(1, .st line), (5, .pe 0 v 3 l.length 0), (7, .val (.int .i64 0))], [(0, rHx v l A B (.ow 3 nx 1)), (3, rSx nx [] (kindB line) .em)], 80, 4, nx + 1, []⟩ ?_ ?_
  · simp only [go_sem, sIndexByte, sDropE]
    exact ⟨RowLe.sl rfl fun i hi j hj => hk_put hi hj (AVle.refl _), RowLe.sl rfl fun i hi j hj => by
      obtain rfl : i = 0 := by simp at hi; omega
      match j, hj with
      | 0, _ => exact AVle.refl _
      | 1, _ => exact AVle.refl _⟩
  refine AW.drawK hΓ mixed 16 [] [1, 2, 3] [] [0] (by decide +kernel) ?_
  simp only [go_sem, sIndexByte, sDropE, e1, e3, e4, e6, apC_at, hk_sz, kindB_eq, st_sz, kc_nil]
  refine ⟨by omega, by omega, by omega, _, toFitsV (fun p => if p = 0 then 0 else p + 2) (l := [(4, .val (.bool true))]) (r := [(0, rHx v l A B (.ow 1 nx 1)), (1, rSx nx [] (kindB line) (.ow 2 (nx + 1) 1)), (2, rowL (nx + 1) 9 eS [line.drop 1])]) (sz := 80) (top := 3) (nx := nx + 2) (df := []) ?_, ?_⟩
  · simp only [go_sem, sIndexByte, sDropE]
    exact ⟨rHx_le, RowLe.sl rfl fun i hi j hj => st_put (l := []) hi hj AVle.ow, one_text⟩
  · simp only [go_sem, sIndexByte, sDropE]
    have := hK nx (nx + 1) (nx + 2) (by omega)
    exact this
def sReadLS : MSpec := fun args hp top nx K => ∃ (v v1 v2 : Nat) (l : List Hk) (A B : Int) (st : List StE) (k : Int) (ts : List (List UInt8)) (t line : List UInt8), args = [.ow 0 v (l.length + 1), .st line] ∧
  hp = rws [(0, rHx v l A B (.ow 1 v1 (st.length + 1))), (1, rSx v1 st k (.ow 2 v2 (ts.length + 1))), (2, rowL v2 9 eS (ts ++ [t]))] ∧ top = 3 ∧ (l.length < 1000000000 ∧ st.length < 1000000000 ∧ ts.length < 1000000000 ∧ t.length ≤ 100000000000) ∧ line ≠ [] ∧ line.length ≤ 1000000000 ∧
  (line = noEndB → ∀ nx', nx ≤ nx' → K (.val (.bool true)) (rws [(0, rHx v l A B (.ow 1 v1 (st.length + 1))), (1, rSx v1 st k (.ow 2 v2 (ts.length + 1))), (2, rowL v2 9 eS (ts ++ [Lib.trimSuffix t [10]]))]) 3 nx') ∧
  (line ≠ noEndB → 0 ≤ kindB line ∧
    (k = kindB line → ∀ v2' nx', nx ≤ nx' → K (.val (.bool true)) (rws [(0, rHx v l A B (.ow 1 v1 (st.length + 1))), (1, rSx v1 st k (.ow 2 v2' ((ts ++ [t]).length + 1))), (2, rowL v2' 9 eS (ts ++ [t] ++ [line.drop 1]))]) 3 nx') ∧
    (k ≠ kindB line → ∀ v1' v2' nx', nx ≤ nx' → K (.val (.bool true)) (rws [(0, rHx v l A B (.ow 1 v1' ((st ++ [(k, ts ++ [t])]).length + 1))), (1, rSx v1' (st ++ [(k, ts ++ [t])]) (kindB line) (.ow 2 v2' 1)), (2, rowL v2' 9 eS [line.drop 1])]) 3 nx'))
theorem steps_end {st : List StE} {k : Int} {ts : List (List UInt8)} {t : List UInt8} {q v : Nat} : ∀ i, i < st.length + 1 → ∀ j, j < 2 → AVle (fz q v (ts.length + 1) 1 (fun i => eS.enc ((ts ++ [t]).getD i [])) (apC st.length (fun i => (eP eI (eL eS)).enc (st.getD i (0, []))) (fun _ j => if j = 0 then .val (.int .i64 k) else .ow q v (ts.length + 1)) i j)) ((eP eI (eL eS)).enc ((st ++ [(k, ts ++ [t])]).getD i (0, [])) j) := fun i hi j hj => by
  unfold apC
  by_cases h : i < st.length
  · rw [if_pos h, show (st ++ [(k, ts ++ [t])]).getD i (0, []) = st.getD i (0, []) by simp [List.getD, List.getElem?_append_left h]]
    match j, hj with
    | 0, _ => exact AVle.refl _
    | 1, _ => exact AVle.refl _
  · obtain rfl : i = st.length := by omega
    rw [if_neg h, show (st ++ [(k, ts ++ [t])]).getD st.length (0, []) = (k, ts ++ [t]) by simp [List.getD]]
    match j, hj with
    | 0, _ => exact AVle.refl _
    | 1, _ =>
      show AVle (fz q v (ts.length + 1) 1 (fun i => eS.enc ((ts ++ [t]).getD i [])) (.ow q v (ts.length + 1))) (sL eS (ts ++ [t]))
      have e : fz q v (ts.length + 1) 1 (fun i => eS.enc ((ts ++ [t]).getD i [])) (.ow q v (ts.length + 1)) = .sn (ts.length + 1) 1 (fun i => eS.enc ((ts ++ [t]).getD i [])) := if_pos ⟨rfl, rfl, Nat.le_refl _⟩
      rw [e]
      unfold sL
      rw [show (ts ++ [t]).length = ts.length + 1 by simp]
      exact AVle.refl _
theorem okReadLS : MethOK Tryz.prog 87 sReadLS := by
  refine MethOK.mk Tryz.func87 rfl (by decide) Tryz.results87 Tryz.ntmps87 ?_
  rintro args hp top nx K ⟨v, v1, v2, l, A, B, st, k, ts, t, line, rfl, rfl, rfl, ⟨hl, hl1, hl2, hl3⟩, hne, hll, hKa, hKb⟩
  have hΓ : GOK Tryz.prog (gam [(146, sIndexByte), (145, sDropE)]) := (.cons okIndexByte (.cons okDropE .nil))
  refine ⟨Nat.le_of_ble_eq_true rfl, AW.late ?_⟩
  have e1 : (((l.length + 1 : Nat) : Int) - 1).toNat = l.length := by omega
  have e2 : (((st.length + 1 : Nat) : Int) - 1).toNat = st.length := by omega
  have e3 : (((l.length + 1 : Nat) : Int) = 0) = False := eq_false (by omega)
  have hpos : 0 < line.length := List.length_pos_iff.2 hne
  by_cases hno : line = noEndB
  · have e4 : (line = [92, 32, 110, 111, 32, 101, 110, 100, 10]) = True := eq_true hno
    refine AW.of hΓ mixed [99999, 200013] _ _ _ rfl ?_
    simp only [go_sem, sIndexByte, sDropE, e1, e3, e4, apC_at, hk_sz, st_sz]
    refine ⟨by omega, by omega, by omega, ?_⟩
    refine dropE_go (p := 1) (q := 2) (st := st) (k := k) (ts := ts) (t := t) (u := v2) rfl (by decide) (RowLe.refl _) (by rw [rowL_snoc]; exact RowLe.refl _) (by decide) ⟨hl1, hl2, hl3⟩ fun nx' h1 => ?_
    simp only [go_sem, sIndexByte, sDropE]
    refine ⟨_, toFitsV (fun p => p) (l := [(4, .val (.bool true))]) (r := [(0, rHx v l A B (.ow 1 v1 (st.length + 1))), (1, rSx v1 st k (.ow 2 v2 (ts.length + 1))), (2, rowL v2 9 eS (ts ++ [Lib.trimSuffix t [10]]))]) (sz := 80) (top := 3) (nx := nx') (df := []) ?_, ?_⟩
    · simp only [go_sem, sIndexByte, sDropE]
      exact ⟨RowLe.refl _, RowLe.refl _, RowLe.refl _⟩
    · simp only [go_sem, sIndexByte, sDropE]
      have := hKa hno nx' h1
      rw [rowL_snoc] at this
      exact this
  obtain ⟨hk, hKc, hKd⟩ := hKb hno
  have e4 : (line = [92, 32, 110, 111, 32, 101, 110, 100, 10]) = False := eq_false hno
  have e6 : (kindB line < 0) = False := eq_false (by omega)
  have e7 : ((((st.length + 1 : Nat) : Int) - 1) < 0) = False := eq_false (by omega)
  by_cases hkk : k = kindB line
  · have e8 : (k = kindB line) = True := eq_true hkk
    refine AW.of hΓ mixed [99999, 200013] _ _ _ rfl ?_
    simp only [go_sem, sIndexByte, sDropE, e1, e2, e3, e4, e6, e7, e8, apC_at, hk_sz, kindB_eq, st_sz, kc_nil]
    refine ⟨by omega, by omega, by omega, by omega, by omega, by omega, by omega, by omega, ?_⟩
    refine AW.drawK hΓ mixed 16 [] [1, 2, 3] [] [0] (by decide +kernel) ?_
    simp only [go_sem, sIndexByte, sDropE, e1, e2, e3, e4, e6, e7, e8, apC_at, hk_sz, kindB_eq, st_sz, kc_nil]
    refine ⟨by omega, by omega, by omega, by omega, by omega, by omega, by omega, by omega, _, toFitsV (fun p => p) (l := [(4, .val (.bool true))]) (r := [(0, rHx v l A B (.ow 1 v1 (st.length + 1))), (1, rSx v1 st k (.ow 2 nx ((ts ++ [t]).length + 1))), (2, rowL nx 9 eS (ts ++ [t] ++ [line.drop 1]))]) (sz := 80) (top := 3) (nx := nx + 1) (df := []) ?_, ?_⟩
    · simp only [go_sem, sIndexByte, sDropE]
      refine ⟨RowLe.refl _, RowLe.sl rfl fun i hi j hj => st_put hi hj (AVle.refl _), ?_⟩
      · exact row_app1 (E := eS) (l := ts ++ [t]) rfl rfl (by simp) (by simp) (by simp) fun j hj => AVle.refl _
    · simp only [go_sem, sIndexByte, sDropE]
      have := hKc hkk nx (nx + 1) (by omega)
      rw [rowL_snoc, show (ts ++ [t]).length = ts.length + 1 by simp] at this
      exact this
  · have e8 : (k = kindB line) = False := eq_false hkk
    refine AW.freeze 2 v2 9 1 (ts.length + 1) (fun i => eS.enc ((ts ++ [t]).getD i [])) (by show rowL v2 9 eS (ts ++ [t]) = _; exact rowL_snoc _ _ _ _) (fun _ _ _ _ => rfl) ?_
    refine AW.cut ⟨[(0, .ow 0 v (l.length + 1)), (1, .st line)], [(0, rHx v l A B (.ow 1 v1 (st.length + 1))), (1, .sl v1 86 2 (st.length + 1) fun i => (eP eI (eL eS)).enc ((st ++ [(k, ts ++ [t])]).getD i (0, [])))], 80, 3, nx, []⟩ ?_ ?_
    · simp only [go_sem, sIndexByte, sDropE]
      refine ⟨hk_fz, RowLe.sl (by simp) steps_end⟩
    have e9 : (st ++ [(k, ts ++ [t])]).getD st.length (0, []) = (k, ts ++ [t]) := by simp [List.getD]
    refine AW.of hΓ mixed [99999, 200013] _ _ _ rfl ?_
    simp only [go_sem, sIndexByte, sDropE, e1, e2, e3, e4, e6, e7, e8, e9, apC_at, hk_sz, kindB_eq, st_sz, kc_nil, sp0, sp1]
    refine ⟨by omega, by omega, by omega, by omega, by omega, by omega, by omega, by omega, by omega, by omega, by omega, by omega, ?_⟩
    have e10 : (st ++ [(k, ts ++ [t])]).length = st.length + 1 := by simp
    generalize hst : st ++ [(k, ts ++ [t])] = st' at *
    refine AW.cut ⟨[(1, .st line), (5, .pe 0 v 3 l.length 0), (7, .val (.int .i64 st'.length))], [(0, rHx v l A B (.ow 1 nx (st'.length + 1))), (1, rSx nx st' (kindB line) .em)], 80, 3, nx + 1, []⟩ ?_ ?_
    · simp only [go_sem, sIndexByte, sDropE, e10]
      exact ⟨by omega, RowLe.sl rfl fun i hi j hj => hk_put hi hj (AVle.refl _), RowLe.sl (by rw [e10]) fun i hi j hj => by
        rw [e10]
        unfold apC
        by_cases h : i < st.length + 1
        · rw [if_pos h, if_pos h]; exact AVle.refl _
        · rw [if_neg h, if_neg h]
          obtain rfl : i = st.length + 1 := by omega
          rw [Nat.sub_self]
          match j, hj with
          | 0, _ => exact AVle.refl _
          | 1, _ => exact AVle.refl _⟩
    refine AW.drawK hΓ mixed 16 [] [1, 2, 3] [] [0] (by decide +kernel) ?_
    simp only [go_sem, sIndexByte, sDropE, e1, e2, e3, e4, e6, e7, e8, e9, apC_at, hk_sz, kindB_eq, st_sz, kc_nil, sp0, sp1]
    refine ⟨by omega, by omega, by omega, by omega, by omega, by omega, by omega, _, toFitsV (fun p => if p = 2 then 3 else p) (l := [(4, .val (.bool true))]) (r := [(0, rHx v l A B (.ow 1 nx (st'.length + 1))), (1, rSx nx st' (kindB line) (.ow 2 (nx + 1) 1)), (2, rowL (nx + 1) 9 eS [line.drop 1])]) (sz := 80) (top := 3) (nx := nx + 2) (df := []) ?_, ?_⟩
    · simp only [go_sem, sIndexByte, sDropE]
      exact ⟨rHx_le, RowLe.sl rfl fun i hi j hj => st_put hi hj AVle.ow, one_text⟩
    · simp only [go_sem, sIndexByte, sDropE]
      have := hKd hkk nx (nx + 1) (nx + 2) (by omega)
      exact this
def sReadL : MSpec := fun args hp top nx K => sReadLH args hp top nx K ∨ sReadLS args hp top nx K
theorem okReadL : MethOK Tryz.prog 87 sReadL := okReadLH.or okReadLS
end Go.Proofs.YthpjjjnbkfnghaaGreatDoor
set_option linter.unusedSimpArgs false
set_option linter.unusedVariables false
set_option maxRecDepth 100000
set_option maxHeartbeats 8000000
namespace Go.Proofs.YthpjjjnbkfnghaaGreatDoor
open Go
attribute [local irreducible] AW AVle ASle RowLe
theorem txtH_take {l : List Hk} {i : Nat} (h : i < l.length) : txtH (l.take (i + 1)) = txtH (l.take i) ++ hunkT (l.getD i (0, 0, [])) := by
  rw [take_snocE l (0, 0, []) h]; simp [txtH]
theorem txtH_le (l : List Hk) (i : Nat) : (txtH (l.take i)).length ≤ (txtH l).length := by
  have h : txtH (l.take i ++ l.drop i) = txtH (l.take i) ++ txtH (l.drop i) := by unfold txtH; rw [List.map_append, List.flatten_append]
  rw [List.take_append_drop] at h
  rw [h, List.length_append]
  omega
def stepsT (st : List StE) : List UInt8 := (st.map stepT).flatten
theorem stepsT_take {l : List StE} {i : Nat} (h : i < l.length) : stepsT (l.take (i + 1)) = stepsT (l.take i) ++ stepT (l.getD i (0, [])) := by
  rw [take_snocE l (0, []) h]; simp [stepsT]
theorem stepsT_le (l : List StE) (i : Nat) : (stepsT (l.take i)).length ≤ (stepsT l).length := by
  have h : stepsT (l.take i ++ l.drop i) = stepsT (l.take i) ++ stepsT (l.drop i) := by unfold stepsT; rw [List.map_append, List.flatten_append]
  rw [List.take_append_drop] at h
  rw [h, List.length_append]
  omega
def linesT (k : Int) (ts : List (List UInt8)) : List UInt8 := (ts.map (lineP k)).flatten
theorem linesT_take {k : Int} {l : List (List UInt8)} {i : Nat} (h : i < l.length) : linesT k (l.take (i + 1)) = linesT k (l.take i) ++ lineP k (l.getD i []) := by
  rw [take_snocE l [] h]; simp [linesT]
theorem linesT_le (k : Int) (l : List (List UInt8)) (i : Nat) : (linesT k (l.take i)).length ≤ (linesT k l).length := by
  have h : linesT k (l.take i ++ l.drop i) = linesT k (l.take i) ++ linesT k (l.drop i) := by unfold linesT; rw [List.map_append, List.flatten_append]
  rw [List.take_append_drop] at h
  rw [h, List.length_append]
  omega
theorem head_ne (h : Hk) : headP h ≠ [] := by simp [headP, opnB]
theorem right_mem : ∀ {l : List Hk} {n s : Int}, rightP l n s = true → ∀ h ∈ l, rightE (-1) h.2.2 = true
  | [], _, _, _, h, hm => by cases hm
  | g :: r, n, s, hr, h, hm => by
    rw [rightP, Bool.and_eq_true] at hr
    rcases List.mem_cons.1 hm with rfl | hm
    · have := hr.1
      unfold hunkP at this
      simp only [Bool.and_eq_true] at this
      exact this.1.1
    · exact right_mem hr.2 h hm
theorem dec_hk (hp : Nat → Row) (h : Hk) : (kA (eP eI (eP eI (eL (eP eI (eL eS)))))).dec (.ag 3 fun j => if j < 3 then vw0 hp ((eP eI (eP eI (eL (eP eI (eL eS))))).enc h j) else .any) = h := by
  show (h.1, h.2.1, gL (eP eI (eL eS)) (sL (eP eI (eL eS)) h.2.2)) = h
  rw [gL_sL]
theorem ok_hk (hp : Nat → Row) (h : Hk) : (kA (eP eI (eP eI (eL (eP eI (eL eS)))))).ok (.ag 3 fun j => if j < 3 then vw0 hp ((eP eI (eP eI (eL (eP eI (eL eS))))).enc h j) else .any) = True := by
  refine eq_true ?_
  unfold Kd.ok
  rw [dec_hk]
  refine AVle.ag fun j hj => ?_
  match j, hj with
  | 0, _ => exact AVle.refl _
  | 1, _ => exact AVle.refl _
  | 2, _ => exact AVle.refl _
def sTextPt : Spec := Spec.f1 (kL (eP eI (eP eI (eL (eP eI (eL eS)))))) (fun l => okHs l ∧ (∀ h ∈ l, (0 ≤ h.1 ∧ h.1 ≤ 1000000) ∧ 0 ≤ h.2.1 ∧ h.2.1 ≤ 100000000) ∧ (txtH l).length ≤ 50000000000) (fun l => kS.enc (textP0 l))
theorem okTextPt : SpecOK Tryz.prog 32 sTextPt := by
  refine SpecOK.f1 Tryz.func32 rfl (by decide) Tryz.results32 Tryz.ntmps32 (by decide) fun l ⟨ho, hb, hlen⟩ => ?_
  have hΓ : GOK Tryz.prog (gam [(49, sRightP), (89, sHeadP), (88, sWriteX), (90, sWriteB), (91, sHasSufP), (92, sStrX)]) := (.cons okRightP (.cons okHeadP (.cons okWriteX (.cons okWriteB (.cons okHasSufP (.cons okStrX .nil))))))
  have hR0 : rightP l 0 0 = true ∨ rightP l 0 0 = false := by cases rightP l 0 0 <;> simp
  rcases hR0 with hR | hR
  · have eT : textP0 l = txtH l := by unfold textP0; rw [if_pos hR]
    have hl0 := ho.1
    rw [eT]
    refine AW.of hΓ mixed [0] _ _ _ rfl ?_
    simp only [go_sem, sRightP, sHeadP, sWriteX, sWriteB, sHasSufP, sStrX, hk_sz]
    refine AW.seqTo (fun _ : Unit => Sh.st ⟨[(0, sL (eP eI (eP eI (eL (eP eI (eL eS))))) l)], [], 50, 0, 0, []⟩) ?_ fun _ => ?_
    · refine AW.of hΓ mixed [] _ _ _ rfl ?_
      simp only [go_sem, sRightP, sHeadP, sWriteX, sWriteB, sHasSufP, sStrX, hk_sz, hR]
      refine ⟨ho, (), toFits ?_⟩
      simp only [go_sem, sRightP, sHeadP, sWriteX, sWriteB, sHasSufP, sStrX]
    refine AW.fork (AW.regionO hΓ [true] ?_)
    simp only [go_sem, sRightP, sHeadP, sWriteX, sWriteB, sHasSufP, sStrX]
    refine alloc_wp rfl zero138 (Nat.lt_of_lt_of_le (by decide : 3 < 50) (Nat.le_refl _)) ?_
    simp only [go_sem, sRightP, sHeadP, sWriteX, sWriteB, sHasSufP, sStrX]
    refine AW.cut ⟨[(0, sL (eP eI (eP eI (eL (eP eI (eL eS))))) l), (3, .pt 0 0 0)], [(0, .box 0 138 2 (bldX false 0 0 1 0 [])), (1, rowX 0 [])], 50, 2, 1, []⟩ ?_ ?_
    · simp only [go_sem, sRightP, sHeadP, sWriteX, sWriteB, sHasSufP, sStrX]
      refine ⟨RowLe.box fun j hj => ?_, RowLe.refl _⟩
      match j, hj with
      | 0, _ => exact AVle.refl _
      | 1, _ => exact AVle.refl _
    refine AW.of hΓ mixed [] _ _ _ rfl ?_
    simp only [go_sem, sRightP, sHeadP, sWriteX, sWriteB, sHasSufP, sStrX, hk_sz]
    refine AW.round (α := { x : Nat × Bool × Nat × Nat // x.1 ≤ l.length })
      (fun x => ⟨[(3, .pt 0 0 0), (13, sL (eP eI (eP eI (eL (eP eI (eL eS))))) l), (14, .val (.int .i64 l.length)), (15, .val (.int .i64 x.1.1))],
        [(0, .box 0 138 2 (bldX x.1.2.1 0 0 1 x.1.2.2.1 (txtH (l.take x.1.1)))), (1, rowX x.1.2.2.1 (txtH (l.take x.1.1)))], 50, 2, x.1.2.2.2, []⟩) (fun x => l.length - x.1.1) ⟨(0, false, 0, 1), Nat.zero_le _⟩ ?_ ?_
    · simp only [go_sem, sRightP, sHeadP, sWriteX, sWriteB, sHasSufP, sStrX, hk_sz]
      rw [show txtH (List.take 0 l) = [] by simp [txtH]]
      exact ⟨RowLe.refl _, RowLe.refl _⟩
    · rintro ⟨⟨i, f, u, nx⟩, hi⟩
      dsimp only at hi
      rcases Nat.lt_or_ge i l.length with hlt | hge
      · have hlI : ((i : Int) < (l.length : Nat)) = True := eq_true (by omega)
        have hm : l.getD i (0, 0, []) ∈ l := by
          simp only [List.getD, List.getElem?_eq_getElem hlt, Option.getD_some]
          exact List.getElem_mem _
        have hh := hb _ hm
        have hre := right_mem hR _ hm
        have hok := ho.2 _ hm
        have e1 := txtH_take hlt
        have e2 := txtH_le l (i + 1)
        generalize hge : l.getD i (0, 0, []) = g at *
        refine AW.of hΓ mixed [6, 8] _ _ _ rfl ?_
        simp only [go_sem, sRightP, sHeadP, sWriteX, sWriteB, sHasSufP, sStrX, hk_sz, hk_d, hlI, hge]
        refine ⟨by omega, ?_⟩
        obtain ⟨A, B, st⟩ := g
        dsimp only at hh hre
        refine AW.cut ⟨[(3, .pt 0 0 0), (5, .pt 2 nx 0), (13, sL (eP eI (eP eI (eL (eP eI (eL eS))))) l), (14, .val (.int .i64 l.length)), (15, .val (.int .i64 i))],
          [(0, .box 0 138 2 (bldX f 0 0 1 u (txtH (l.take i)))), (1, rowX u (txtH (l.take i))), (2, .box nx 84 3 ((eP eI (eP eI (eL (eP eI (eL eS))))).enc (A, B, st)))], 50, 3, nx + 1, []⟩ ?_ ?_
        · simp only [go_sem, sRightP, sHeadP, sWriteX, sWriteB, sHasSufP, sStrX, hk_sz]
          exact ⟨RowLe.refl _, RowLe.refl _, RowLe.box fun j hj => AVle.of_eq (stC_in (Nat.zero_le _) (by omega))⟩
        obtain ⟨⟨k1, k2⟩, k3, k4⟩ := hok
        dsimp only at k1 k2 k3 k4
        refine AW.of hΓ mixed [7, 8] _ _ _ rfl ?_
        simp only [go_sem, sRightP, sHeadP, sWriteX, sWriteB, sHasSufP, sStrX, hk_sz, hk_d, hk0, hk1, hk2, ok_hk]
        have hT : hunkT (A, B, st) = headP (A, B, st) ++ stepsT st := rfl
        rw [hT] at e1
        have e3 : (txtH (l.take i)).length + (headP (A, B, st)).length + (stepsT st).length ≤ 50000000000 := by
          rw [e1] at e2
          simp only [List.length_append] at e2
          omega
        refine ⟨⟨hh.1, hh.2, k1, k2⟩, writeX_go (by decide) (RowLe.refl _) (RowLe.refl _) (by decide) (by omega) fun u1 n1 g1 h1 => ?_⟩
        simp only [go_sem, sRightP, sHeadP, sWriteX, sWriteB, sHasSufP, sStrX, hk_sz, hk_d, hk0, hk1, hk2]
        refine AW.of hΓ mixed [8] _ _ _ rfl ?_
        simp only [go_sem, sRightP, sHeadP, sWriteX, sWriteB, sHasSufP, sStrX, hk_sz, hk_d, hk0, hk1, hk2]
        refine AW.to (fun x : Nat × Nat => Sh.st ⟨[(3, .pt 0 0 0), (13, sL (eP eI (eP eI (eL (eP eI (eL eS))))) l), (14, .val (.int .i64 l.length)), (15, .val (.int .i64 i))],
          [(0, .box 0 138 2 (bldX true 0 0 1 x.1 (txtH (l.take (i + 1))))), (1, rowX x.1 (txtH (l.take (i + 1))))], 50, 2, x.2, []⟩) ?_ fun x => ?_
        · refine AW.block (AW.round (α := { x : Nat × Nat × Nat // x.1 ≤ st.length })
            (fun x => ⟨[(3, .pt 0 0 0), (13, sL (eP eI (eP eI (eL (eP eI (eL eS))))) l), (14, .val (.int .i64 l.length)), (15, .val (.int .i64 i)), (23, sL (eP eI (eL eS)) st), (24, .val (.int .i64 st.length)), (25, .val (.int .i64 x.1.1))],
              [(0, .box 0 138 2 (bldX true 0 0 1 x.1.2.1 (txtH (l.take i) ++ headP (A, B, st) ++ stepsT (st.take x.1.1)))), (1, rowX x.1.2.1 (txtH (l.take i) ++ headP (A, B, st) ++ stepsT (st.take x.1.1)))], 50, 2, x.1.2.2, []⟩) (fun x => st.length - x.1.1) ⟨(0, u1, n1), Nat.zero_le _⟩ ?_ ?_)
          · simp only [go_sem, sRightP, sHeadP, sWriteX, sWriteB, sHasSufP, sStrX, hk_sz, hk_d, hk0, hk1, hk2]
            rw [show stepsT (List.take 0 st) = [] by simp [stepsT], List.append_nil]
            exact ⟨RowLe.refl _, RowLe.refl _⟩
          · rintro ⟨⟨j, u2, n2⟩, hj⟩
            dsimp only at hj
            rcases Nat.lt_or_ge j st.length with hjt | hjg
            · have hjI : ((j : Int) < (st.length : Nat)) = True := eq_true (by omega)
              have jm : st.getD j (0, []) ∈ st := by
                simp only [List.getD, List.getElem?_eq_getElem hjt, Option.getD_some]
                exact List.getElem_mem _
              have jk := right_kind hre _ jm
              have j2 := k2 _ jm
              have j3 := k3 _ jm
              have d1 := stepsT_take hjt
              have d2 := stepsT_le st (j + 1)
              generalize hgj : st.getD j (0, []) = s at *
              refine AW.of hΓ mixed [10, 11] _ _ _ rfl ?_
              simp only [go_sem, sRightP, sHeadP, sWriteX, sWriteB, sHasSufP, sStrX, st_sz, st_d, hjI, hgj]
              refine ⟨by omega, ?_⟩
              obtain ⟨k, ts⟩ := s
              dsimp only at jk j2 j3
              have hsT : stepT (k, ts) = linesT k ts := rfl
              rw [hsT] at d1
              have hne : txtH (l.take i) ++ headP (A, B, st) ++ stepsT (st.take j) ≠ [] := by simp [head_ne]
              have hnl : (txtH (l.take i) ++ headP (A, B, st) ++ stepsT (st.take j)).length + (linesT k ts).length ≤ 50000000000 := by
                rw [d1] at d2
                simp only [List.length_append] at d2 ⊢
                omega
              have d3 : txtH (l.take i) ++ headP (A, B, st) ++ stepsT (st.take (j + 1)) = txtH (l.take i) ++ headP (A, B, st) ++ stepsT (st.take j) ++ linesT k ts := by rw [d1, ← List.append_assoc]
              generalize hP : txtH (l.take i) ++ headP (A, B, st) ++ stepsT (st.take j) = pre at d3 hne hnl ⊢
              refine AW.cut ⟨[(3, .pt 0 0 0), (7, .pt 2 n2 0), (13, sL (eP eI (eP eI (eL (eP eI (eL eS))))) l), (14, .val (.int .i64 l.length)), (15, .val (.int .i64 i)), (23, sL (eP eI (eL eS)) st), (24, .val (.int .i64 st.length)), (25, .val (.int .i64 j))],
                [(0, .box 0 138 2 (bldX true 0 0 1 u2 pre)), (1, rowX u2 pre), (2, .box n2 86 2 ((eP eI (eL eS)).enc (k, ts)))], 50, 3, n2 + 1, []⟩ ?_ ?_
              · simp only [go_sem, sRightP, sHeadP, sWriteX, sWriteB, sHasSufP, sStrX, st_sz]
                exact ⟨RowLe.refl _, RowLe.refl _, RowLe.box fun j hj => AVle.of_eq (stC_in (Nat.zero_le _) (by omega))⟩
              refine AW.of hΓ mixed [11] _ _ _ rfl ?_
              simp only [go_sem, sRightP, sHeadP, sWriteX, sWriteB, sHasSufP, sStrX, st_sz, st_d, sp0, sp1]
              refine AW.to (fun x : Nat × Nat => Sh.st ⟨[(3, .pt 0 0 0), (13, sL (eP eI (eP eI (eL (eP eI (eL eS))))) l), (14, .val (.int .i64 l.length)), (15, .val (.int .i64 i)), (23, sL (eP eI (eL eS)) st), (24, .val (.int .i64 st.length)), (25, .val (.int .i64 j))],
                [(0, .box 0 138 2 (bldX true 0 0 1 x.1 (pre ++ linesT k ts))), (1, rowX x.1 (pre ++ linesT k ts))], 50, 2, x.2, []⟩) ?_ fun x => ?_
              · refine AW.block (AW.round (α := { x : Nat × Nat × Nat // x.1 ≤ ts.length })
                  (fun x => ⟨[(3, .pt 0 0 0), (7, .pt 2 n2 0), (13, sL (eP eI (eP eI (eL (eP eI (eL eS))))) l), (14, .val (.int .i64 l.length)), (15, .val (.int .i64 i)), (23, sL (eP eI (eL eS)) st), (24, .val (.int .i64 st.length)), (25, .val (.int .i64 j)), (30, sL eS ts), (31, .val (.int .i64 ts.length)), (32, .val (.int .i64 x.1.1))],
                    [(0, .box 0 138 2 (bldX true 0 0 1 x.1.2.1 (pre ++ linesT k (ts.take x.1.1)))), (1, rowX x.1.2.1 (pre ++ linesT k (ts.take x.1.1))), (2, .box n2 86 2 ((eP eI (eL eS)).enc (k, ts)))], 50, 3, x.1.2.2, []⟩) (fun x => ts.length - x.1.1) ⟨(0, u2, n2 + 1), Nat.zero_le _⟩ ?_ ?_)
                · simp only [go_sem, sRightP, sHeadP, sWriteX, sWriteB, sHasSufP, sStrX, st_sz, st_d, sp0, sp1]
                  rw [show linesT k (List.take 0 ts) = [] by simp [linesT], List.append_nil]
                  exact ⟨RowLe.refl _, RowLe.refl _, RowLe.refl _⟩
                · rintro ⟨⟨m, u3, n3⟩, hm'⟩
                  dsimp only at hm'
                  rcases Nat.lt_or_ge m ts.length with hmt | hmg
                  · have hmI : ((m : Int) < (ts.length : Nat)) = True := eq_true (by omega)
                    have t1 := linesT_take (k := k) hmt
                    have t2 := linesT_le k ts (m + 1)
                    have t3 : (ts.getD m []).length ≤ 100000000 := by
                      simp only [List.getD, List.getElem?_eq_getElem hmt, Option.getD_some]
                      exact j3 _ (List.getElem_mem _)
                    have hne2 : pre ++ linesT k (ts.take m) ≠ [] := by simp [hne]
                    have hnl2 : (pre ++ linesT k (ts.take m)).length + (lineP k (ts.getD m [])).length ≤ 50000000000 := by
                      rw [t1] at t2
                      simp only [List.length_append] at t2 ⊢
                      omega
                    have t5 : pre ++ linesT k (ts.take (m + 1)) = pre ++ linesT k (ts.take m) ++ lineP k (ts.getD m []) := by rw [t1, ← List.append_assoc]
                    generalize hline : ts.getD m [] = line at t3 hnl2 t5 ⊢
                    generalize hQ : pre ++ linesT k (ts.take m) = acc at hne2 hnl2 t5 ⊢
                    have hsx := suf_ends line
                    cases hE : endsL line with
                    | true =>
                      have hL : acc ++ [sgnB k] ++ line = acc ++ lineP k line := by unfold lineP; rw [if_pos hE]; simp
                      have hLl : (lineP k line).length = line.length + 1 := by unfold lineP; rw [if_pos hE]; simp
                      rw [hE] at hsx
                      refine AW.of hΓ mixed [99999] _ _ _ rfl ?_
                      simp only [go_sem, sRightP, sHeadP, sWriteX, sWriteB, sHasSufP, sStrX, st_sz, st_d, sp0, sp1, hmI, hline, hsx]
                      refine ⟨by omega, ⟨by omega, by omega⟩, writeB_go (b := sgnB k) (by decide) (RowLe.refl _) (RowLe.refl _) (by decide) hne2 (by omega) fun u4 n4 g4 h4 => ?_⟩
                      simp only [go_sem, sRightP, sHeadP, sWriteX, sWriteB, sHasSufP, sStrX, hsx]
                      refine writeX_go (by decide) (RowLe.refl _) (RowLe.refl _) (by decide) (by simp only [List.length_append, List.length_cons, List.length_nil]; omega) fun u5 n5 g5 h5 => ?_
                      simp only [go_sem, sRightP, sHeadP, sWriteX, sWriteB, sHasSufP, sStrX, hsx]
                      exact ⟨by omega, by omega, ⟨(m + 1, u5, n5), by dsimp only; omega⟩, ⟨Nat.le_refl _, by dsimp only; omega, by dsimp only; rw [t5, ← hL]; exact RowLe.refl _, by dsimp only; rw [t5, ← hL]; exact RowLe.refl _, RowLe.refl _⟩, by dsimp only; omega⟩
                    | false =>
                      have hL : acc ++ [sgnB k] ++ line ++ (10 :: noEndB) = acc ++ lineP k line := by unfold lineP; rw [if_neg (by rw [hE]; simp)]; simp
                      have hLl : (lineP k line).length = line.length + 11 := by unfold lineP; rw [if_neg (by rw [hE]; simp)]; simp [noEndB]
                      rw [hE] at hsx
                      refine AW.of hΓ mixed [99999] _ _ _ rfl ?_
                      simp only [go_sem, sRightP, sHeadP, sWriteX, sWriteB, sHasSufP, sStrX, st_sz, st_d, sp0, sp1, hmI, hline, hsx]
                      refine ⟨by omega, ⟨by omega, by omega⟩, writeB_go (b := sgnB k) (by decide) (RowLe.refl _) (RowLe.refl _) (by decide) hne2 (by omega) fun u4 n4 g4 h4 => ?_⟩
                      simp only [go_sem, sRightP, sHeadP, sWriteX, sWriteB, sHasSufP, sStrX, hsx]
                      refine writeX_go (by decide) (RowLe.refl _) (RowLe.refl _) (by decide) (by simp only [List.length_append, List.length_cons, List.length_nil]; omega) fun u5 n5 g5 h5 => ?_
                      simp only [go_sem, sRightP, sHeadP, sWriteX, sWriteB, sHasSufP, sStrX, hsx]
                      refine ⟨by omega, writeX_go (s := 10 :: noEndB) (by decide) (RowLe.refl _) (RowLe.refl _) (by decide) (by simp only [List.length_append, List.length_cons, List.length_nil, noEndB]; omega) fun u6 n6 g6 h6 => ?_⟩
                      simp only [go_sem, sRightP, sHeadP, sWriteX, sWriteB, sHasSufP, sStrX, hsx]
                      exact ⟨by omega, ⟨(m + 1, u6, n6), by dsimp only; omega⟩, ⟨Nat.le_refl _, by dsimp only; omega, by dsimp only; rw [t5, ← hL]; exact RowLe.refl _, by dsimp only; rw [t5, ← hL]; exact RowLe.refl _, RowLe.refl _⟩, by dsimp only; omega⟩
                  · obtain rfl : m = ts.length := by omega
                    have hmI : ((ts.length : Int) < (ts.length : Nat)) = False := eq_false (by omega)
                    refine AW.of hΓ mixed [99999] _ _ _ rfl ?_
                    simp only [go_sem, sRightP, sHeadP, sWriteX, sWriteB, sHasSufP, sStrX, hmI]
                    refine ⟨(u3, n3), toFits ?_⟩
                    simp only [go_sem, sRightP, sHeadP, sWriteX, sWriteB, sHasSufP, sStrX]
                    exact ⟨RowLe.refl _, RowLe.refl _⟩
              · simp only [go_sem, sRightP, sHeadP, sWriteX, sWriteB, sHasSufP, sStrX]
                exact ⟨by omega, ⟨(j + 1, x.1, x.2), by dsimp only; omega⟩, ⟨Nat.le_refl _, by dsimp only; omega, by dsimp only; rw [d3]; exact RowLe.refl _, by dsimp only; rw [d3]; exact RowLe.refl _⟩, by dsimp only; omega⟩
            · obtain rfl : j = st.length := by omega
              have hjI : ((st.length : Int) < (st.length : Nat)) = False := eq_false (by omega)
              refine AW.of hΓ mixed [99999] _ _ _ rfl ?_
              simp only [go_sem, sRightP, sHeadP, sWriteX, sWriteB, sHasSufP, sStrX, hjI]
              refine ⟨(u2, n2), toFits ?_⟩
              simp only [go_sem, sRightP, sHeadP, sWriteX, sWriteB, sHasSufP, sStrX]
              rw [e1, ← List.append_assoc]
              exact ⟨RowLe.refl _, RowLe.refl _⟩
        · simp only [go_sem, sRightP, sHeadP, sWriteX, sWriteB, sHasSufP, sStrX]
          exact ⟨by omega, ⟨(i + 1, true, x.1, x.2), by dsimp only; omega⟩, ⟨Nat.le_refl _, by dsimp only; omega, RowLe.refl _, RowLe.refl _⟩, by dsimp only; omega⟩
      · obtain rfl : i = l.length := by omega
        have hlI : ((l.length : Int) < (l.length : Nat)) = False := eq_false (by omega)
        refine AW.of hΓ mixed [99999] _ _ _ rfl ?_
        simp only [go_sem, sRightP, sHeadP, sWriteX, sWriteB, sHasSufP, sStrX, hlI]
        exact ⟨f, 0, 0, 1, u, txtH l, rfl, rfl, rfl, by omega, rfl⟩
  · have eT : textP0 l = [] := by unfold textP0; rw [if_neg (by rw [hR]; simp)]
    rw [eT]
    refine AW.of hΓ mixed [99999] _ _ _ rfl ?_
    simp only [go_sem, sRightP, sHeadP, sWriteX, sWriteB, sHasSufP, sStrX, hk_sz, hR]
    exact ho
end Go.Proofs.YthpjjjnbkfnghaaGreatDoor
set_option linter.unusedVariables false
namespace Go.Proofs.YthpjjjnbkfnghaaGreatDoor
section
variable (a b : List Int)
def nextR (x : Int) (prev : Nat → Nat) : Nat → Nat
  | 0 => 0
  | k + 1 => if x = b.getD k 0 then prev k + 1 else max (prev (k + 1)) (nextR x prev k)
def tabL : Nat → Nat → Nat
  | 0 => fun _ => 0
  | i + 1 => nextR b (a.getD i 0) (tabL i)
end
section
variable {a b : List Int}
theorem tabL_0 (k : Nat) : tabL a b 0 k = 0 := rfl
theorem tabL_i0 (i : Nat) : tabL a b i 0 = 0 := by cases i <;> rfl
theorem tabL_eq {i k : Nat} (h : a.getD i 0 = b.getD k 0) : tabL a b (i + 1) (k + 1) = tabL a b i k + 1 := by
  show nextR b (a.getD i 0) (tabL a b i) (k + 1) = _
  rw [nextR, if_pos h]
theorem tabL_ne {i k : Nat} (h : a.getD i 0 ≠ b.getD k 0) : tabL a b (i + 1) (k + 1) = max (tabL a b i (k + 1)) (tabL a b (i + 1) k) := by
  show nextR b (a.getD i 0) (tabL a b i) (k + 1) = _
  rw [nextR, if_neg h]
  rfl
theorem tabL_steps : ∀ (n i k : Nat), i + k ≤ n → tabL a b i k ≤ tabL a b (i + 1) k ∧ tabL a b (i + 1) k ≤ tabL a b i k + 1 ∧ tabL a b i k ≤ tabL a b i (k + 1) ∧ tabL a b i (k + 1) ≤ tabL a b i k + 1
  | n, i, k, hn => by
    have hB : ∀ i k, i + k ≤ n → tabL a b i k ≤ tabL a b i (k + 1) ∧ tabL a b i (k + 1) ≤ tabL a b i k + 1 := by
      intro i k hik
      cases i with
      | zero => simp [tabL_0]
      | succ i =>
        cases n with
        | zero => omega
        | succ n =>
          have h1 := tabL_steps n i k (by omega)
          by_cases h : a.getD i 0 = b.getD k 0
          · rw [tabL_eq h]; omega
          · rw [tabL_ne h]; omega
    have hA : tabL a b i k ≤ tabL a b (i + 1) k ∧ tabL a b (i + 1) k ≤ tabL a b i k + 1 := by
      cases k with
      | zero => simp [tabL_i0]
      | succ k =>
        cases n with
        | zero => omega
        | succ n =>
          have h1 := tabL_steps n i k (by omega)
          by_cases h : a.getD i 0 = b.getD k 0
          · rw [tabL_eq h]; omega
          · have h2 := hB i k (by omega)
            rw [tabL_ne h]; omega
    exact ⟨hA.1, hA.2, hB i k hn⟩
theorem tabL_right (i k : Nat) : tabL a b i k ≤ tabL a b (i + 1) k ∧ tabL a b (i + 1) k ≤ tabL a b i k + 1 := ⟨(tabL_steps _ i k (Nat.le_refl _)).1, (tabL_steps _ i k (Nat.le_refl _)).2.1⟩
theorem tabL_down (i k : Nat) : tabL a b i k ≤ tabL a b i (k + 1) ∧ tabL a b i (k + 1) ≤ tabL a b i k + 1 := (tabL_steps _ i k (Nat.le_refl _)).2.2
theorem tabL_le (i k : Nat) : tabL a b i k ≤ i ∧ tabL a b i k ≤ k := by
  induction i with
  | zero => simp [tabL_0]
  | succ i ih =>
    constructor
    · have := (tabL_right (a := a) (b := b) i k).2; omega
    · clear ih
      induction k with
      | zero => simp [tabL_i0]
      | succ k ih => have := (tabL_down (a := a) (b := b) (i + 1) k).2; omega
end
def lcsN (a b : List Int) : Nat := tabL a b a.length b.length
end Go.Proofs.YthpjjjnbkfnghaaGreatDoor
set_option linter.unusedSimpArgs false
set_option linter.unusedVariables false
set_option maxRecDepth 100000
set_option maxHeartbeats 2000000
namespace Go.Proofs.YthpjjjnbkfnghaaGreatDoor
open Go
attribute [local irreducible] AW AVle ASle RowLe
def sLcsLength : Spec := Spec.f2 (kL eI) (kL eI) (fun a b => a.length < 100000000 ∧ b.length < 100000000) (fun a b => kI.enc (lcsN a b))
def rowN (n : Nat) (f : Nat → Nat) : List Int := (List.range n).map fun k => (f k : Int)
theorem rowN_len (n : Nat) (f : Nat → Nat) : (rowN n f).length = n := by simp [rowN]
theorem rowN_at {n : Nat} (f : Nat → Nat) {k : Nat} (h : k < n) : (rowN n f).getD k 0 = f k := by simp [rowN, List.getD, h]
theorem rowN_set {n k : Nat} {f g : Nat → Nat} {w : Int} (hw : w = g k) (h : ∀ t, t < n → t ≠ k → f t = g t) : (rowN n f).set k w = rowN n g := by
  refine list_ext_getD 0 (by simp [rowN]) fun t ht => ?_
  simp only [List.length_set, rowN_len] at ht
  rw [rowN_at _ ht]
  by_cases e : t = k
  · subst e
    simp [List.getD, rowN_len, ht, hw]
  · have e2 : ((rowN n f).set k w).getD t 0 = (rowN n f).getD t 0 := by simp only [List.getD]; rw [List.getElem?_set_ne (by omega)]
    rw [e2, rowN_at _ ht, h t ht e]
theorem okLcsLength : SpecOK Tryz.prog 35 sLcsLength := by
  refine SpecOK.f2 Tryz.func35 rfl (by decide) Tryz.results35 Tryz.ntmps35 (by decide) fun a b ⟨ha, hb⟩ => ?_
  have hΓ : GOK Tryz.prog (gam []) := GOK.nil
  refine AW.of hΓ mixed [] _ _ _ rfl ?_
  simp only [go_sem]
  refine ⟨by omega, by omega, ?_⟩
  refine AW.round (α := { x : Nat × Nat × Nat // x.1 ≤ a.length })
    (fun x => ⟨[(0, sL eI a), (1, sL eI b), (5, .ow 0 x.1.2.1 (b.length + 1)), (6, .val (.int .i64 x.1.1))], [(0, rowL x.1.2.1 3 eI (rowN (b.length + 1) (tabL a b x.1.1)))], 67, 1, x.1.2.2, []⟩) (fun x => a.length - x.1.1) ⟨(0, 0, 1), Nat.zero_le _⟩ ?_ ?_
  · simp only [go_sem]
    refine RowLe.sl (rowN_len _ _) fun k hk j hj => AVle.of_eq ?_
    match j, hj with
    | 0, _ =>
      rw [rowN_at _ hk]
      rfl
  · rintro ⟨⟨i, v, nx⟩, hi⟩
    simp only at hi
    refine AW.of hΓ mixed [5, 99999] _ _ _ rfl ?_
    simp only [go_sem]
    refine ⟨fun hlt => ?_, fun hge => ?_⟩
    · refine ⟨by omega, by omega, ?_⟩
      refine AW.seqTo (fun n3 : Nat => Sh.st ⟨[(0, sL eI a), (1, sL eI b), (6, .val (.int .i64 i)), (7, .ow 0 nx (b.length + 1))], [(0, rowL nx 3 eI (rowN (b.length + 1) (tabL a b (i + 1))))], 67, 1, n3, []⟩) ?_ ?_
      · refine AW.of hΓ mixed [] _ _ _ rfl ?_
        simp only [go_sem]
        refine AW.round (α := { x : Nat × Nat // x.1 ≤ b.length })
          (fun x => ⟨[(0, sL eI a), (1, sL eI b), (5, .ow 0 v (b.length + 1)), (6, .val (.int .i64 i)), (7, .ow 1 nx (b.length + 1)), (8, .val (.int .i64 x.1.1))],
            [(0, rowL v 3 eI (rowN (b.length + 1) (tabL a b i))), (1, rowL nx 3 eI (rowN (b.length + 1) fun t => if t ≤ x.1.1 then tabL a b (i + 1) t else 0))], 67, 2, x.1.2, []⟩) (fun x => b.length - x.1.1) ⟨(0, nx + 1), Nat.zero_le _⟩ ?_ ?_
        · simp only [go_sem]
          refine ⟨RowLe.refl _, RowLe.sl (rowN_len _ _) fun k hk j hj => AVle.of_eq ?_⟩
          match j, hj with
          | 0, _ =>
            rw [rowN_at _ hk]
            by_cases h0 : k ≤ 0
            · obtain rfl : k = 0 := by omega
              rw [if_pos (Nat.le_refl _), tabL_i0]
              rfl
            · rw [if_neg h0]
              rfl
        · rintro ⟨⟨k, n2⟩, hk⟩
          simp only at hk
          refine AW.of hΓ mixed [9, 99999] _ _ _ rfl ?_
          simp only [go_sem]
          refine ⟨fun hlt2 => ?_, fun hge2 => ?_⟩
          · have k1 : k < b.length := by omega
            have g1 := rowN_at (n := b.length + 1) (tabL a b i) (k := k + 1) (by omega)
            have g2 := rowN_at (n := b.length + 1) (fun t => if t ≤ k then tabL a b (i + 1) t else 0) (k := k) (by omega)
            rw [if_pos (Nat.le_refl _)] at g2
            have g3 := rowN_at (n := b.length + 1) (tabL a b i) (k := k) (by omega)
            have g4 := (tabL_le (a := a) (b := b) i k)
            refine ⟨by omega, by omega, by omega, by rw [rowN_len]; omega, by omega, by rw [rowN_len]; omega, by omega, by rw [rowN_len]; omega, ?_⟩
            refine AW.cut ⟨[(0, sL eI a), (1, sL eI b), (5, .ow 0 v (b.length + 1)), (6, .val (.int .i64 i)), (7, .ow 1 nx (b.length + 1)), (8, .val (.int .i64 k))],
              [(0, rowL v 3 eI (rowN (b.length + 1) (tabL a b i))), (1, rowL nx 3 eI ((rowN (b.length + 1) fun t => if t ≤ k then tabL a b (i + 1) t else 0).set (k + 1) (max (tabL a b i (k + 1) : Int) (tabL a b (i + 1) k))))], 67, 2, n2, []⟩ ?_ ?_
            · simp only [go_sem]
              refine ⟨RowLe.refl _, row_set (E := eI) rfl rfl rfl (by simp) fun j hj => AVle.of_eq ?_⟩
              rw [g1, g2]
              rfl
            · by_cases he : a.getD i 0 = b.getD k 0
              · refine AW.of hΓ mixed [99999] _ _ _ rfl ?_
                simp only [go_sem, he, g3]
                have hset : rowN (b.length + 1) (fun t => if t ≤ k + 1 then tabL a b (i + 1) t else 0) = (((rowN (b.length + 1) fun t => if t ≤ k then tabL a b (i + 1) t else 0).set (k + 1) (max (tabL a b i (k + 1) : Int) (tabL a b (i + 1) k))).set (k + 1) ((tabL a b i k : Int) + 1)) := by
                  rw [List.set_set]
                  refine (rowN_set ?_ fun t ht hne => ?_).symm
                  · rw [if_pos (Nat.le_refl _), tabL_eq he]
                    omega
                  · by_cases h1 : t ≤ k
                    · rw [if_pos h1, if_pos (by omega)]
                    · rw [if_neg h1, if_neg (by omega)]
                refine ⟨by omega, by omega, by omega, by omega, by rw [rowN_len]; omega, by omega, by omega, by rw [rowN_len]; omega, by omega, ⟨(k + 1, n2), by dsimp only; omega⟩, ⟨Nat.le_refl _, rfl, RowLe.refl _, ?_⟩, by dsimp only; omega⟩
                exact row_set (E := eI) rfl hset (by simp) (by simp) (fun j hj => AVle.refl _)
              · refine AW.of hΓ mixed [99999] _ _ _ rfl ?_
                simp only [go_sem, he]
                have hset : (rowN (b.length + 1) fun t => if t ≤ k then tabL a b (i + 1) t else 0).set (k + 1) (max (tabL a b i (k + 1) : Int) (tabL a b (i + 1) k)) = rowN (b.length + 1) fun t => if t ≤ k + 1 then tabL a b (i + 1) t else 0 := by
                  refine rowN_set ?_ fun t ht hne => ?_
                  · rw [if_pos (Nat.le_refl _), tabL_ne he]
                    omega
                  · by_cases h1 : t ≤ k
                    · rw [if_pos h1, if_pos (by omega)]
                    · rw [if_neg h1, if_neg (by omega)]
                refine ⟨by omega, by omega, by omega, ⟨(k + 1, n2), by dsimp only; omega⟩, ⟨Nat.le_refl _, rfl, RowLe.refl _, ?_⟩, by dsimp only; omega⟩
                rw [hset, rowN_len, rowN_len]
                exact RowLe.refl _
          · obtain rfl : k = b.length := by omega
            refine ⟨n2, toFitsV (fun _ => 1) ?_⟩
            simp only [go_sem]
            have hall : (rowN (b.length + 1) fun t => if t ≤ b.length then tabL a b (i + 1) t else 0) = rowN (b.length + 1) (tabL a b (i + 1)) := by
              unfold rowN
              refine List.map_congr_left fun t ht => ?_
              dsimp only
              rw [if_pos (by have := List.mem_range.1 ht; omega)]
            rw [hall]
            exact RowLe.refl _
      · intro n3
        refine AW.of hΓ mixed [] _ _ _ rfl ?_
        simp only [go_sem]
        exact ⟨by omega, ⟨(i + 1, nx, n3), by dsimp only; omega⟩, ⟨Nat.le_refl _, ⟨rfl, rfl⟩, RowLe.refl _⟩, by dsimp only; omega⟩
    · obtain rfl : i = a.length := by omega
      have e := rowN_at (n := b.length + 1) (tabL a b a.length) (k := b.length) (by omega)
      exact ⟨by omega, by rw [rowN_len]; omega, e⟩
end Go.Proofs.YthpjjjnbkfnghaaGreatDoor
set_option linter.unusedSimpArgs false
set_option linter.unusedVariables false
set_option maxRecDepth 100000
set_option maxHeartbeats 2000000
namespace Go.Proofs.YthpjjjnbkfnghaaGreatDoor
open Go
attribute [local irreducible] AW AVle ASle RowLe
def someG (a b : List Int) : Nat → Nat → List (Int × Int) → List (Int × Int)
  | 0, _, out => out
  | _ + 1, 0, out => out
  | n + 1, m + 1, out => if a.getD n 0 = b.getD m 0 then someG a b n m (((n : Int), (m : Int)) :: out) else if lcsN (a.take n) (b.take (m + 1)) = lcsN (a.take (n + 1)) (b.take (m + 1)) then someG a b n (m + 1) out else someG a b (n + 1) m out
  termination_by n m => n + m
def someL (a b : List Int) : List (Int × Int) := someG a b a.length b.length []
theorem some_0 (a b : List Int) (m : Nat) (out : List (Int × Int)) : someG a b 0 m out = out := by rw [someG]
theorem some_n0 (a b : List Int) (n : Nat) (out : List (Int × Int)) : someG a b n 0 out = out := by
  cases n with
  | zero => rw [someG]
  | succ n => rw [someG]
theorem some_right (a b : List Int) : ∀ (s n m : Nat) (out : List (Int × Int)), n + m ≤ s → n ≤ a.length → m ≤ b.length → rgt a b ((n : Int) - 1) ((m : Int) - 1) out = true → rgt a b (-1) (-1) (someG a b n m out) = true
  | s, 0, m, out, _, _, _, h => by
    rw [some_0]
    cases out with
    | nil => rfl
    | cons p out =>
      rw [rgt, Bool.and_eq_true, decide_eq_true_eq] at h ⊢
      exact ⟨⟨by omega, by omega, h.1.2.2⟩, h.2⟩
  | s, n + 1, 0, out, _, _, _, h => by
    rw [some_n0]
    cases out with
    | nil => rfl
    | cons p out =>
      rw [rgt, Bool.and_eq_true, decide_eq_true_eq] at h ⊢
      exact ⟨⟨by omega, by omega, h.1.2.2⟩, h.2⟩
  | 0, n + 1, m + 1, out, hs, _, _, _ => by omega
  | s + 1, n + 1, m + 1, out, hs, hn, hm, h => by
    have low : ∀ (u v u' v' : Int), u' ≤ u → v' ≤ v → rgt a b u v out = true → rgt a b u' v' out = true := fun u v u' v' h1 h2 g => by
      cases out with
      | nil => rfl
      | cons p out =>
        rw [rgt, Bool.and_eq_true, decide_eq_true_eq] at g ⊢
        exact ⟨⟨by omega, by omega, g.1.2.2⟩, g.2⟩
    rw [someG]
    split
    · rename_i he
      refine some_right a b s n m _ (by omega) (by omega) (by omega) ?_
      rw [rgt, Bool.and_eq_true, decide_eq_true_eq]
      refine ⟨⟨by simp only; omega, by simp only; omega, by simp only; omega, by simp only; omega, by simpa using he⟩, low _ _ _ _ (by omega) (by omega) h⟩
    · split
      · exact some_right a b s n (m + 1) _ (by omega) (by omega) hm (low _ _ _ _ (by omega) (Int.le_refl _) h)
      · exact some_right a b s (n + 1) m _ (by omega) hn (by omega) (low _ _ _ _ (Int.le_refl _) (by omega) h)
theorem someL_right (a b : List Int) : rgt a b (-1) (-1) (someL a b) = true := some_right a b _ _ _ [] (Nat.le_refl _) (Nat.le_refl _) (Nat.le_refl _) rfl
theorem some_len (a b : List Int) : ∀ (s n m : Nat) (out : List (Int × Int)), n + m ≤ s → (someG a b n m out).length ≤ out.length + n
  | s, 0, m, out, _ => by rw [some_0]; omega
  | s, n + 1, 0, out, _ => by rw [some_n0]; omega
  | 0, n + 1, m + 1, out, hs => by omega
  | s + 1, n + 1, m + 1, out, hs => by
    rw [someG]
    split
    · have := some_len a b s n m (((n : Int), (m : Int)) :: out) (by omega)
      rw [List.length_cons] at this
      omega
    · split
      · have := some_len a b s n (m + 1) out (by omega)
        omega
      · exact some_len a b s (n + 1) m out (by omega)
theorem someL_len (a b : List Int) : (someL a b).length ≤ a.length := by
  have := some_len a b _ a.length b.length [] (Nat.le_refl _)
  simpa [someL] using this
theorem sn_gen {α : Type} {E : El α} {l : List α} {n s : Nat} {f : Nat → Nat → AV} (hs : s = E.sz) (hn : n = l.length) (h : ∀ i, i < n → ∀ j, j < s → AVle (f i j) (E.enc (l.getD i E.dflt) j)) : AVle (.sn n s f) (sL E l) := by
  subst hs hn
  exact AVle.sn h
def sRefSome : Spec := Spec.f2 (kL eI) (kL eI) (fun a b => a.length < 1000000 ∧ b.length < 1000000) (fun a b => sL (eP eI eI) (someL a b))
theorem okRefSome : SpecOK Tryz.prog 48 sRefSome := by
  refine SpecOK.f2 Tryz.func48 rfl (by decide) Tryz.results48 Tryz.ntmps48 (by decide) fun a b ⟨ha, hb⟩ => ?_
  have hΓ : GOK Tryz.prog (gam [(35, sLcsLength)]) := (.cons okLcsLength .nil)
  refine AW.of hΓ mixed [] _ _ _ rfl ?_
  simp only [go_sem, sLcsLength]
  refine AW.round (α := { x : Nat × Nat × List (Int × Int) × Nat // x.1 ≤ a.length ∧ x.2.1 ≤ b.length ∧ someL a b = someG a b x.1 x.2.1 x.2.2.1 ∧ x.2.2.1.length + x.1 ≤ a.length })
    (fun x => ⟨[(0, sL eI (a.take x.1.1)), (1, sL eI (b.take x.1.2.1)), (5, sL (eP eI eI) x.1.2.2.1)], [], 59, 0, x.1.2.2.2, []⟩) (fun x => x.1.1 + x.1.2.1) ⟨(a.length, b.length, [], 0), Nat.le_refl _, Nat.le_refl _, rfl, by simp⟩ ?_ ?_
  · simp only [go_sem, sLcsLength]
    exact em_sL _
  · rintro ⟨⟨n, m, out, nx⟩, hn, hm, he, ho⟩
    simp only at hn hm he ho
    have ln : (a.take n).length = n := by simp; omega
    have lm : (b.take m).length = m := by simp; omega
    have eA : 0 < n → (a.take n).getD ((n : Int) - 1).toNat 0 = a.getD (n - 1) 0 := fun h => by
      rw [show ((n : Int) - 1).toNat = n - 1 by omega]
      simp [List.getD, List.getElem?_take, show n - 1 < n by omega]
    have eB : 0 < m → (b.take m).getD ((m : Int) - 1).toNat 0 = b.getD (m - 1) 0 := fun h => by
      rw [show ((m : Int) - 1).toNat = m - 1 by omega]
      simp [List.getD, List.getElem?_take, show m - 1 < m by omega]
    refine AW.of hΓ mixed [5, 99999] _ _ _ rfl ?_
    simp only [go_sem, sLcsLength, ln, lm]
    refine ⟨fun hp => ⟨⟨by omega, by omega⟩, ⟨by omega, by omega⟩, ⟨by omega, by omega⟩, ⟨by omega, by omega⟩, ?_⟩, fun h1 => ?_⟩
    · have p1 : 0 < n := by omega
      have p2 : 0 < m := by omega
      rw [eA p1, eB p2]
      obtain ⟨n, rfl⟩ : ∃ k, n = k + 1 := ⟨n - 1, by omega⟩
      obtain ⟨m, rfl⟩ : ∃ k, m = k + 1 := ⟨m - 1, by omega⟩
      have tA : (a.take (n + 1)).take n = a.take n := by rw [List.take_take]; congr 1; omega
      have tB : (b.take (m + 1)).take m = b.take m := by rw [List.take_take]; congr 1; omega
      rw [Nat.add_sub_cancel, Nat.add_sub_cancel]
      rw [someG] at he
      refine AW.cut ⟨[(0, sL eI (a.take (n + 1))), (1, sL eI (b.take (m + 1))), (5, sL (eP eI eI) out), (6, .val (.int .i64 n)), (7, .val (.int .i64 m)), (30, .val (.bool (decide (a.getD n 0 = b.getD m 0))))], [], 59, 0, nx, []⟩ ?_ ?_
      · simp only [go_sem, sLcsLength]
        exact ⟨by omega, by omega⟩
      have tkA : AVle (.sn (n - 0) 1 fun i => eI.enc ((a.take (n + 1)).getD i 0)) (sL eI (a.take n)) := by
        rw [← tA]
        exact take_le eI _ rfl rfl (by rw [ln]; omega)
      have tkB : AVle (.sn (m - 0) 1 fun i => eI.enc ((b.take (m + 1)).getD i 0)) (sL eI (b.take m)) := by
        rw [← tB]
        exact take_le eI _ rfl rfl (by rw [lm]; omega)
      refine AW.cond (b := decide (a.getD n 0 = b.getD m 0)) rfl (fun h => ?_) (fun h => ?_)
      · have h := of_decide_eq_true h
        rw [if_pos h] at he
        refine AW.seqTo (fun x : Nat => Sh.st ⟨[(0, sL eI (a.take (n + 1))), (1, sL eI (b.take (m + 1))), (5, sL (eP eI eI) (((n : Int), (m : Int)) :: out)), (6, .val (.int .i64 n)), (7, .val (.int .i64 m))], [], 59, 0, x, []⟩) ?_ fun nx' => ?_
        · refine AW.regionO hΓ [false, false, false, true] ?_
          simp only [go_sem, sLcsLength]
          refine build_wp rfl ?_
          simp only [go_sem, sLcsLength]
          refine ⟨by omega, nx + 2, ASle.trans (ASle.freeze 0 (nx + 1) 159 2 (1 + out.length) _ rfl (fun i hi j hj => ?_)) (toFits ?_)⟩
          · unfold apC
            split
            · obtain rfl : i = 0 := by omega
              match j, hj with
              | 0, _ => rfl
              | 1, _ => rfl
            · match j, hj with
              | 0, _ => rfl
              | 1, _ => rfl
          · simp only [go_sem, sLcsLength]
            refine sn_gen rfl (by rw [List.length_cons]; omega) fun i hi j hj => AVle.of_eq ?_
            unfold apC
            split
            · obtain rfl : i = 0 := by omega
              match j, hj with
              | 0, _ => rfl
              | 1, _ => rfl
            · obtain ⟨k, rfl⟩ : ∃ k, i = k + 1 := ⟨i - 1, by omega⟩
              rfl
        · refine AW.of hΓ mixed [] _ _ _ rfl ?_
          simp only [go_sem, sLcsLength, ln, lm]
          exact ⟨⟨by omega, by omega⟩, ⟨by omega, by omega⟩, ⟨(n, m, ((n : Int), (m : Int)) :: out, nx'), by dsimp only; omega, by dsimp only; omega, he, by dsimp only; rw [List.length_cons]; omega⟩, ⟨Nat.le_refl _, tkA, tkB, AVle.refl _⟩, by dsimp only; omega⟩
      · have h := of_decide_eq_false h
        rw [if_neg h] at he
        have eN : (List.range (n - 0)).map (fun i => (a.take (n + 1)).getD i 0) = a.take n := by
          refine list_ext_getD 0 (by simp; omega) fun k hk => ?_
          have hk : k < n := by simpa using hk
          simp [List.getD, List.getElem?_take, hk, show k < n + 1 by omega]
        refine AW.of hΓ mixed [99999] _ _ _ rfl ?_
        simp only [go_sem, sLcsLength, ln, lm, eN]
        refine ⟨⟨by omega, by omega⟩, ⟨by omega, by omega⟩, ⟨by omega, by omega⟩, fun h2 => ⟨⟨by omega, by omega⟩, ⟨(n, m + 1, out, nx), by dsimp only; omega, by dsimp only; omega, ?_, by dsimp only; omega⟩, ⟨Nat.le_refl _, tkA, AVle.refl _, AVle.refl _⟩, by dsimp only; omega⟩, fun h2 => ⟨⟨by omega, by omega⟩, ⟨(n + 1, m, out, nx), by dsimp only; omega, by dsimp only; omega, ?_, by dsimp only; omega⟩, ⟨Nat.le_refl _, AVle.refl _, tkB, AVle.refl _⟩, by dsimp only; omega⟩⟩
        · rw [if_pos (by omega)] at he
          exact he
        · rw [if_neg (by omega)] at he
          exact he
    · have e : someG a b n m out = out := by
        rcases Nat.eq_zero_or_pos n with rfl | h
        · exact some_0 a b m out
        · obtain rfl : m = 0 := by omega
          exact some_n0 a b n out
      rw [he, e]
      exact AVle.refl _
end Go.Proofs.YthpjjjnbkfnghaaGreatDoor
set_option linter.unusedSimpArgs false
set_option linter.unusedVariables false
set_option maxRecDepth 100000
set_option maxHeartbeats 8000000
namespace Go.Proofs.YthpjjjnbkfnghaaGreatDoor
open Go
attribute [local irreducible] AW AVle ASle RowLe
def opnC (h : Hk) (q v : Nat) : Nat → AV := fun j => if j = 0 then .val (.int .i64 h.1) else if j = 1 then .val (.int .i64 h.2.1) else .ow q v h.2.2.length
theorem opn0 (h : Hk) (q v : Nat) : opnC h q v 0 = .val (.int .i64 h.1) := rfl
theorem opn1 (h : Hk) (q v : Nat) : opnC h q v 1 = .val (.int .i64 h.2.1) := rfl
theorem opn2 (h : Hk) (q v : Nat) : opnC h q v 2 = .ow q v h.2.2.length := rfl
theorem app_len (l : List StE) (k : Int) (ts : List (List UInt8)) : (appP l k ts).length ≤ l.length + 1 := by
  unfold appP
  split
  · omega
  · simp
theorem of_bnd {L : List StE} (hL : ∀ s ∈ L, s.2.length ≤ 10000) (n : Nat) : ∀ i, i ≤ L.length → (ofI L n i).1.length ≤ i ∧ (ofI L n i).2.1.2.2.length ≤ i ∧ (0 ≤ (ofI L n i).2.2.1 ∧ (ofI L n i).2.2.1 ≤ i * 10000) ∧ 0 ≤ (ofI L n i).2.2.2 ∧ (ofI L n i).2.2.2 ≤ i * 10000
  | 0, _ => by simp [ofI]
  | i + 1, h => by
    obtain ⟨h1, h2, h3, h4⟩ := of_bnd hL n i (by omega)
    have hm : L.getD i (0, []) ∈ L := by
      simp only [List.getD, List.getElem?_eq_getElem (show i < L.length by omega), Option.getD_some]
      exact List.getElem_mem _
    have hs := hL _ hm
    rw [ofI]
    generalize L.getD i (0, []) = s at *
    generalize ofI L n i = o at *
    generalize decide (i = 0) = f
    generalize decide (i + 1 = L.length) = t
    obtain ⟨hs', ⟨oa, ob, st⟩, ca, cb⟩ := o
    obtain ⟨k, ts⟩ := s
    dsimp only at h1 h2 h3 h4 hs
    have a1 := app_len st k ts
    have a2 := app_len st 0 ts
    have a3 := app_len [] 0 (ts.drop (ts.length - ahP n t (k, ts)))
    have a4 : (clsP hs' (oa, ob, appP st 0 (ts.take (bhP n f (k, ts))))).length ≤ i + 1 := by rw [cls_len]; split <;> omega
    unfold stepPt
    dsimp only
    have p1 : 0 ≤ pasA (k, ts) ∧ pasA (k, ts) ≤ 10000 := by unfold pasA; dsimp only; split <;> omega
    have p2 : 0 ≤ pasB (k, ts) ∧ pasB (k, ts) ≤ 10000 := by unfold pasB; dsimp only; split <;> omega
    split
    · dsimp only
      exact ⟨by omega, by omega, by omega, by omega⟩
    · split
      · dsimp only
        exact ⟨by omega, by omega, by omega, by omega⟩
      · dsimp only
        simp only [List.length_nil] at a3
        exact ⟨a4, by omega, by omega, by omega⟩
theorem take_sn {ts : List (List UInt8)} {B : Nat} (h : B ≤ ts.length) : AVle (.sn (B - 0) 1 fun i => eS.enc (ts.getD i [])) (sL eS (ts.take B)) := by
  refine sn_gen rfl (by rw [List.length_take]; omega) fun i hi j hj => ?_
  rw [show (ts.take B).getD i eS.dflt = ts.getD i [] by simp only [List.getD, List.getElem?_take]; rw [if_pos (by omega)]; rfl]
  exact AVle.refl _
theorem drop_sn {ts : List (List UInt8)} {A : Nat} (h : A ≤ ts.length) : AVle (.sn (ts.length - (ts.length - A)) 1 fun i => eS.enc (ts.getD (ts.length - A + i) [])) (sL eS (ts.drop (ts.length - A))) := by
  refine sn_gen rfl (by rw [List.length_drop]) fun i hi j hj => ?_
  rw [show (ts.drop (ts.length - A)).getD i eS.dflt = ts.getD (ts.length - A + i) [] by simp only [List.getD, List.getElem?_drop]; rfl]
  exact AVle.refl _
def sOfP : Spec := Spec.f2 (kL (eP eI (eL eS))) kI (fun l _ => l.length < 10000 ∧ ∀ s ∈ l, s.2.length ≤ 10000) (fun l n => sL (eP eI (eP eI (eL (eP eI (eL eS))))) (if rightE (-1) l = true ∧ 0 ≤ n ∧ n ≤ 100 then ofP l n.toNat else []))
theorem okOfP : SpecOK Tryz.prog 10 sOfP := by
  refine SpecOK.f2 Tryz.func10 rfl (by decide) Tryz.results10 Tryz.ntmps10 (by decide) fun l n ⟨hl, hs⟩ => ?_
  have hΓ : GOK Tryz.prog (gam [(42, sRightE), (43, sPutP), (44, sPassP), (45, sClosedP)]) := (.cons okRightE (.cons okPutP (.cons okPassP (.cons okClosedP .nil))))
  by_cases hc : rightE (-1) l = true ∧ 0 ≤ n ∧ n ≤ 100
  · obtain ⟨hc1, hc2, hc3⟩ := hc
    rw [if_pos ⟨hc1, hc2, hc3⟩]
    have b1 : decide (n < 0) = false := decide_eq_false (by omega)
    have b2 : decide (100 < n) = false := decide_eq_false (by omega)
    obtain ⟨N, rfl⟩ := Int.eq_ofNat_of_zero_le hc2
    rw [Int.toNat_natCast]
    refine AW.of hΓ mixed [6] _ _ _ rfl ?_
    simp only [go_sem, sRightE, sPutP, sPassP, sClosedP, st_sz, hk_sz, hc1, b1, b2]
    refine ⟨⟨hl, hs⟩, ?_⟩
    refine AW.adopt 5 84 3 (fun i => (eP eI (eP eI (eL (eP eI (eL eS))))).enc (([] : List Hk).getD i (0, 0, []))) rfl ?_
    refine AW.adoptB (q := 0) 2 86 2 (fun i => (eP eI (eL eS)).enc (([] : List StE).getD i (0, []))) rfl rfl ?_
    refine AW.to (fun x : Nat × Nat => Sh.st ⟨[(5, .ow 1 x.1 (ofI l N l.length).1.length), (6, .pt 0 0 0)], [(0, .box 0 84 3 ((eP eI (eP eI (eL (eP eI (eL eS))))).enc (ofI l N l.length).2.1)), (1, rHk x.1 (ofI l N l.length).1)], 124, 2, x.2, []⟩) ?_ ?_
    · refine AW.block (AW.round (α := { x : Nat × Nat × Nat × Nat // x.1 ≤ l.length }) (fun x => ⟨[(0, sL (eP eI (eL eS)) l), (1, .val (.int .i64 N)), (5, .ow 1 x.1.2.1 (ofI l N x.1.1).1.length), (6, .pt 0 0 0), (7, .val (.int .i64 (ofI l N x.1.1).2.2.1)), (8, .val (.int .i64 (ofI l N x.1.1).2.2.2)), (27, sL (eP eI (eL eS)) l), (28, .val (.int .i64 l.length)), (29, .val (.int .i64 x.1.1))],
        [(0, .box 0 84 3 (opnC (ofI l N x.1.1).2.1 2 x.1.2.2.1)), (1, rHk x.1.2.1 (ofI l N x.1.1).1), (2, rSt x.1.2.2.1 (ofI l N x.1.1).2.1.2.2)], 124, 3, x.1.2.2.2, []⟩) (fun x => l.length - x.1.1) ⟨(0, 1, 2, 3), Nat.zero_le _⟩ ?_ ?_)
      · simp only [go_sem, sRightE, sPutP, sPassP, sClosedP, hk_sz]
        exact ⟨⟨rfl, rfl, rfl⟩, RowLe.box fun j hj => AVle.of_eq (match j, hj with | 0, _ => rfl | 1, _ => rfl | 2, _ => rfl), RowLe.refl _, RowLe.refl _⟩
      · rintro ⟨⟨i, vh, vs, nx⟩, hi⟩
        simp only at hi
        rcases Nat.lt_or_ge i l.length with hlt | hge
        · have hlI : ((i : Int) < (l.length : Nat)) = True := eq_true (by omega)
          obtain ⟨g1, g2, g3, g4⟩ := of_bnd hs N i hi
          have hm : l.getD i (0, []) ∈ l := by
            simp only [List.getD, List.getElem?_eq_getElem hlt, Option.getD_some]
            exact List.getElem_mem _
          have hg := hs _ hm
          have hst : ofI l N (i + 1) = stepPt N (decide (i = 0)) (decide (i + 1 = l.length)) (l.getD i (0, [])) (ofI l N i) := rfl
          generalize hge : l.getD i (0, []) = g at *
          generalize hoe : ofI l N i = o at *
          obtain ⟨k, ts⟩ := g
          obtain ⟨hs', ⟨oa, ob, st⟩, ca, cb⟩ := o
          dsimp only at g1 g2 g3 g4 hg ⊢
          by_cases hk : k = 0
          · subst hk
            have e2 : decide ((i : Int) = (l.length : Int) - 1) = decide (i + 1 = l.length) := by rw [decide_eq_decide]; omega
            have e1 : decide ((i : Int) = 0) = decide (i = 0) := by rw [decide_eq_decide]; omega
            generalize hfe : decide (i = 0) = f at *
            generalize hte : decide (i + 1 = l.length) = t at *
            by_cases hin : f = false ∧ t = false ∧ ts.length ≤ 2 * N
            · obtain ⟨rfl, rfl, hle⟩ := hin
              have hle' : ((ts.length : Int) ≤ 2 * (N : Int)) = True := eq_true (by omega)
              refine AW.of hΓ mixed [99999] _ _ _ rfl ?_
              simp only [go_sem, sRightE, sPutP, sPassP, sClosedP, st_sz, st_d, hlI, hge, sp0, sp1, opn0, opn1, opn2, e1, e2, hle', dec_st, ok_stC]
              refine ⟨by omega, ⟨by omega, by omega⟩, ⟨by omega, by omega, by omega⟩, ⟨by omega, by omega⟩, putP_go (l := st) rfl (AVle.refl _) (RowLe.refl _) (by decide) (by omega) (by omega) fun v' nx' hnx => ?_⟩
              simp only [go_sem, sRightE, sPutP, sPassP, sClosedP, st_sz, st_d, sp0, sp1, opn0, opn1, opn2, dec_st, ok_stC]
              have hst2 : ofI l N (i + 1) = (hs', (oa, ob, appP st 0 ts), ca + ts.length, cb + ts.length) := by
                rw [hst]; unfold stepPt; rw [if_neg (by simp), if_pos ⟨rfl, rfl, hle⟩]
              have pA : pasA (0, ts) = ts.length := by unfold pasA; rw [if_neg (show ¬ (0 : Int) = 2 by decide)]
              have pB : pasB (0, ts) = ts.length := by unfold pasB; rw [if_neg (show ¬ (0 : Int) = 1 by decide)]
              refine ⟨by omega, ⟨(i + 1, vh, v', nx'), by omega⟩, ?_⟩
              dsimp only
              rw [hst2, pA, pB]
              exact ⟨⟨Nat.le_refl _, ⟨⟨rfl, rfl⟩, rfl, rfl, by omega⟩, RowLe.box fun j hj => AVle.of_eq (match j, hj with | 0, _ => rfl | 1, _ => rfl | 2, _ => rfl), RowLe.refl _, RowLe.refl _⟩, by omega⟩
            · have hmin : min (ts.length : Int) (N : Int) = ((min ts.length N : Nat) : Int) := by omega
              have pA : pasA (0, ts) = ts.length := by unfold pasA; rw [if_neg (show ¬ (0 : Int) = 2 by decide)]
              have pB : pasB (0, ts) = ts.length := by unfold pasB; rw [if_neg (show ¬ (0 : Int) = 1 by decide)]
              have hcond : (!f && !t && decide ((ts.length : Int) ≤ 2 * (N : Int))) = false := by
                cases f <;> cases t <;> simp
                simp at hin
                omega
              refine AW.of hΓ mixed [200021] _ _ _ rfl ?_
              simp only [go_sem, sRightE, sPutP, sPassP, sClosedP, hlI]
              refine AW.fork (AW.block ?_)
              refine AW.of hΓ mixed [200021] _ _ _ rfl ?_
              simp only [go_sem, sRightE, sPutP, sPassP, sClosedP, st_sz, st_d, hlI, hge, sp0, sp1, opn0, opn1, opn2, e1, e2, hmin, hcond, dec_st, ok_stC]
              refine ⟨by omega, ⟨by omega, by omega⟩, ⟨by omega, by omega, by omega⟩, fun _ => by omega, ?_⟩
              rw [pA, pB]
              refine AW.seqTo (fun _ : Unit => Sh.st ⟨[(0, sL (eP eI (eL eS)) l), (1, .val (.int .i64 N)), (5, .ow 1 vh hs'.length), (6, .pt 0 0 0), (7, .val (.int .i64 (ca + ts.length))), (8, .val (.int .i64 (cb + ts.length))), (10, .pt 3 nx 0), (12, .val (.bool t)), (13, .val (.int .i64 ts.length)), (14, .val (.int .i64 (bhP N f (0, ts) : Nat))), (15, .val (.int .i64 (min ts.length N : Nat))), (27, sL (eP eI (eL eS)) l), (28, .val (.int .i64 l.length)), (29, .val (.int .i64 i))], [(0, .box 0 84 3 (opnC (oa, ob, st) 2 vs)), (1, rHk vh hs'), (2, rSt vs st), (3, .box nx 86 2 ((eP eI (eL eS)).enc (0, ts)))], 124, 4, nx + 1, []⟩) ?_ fun _ => ?_
              · cases f with
                | true =>
                  refine AW.of hΓ mixed [99999] _ _ _ rfl ?_
                  simp only [go_sem, sRightE, sPutP, sPassP, sClosedP]
                  refine ⟨(), toFits ?_⟩
                  simp only [go_sem, sRightE, sPutP, sPassP, sClosedP]
                  exact ⟨by simp [bhP], RowLe.refl _, RowLe.refl _, RowLe.refl _, RowLe.box fun j hj => AVle.of_eq (match j, hj with | 0, _ => rfl | 1, _ => rfl)⟩
                | false =>
                  refine AW.of hΓ mixed [99999] _ _ _ rfl ?_
                  simp only [go_sem, sRightE, sPutP, sPassP, sClosedP]
                  refine ⟨(), toFits ?_⟩
                  simp only [go_sem, sRightE, sPutP, sPassP, sClosedP]
                  exact ⟨by simp [bhP], RowLe.refl _, RowLe.refl _, RowLe.refl _, RowLe.box fun j hj => AVle.of_eq (match j, hj with | 0, _ => rfl | 1, _ => rfl)⟩
              refine AW.seqTo (fun _ : Unit => Sh.st ⟨[(0, sL (eP eI (eL eS)) l), (1, .val (.int .i64 N)), (5, .ow 1 vh hs'.length), (6, .pt 0 0 0), (7, .val (.int .i64 (ca + ts.length))), (8, .val (.int .i64 (cb + ts.length))), (10, .pt 3 nx 0), (12, .val (.bool t)), (13, .val (.int .i64 ts.length)), (14, .val (.int .i64 (bhP N f (0, ts) : Nat))), (15, .val (.int .i64 (ahP N t (0, ts) : Nat))), (27, sL (eP eI (eL eS)) l), (28, .val (.int .i64 l.length)), (29, .val (.int .i64 i))], [(0, .box 0 84 3 (opnC (oa, ob, st) 2 vs)), (1, rHk vh hs'), (2, rSt vs st), (3, .box nx 86 2 ((eP eI (eL eS)).enc (0, ts)))], 124, 4, nx + 1, []⟩) ?_ fun _ => ?_
              · cases t with
                | true =>
                  refine AW.of hΓ mixed [99999] _ _ _ rfl ?_
                  simp only [go_sem, sRightE, sPutP, sPassP, sClosedP]
                  refine ⟨(), toFits ?_⟩
                  simp only [go_sem, sRightE, sPutP, sPassP, sClosedP]
                  exact ⟨by simp [ahP], RowLe.refl _, RowLe.refl _, RowLe.refl _, RowLe.refl _⟩
                | false =>
                  refine AW.of hΓ mixed [99999] _ _ _ rfl ?_
                  simp only [go_sem, sRightE, sPutP, sPassP, sClosedP]
                  refine ⟨(), toFits ?_⟩
                  simp only [go_sem, sRightE, sPutP, sPassP, sClosedP]
                  exact ⟨by simp [ahP], RowLe.refl _, RowLe.refl _, RowLe.refl _, RowLe.refl _⟩
              refine AW.fork (AW.drawZ hΓ mixed 6 [7] [7] [] (by decide +kernel) ?_)
              simp only [go_sem, sRightE, sPutP, sPassP, sClosedP, st_sz, st_d, sp0, sp1, opn0, opn1, opn2]
              have hbh : bhP N f (0, ts) ≤ ts.length := by unfold bhP; split <;> (try dsimp only) <;> omega
              have hah : ahP N t (0, ts) ≤ ts.length := by unfold ahP; split <;> (try dsimp only) <;> omega
              have hst2 : ofI l N (i + 1) = (clsP hs' (oa, ob, appP st 0 (ts.take (bhP N f (0, ts)))), (ca + ts.length - ahP N t (0, ts), cb + ts.length - ahP N t (0, ts), appP [] 0 (ts.drop (ts.length - ahP N t (0, ts)))), ca + ts.length, cb + ts.length) := by
                rw [hst]; unfold stepPt; rw [if_neg (by simp), if_neg hin]
              generalize bhP N f (0, ts) = B at *
              generalize ahP N t (0, ts) = A at *
              refine ⟨⟨by omega, by omega⟩, putP_go (l := st) (ts := ts.take B) rfl (take_sn hbh) (RowLe.refl _) (by decide) (by omega) (by rw [List.length_take]; omega) fun v' nx' hnx => ?_⟩
              simp only [go_sem, sRightE, sPutP, sPassP, sClosedP, st_sz, st_d, sp0, sp1, opn0, opn1, opn2]
              refine AW.freeze 2 v' 86 2 (appP st 0 (ts.take B)).length (fun i => (eP eI (eL eS)).enc ((appP st 0 (ts.take B)).getD i (0, []))) rfl (fun i _ j hj => match j, hj with | 0, _ => rfl | 1, _ => rfl) ?_
              refine AW.of hΓ mixed [22, 23] _ _ _ rfl ?_
              simp only [go_sem, sRightE, sPutP, sPassP, sClosedP, st_sz, st_d, hk_sz, hk_d, sp0, sp1, opn0, opn1, opn2]
              have hal := app_len st 0 (ts.take B)
              refine closed_go (l := hs') (h := (oa, ob, appP st 0 (ts.take B))) rfl (AVle.ag fun j hj => AVle.of_eq (match j, hj with | 0, _ => rfl | 1, _ => rfl | 2, _ => by show fz 2 v' _ 2 _ (.ow 2 v' _) = _; simp only [fz, and_self, if_true, Nat.le_refl]; rfl)) (RowLe.sl rfl fun i hi j hj => match j, hj with | 0, _ => AVle.refl _ | 1, _ => AVle.refl _ | 2, _ => AVle.refl _) (by decide) (by omega) (by dsimp only; omega) fun v2 nx2 hnx2 => ?_
              simp only [go_sem, sRightE, sPutP, sPassP, sClosedP, st_sz, st_d, hk_sz, hk_d, sp0, sp1, opn0, opn1, opn2]
              refine AW.cut ⟨[(0, sL (eP eI (eL eS)) l), (1, .val (.int .i64 N)), (5, .ow 1 v2 (clsP hs' (oa, ob, appP st 0 (ts.take B))).length), (6, .pt 0 0 0), (7, .val (.int .i64 (ca + ts.length))), (8, .val (.int .i64 (cb + ts.length))), (10, .pt 3 nx 0), (13, .val (.int .i64 ts.length)), (15, .val (.int .i64 A)), (27, sL (eP eI (eL eS)) l), (28, .val (.int .i64 l.length)), (29, .val (.int .i64 i))], [(0, .box 0 84 3 ((eP eI (eP eI (eL (eP eI (eL eS))))).enc (oa, ob, appP st 0 (ts.take B)))), (1, rHk v2 (clsP hs' (oa, ob, appP st 0 (ts.take B)))), (3, .box nx 86 2 ((eP eI (eL eS)).enc (0, ts)))], 124, 4, nx2, []⟩ ?_ ?_
              · simp only [go_sem, sRightE, sPutP, sPassP, sClosedP, hk_sz, st_sz]
                exact ⟨RowLe.box fun j hj => AVle.of_eq (match j, hj with | 0, _ => rfl | 1, _ => rfl | 2, _ => by show fz 2 v' _ 2 _ (.ow 2 v' _) = _; simp only [fz, and_self, if_true, Nat.le_refl]; rfl), RowLe.refl _, RowLe.box fun j hj => AVle.of_eq (match j, hj with | 0, _ => rfl | 1, _ => rfl)⟩
              have hsub : ((ts.length : Int) - (A : Int)).toNat = ts.length - A := by omega
              refine AW.of hΓ mixed [23] _ _ _ rfl ?_
              simp only [go_sem, sRightE, sPutP, sPassP, sClosedP, st_sz, st_d, hk_sz, hk_d, sp0, sp1, hsub]
              refine ⟨⟨by omega, by omega⟩, ⟨by omega, by omega⟩, ⟨by omega, by omega⟩, ⟨by omega, by omega, by omega⟩, putN_go (ts := ts.drop (ts.length - A)) (drop_sn hah) (by rw [List.length_drop]; omega) fun v3 nx3 h3 h4 => ?_⟩
              simp only [go_sem, sRightE, sPutP, sPassP, sClosedP, st_sz, st_d, hk_sz, hk_d, sp0, sp1]
              refine AW.cutV (fun p => if p = 2 then 4 else p) ⟨[(0, sL (eP eI (eL eS)) l), (1, .val (.int .i64 N)), (5, .ow 1 v2 (clsP hs' (oa, ob, appP st 0 (ts.take B))).length), (6, .pt 0 0 0), (7, .val (.int .i64 (ca + ts.length))), (8, .val (.int .i64 (cb + ts.length))), (27, sL (eP eI (eL eS)) l), (28, .val (.int .i64 l.length)), (29, .val (.int .i64 i))], [(0, .box 0 84 3 (opnC (ca + ts.length - A, cb + ts.length - A, appP [] 0 (ts.drop (ts.length - A))) 2 v3)), (1, rHk v2 (clsP hs' (oa, ob, appP st 0 (ts.take B)))), (2, rSt v3 (appP [] 0 (ts.drop (ts.length - A))))], 124, 3, nx3, []⟩ ?_ ?_
              · simp only [go_sem, sRightE, sPutP, sPassP, sClosedP, hk_sz, st_sz]
                exact ⟨RowLe.box fun j hj => match j, hj with | 0, _ => AVle.refl _ | 1, _ => AVle.refl _ | 2, _ => AVle.ow, RowLe.refl _, RowLe.refl _⟩
              refine AW.of hΓ mixed [99999] _ _ _ rfl ?_
              simp only [go_sem, sRightE, sPutP, sPassP, sClosedP]
              refine ⟨by omega, ⟨(i + 1, v2, v3, nx3), by omega⟩, ?_⟩
              dsimp only
              rw [hst2]
              exact ⟨⟨Nat.le_refl _, ⟨⟨rfl, rfl⟩, rfl, rfl, by omega⟩, RowLe.refl _, RowLe.refl _, RowLe.refl _⟩, by omega⟩
          · have hk' : (k = 0) = False := eq_false hk
            refine AW.of hΓ mixed [99999] _ _ _ rfl ?_
            simp only [go_sem, sRightE, sPutP, sPassP, sClosedP, st_sz, st_d, hlI, hge, sp0, sp1, opn0, opn1, opn2, hk']
            refine ⟨by omega, putP_go (l := st) rfl (AVle.refl _) (RowLe.refl _) (by decide) (by omega) (by omega) fun v' nx' hnx => ?_⟩
            simp only [go_sem, sRightE, sPutP, sPassP, sClosedP, st_sz, st_d, sp0, sp1, opn0, opn1, opn2, dec_st, ok_stC]
            have hst2 : ofI l N (i + 1) = (hs', (oa, ob, appP st k ts), ca + pasA (k, ts), cb + pasB (k, ts)) := by
              rw [hst]; unfold stepPt; rw [if_pos hk]
            refine ⟨⟨by omega, by omega, by omega⟩, by omega, ⟨(i + 1, vh, v', nx'), by omega⟩, ?_⟩
            dsimp only
            rw [hst2]
            exact ⟨⟨Nat.le_refl _, ⟨⟨rfl, rfl⟩, rfl, rfl, by omega⟩, RowLe.box fun j hj => AVle.of_eq (match j, hj with | 0, _ => rfl | 1, _ => rfl | 2, _ => rfl), RowLe.refl _, RowLe.refl _⟩, by omega⟩
        · obtain rfl : i = l.length := by omega
          have hlI : ((l.length : Int) < (l.length : Nat)) = False := eq_false (by omega)
          refine AW.of hΓ mixed [99999] _ _ _ rfl ?_
          simp only [go_sem, sRightE, sPutP, sPassP, sClosedP, hlI]
          refine ⟨(vh, nx), ASle.trans (ASle.freeze 2 vs 86 2 (ofI l N l.length).2.1.2.2.length (fun i => (eP eI (eL eS)).enc ((ofI l N l.length).2.1.2.2.getD i (0, []))) rfl fun i _ j hj => match j, hj with | 0, _ => rfl | 1, _ => rfl) (toFits ?_)⟩
          simp only [go_sem, sRightE, sPutP, sPassP, sClosedP, opn0, opn1, opn2]
          exact ⟨RowLe.box fun j hj => AVle.of_eq (match j, hj with | 0, _ => rfl | 1, _ => rfl | 2, _ => by show fz 2 vs _ 2 _ (.ow 2 vs _) = _; simp only [fz, and_self, if_true, Nat.le_refl]; rfl), RowLe.sl rfl fun i hi j hj => match j, hj with | 0, _ => AVle.refl _ | 1, _ => AVle.refl _ | 2, _ => AVle.refl _⟩
    · rintro ⟨vh, nx⟩
      obtain ⟨g1, g2, _⟩ := of_bnd hs N l.length (Nat.le_refl _)
      simp only [go_sem, sRightE, sPutP, sPassP, sClosedP, hk_sz]
      refine closed_go rfl (AVle.refl _) (RowLe.refl _) (by decide) (by omega) (by omega) fun v' nx' hnx => ?_
      simp only [go_sem, sRightE, sPutP, sPassP, sClosedP, hk_sz]
      exact AVle.refl _
  · rw [if_neg hc]
    have hbad : (!rightE (-1) l || decide (n < 0) || decide (100 < n)) = true := by
      cases hR : rightE (-1) l with
      | false => rfl
      | true =>
        have : n < 0 ∨ 100 < n := by
          rcases Int.lt_or_le n 0 with g | g
          · exact .inl g
          · rcases Int.lt_or_le 100 n with g2 | g2
            · exact .inr g2
            · exact absurd ⟨hR, g, g2⟩ hc
        simpa using this
    refine AW.of hΓ mixed [99999] _ _ _ rfl ?_
    simp only [go_sem, sRightE, sPutP, sPassP, sClosedP, st_sz, hk_sz, hbad]
    have g1 : (!rightE (-1) l) = false → (!!rightE (-1) l) = true := fun h => by rw [h]; rfl
    exact ⟨⟨hl, hs⟩, g1, fun h => by rw [h]; rfl, em_sL _⟩
end Go.Proofs.YthpjjjnbkfnghaaGreatDoor
set_option linter.unusedSimpArgs false
set_option linter.unusedVariables false
set_option maxRecDepth 100000
set_option maxHeartbeats 8000000
namespace Go.Proofs.YthpjjjnbkfnghaaGreatDoor
open Go
attribute [local irreducible] AW AVle ASle RowLe
def newH (l : List Hk) : List (List UInt8) := l.flatMap fun h => lessL 1 h.2.2
theorem newH_snoc (l : List Hk) (h : Hk) : newH (l ++ [h]) = newH l ++ lessL 1 h.2.2 := by simp [newH]
theorem newH_take (l : List Hk) (i : Nat) : (newH (l.take i)).length ≤ (newH l).length ∧ (newH (l.take i)).flatten.length ≤ (newH l).flatten.length := by
  have h : newH (l.take i ++ l.drop i) = newH (l.take i) ++ newH (l.drop i) := by unfold newH; rw [List.flatMap_append]
  rw [List.take_append_drop] at h
  rw [h, List.flatten_append, List.length_append, List.length_append]
  omega
theorem cut_flatP {a : List (List UInt8)} {i j : Nat} (h : i ≤ j) : (a.take i).flatten.length + (cutL a i j).flatten.length = (a.take j).flatten.length := by
  have : a.take i ++ cutL a i j = a.take j := by
    unfold cutL
    have := List.take_append_drop i (a.take j)
    rwa [List.take_take, Nat.min_eq_left h] at this
  rw [← this, List.flatten_append, List.length_append]
theorem row_two {v k : Nat} {ch old y : List (List UInt8)} {a b : Nat} (hb : b ≤ old.length) (hk : k = b - a) :
    RowLe (.sl v 9 1 (ch.length + k + y.length) (apC (ch.length + k) (apC ch.length (fun i => eS.enc (ch.getD i [])) fun i => eS.enc (old.getD (a + i) [])) fun i => eS.enc (y.getD i []))) (rowL v 9 eS (ch ++ cutL old a b ++ y)) := by
  subst hk
  have hl := cutL_len old (i := a) (j := b) hb
  refine RowLe.trans (RowLe.sl rfl (d := apC (ch.length + (b - a)) (fun i => eS.enc ((ch ++ cutL old a b).getD i [])) fun i => eS.enc (y.getD i [])) fun i hi j hj => ?_) (row_app (E := eS) (l := ch ++ cutL old a b) (ys := y) rfl rfl (by rw [List.length_append, hl]) rfl (by simp only [List.length_append, hl]) fun _ _ _ _ => AVle.refl _)
  simp only [apC]
  split
  · rename_i h1
    split
    · rename_i h2
      rw [show (ch ++ cutL old a b).getD i [] = ch.getD i [] by simp [List.getD, List.getElem?_append_left h2]]
      exact AVle.refl _
    · rename_i h2
      rw [show (ch ++ cutL old a b).getD i [] = old.getD (a + (i - ch.length)) [] by
        unfold cutL
        simp only [List.getD, List.getElem?_append_right (by omega : ch.length ≤ i), List.getElem?_drop, List.getElem?_take]
        rw [if_pos (by omega)]]
      exact AVle.refl _
  · exact AVle.refl _
def appA (l : List Hk) (s : List UInt8) : List UInt8 × Int × Int := if rightP l 0 0 = true then appR (splitL s) l 0 [] 0 else ([], 11, -1)
structure ApS (l : List Hk) (old : List (List UInt8)) (i at' : Nat) (sh : Int) (ch : List (List UInt8)) : Prop where
  hi : i ≤ l.length
  hat : at' ≤ old.length
  hr : rightP (l.drop i) at' sh = true
  he : appR old l 0 [] 0 = appR old (l.drop i) at' ch i
  hn : ch.length ≤ (newH (l.take i)).length + at'
  hf : ch.flatten.length ≤ (newH (l.take i)).flatten.length + (old.take at').flatten.length
theorem ap_step {l : List Hk} {old : List (List UInt8)} {i at' : Nat} {sh : Int} {ch : List (List UInt8)} (h : ApS l old i at' sh ch) (hlt : i < l.length) :
    rightE (-1) (l.getD i (0, 0, [])).2.2 = true ∧ (at' : Int) ≤ (l.getD i (0, 0, [])).1 ∧ (l.getD i (0, 0, [])).1 ≤ 999999 ∧
    ((((lessL 2 (l.getD i (0, 0, [])).2.2).length : Int) > old.length - (l.getD i (0, 0, [])).1 ∨ lessL 2 (l.getD i (0, 0, [])).2.2 ≠ cutL old (l.getD i (0, 0, [])).1.toNat ((l.getD i (0, 0, [])).1.toNat + (lessL 2 (l.getD i (0, 0, [])).2.2).length)) → appR old l 0 [] 0 = ([], 12, (i : Int))) ∧
    (¬ (((lessL 2 (l.getD i (0, 0, [])).2.2).length : Int) > old.length - (l.getD i (0, 0, [])).1 ∨ lessL 2 (l.getD i (0, 0, [])).2.2 ≠ cutL old (l.getD i (0, 0, [])).1.toNat ((l.getD i (0, 0, [])).1.toNat + (lessL 2 (l.getD i (0, 0, [])).2.2).length)) →
      ∃ sh', ApS l old (i + 1) ((l.getD i (0, 0, [])).1.toNat + (lessL 2 (l.getD i (0, 0, [])).2.2).length) sh' (ch ++ cutL old at' (l.getD i (0, 0, [])).1.toNat ++ lessL 1 (l.getD i (0, 0, [])).2.2)) := by
  have hd : l.drop i = l.getD i (0, 0, []) :: l.drop (i + 1) := by
    rw [List.drop_eq_getElem_cons hlt]
    simp [List.getD, List.getElem?_eq_getElem hlt]
  have ht : newH (l.take (i + 1)) = newH (l.take i) ++ lessL 1 (l.getD i (0, 0, [])).2.2 := by rw [take_snocE l (0, 0, []) hlt, newH_snoc]
  obtain ⟨_, hat, hr, he, hn, hf⟩ := h
  generalize l.getD i (0, 0, []) = g at *
  rw [hd, rightP, Bool.and_eq_true] at hr
  rw [hd, appR] at he
  obtain ⟨hr1, hr2⟩ := hr
  unfold hunkP at hr1
  simp only [Bool.and_eq_true, decide_eq_true_eq] at hr1
  obtain ⟨⟨r1, r2, r3⟩, r4, r5, r6⟩ := hr1
  refine ⟨r1, r4, r5, fun hc => by rw [he, if_pos hc], fun hc => ?_⟩
  rw [if_neg hc] at he
  have hc1 : ((lessL 2 g.2.2).length : Int) ≤ old.length - g.1 := by
    rcases Int.lt_or_le ((old.length : Int) - g.1) (lessL 2 g.2.2).length with q | q
    · exact absurd (.inl q) hc
    · exact q
  obtain ⟨q1, q2⟩ := count_less r1
  have q3 : (at' : Int) ≤ g.1 := r4
  have e1 : g.1 + countL 0 g.2.2 + countL 1 g.2.2 = ((g.1.toNat + (lessL 2 g.2.2).length : Nat) : Int) := by omega
  rw [e1] at hr2
  have c1 := cutL_len old (i := at') (j := g.1.toNat) (by omega)
  have c2 := cut_flatP (a := old) (i := at') (j := g.1.toNat) (by omega)
  have c3 := cut_flatP (a := old) (i := g.1.toNat) (j := g.1.toNat + (lessL 2 g.2.2).length) (by omega)
  refine ⟨_, by omega, by omega, hr2, he.trans ?_, ?_, ?_⟩
  · rfl
  · rw [ht]
    simp only [List.length_append]
    omega
  · rw [ht]
    simp only [List.flatten_append, List.length_append]
    omega
theorem ap_zero {l : List Hk} {old : List (List UInt8)} (h : rightP l 0 0 = true) : ApS l old 0 0 0 [] := ⟨Nat.zero_le _, Nat.zero_le _, h, rfl, Nat.zero_le _, by simp⟩
def sApplyP : Spec := Spec.f2 (kL (eP eI (eP eI (eL (eP eI (eL eS)))))) kS (fun l s => okHs l ∧ s.length ≤ 50000000 ∧ (newH l).length ≤ 50000000 ∧ (newH l).flatten.length ≤ 10000000000) (fun l s => tu3 (kS.enc (appA l s).1) (kI.enc (appA l s).2.1) (kI.enc (appA l s).2.2))
theorem okApplyP : SpecOK Tryz.prog 14 sApplyP := by
  refine SpecOK.f2 Tryz.func14 rfl (by decide) Tryz.results14 Tryz.ntmps14 (by decide) fun l s ⟨ho, hs, hn1, hn2⟩ => ?_
  have hΓ : GOK Tryz.prog (gam [(49, sRightP), (26, sSplit), (50, sWithoutP), (51, sEqualS), (52, sWhole), (53, sJoin)]) := (.cons okRightP (.cons okSplit (.cons okWithoutP (.cons okEqualS (.cons okWhole (.cons okJoin .nil))))))
  have hR0 : rightP l 0 0 = true ∨ rightP l 0 0 = false := by cases rightP l 0 0 <;> simp
  rcases hR0 with hR | hR
  · have eA : appA l s = appR (splitL s) l 0 [] 0 := by unfold appA; rw [if_pos hR]
    have hfl := splitL_flat s
    have hol := splitL_len s
    rw [eA]
    refine AW.of hΓ mixed [6, 16] _ _ _ rfl ?_
    simp only [go_sem, sRightP, sSplit, sWithoutP, sEqualS, sWhole, sJoin, hk_sz, hR]
    refine ⟨ho, by omega, ?_⟩
    generalize splitL s = old at *
    refine AW.adopt 8 9 1 (fun i => eS.enc (([] : List (List UInt8)).getD i [])) rfl ?_
    refine AW.to (fun x : { x : Nat × Int × List (List UInt8) × Nat × Nat // ApS l old l.length x.1 x.2.1 x.2.2.1 } => Sh.st ⟨[(0, sL (eP eI (eP eI (eL (eP eI (eL eS))))) l), (7, sL eS old), (8, .ow 0 x.1.2.2.2.1 x.1.2.2.1.length), (9, .val (.int .i64 x.1.1))], [(0, rowL x.1.2.2.2.1 9 eS x.1.2.2.1)], 82, 1, x.1.2.2.2.2, []⟩) ?_ ?_
    · refine AW.block (AW.round (α := { x : Nat × Nat × Int × List (List UInt8) × Nat × Nat // ApS l old x.1 x.2.1 x.2.2.1 x.2.2.2.1 }) (fun x => ⟨[(0, sL (eP eI (eP eI (eL (eP eI (eL eS))))) l), (7, sL eS old), (8, .ow 0 x.1.2.2.2.2.1 x.1.2.2.2.1.length), (9, .val (.int .i64 x.1.2.1)), (18, sL (eP eI (eP eI (eL (eP eI (eL eS))))) l), (19, .val (.int .i64 l.length)), (20, .val (.int .i64 x.1.1))], [(0, rowL x.1.2.2.2.2.1 9 eS x.1.2.2.2.1)], 82, 1, x.1.2.2.2.2.2, []⟩) (fun x => l.length - x.1.1) ⟨(0, 0, 0, [], 0, 1), ap_zero hR⟩ ?_ ?_)
      · simp only [go_sem, sRightP, sSplit, sWithoutP, sEqualS, sWhole, sJoin, hk_sz]
        exact RowLe.refl _
      · rintro ⟨⟨i, at', sh, ch, v, nx⟩, hS⟩
        dsimp only at hS
        have hi := hS.hi
        rcases Nat.lt_or_ge i l.length with hlt | hge
        · have hlI : ((i : Int) < (l.length : Nat)) = True := eq_true (by omega)
          obtain ⟨p1, p2, p3, p4, p5⟩ := ap_step hS hlt
          have hm : l.getD i (0, 0, []) ∈ l := by
            simp only [List.getD, List.getElem?_eq_getElem hlt, Option.getD_some]
            exact List.getElem_mem _
          obtain ⟨⟨k1, k2⟩, k3, k4⟩ := ho.2 _ hm
          generalize hge : l.getD i (0, 0, []) = g at *
          obtain ⟨A, B, st⟩ := g
          dsimp only at p1 p2 p3 p4 p5 k1 k2 k3 k4
          have n1 := Nat.le_trans (lessL_le k2 1) (Nat.mul_le_mul_right _ (show st.length ≤ 10000 by omega))
          have n2 := Nat.le_trans (lessL_le k2 2) (Nat.mul_le_mul_right _ (show st.length ≤ 10000 by omega))
          have hmap : A + (lessL 2 st).length ≤ old.length → (List.range ((A + (lessL 2 st).length).toNat - A.toNat)).map (fun k => old.getD (A.toNat + k) []) = cutL old A.toNat (A.toNat + (lessL 2 st).length) := fun h => by
            rw [cut_map (by omega), show (A + ((lessL 2 st).length : Int)).toNat = A.toNat + (lessL 2 st).length by omega]
          have hl0 := ho.1
          have hS1 := hS.hat
          have hS2 := hS.hn
          have hS3 := (newH_take l i).1
          refine AW.of hΓ mixed [99999] _ _ _ rfl ?_
          simp only [go_sem, sRightP, sSplit, sWithoutP, sEqualS, sWhole, sJoin, hk_sz, hk_d, hlI, hge, stC30, stC31, stC32, hk0, hk1, hk2]
          refine ⟨by omega, ⟨k1, k2⟩, by omega, fun _ => by omega, fun h => ?_, fun h => ?_, fun h => by rw [decide_eq_false h]; rfl, fun h => ?_, fun h => ?_⟩
          · simp only [Bool.not_eq_true', decide_eq_false_iff_not] at h
            exact ⟨by omega, by omega, by omega⟩
          · simp only [Bool.not_eq_true', decide_eq_false_iff_not] at h
            rw [List.length_range]
            exact ⟨by omega, by omega⟩
          · simp only [Bool.or_eq_true, decide_eq_true_eq, Bool.not_eq_true', decide_eq_false_iff_not] at h
            rw [p4 (by
              rcases h with h | h
              · exact .inl h
              · rcases Int.lt_or_le ((old.length : Int) - A) (lessL 2 st).length with q | q
                · exact .inl q
                · rw [hmap (by omega)] at h
                  exact .inr h)]
            exact ⟨rfl, rfl, rfl⟩
          · simp only [Bool.or_eq_false_iff, decide_eq_false_iff_not, Bool.not_eq_false', decide_eq_true_eq] at h
            obtain ⟨h1, h2⟩ := h
            rw [hmap (by omega)] at h2
            obtain ⟨sh', hS'⟩ := p5 (by
              rintro (q | q)
              · exact h1 q
              · exact q h2)
            have hl2 : (cutL old at' A.toNat).length = A.toNat - at' := cutL_len old (by omega)
            refine ⟨⟨by omega, by omega, by omega⟩, by omega, ⟨k1, k2⟩, by omega, by omega, by omega, ⟨(i + 1, A.toNat + (lessL 2 st).length, sh', ch ++ cutL old at' A.toNat ++ lessL 1 st, nx + 1 + 1, nx + 1 + 1 + 1), hS'⟩, ⟨Nat.le_refl _, ⟨⟨rfl, by simp only [List.length_append]; omega⟩, by dsimp only; omega, by dsimp only; omega⟩, row_two (by omega) rfl⟩, by dsimp only; omega⟩
        · obtain rfl : i = l.length := by omega
          have hlI : ((l.length : Int) < (l.length : Nat)) = False := eq_false (by omega)
          refine AW.of hΓ mixed [99999] _ _ _ rfl ?_
          simp only [go_sem, sRightP, sSplit, sWithoutP, sEqualS, sWhole, sJoin, hlI]
          refine ⟨⟨(at', sh, ch, v, nx), hS⟩, toFits ?_⟩
          simp only [go_sem, sRightP, sSplit, sWithoutP, sEqualS, sWhole, sJoin]
          exact RowLe.refl _
    · rintro ⟨⟨at', sh, ch, v, nx⟩, hS⟩
      dsimp only at hS
      obtain ⟨_, hat, _, he, hn, hf⟩ := hS
      rw [List.take_length] at hn hf
      rw [List.drop_length, appR] at he
      have hcl : (ch ++ old.drop at').length = ch.length + (old.length - at') := by rw [List.length_append, List.length_drop]
      have hfl2 : (old.take at').flatten.length + (old.drop at').flatten.length = s.length := by
        rw [← List.length_append, ← List.flatten_append, List.take_append_drop, hfl]
      have hok : okLs (ch ++ old.drop at') := ⟨by omega, by rw [List.flatten_append, List.length_append]; omega⟩
      simp only [go_sem, sRightP, sSplit, sWithoutP, sEqualS, sWhole, sJoin, hk_sz]
      refine ⟨⟨by omega, by omega, by omega⟩, by omega, ?_⟩
      have hdp : ∀ i, (old.drop at').getD i [] = old.getD (at' + i) [] := fun i => by simp [List.getD, List.getElem?_drop]
      have hmr : (List.range (ch.length + (old.length - at'))).map (fun i => (ch ++ old.drop at').getD i []) = ch ++ old.drop at' := by
        rw [← hcl]
        refine List.ext_getElem (by simp) fun i h1 h2 => ?_
        simp [List.getD, List.getElem?_eq_getElem h2]
      refine AW.cut ⟨[(0, sL (eP eI (eP eI (eL (eP eI (eL eS))))) l), (8, .ow 0 nx (ch ++ old.drop at').length)], [(0, rowL nx 9 eS (ch ++ old.drop at'))], 82, 1, nx + 1, []⟩ ?_ ?_
      · simp only [go_sem, sRightP, sSplit, sWithoutP, sEqualS, sWhole, sJoin]
        rw [← hcl]
        exact row_app (E := eS) (l := ch) (ys := old.drop at') rfl rfl rfl (by simp) rfl fun i hi j hj => by rw [hdp]; exact AVle.refl _
      refine AW.freeze 0 nx 9 1 (ch ++ old.drop at').length (fun i => eS.enc ((ch ++ old.drop at').getD i [])) rfl (fun _ _ _ _ => rfl) ?_
      refine AW.of hΓ mixed [99999] _ _ _ rfl ?_
      simp only [go_sem, sRightP, sSplit, sWithoutP, sEqualS, sWhole, sJoin, hk_sz, hmr]
      have hl0 := ho.1
      refine ⟨hok, fun h => ?_, fun h => ?_⟩
      · rw [Bool.not_eq_true'] at h
        rw [he, if_neg (by rw [h]; simp)]
        exact ⟨by omega, rfl, rfl, rfl⟩
      · rw [Bool.not_eq_false'] at h
        rw [he, if_pos h]
        exact ⟨hok, rfl, rfl, rfl⟩
  · have eA : appA l s = ([], 11, -1) := by unfold appA; rw [if_neg (by rw [hR]; simp)]
    rw [eA]
    refine AW.of hΓ mixed [99999] _ _ _ rfl ?_
    simp only [go_sem, sRightP, sSplit, sWithoutP, sEqualS, sWhole, sJoin, hk_sz, hR]
    exact ho
end Go.Proofs.YthpjjjnbkfnghaaGreatDoor
set_option linter.unusedSimpArgs false
set_option linter.unusedVariables false
namespace Go.Proofs.YthpjjjnbkfnghaaGreatDoor
open Go
def lstK (k : Int) (l : List StE) : Int := match l.getLast? with
  | some s => s.1
  | none => k
theorem lst_cons (k : Int) (s : StE) : ∀ l : List StE, lstK k (s :: l) = lstK s.1 l
  | [] => rfl
  | t :: l => by
    unfold lstK
    rw [List.getLast?_cons_cons]
    cases h : (t :: l).getLast? with
    | none => simp at h
    | some x => rfl
theorem lst_snoc (k : Int) (l : List StE) (s : StE) : lstK k (l ++ [s]) = s.1 := by
  unfold lstK
  rw [List.getLast?_append, List.getLast?_singleton, Option.some_or]
theorem right_snocP : ∀ {l : List StE} {k : Int} {s : StE}, rightE k (l ++ [s]) = true ↔ rightE k l = true ∧ ((s.1 = 0 ∨ s.1 = 1 ∨ s.1 = 2) ∧ s.2.length ≠ 0) ∧ (lstK k l ≠ s.1 ∧ ¬ (lstK k l = 2 ∧ s.1 = 1))
  | [], k, s => by
    rw [List.nil_append, rightE_cons]
    constructor
    · rintro ⟨h1, h2, _⟩; exact ⟨rfl, h1, h2⟩
    · rintro ⟨_, h1, h2⟩; exact ⟨h1, h2, rfl⟩
  | t :: l, k, s => by
    rw [List.cons_append, rightE_cons, rightE_cons, right_snocP, lst_cons]
    constructor
    · rintro ⟨h1, h2, h3, h4, h5⟩; exact ⟨⟨h1, h2, h3⟩, h4, h5⟩
    · rintro ⟨⟨h1, h2, h3⟩, h4, h5⟩; exact ⟨h1, h2, h3, h4, h5⟩
theorem put_right {s : List StE} {k : Int} {ts : List (List UInt8)} (h : rightE (-1) s = true) (hk : k = 0 ∨ k = 1 ∨ k = 2) (hf : lstK (-1) s = k ∨ (lstK (-1) s ≠ k ∧ ¬ (lstK (-1) s = 2 ∧ k = 1))) :
    rightE (-1) (putL s k ts) = true ∧ lstK (-1) (putL s k ts) = if ts.length = 0 then lstK (-1) s else k := by
  by_cases h0 : ts.length = 0
  · obtain rfl := List.length_eq_zero_iff.1 h0
    rw [putL_nil]
    exact ⟨h, by simp⟩
  · rw [if_neg h0]
    rcases s.eq_nil_or_concat with rfl | ⟨m, x, rfl⟩
    · rw [putL_first h0]
      exact ⟨rightE_cons.2 ⟨⟨hk, h0⟩, ⟨by omega, by omega⟩, rfl⟩, rfl⟩
    · rw [List.concat_eq_append] at h hf ⊢
      rw [lst_snoc] at hf
      by_cases hx : x.1 = k
      · rw [putL_same h0 hx, lst_snoc]
        obtain ⟨g1, g2, g3⟩ := right_snocP.1 h
        refine ⟨right_snocP.2 ⟨g1, ⟨hk, ?_⟩, by rw [← hx]; exact g3⟩, rfl⟩
        dsimp only
        rw [List.length_append]
        omega
      · rw [putL_new h0 hx, lst_snoc]
        refine ⟨right_snocP.2 ⟨h, ⟨hk, h0⟩, ?_⟩, rfl⟩
        rw [lst_snoc]
        rcases hf with hf | hf
        · exact absurd hf hx
        · exact hf
theorem ofG_right {a b : List (List UInt8)} : ∀ (l : List (Int × Int)) (i k : Nat) (s : List StE), i ≤ a.length → rgt (numA a b) (numB a b) ((i : Int) - 1) ((k : Int) - 1) l = true → rightE (-1) s = true → (lstK (-1) s = -1 ∨ lstK (-1) s = 0) → rightE (-1) (ofG a b l i k s) = true
  | [], i, k, s, _, _, h, hl => by
    rw [ofG]
    obtain ⟨h1, e1⟩ := put_right (ts := a.drop i) h (.inr (.inl rfl)) (.inr ⟨by omega, by omega⟩)
    refine (put_right h1 (.inr (.inr rfl)) (.inr ?_)).1
    rw [e1]
    split <;> omega
  | p :: l, i, k, s, hi, hr, h, hl => by
    rw [rgt] at hr
    simp only [Bool.and_eq_true, decide_eq_true_eq] at hr
    obtain ⟨⟨c1, c2, c3, c4, _⟩, hr⟩ := hr
    rw [numA_len] at c3
    rw [ofG]
    obtain ⟨h1, e1⟩ := put_right (ts := cutL a i p.1.toNat) h (.inr (.inl rfl)) (.inr ⟨by omega, by omega⟩)
    have f1 : lstK (-1) (putL s 1 (cutL a i p.1.toNat)) = -1 ∨ lstK (-1) (putL s 1 (cutL a i p.1.toNat)) = 0 ∨ lstK (-1) (putL s 1 (cutL a i p.1.toNat)) = 1 := by
      rw [e1]; split <;> omega
    obtain ⟨h2, e2⟩ := put_right (ts := cutL b k p.2.toNat) h1 (.inr (.inr rfl)) (.inr ⟨by omega, by omega⟩)
    obtain ⟨h3, e3⟩ := put_right (ts := cutL a p.1.toNat (p.1.toNat + 1)) h2 (.inl rfl) (by
      rcases Int.decEq (lstK (-1) (putL (putL s 1 (cutL a i p.1.toNat)) 2 (cutL b k p.2.toNat))) 0 with g | g
      · exact .inr ⟨g, by omega⟩
      · exact .inl g)
    refine ofG_right l _ _ _ (by omega) ?_ h3 (.inr ?_)
    · have t1 : ((p.1.toNat + 1 : Nat) : Int) - 1 = p.1 := by omega
      have t2 : ((p.2.toNat + 1 : Nat) : Int) - 1 = p.2 := by omega
      rw [t1, t2]
      exact hr
    · rw [e3, if_neg]
      rw [cutL_len a (by omega)]
      omega
theorem num_same (a : List (List UInt8)) {i : Nat} (h : i < a.length) : (numA a a).getD i 0 = (numB a a).getD i 0 := by
  obtain ⟨h1, h2⟩ := num_at a [] i h
  obtain ⟨h3, h4⟩ := num_at a (numL [] a).1 i h
  have e1 : numA a a = (numL [] a).2 := rfl
  have e2 : numB a a = (numL (numL [] a).1 a).2 := rfl
  obtain ⟨m, hm⟩ := num_pre a (numL [] a).1
  rw [e1, e2, h2, h4, hm, List.idxOf_append, if_pos h1]
theorem some_diag {a b : List Int} : ∀ (n : Nat) (out : List (Int × Int)), (∀ i, i < n → a.getD i 0 = b.getD i 0) → (someG a b n n out).length = out.length + n
  | 0, out, _ => by rw [some_0]; rfl
  | n + 1, out, h => by
    rw [someG, if_pos (h n (by omega)), some_diag n _ fun i hi => h i (by omega), List.length_cons]
    omega
theorem count_zero {j : Int} {l : List StE} (h : countL j l = 0) (hn : ∀ s ∈ l, s.2.length ≠ 0) : ∀ s ∈ l, s.1 ≠ j := fun s hs e => by
  unfold countL at h
  have h := List.length_eq_zero_iff.1 h
  have : s.2 = [] := by
    rw [List.flatMap_eq_nil_iff] at h
    have := h s hs
    rwa [if_pos e] at this
  exact hn s hs (by rw [this]; rfl)
def scrL (x y : List (List UInt8)) : List StE := ofG x y (someL (numA x y) (numB x y)) 0 0 []
theorem scr_all {x y : List (List UInt8)} (wx : wholeL x = true) (wy : wholeL y = true) (hx : x.length ≤ 999999) (hy : y.length ≤ 999999) (n : Nat) :
    rightE (-1) (scrL x y) = true ∧ lessL 2 (scrL x y) = x ∧ lessL 1 (scrL x y) = y ∧
    rightP (ofP (scrL x y) n) 0 0 = true ∧ appR x (ofP (scrL x y) n) 0 [] 0 = (y.flatten, 0, -1) ∧
    rightP (ofP (backL (scrL x y)) n) 0 0 = true ∧ appR y (ofP (backL (scrL x y)) n) 0 [] 0 = (x.flatten, 0, -1) ∧
    (ofP (backL (scrL x y)) n).length = (ofP (scrL x y) n).length ∧ ((ofP (scrL x y) n).length = 0 ↔ x.flatten = y.flatten) := by
  have hg := someL_right (numA x y) (numB x y)
  have hR : rightE (-1) (scrL x y) = true := ofG_right _ 0 0 [] (Nat.zero_le _) hg rfl (.inl rfl)
  obtain ⟨h1, h2, h3, h4, h5⟩ := of_all hg
  have h1 : lessL 2 (scrL x y) = x := h1
  have h2 : lessL 1 (scrL x y) = y := h2
  obtain ⟨g1, g2, _⟩ := ofP_all hR h1 h2 wx wy hx n
  obtain ⟨k1, k2, _⟩ := ofP_all (back_all hR).1 ((back_l2 _).trans h2) ((back_l1 _).trans h1) wy wx hy n
  refine ⟨hR, h1, h2, g1, g2, k1, k2, ofP_back hR n, fun h => ofP_nil hR h1 h2 wx wy hx (List.length_eq_zero_iff.1 h), fun h => ?_⟩
  have hxy : x = y := by
    have e1 := wholeL_split x wx
    have e2 := wholeL_split y wy
    rw [h] at e1
    rw [← e1, e2]
  subst hxy
  have e0 : (someL (numA x x) (numB x x)).length = x.length := by
    unfold someL
    rw [numA_len, numB_len, some_diag _ _ fun i hi => num_same x hi]
    simp
  rw [e0] at h3
  have c1 : countL 1 (scrL x x) = 0 := by
    have h4 : countL 0 (scrL x x) + countL 1 (scrL x x) = x.length := h4
    have h3 : countL 0 (scrL x x) = x.length := h3
    omega
  have c2 : countL 2 (scrL x x) = 0 := by
    have h5 : countL 0 (scrL x x) + countL 2 (scrL x x) = x.length := h5
    have h3 : countL 0 (scrL x x) = x.length := h3
    omega
  rw [List.length_eq_zero_iff]
  refine ofP_same hR (fun s hs => ?_) n
  have a1 := count_zero c1 (right_ne hR) s hs
  have a2 := count_zero c2 (right_ne hR) s hs
  have := right_kind hR s hs
  omega
end Go.Proofs.YthpjjjnbkfnghaaGreatDoor
set_option linter.unusedSimpArgs false
set_option linter.unusedVariables false
namespace Go.Proofs.YthpjjjnbkfnghaaGreatDoor
open Go
def wtT (f : List UInt8 → Nat) (ts : List (List UInt8)) : Nat := (ts.map f).sum
def wtL (f : List UInt8 → Nat) (l : List StE) : Nat := (l.map fun s => wtT f s.2).sum
def wtH (f : List UInt8 → Nat) (l : List Hk) : Nat := (l.map fun h => wtL f h.2.2).sum
section
variable (f : List UInt8 → Nat)
theorem wtT_app (a b : List (List UInt8)) : wtT f (a ++ b) = wtT f a + wtT f b := by simp [wtT]
theorem wtL_app (a b : List StE) : wtL f (a ++ b) = wtL f a + wtL f b := by simp [wtL]
theorem wtH_app (a b : List Hk) : wtH f (a ++ b) = wtH f a + wtH f b := by simp [wtH]
theorem wtT_cut (ts : List (List UInt8)) {a b : Nat} (h : a + b ≤ ts.length) : wtT f (ts.take a) + wtT f (ts.drop (ts.length - b)) ≤ wtT f ts := by
  have e : ts = ts.take a ++ ((ts.drop a).take (ts.length - b - a) ++ (ts.drop a).drop (ts.length - b - a)) := by
    rw [List.take_append_drop, List.take_append_drop]
  have e2 : (ts.drop a).drop (ts.length - b - a) = ts.drop (ts.length - b) := by
    rw [List.drop_drop]; congr 1; omega
  rw [e2] at e
  have := congrArg (wtT f) e
  rw [wtT_app, wtT_app] at this
  omega
theorem wt_appP (l : List StE) (k : Int) (ts : List (List UInt8)) : wtL f (appP l k ts) = wtL f l + wtT f ts := by
  by_cases h : ts.length = 0
  · obtain rfl := List.length_eq_zero_iff.1 h
    rw [appP_nil]; rfl
  · rw [appP_ne h, wtL_app]
    simp [wtL]
theorem wt_cls (hs : List Hk) (o : Hk) : wtH f (clsP hs o) ≤ wtH f hs + wtL f o.2.2 := by
  unfold clsP
  split
  · rw [wtH_app]; simp [wtH]
  · omega
theorem wt_step (n : Nat) (b t : Bool) (s : StE) (q : Os) : wtH f (stepPt n b t s q).1 + wtL f (stepPt n b t s q).2.1.2.2 ≤ wtH f q.1 + wtL f q.2.1.2.2 + wtT f s.2 := by
  unfold stepPt
  split
  · dsimp only
    rw [wt_appP]; omega
  · split
    · dsimp only
      rw [wt_appP]; omega
    · rename_i h1 h2
      dsimp only
      have c1 := wt_cls f q.1 (q.2.1.1, q.2.1.2.1, appP q.2.1.2.2 0 (s.2.take (bhP n b s)))
      dsimp only at c1
      rw [wt_appP] at c1
      rw [wt_appP]
      have c2 : bhP n b s + ahP n t s ≤ s.2.length := by
        unfold bhP ahP
        cases b <;> cases t <;> simp at h2 ⊢ <;> omega
      have c3 := wtT_cut f s.2 c2
      have c4 : wtL f [] = 0 := rfl
      omega
theorem wt_ofI (L : List StE) (n : Nat) : ∀ i, i ≤ L.length → wtH f (ofI L n i).1 + wtL f (ofI L n i).2.1.2.2 ≤ wtL f (L.take i)
  | 0, _ => by simp [ofI, wtH, wtL]
  | i + 1, h => by
    have ih := wt_ofI L n i (by omega)
    have st := wt_step f n (decide (i = 0)) (decide (i + 1 = L.length)) (L.getD i (0, [])) (ofI L n i)
    rw [ofI, take_snocE L (0, []) (by omega), wtL_app]
    have e : wtL f [L.getD i (0, [])] = wtT f (L.getD i (0, [])).2 := by simp [wtL]
    omega
theorem wt_ofP (L : List StE) (n : Nat) : wtH f (ofP L n) ≤ wtL f L := by
  have h := wt_ofI f L n L.length (Nat.le_refl _)
  rw [List.take_length] at h
  have c := wt_cls f (ofI L n L.length).1 (ofI L n L.length).2.1
  unfold ofP
  omega
theorem wt_sides (L : List StE) : wtL f L ≤ wtT f (lessL 2 L) + wtT f (lessL 1 L) := by
  induction L with
  | nil => exact Nat.zero_le _
  | cons s L ih =>
    rw [lessL_cons, lessL_cons, wtT_app, wtT_app]
    have e : wtL f (s :: L) = wtT f s.2 + wtL f L := by simp [wtL]
    rw [e]
    have z : wtT f [] = 0 := rfl
    by_cases h2 : s.1 = 2
    · rw [if_pos h2, if_neg (by omega)]
      omega
    · rw [if_neg h2]
      omega
theorem sum_memP {n : Nat} : ∀ {l : List Nat}, n ∈ l → n ≤ l.sum
  | m :: l, h => by
    rw [List.sum_cons]
    rcases List.mem_cons.1 h with rfl | h
    · omega
    · have := sum_memP h; omega
theorem wtT_mem {ts : List (List UInt8)} {t : List UInt8} (h : t ∈ ts) : f t ≤ wtT f ts := by
  unfold wtT
  exact sum_memP (List.mem_map_of_mem h)
theorem wtL_mem {l : List StE} {s : StE} (h : s ∈ l) : wtT f s.2 ≤ wtL f l := by
  unfold wtL
  exact sum_memP (List.mem_map_of_mem (f := fun s : StE => wtT f s.2) h)
theorem wtH_mem {l : List Hk} {s : Hk} (h : s ∈ l) : wtL f s.2.2 ≤ wtH f l := by
  unfold wtH
  exact sum_memP (List.mem_map_of_mem (f := fun s : Hk => wtL f s.2.2) h)
theorem wt_less (j : Int) (l : List StE) : wtT f (lessL j l) ≤ wtL f l := by
  induction l with
  | nil => exact Nat.zero_le _
  | cons s l ih =>
    rw [lessL_cons, wtT_app]
    have e : wtL f (s :: l) = wtT f s.2 + wtL f l := by simp [wtL]
    have z : wtT f [] = 0 := rfl
    rw [e]
    split <;> omega
theorem wt_new (l : List Hk) : wtT f (newH l) ≤ wtH f l := by
  induction l with
  | nil => exact Nat.zero_le _
  | cons h l ih =>
    have e : newH (h :: l) = lessL 1 h.2.2 ++ newH l := rfl
    have e2 : wtH f (h :: l) = wtL f h.2.2 + wtH f l := by simp [wtH]
    have := wt_less f 1 h.2.2
    rw [e, e2, wtT_app]
    omega
end
theorem wt_one (ts : List (List UInt8)) : wtT (fun _ => 1) ts = ts.length := by
  induction ts with
  | nil => rfl
  | cons t ts ih => unfold wtT at ih ⊢; rw [List.map_cons, List.sum_cons, ih, List.length_cons]; omega
theorem wt_flat (ts : List (List UInt8)) : wtT List.length ts = ts.flatten.length := by
  induction ts with
  | nil => rfl
  | cons t ts ih => unfold wtT at ih ⊢; rw [List.map_cons, List.sum_cons, ih, List.flatten_cons, List.length_append]
theorem wt_plus (c : Nat) (ts : List (List UInt8)) : wtT (fun t => t.length + c) ts = ts.flatten.length + c * ts.length := by
  induction ts with
  | nil => rfl
  | cons t ts ih => unfold wtT at ih ⊢; rw [List.map_cons, List.sum_cons, ih, List.flatten_cons, List.length_append, List.length_cons, Nat.mul_add]; omega
theorem wt_cnt {l : List StE} (h : ∀ s ∈ l, s.2.length ≠ 0) : l.length ≤ wtL (fun _ => 1) l := by
  induction l with
  | nil => exact Nat.zero_le _
  | cons s l ih =>
    have e : wtL (fun _ => 1) (s :: l) = wtT (fun _ => 1) s.2 + wtL (fun _ => 1) l := by simp [wtL]
    have h1 := h s (List.mem_cons_self ..)
    have h2 := ih fun x hx => h x (List.mem_cons_of_mem _ hx)
    rw [wt_one] at e
    rw [e, List.length_cons]
    omega
theorem right_chg : ∀ {l : List Hk} {n s : Int}, rightP l n s = true → ∀ h ∈ l, chgP h.2.2 = true
  | [], _, _, _, h, hm => by cases hm
  | g :: r, n, s, hr, h, hm => by
    rw [rightP, Bool.and_eq_true] at hr
    rcases List.mem_cons.1 hm with rfl | hm
    · have := hr.1
      unfold hunkP at this
      simp only [Bool.and_eq_true] at this
      exact this.1.2.1
    · exact right_chg hr.2 h hm
theorem wt_hcnt {l : List Hk} (h : ∀ x ∈ l, 1 ≤ wtL (fun _ => 1) x.2.2) : l.length ≤ wtH (fun _ => 1) l := by
  induction l with
  | nil => exact Nat.zero_le _
  | cons s l ih =>
    have e : wtH (fun _ => 1) (s :: l) = wtL (fun _ => 1) s.2.2 + wtH (fun _ => 1) l := by simp [wtH]
    have h1 := h s (List.mem_cons_self ..)
    have h2 := ih fun x hx => h x (List.mem_cons_of_mem _ hx)
    rw [e, List.length_cons]
    omega
theorem line_le (k : Int) (t : List UInt8) : (lineP k t).length ≤ t.length + 12 := by
  unfold lineP
  split
  · simp
  · simp [noEndB]
theorem lines_le (k : Int) (ts : List (List UInt8)) : (linesT k ts).length ≤ wtT (fun t => t.length + 12) ts := by
  induction ts with
  | nil => exact Nat.zero_le _
  | cons t ts ih =>
    have := line_le k t
    unfold linesT at ih ⊢
    unfold wtT at ih ⊢
    rw [List.map_cons, List.flatten_cons, List.length_append, List.map_cons, List.sum_cons]
    omega
theorem steps_le (l : List StE) : (stepsT l).length ≤ wtL (fun t => t.length + 12) l := by
  induction l with
  | nil => exact Nat.zero_le _
  | cons s l ih =>
    have := lines_le s.1 s.2
    have e : wtL (fun t => t.length + 12) (s :: l) = wtT (fun t => t.length + 12) s.2 + wtL (fun t => t.length + 12) l := by simp [wtL]
    have e2 : stepsT (s :: l) = linesT s.1 s.2 ++ stepsT l := rfl
    rw [e, e2, List.length_append]
    omega
theorem of_sizes {L : List StE} {x y : List (List UInt8)} (hr : rightE (-1) L = true) (hx : lessL 2 L = x) (hy : lessL 1 L = y) (wx : wholeL x = true) (wy : wholeL y = true) (hc : x.length + y.length < 10000) (hb : x.flatten.length + y.flatten.length ≤ 1000000) (n : Nat) :
    (L.length < 10000 ∧ ∀ s ∈ L, s.2.length ≤ 10000) ∧ okHs (ofP L n) ∧ ((newH (ofP L n)).length ≤ 50000000 ∧ (newH (ofP L n)).flatten.length ≤ 10000000000) ∧ (∀ h ∈ ofP L n, (0 ≤ h.1 ∧ h.1 ≤ 1000000) ∧ 0 ≤ h.2.1 ∧ h.2.1 ≤ 100000000) ∧ (txtH (ofP L n)).length ≤ 5000000 ∧ ∀ h ∈ ofP L n, okHk h := by
  obtain ⟨hR, _, hB⟩ := ofP_all hr hx hy wx wy (by omega) n
  have s1 := wt_sides (fun _ => 1) L
  have s2 := wt_sides List.length L
  have s3 := wt_sides (fun t => t.length + 12) L
  rw [hx, hy, wt_one, wt_one] at s1
  rw [hx, hy, wt_flat, wt_flat] at s2
  rw [hx, hy, wt_plus, wt_plus] at s3
  have o1 := wt_ofP (fun _ => 1) L n
  have o2 := wt_ofP List.length L n
  have o3 := wt_ofP (fun t => t.length + 12) L n
  have st1 : ∀ h ∈ ofP L n, okSt h.2.2 := fun h hh => by
    have r := right_mem hR h hh
    have m1 := wtH_mem (fun _ => 1) hh
    have m2 := wtH_mem List.length hh
    refine ⟨⟨?_, fun s hs => ?_⟩, fun s hs t ht => ?_, fun j => ?_⟩
    · have := wt_cnt (right_ne r)
      omega
    · have := wtL_mem (fun _ => 1) hs
      rw [wt_one] at this
      omega
    · have a1 := wtL_mem List.length hs
      have a2 := wtT_mem List.length ht
      omega
    · have := wt_less List.length j h.2.2
      rw [wt_flat] at this
      omega
  have hlen : (ofP L n).length ≤ wtH (fun _ => 1) (ofP L n) := wt_hcnt fun h hh => by
    have r := right_mem hR h hh
    have c := right_chg hR h hh
    have := wt_cnt (right_ne r)
    have : h.2.2 ≠ [] := fun e => by rw [e] at c; cases c
    have := List.length_pos_iff.2 this
    omega
  refine ⟨⟨?_, fun s hs => ?_⟩, ⟨by omega, st1⟩, ⟨?_, ?_⟩, fun h hh => ?_, ?_, fun h hh => ?_⟩
  · have := wt_cnt (right_ne hr)
    omega
  · have := wtL_mem (fun _ => 1) hs
    rw [wt_one] at this
    omega
  · have := wt_new (fun _ => 1) (ofP L n)
    rw [wt_one] at this
    omega
  · have := wt_new List.length (ofP L n)
    rw [wt_flat] at this
    omega
  · obtain ⟨b1, b2, b3⟩ := hB h hh
    obtain ⟨g1, g2, _⟩ := right_ok hR h hh
    omega
  · have key : ∀ l : List Hk, (∀ h ∈ l, h ∈ ofP L n) → (txtH l).length ≤ 80 * l.length + wtH (fun t => t.length + 12) l := by
      intro l
      induction l with
      | nil => exact fun _ => Nat.zero_le _
      | cons h l ih =>
        intro hm
        have hh := hm h (List.mem_cons_self ..)
        have ih := ih fun x hx => hm x (List.mem_cons_of_mem _ hx)
        obtain ⟨b1, b2, b3⟩ := hB h hh
        obtain ⟨g1, g2, _⟩ := right_ok hR h hh
        obtain ⟨⟨k1, k2⟩, _⟩ := st1 h hh
        have c0 := Nat.le_trans (countL_le k2 0) (Nat.mul_le_mul_right _ (show h.2.2.length ≤ 10000 by omega))
        have c1 := Nat.le_trans (countL_le k2 1) (Nat.mul_le_mul_right _ (show h.2.2.length ≤ 10000 by omega))
        have c2 := Nat.le_trans (countL_le k2 2) (Nat.mul_le_mul_right _ (show h.2.2.length ≤ 10000 by omega))
        have l1 := place_len (a := h.1) (n := (countL 0 h.2.2 : Int) + countL 1 h.2.2) b1 (by omega) (by omega) (by omega)
        have l2 := place_len (a := h.2.1) (n := (countL 0 h.2.2 : Int) + countL 2 h.2.2) b2 (by omega) (by omega) (by omega)
        have e : txtH (h :: l) = headP h ++ stepsT h.2.2 ++ txtH l := rfl
        have e2 : wtH (fun t => t.length + 12) (h :: l) = wtL (fun t => t.length + 12) h.2.2 + wtH (fun t => t.length + 12) l := by simp [wtH]
        have e3 := steps_le h.2.2
        have e4 : (headP h).length ≤ 80 := by
          unfold headP
          simp only [List.length_append, opnB, btwB, clsB, List.length_cons, List.length_nil]
          omega
        rw [e, e2, List.length_append, List.length_append, List.length_cons]
        omega
    have := key (ofP L n) fun _ h => h
    omega
  · obtain ⟨b1, b2, b3⟩ := hB h hh
    obtain ⟨g1, g2, g3⟩ := right_ok hR h hh
    exact ⟨⟨b1, g2, b2, by omega⟩, g1, g3⟩
end Go.Proofs.YthpjjjnbkfnghaaGreatDoor
set_option linter.unusedSimpArgs false
set_option linter.unusedVariables false
set_option maxRecDepth 100000
set_option maxHeartbeats 8000000
namespace Go.Proofs.YthpjjjnbkfnghaaGreatDoor
open Go
inductive Rd where
  | e
  | h (l : List Hk) (A B : Int)
  | s (l : List Hk) (A B : Int) (st : List StE) (k : Int) (ts : List (List UInt8)) (t : List UInt8)
def Rd.val : Rd → List Hk
  | .e => []
  | .h l A B => l ++ [(A, B, [])]
  | .s l A B st k ts t => l ++ [(A, B, st ++ [(k, ts ++ [t])])]
def Rd.len : Rd → Nat
  | .e => 0
  | .h l _ _ => l.length + 1
  | .s l _ _ _ _ _ _ => l.length + 1
def Rd.small (n : Nat) : Rd → Prop
  | .e => True
  | .h l _ _ => l.length < n
  | .s l _ _ st _ ts t => l.length + st.length + ts.length < n ∧ t.length ≤ 1000000000
def Rd.rows (v v1 v2 : Nat) : Rd → List (Nat × Row)
  | .e => [(0, rHk v [])]
  | .h l A B => [(0, rHx v l A B .em)]
  | .s l A B st k ts t => [(0, rHx v l A B (.ow 1 v1 (st.length + 1))), (1, rSx v1 st k (.ow 2 v2 (ts.length + 1))), (2, rowL v2 9 eS (ts ++ [t]))]
theorem lines_lined {l : List Hk} (h : ∀ x ∈ l, okHk x) : ∀ x ∈ linesH l, linedP x := fun x hx => by
  unfold linesH at hx
  obtain ⟨k, hk, hx⟩ := List.mem_flatMap.1 hx
  obtain ⟨⟨h1, h2, h3, h4⟩, hr, ho⟩ := h k hk
  rcases List.mem_cons.1 hx with rfl | hx
  · exact head_lined h1 h3
  · obtain ⟨s, hs, hx⟩ := List.mem_flatMap.1 hx
    unfold stepLs at hx
    obtain ⟨t, ht, hx⟩ := List.mem_flatMap.1 hx
    exact lns_lined (right_kind hr s hs) (ho s hs t ht) x hx
theorem lines_hd {l : List Hk} (h : ∀ x ∈ l, okHk x) (hlen : (txtH l).length ≤ 100000000) : ∀ x ∈ linesH l, isHd x = true → okHd x := fun x hx hd => by
  have hxl : x.length ≤ 100000000 := by
    have h1 := wtT_mem List.length hx
    rw [wt_flat, lines_flat] at h1
    omega
  unfold linesH at hx
  obtain ⟨k, hk, hx⟩ := List.mem_flatMap.1 hx
  obtain ⟨⟨h1, h2, h3, h4⟩, hr, ho⟩ := h k hk
  rcases List.mem_cons.1 hx with rfl | hx
  · obtain ⟨g1, g2, g3, _⟩ := head_read k h1 h2 h3 h4
    refine ⟨by omega, g1, g3, ?_⟩
    rw [g2]
    exact ⟨⟨by dsimp only; omega, by dsimp only; omega⟩, by dsimp only; omega, by dsimp only; omega⟩
  · exfalso
    obtain ⟨s, hs, hx⟩ := List.mem_flatMap.1 hx
    unfold stepLs at hx
    obtain ⟨t, ht, hx⟩ := List.mem_flatMap.1 hx
    have hsg := fun u => (sgn_facts (right_kind hr s hs) u).1
    unfold lnsP at hx
    split at hx
    · rw [List.mem_singleton] at hx
      subst hx
      rw [hsg] at hd
      cases hd
    · rcases List.mem_cons.1 hx with rfl | hx
      · rw [hsg] at hd
        cases hd
      · rw [List.mem_singleton] at hx
        subst hx
        revert hd
        decide
attribute [local irreducible] AW AVle ASle RowLe
def pGood (l : List Hk) : Prop := rightP l 0 0 = true ∧ (∀ x ∈ l, okHk x) ∧ okHs l ∧ (∀ h ∈ l, (0 ≤ h.1 ∧ h.1 ≤ 1000000) ∧ 0 ≤ h.2.1 ∧ h.2.1 ≤ 100000000) ∧ (txtH l).length ≤ 50000000
def Rd.at (s : List UInt8) (ls : List (List UInt8)) (i : Nat) (x : Rd) (v v1 v2 nx : Nat) : AS :=
  (Sh.mk [(0, .st s), (4, .ow 0 v x.len), (10, sL eS ls), (11, .val (.int .i64 ls.length)), (12, .val (.int .i64 i))] (x.rows v v1 v2) 43 3 nx []).st
theorem hk_end {l : List Hk} {A B : Int} {st : List StE} {x : AV} (hx : AVle x (sL (eP eI (eL eS)) st)) : ∀ i, i < l.length + 1 → ∀ j, j < 3 → AVle (apC l.length (fun i => (eP eI (eP eI (eL (eP eI (eL eS))))).enc (l.getD i (0, 0, []))) (fun _ j => if j = 0 then .val (.int .i64 A) else if j = 1 then .val (.int .i64 B) else x) i j) ((eP eI (eP eI (eL (eP eI (eL eS))))).enc ((l ++ [(A, B, st)]).getD i (0, 0, [])) j) := fun i hi j hj => by
  unfold apC
  by_cases h : i < l.length
  · rw [if_pos h, show (l ++ [(A, B, st)]).getD i (0, 0, []) = l.getD i (0, 0, []) by simp [List.getD, List.getElem?_append_left h]]
    exact AVle.refl _
  · obtain rfl : i = l.length := by omega
    rw [if_neg h, show (l ++ [(A, B, st)]).getD l.length (0, 0, []) = (A, B, st) by simp [List.getD]]
    match j, hj with
    | 0, _ => exact AVle.refl _
    | 1, _ => exact AVle.refl _
    | 2, _ => exact hx
theorem hk_fz2 {v1 n z : Nat} {cc : Nat → Nat → AV} {l : List Hk} {A B : Int} {x : AV} {i j : Nat} (hi : i < l.length + 1) (hj : j < 3) (hx : AVle (.sn n z cc) x) :
    AVle (fz 1 v1 n z cc (apC l.length (fun i => (eP eI (eP eI (eL (eP eI (eL eS))))).enc (l.getD i (0, 0, []))) (fun _ j => if j = 0 then .val (.int .i64 A) else if j = 1 then .val (.int .i64 B) else .ow 1 v1 n) i j)) (apC l.length (fun i => (eP eI (eP eI (eL (eP eI (eL eS))))).enc (l.getD i (0, 0, []))) (fun _ j => if j = 0 then .val (.int .i64 A) else if j = 1 then .val (.int .i64 B) else x) i j) := by
  unfold apC
  split
  · match j, hj with
    | 0, _ => exact AVle.refl _
    | 1, _ => exact AVle.refl _
    | 2, _ => exact AVle.refl _
  · match j, hj with
    | 0, _ => exact AVle.refl _
    | 1, _ => exact AVle.refl _
    | 2, _ =>
      have e : fz 1 v1 n z cc (.ow 1 v1 n) = .sn n z cc := if_pos ⟨rfl, rfl, Nat.le_refl _⟩
      show AVle (fz 1 v1 n z cc (.ow 1 v1 n)) x
      rw [e]
      exact hx
theorem Rd.full (s : List UInt8) (ls : List (List UInt8)) (i : Nat) (x : Rd) (v v1 v2 nx : Nat) :
    ASle (x.at s ls i v v1 v2 nx) (Sh.mk [(0, .st s), (4, .ow 0 v x.val.length), (10, sL eS ls), (11, .val (.int .i64 ls.length)), (12, .val (.int .i64 i))] [(0, rHk v x.val)] 43 3 nx []).st := by
  cases x with
  | e => exact ASle.refl _
  | h l A B =>
    refine toFitsV (fun p => p) ?_
    simp only [go_sem, Rd.at, Rd.len, Rd.rows, Rd.val, List.length_append, List.length_cons, List.length_nil]
    exact RowLe.sl (by simp) (hk_end (em_sL _))
  | s l A B st k ts t =>
    refine (ASle.freeze 2 v2 9 1 (ts.length + 1) (fun i => eS.enc ((ts ++ [t]).getD i [])) (by show rowL v2 9 eS (ts ++ [t]) = _; exact rowL_snoc _ _ _ _) (fun _ _ _ _ => rfl)).trans ?_
    refine ASle.trans (b := (Sh.mk [(0, .st s), (4, .ow 0 v (l.length + 1)), (10, sL eS ls), (11, .val (.int .i64 ls.length)), (12, .val (.int .i64 i))] [(0, rHx v l A B (.ow 1 v1 (st.length + 1))), (1, .sl v1 86 2 (st.length + 1) fun i => (eP eI (eL eS)).enc ((st ++ [(k, ts ++ [t])]).getD i (0, [])))] 43 3 nx []).st) (toFitsV (fun p => p) ?_) ?_
    · simp only [go_sem, Rd.at, Rd.len, Rd.rows, Rd.val]
      exact ⟨hk_fz, RowLe.sl (by simp) steps_end⟩
    refine (ASle.freeze 1 v1 86 2 (st.length + 1) (fun i => (eP eI (eL eS)).enc ((st ++ [(k, ts ++ [t])]).getD i (0, []))) rfl (fun _ _ j hj => match j, hj with | 0, _ => rfl | 1, _ => rfl)).trans (toFitsV (fun p => p) ?_)
    simp only [go_sem, Rd.val, List.length_append, List.length_cons, List.length_nil]
    refine RowLe.sl (by simp) fun i hi j hj => (hk_fz2 hi hj ?_).trans (hk_end (x := sL (eP eI (eL eS)) (st ++ [(k, ts ++ [t])])) (AVle.refl _) i hi j hj)
    unfold sL
    rw [show (st ++ [(k, ts ++ [t])]).length = st.length + 1 by simp]
    exact AVle.refl _
theorem Rd.small.len {n : Nat} {x : Rd} (h : x.small n) : x.val.length ≤ n := by
  cases x with
  | e => exact Nat.zero_le _
  | h l A B =>
    have h : l.length < n := h
    simp [Rd.val]; omega
  | s l A B st k ts t =>
    obtain ⟨h, _⟩ : l.length + st.length + ts.length < n ∧ t.length ≤ 1000000000 := h
    simp [Rd.val]; omega
theorem Rd.small.step {n : Nat} {x : Rd} {A B : Int} (h : x.small n) : (Rd.h x.val A B).small (n + 1) := Nat.lt_succ_of_le h.len
theorem rd1_head {x : Rd} {line : List UInt8} {m : List Hk} (hd : isHd line = true) (h : rd1 x.val line = some m) : m = (Rd.h x.val (rdH line).1 (rdH line).2.1).val := by
  unfold rd1 at h
  rw [if_pos hd] at h
  split at h
  · simp only [Option.some.injEq] at h
    rw [← h]
    rfl
  · cases h
def sParseP : Spec := Spec.f1 kS (fun s => ∃ l, pGood l ∧ s = txtH l) (fun s => tu2 (sL (eP eI (eP eI (eL (eP eI (eL eS))))) (parseP s).1) (kI.enc 0))
theorem okParseP : SpecOK Tryz.prog 31 sParseP := by
  refine SpecOK.f1 Tryz.func31 rfl (by decide) Tryz.results31 Tryz.ntmps31 (by decide) fun s ⟨fin, ⟨hR, hok, hs1, hs2, hs3⟩, hs⟩ => ?_
  have hΓ : GOK Tryz.prog (gam [(26, sSplit), (85, sHasPre), (86, sReadH), (87, sReadL), (49, sRightP), (32, sTextPt)]) := (.cons okSplit (.cons okHasPre (.cons okReadH (.cons okReadL (.cons okRightP (.cons okTextPt .nil))))))
  have eT : textP0 fin = s := by unfold textP0; rw [if_pos hR, hs]
  have eP0 : parseP s = (fin, 0) := by rw [← eT]; exact parse_txt hR hok
  have hsl : s.length ≤ 50000000 := by rw [hs]; exact hs3
  have hlines : splitL s = linesH fin := by rw [hs]; exact split_txt hok
  have hall : rdAll (splitL s) [] = some fin := by rw [hlines]; exact rd_back fin [] hok
  have hlin : ∀ x ∈ splitL s, linedP x := by rw [hlines]; exact lines_lined hok
  have hhd : ∀ x ∈ splitL s, isHd x = true → okHd x := by rw [hlines]; exact lines_hd hok (by omega)
  have hll : ∀ x ∈ splitL s, x.length ≤ 100000000 := fun x hx => by
    have h1 := wtT_mem List.length hx
    rw [wt_flat, splitL_flat] at h1
    omega
  have hol := splitL_len s
  rw [eP0]
  refine AW.of hΓ mixed [2] _ _ _ rfl ?_
  simp only [go_sem, sSplit, sHasPre, sReadH, sReadL, sRightP, sTextPt]
  refine ⟨by omega, ?_⟩
  generalize splitL s = ls at *
  refine AW.adopt 4 84 3 (fun i => (eP eI (eP eI (eL (eP eI (eL eS))))).enc (([] : List Hk).getD i (0, 0, []))) rfl ?_
  refine AW.to (fun x : Nat => Sh.st ⟨[(0, .st s), (4, sL (eP eI (eP eI (eL (eP eI (eL eS))))) fin)], [], 43, 3, x, []⟩) ?_ fun x => ?_
  · refine AW.block (AW.roundL (α := { y : Nat × Rd × Nat × Nat × Nat × Nat // y.1 ≤ ls.length ∧ rdAll (ls.drop y.1) y.2.1.val = some fin ∧ y.2.1.small y.1 }) (fun y => Rd.at s ls y.1.1 y.1.2.1 y.1.2.2.1 y.1.2.2.2.1 y.1.2.2.2.2.1 y.1.2.2.2.2.2) (fun y => ls.length - y.1.1) ⟨(0, .e, 0, 0, 0, 1), Nat.zero_le _, hall, trivial⟩ ?_ ?_)
    · refine toFitsV (fun p => p) ?_
      simp only [go_sem, sSplit, sHasPre, sReadH, sReadL, sRightP, sTextPt, Rd.len, Rd.rows, hk_sz]
      exact RowLe.refl _
    · rintro ⟨⟨i, x, v, v1, v2, nx⟩, hi0, hr0, hsm0⟩
      have hi : i ≤ ls.length := hi0
      have hr : rdAll (ls.drop i) x.val = some fin := hr0
      have hsm : x.small i := hsm0
      dsimp only
      rcases Nat.lt_or_ge i ls.length with hlt | hge
      · have hlI : ((i : Int) < (ls.length : Nat)) = True := eq_true (by omega)
        have hm : ls.getD i [] ∈ ls := by
          simp only [List.getD, List.getElem?_eq_getElem hlt, Option.getD_some]
          exact List.getElem_mem _
        have hd : ls.drop i = ls.getD i [] :: ls.drop (i + 1) := by
          rw [List.drop_eq_getElem_cons hlt]
          simp [List.getD, List.getElem?_eq_getElem hlt]
        rw [hd, rdAll] at hr
        have l1 := hlin _ hm
        have l2 := hhd _ hm
        have l3 := hll _ hm
        generalize hg : ls.getD i [] = line at *
        have hne : line ≠ [] := by
          obtain ⟨p, _, rfl⟩ := l1
          simp
        cases h1 : rd1 x.val line with
        | none => rw [h1] at hr; cases hr
        | some m =>
          rw [h1] at hr
          dsimp only at hr
          by_cases hh : isHd line = true
          · have em := rd1_head hh h1
            have ep : Lib.hasPrefix line [37, 37, 32, 45] = true := hh
            refine AW.le (Rd.full s ls i x v v1 v2 nx) ?_
            have hsl2 := hsm.len
            refine AW.of hΓ mixed [99999] _ _ _ rfl ?_
            simp only [go_sem, sSplit, sHasPre, sReadH, sReadL, sRightP, sTextPt, hk_sz, hlI, hg, ep, outHead]
            refine ⟨by omega, l2 hh, by omega, by omega, ⟨(i + 1, .h x.val (rdH line).1 (rdH line).2.1, nx + 1, 0, 0, nx + 2), by dsimp only; omega, by rw [em] at hr; exact hr, hsm.step⟩, toFitsV (fun p => p) ?_, by dsimp only; omega⟩
            simp only [go_sem, sSplit, sHasPre, sReadH, sReadL, sRightP, sTextPt, Rd.len, Rd.rows, hk_sz]
            refine ⟨by omega, RowLe.sl rfl fun i hi j hj => ?_⟩
            · unfold apC
              split
              · exact AVle.refl _
              · obtain rfl : i = x.val.length := by omega
                rw [Nat.sub_self]
                match j, hj with
                | 0, _ => exact AVle.refl _
                | 1, _ => exact AVle.refl _
                | 2, _ => exact AVle.refl _
          · have ep : Lib.hasPrefix line [37, 37, 32, 45] = false := by
              cases h : isHd line with
              | true => exact absurd h hh
              | false => exact h
            have hL : rdL x.val line = some m := by
              unfold rd1 at h1
              rwa [if_neg hh] at h1
            cases x with
            | e => cases hL
            | h l A B =>
              obtain ⟨n1, n2, em⟩ := rdL_h hL
              refine AW.of hΓ mixed [99999] _ _ _ rfl ?_
              simp only [go_sem, sSplit, sHasPre, sReadH, sReadL, sRightP, sTextPt, hk_sz, hlI, hg, ep, Rd.at, Rd.len, Rd.rows]
              have hsm : l.length < i := hsm
              refine ⟨by omega, .inl ⟨v, l, A, B, line, rfl, rfl, rfl, by omega, hne, by omega, n1, n2, fun w1 w2 nx' h2 => ?_⟩⟩
              simp only [go_sem, sSplit, sHasPre, sReadH, sReadL, sRightP, sTextPt, hlI]
              refine ⟨by omega, ⟨(i + 1, .s l A B [] (kindB line) [] (line.drop 1), v, w1, w2, nx'), by dsimp only; omega, by rw [em] at hr; exact hr, ⟨by simp; omega, by rw [List.length_drop]; omega⟩⟩, toFitsV (fun p => p) ?_, by dsimp only; omega⟩
              simp only [go_sem, sSplit, sHasPre, sReadH, sReadL, sRightP, sTextPt, Rd.len, Rd.rows, hk_sz, st_sz]
              exact ⟨by omega, RowLe.refl _, RowLe.refl _, RowLe.refl _⟩
            | s l A B st k ts t =>
              refine AW.of hΓ mixed [99999] _ _ _ rfl ?_
              simp only [go_sem, sSplit, sHasPre, sReadH, sReadL, sRightP, sTextPt, hk_sz, hlI, hg, ep, Rd.at, Rd.len, Rd.rows]
              obtain ⟨hsm1, hsm2⟩ : l.length + st.length + ts.length < i ∧ t.length ≤ 1000000000 := hsm
              refine ⟨by omega, .inr ⟨v, v1, v2, l, A, B, st, k, ts, t, line, rfl, by rw [← rowL_snoc], rfl, ⟨by omega, by omega, by omega, by omega⟩, hne, by omega, fun ha nx' h2 => ?_, fun hb => ?_⟩⟩
              · simp only [go_sem, sSplit, sHasPre, sReadH, sReadL, sRightP, sTextPt, hlI]
                rcases rdL_s hL with ⟨_, em⟩ | ⟨q, _⟩
                · have := trimS_le t [10]
                  refine ⟨by omega, ⟨(i + 1, .s l A B st k ts (Lib.trimSuffix t [10]), v, v1, v2, nx'), by dsimp only; omega, by rw [em] at hr; exact hr, ⟨by dsimp only; omega, by omega⟩⟩, toFitsV (fun p => p) ?_, by dsimp only; omega⟩
                  simp only [go_sem, sSplit, sHasPre, sReadH, sReadL, sRightP, sTextPt, Rd.len, Rd.rows, hk_sz, st_sz]
                  exact ⟨by omega, RowLe.refl _, RowLe.refl _, RowLe.refl _⟩
                · exact absurd ha q
              · rcases rdL_s hL with ⟨q, _⟩ | ⟨_, n2, hc⟩
                · exact absurd q hb
                refine ⟨n2, fun hk w2 nx' h2 => ?_, fun hk w1 w2 nx' h2 => ?_⟩
                · rcases hc with ⟨_, em⟩ | ⟨q, _⟩
                  · simp only [go_sem, sSplit, sHasPre, sReadH, sReadL, sRightP, sTextPt, hlI]
                    refine ⟨by omega, ⟨(i + 1, .s l A B st k (ts ++ [t]) (line.drop 1), v, v1, w2, nx'), by dsimp only; omega, by rw [em] at hr; exact hr, ⟨by simp; omega, by rw [List.length_drop]; omega⟩⟩, toFitsV (fun p => p) ?_, by dsimp only; omega⟩
                    simp only [go_sem, sSplit, sHasPre, sReadH, sReadL, sRightP, sTextPt, Rd.len, Rd.rows, hk_sz, st_sz]
                    exact ⟨by omega, RowLe.refl _, RowLe.refl _, RowLe.refl _⟩
                  · exact absurd hk q
                · rcases hc with ⟨q, _⟩ | ⟨_, em⟩
                  · exact absurd q hk
                  · simp only [go_sem, sSplit, sHasPre, sReadH, sReadL, sRightP, sTextPt, hlI]
                    refine ⟨by omega, ⟨(i + 1, .s l A B (st ++ [(k, ts ++ [t])]) (kindB line) [] (line.drop 1), v, w1, w2, nx'), by dsimp only; omega, by rw [em] at hr; exact hr, ⟨by simp; omega, by rw [List.length_drop]; omega⟩⟩, toFitsV (fun p => p) ?_, by dsimp only; omega⟩
                    simp only [go_sem, sSplit, sHasPre, sReadH, sReadL, sRightP, sTextPt, Rd.len, Rd.rows, hk_sz, st_sz]
                    exact ⟨by omega, RowLe.refl _, RowLe.refl _, RowLe.refl _⟩
      · obtain rfl : i = ls.length := by omega
        have hlI : ((ls.length : Int) < (ls.length : Nat)) = False := eq_false (by omega)
        rw [List.drop_length, rdAll, Option.some.injEq] at hr
        have hfull := Rd.full s ls ls.length x v v1 v2 nx
        rw [hr] at hfull
        refine AW.le (hfull.trans ((ASle.freeze (st := Sh.st ⟨[(0, .st s), (4, .ow 0 v fin.length), (10, sL eS ls), (11, .val (.int .i64 ls.length)), (12, .val (.int .i64 ls.length))], [(0, rHk v fin)], 43, 3, nx, []⟩) 0 v 84 3 fin.length (fun i => (eP eI (eP eI (eL (eP eI (eL eS))))).enc (fin.getD i (0, 0, []))) rfl (fun _ _ j hj => match j, hj with | 0, _ => rfl | 1, _ => rfl | 2, _ => rfl)).trans (toFitsV (fun p => p) (l := [(0, .st s), (4, sL (eP eI (eP eI (eL (eP eI (eL eS))))) fin), (10, sL eS ls), (11, .val (.int .i64 ls.length)), (12, .val (.int .i64 ls.length))]) (r := []) (sz := 43) (top := 3) (nx := nx) (df := []) ?_))) ?_
        · simp only [go_sem, sSplit, sHasPre, sReadH, sReadL, sRightP, sTextPt, hk_sz]
          exact AVle.refl _
        refine AW.of hΓ mixed [99999] _ _ _ rfl ?_
        simp only [go_sem, sSplit, sHasPre, sReadH, sReadL, sRightP, sTextPt, hk_sz, hlI]
        refine ⟨nx, toFits ?_⟩
        simp only [go_sem, sSplit, sHasPre, sReadH, sReadL, sRightP, sTextPt, hk_sz]
  · simp only [go_sem, sSplit, sHasPre, sReadH, sReadL, sRightP, sTextPt, hk_sz, hR, eT]
    exact ⟨hs1, hs1, hs2, by omega⟩
end Go.Proofs.YthpjjjnbkfnghaaGreatDoor
set_option linter.unusedSimpArgs false
set_option linter.unusedVariables false
set_option maxRecDepth 100000
set_option maxHeartbeats 8000000
namespace Go.Proofs.YthpjjjnbkfnghaaGreatDoor
open Go
theorem u64_modP (n : Int) (k : Int) (hk : 0 < k) : 0 ≤ (IntKind.u64.wrap n).tmod k ∧ (IntKind.u64.wrap n).tmod k < k := by
  have h : 0 ≤ IntKind.u64.wrap n := by rw [IntKind.wrap_u64]; omega
  exact ⟨Int.tmod_nonneg _ h, Int.tmod_lt_of_pos _ hk⟩
structure ScrOK (a b : List UInt8) (n : Nat) : Prop where
  len : (scrL (splitL a) (splitL b)).length < 10000
  each : ∀ s ∈ scrL (splitL a) (splitL b), s.2.length ≤ 10000
  kinds : ∀ s ∈ scrL (splitL a) (splitL b), 0 ≤ s.1 ∧ s.1 ≤ 2
  right : rightE (-1) (scrL (splitL a) (splitL b)) = true
  blen : (backL (scrL (splitL a) (splitL b))).length < 10000
  beach : ∀ s ∈ backL (scrL (splitL a) (splitL b)), s.2.length ≤ 10000
  bright : rightE (-1) (backL (scrL (splitL a) (splitL b))) = true
  good : pGood (ofP (scrL (splitL a) (splitL b)) n)
  bgood : pGood (ofP (backL (scrL (splitL a) (splitL b))) n)
  new : (newH (ofP (scrL (splitL a) (splitL b)) n)).length ≤ 50000000 ∧ (newH (ofP (scrL (splitL a) (splitL b)) n)).flatten.length ≤ 10000000000
  bnew : (newH (ofP (backL (scrL (splitL a) (splitL b))) n)).length ≤ 50000000 ∧ (newH (ofP (backL (scrL (splitL a) (splitL b))) n)).flatten.length ≤ 10000000000
  app : appA (ofP (scrL (splitL a) (splitL b)) n) a = (b, 0, -1)
  bapp : appA (ofP (backL (scrL (splitL a) (splitL b))) n) b = (a, 0, -1)
  same : (ofP (backL (scrL (splitL a) (splitL b))) n).length = (ofP (scrL (splitL a) (splitL b)) n).length
  none : (ofP (scrL (splitL a) (splitL b)) n).length = 0 ↔ a = b
theorem scr_ok {a b : List UInt8} (hl : (splitL a).length + (splitL b).length < 10000) (hb : a.length + b.length ≤ 1000000) (n : Nat) : ScrOK a b n := by
  have wa := wholeL_splitL _ a (Nat.le_refl _)
  have wb := wholeL_splitL _ b (Nat.le_refl _)
  obtain ⟨h1, h2, h3, h4, h5, h6, h7, h8, h9⟩ := scr_all wa wb (by omega) (by omega) n
  have fa := splitL_flat a
  have fb := splitL_flat b
  obtain ⟨⟨s1, s2⟩, s3, s4, s5, s6, s7⟩ := of_sizes h1 h2 h3 wa wb hl (by rw [fa, fb]; exact hb) n
  have b1 := (back_all h1).1
  obtain ⟨⟨t1, t2⟩, t3, t4, t5, t6, t7⟩ := of_sizes b1 ((back_l2 _).trans h3) ((back_l1 _).trans h2) wb wa (by omega) (by rw [fa, fb]; omega) n
  refine ⟨s1, s2, fun s hs => ?_, h1, t1, t2, b1, ⟨h4, s7, s3, s5, by omega⟩, ⟨h6, t7, t3, t5, by omega⟩, s4, t4, ?_, ?_, h8, ?_⟩
  · have := right_kind h1 s hs
    omega
  · unfold appA
    rw [if_pos h4, h5, fb]
  · unfold appA
    rw [if_pos h6, h7, fa]
  · rw [h9, fa, fb]
attribute [local irreducible] AW AVle ASle RowLe
def sScript : Spec := Spec.f2 kS kS (fun a b => a.length ≤ 100000 ∧ b.length ≤ 100000) (fun a b => sL (eP eI (eL eS)) (scrL (splitL a) (splitL b)))
theorem okScript : SpecOK Tryz.prog 12 sScript := by
  refine SpecOK.f2 Tryz.func12 rfl (by decide) Tryz.results12 Tryz.ntmps12 (by decide) fun a b ⟨ha, hb⟩ => ?_
  have hΓ : GOK Tryz.prog (gam [(37, sRefSplit), (46, sRefNumber), (48, sRefSome), (47, sRefOfE)]) := (.cons okRefSplit (.cons okRefNumber (.cons okRefSome (.cons okRefOfE .nil))))
  have la := splitL_len a
  have lb := splitL_len b
  unfold scrL numA numB
  have hr : rgt ((numF [] [splitL a, splitL b]).getD 0 []) ((numF [] [splitL a, splitL b]).getD 1 []) (-1) (-1) (someL ((numF [] [splitL a, splitL b]).getD 0 []) ((numF [] [splitL a, splitL b]).getD 1 [])) = true := someL_right _ _
  have n0 : ((numF [] [splitL a, splitL b]).getD 0 []).length = (splitL a).length := by simp [numF, numL_len]
  have n1 : ((numF [] [splitL a, splitL b]).getD 1 []).length = (splitL b).length := by simp [numF, numL_len]
  have n3 : (numF [] [splitL a, splitL b]).length = 2 := by rw [numF_len]; rfl
  have s1 := someL_len ((numF [] [splitL a, splitL b]).getD 0 []) ((numF [] [splitL a, splitL b]).getD 1 [])
  have hr2 : rgt (numA (splitL a) (splitL b)) (numB (splitL a) (splitL b)) (-1) (-1) (someL ((numF [] [splitL a, splitL b]).getD 0 []) ((numF [] [splitL a, splitL b]).getD 1 [])) = true := hr
  refine AW.of hΓ mixed [99999] _ _ _ rfl ?_
  simp only [go_sem, sRefSplit, sRefNumber, sRefSome, sRefOfE, hr2]
  refine ⟨by omega, by omega, ⟨by omega, by omega⟩, by omega, by omega, ⟨by omega, by omega⟩, by omega, by omega, by omega⟩
def sShortP : Spec := Spec.f1 kS (fun _ => True) (fun s => kS.enc (s.take 300))
theorem okShortP : SpecOK Tryz.prog 9 sShortP := by
  refine SpecOK.f1 Tryz.func9 rfl (by decide) Tryz.results9 Tryz.ntmps9 (by decide) fun s _ => ?_
  have hΓ : GOK Tryz.prog (gam []) := GOK.nil
  refine AW.of hΓ mixed [] _ _ _ rfl ?_
  simp only [go_sem]
  have e : (min (s.length : Int) 300).toNat = min s.length 300 := by omega
  refine ⟨⟨by omega, by omega⟩, ?_⟩
  rw [e, List.take_eq_take_iff]
  omega
def sToldPt : Spec := Spec.f0 (kB.enc true)
theorem okToldPt : SpecOK Tryz.prog 15 sToldPt := by
  refine SpecOK.f0 Tryz.func15 rfl (by decide) Tryz.results15 Tryz.ntmps15 ?_
  have hΓ : GOK Tryz.prog (gam [(12, sScript), (11, sToE), (10, sOfP), (32, sTextPt), (31, sParseP), (14, sApplyP)]) := (.cons okScript (.cons okToE (.cons okOfP (.cons okTextPt (.cons okParseP (.cons okApplyP .nil))))))
  have hs := scr_ok (a := [97, 10, 98, 10]) (b := [97, 10, 99, 10]) (by decide) (by decide) 1
  have eT : textP0 (ofP (scrL (splitL [97, 10, 98, 10]) (splitL [97, 10, 99, 10])) 1) = [37, 37, 32, 45, 49, 44, 50, 32, 43, 49, 44, 50, 32, 37, 37, 10, 32, 97, 10, 45, 98, 10, 43, 99, 10] := by decide +kernel
  obtain ⟨p1, p2, p3, p4, p5⟩ := hs.good
  have eP := parse_txt p1 p2
  have eX : txtH (ofP (scrL (splitL [97, 10, 98, 10]) (splitL [97, 10, 99, 10])) 1) = textP0 (ofP (scrL (splitL [97, 10, 98, 10]) (splitL [97, 10, 99, 10])) 1) := by unfold textP0; rw [if_pos p1]
  have eA := hs.app
  have h1 := hs.len
  have h2 := hs.each
  have h3 := hs.new
  have h4 := hs.right
  rw [eT] at eP eX
  refine AW.of hΓ mixed [99999] _ _ _ rfl ?_
  simp only [go_sem, sScript, sToE, sOfP, sTextPt, sParseP, sApplyP, h4, eT, eP, eA]
  exact ⟨⟨h1, h2⟩, ⟨h1, h2⟩, ⟨p3, p4, by omega⟩, ⟨_, hs.good, eX.symm⟩, p3, h3⟩
def sPatchTurns : Spec := Spec.f3 kS kS kI (fun _ _ _ => True) (fun _ _ _ => kB.enc true)
theorem okPatchTurns : SpecOK Tryz.prog 3 sPatchTurns := by
  refine SpecOK.f3 Tryz.func3 rfl (by decide) Tryz.results3 Tryz.ntmps3 (by decide) fun a b k _ => ?_
  have hΓ : GOK Tryz.prog (gam [(9, sShortP), (12, sScript), (11, sToE), (10, sOfP), (13, sRefBackE), (14, sApplyP), (15, sToldPt)]) := (.cons okShortP (.cons okScript (.cons okToE (.cons okOfP (.cons okRefBackE (.cons okApplyP (.cons okToldPt .nil)))))))
  have la := splitL_len (a.take 300)
  have lb := splitL_len (b.take 300)
  have l1 : (a.take 300).length ≤ 300 := by rw [List.length_take]; omega
  have l2 : (b.take 300).length ≤ 300 := by rw [List.length_take]; omega
  obtain ⟨k1, k2⟩ := u64_modP k 101 (by decide)
  have k3 : (0 ≤ (IntKind.u64.wrap k).tmod 101) = True := eq_true k1
  have k4 : ((IntKind.u64.wrap k).tmod 101 ≤ 100) = True := eq_true (by omega)
  have hs := scr_ok (a := a.take 300) (b := b.take 300) (by omega) (by omega) ((IntKind.u64.wrap k).tmod 101).toNat
  obtain ⟨p1, p2, p3, p4, p5⟩ := hs.good
  obtain ⟨q1, q2, q3, q4, q5⟩ := hs.bgood
  have e1 := hs.right
  have e2 := hs.bright
  have e3 := hs.app
  have e4 := hs.bapp
  have e5 := hs.same
  have e6 := hs.none
  refine AW.of hΓ mixed [99999] _ _ _ rfl ?_
  simp only [go_sem, sShortP, sScript, sToE, sOfP, sRefBackE, sApplyP, sToldPt, k3, k4, e1, e2, e3, e4, e5]
  refine ⟨by omega, by omega, ⟨hs.len, hs.each⟩, ⟨hs.len, hs.each⟩, by omega, ⟨hs.len, fun s h => ⟨hs.each s h, hs.kinds s h⟩⟩, ⟨hs.blen, hs.beach⟩, ⟨hs.blen, hs.beach⟩, ⟨p3, by omega, hs.new⟩, ⟨q3, by omega, hs.bnew⟩, ?_⟩
  rw [decide_eq_decide, ← e6]
  omega
end Go.Proofs.YthpjjjnbkfnghaaGreatDoor
set_option linter.unusedSimpArgs false
namespace Go.Proofs.YthpjjjnbkfnghaaGreatDoor
open Go Go.ChangeShapes Go.WideShapes Go.ChangeAt Go.RowKit
theorem returns_laid {H : Type} {enc : TypeId × Value → H} {a : Assume} {C : Checked} {os : Go.Os} {f : FuncId} {fn : Func} {s : ChangeSpec} {conds : List PathCond} {apart fresh handsOn again : Bool} {X : World → Array Value → Prop}
    (hX : ∀ (w w' : World) (args : Array Value), w.heap = w'.heap → X w args → X w' args)
    (own : ownKnob C.prog.godebug = none) (started : os.Started) (noInit : C.prog.inits.idxOf? f = none) (hfn : C.prog.funcs[f]? = some fn)
    (witness : ∃ (w : World) (tape : Tape) (i : Input), w.os = os ∧ (w.forCall tape i).Shaped C.prog ∧ i.vars = [] ∧ Input.okWide C.prog (w.forCall tape i) .any w.heap.size f i ∧
      ((s.pre enc C.prog fn conds apart (w.forCall tape i).memory i.args ∧ X (w.forCall tape i).memory i.args) ∧ sizedMet enc C.prog fn (OpenSpec.ofChange s) apart (w.forCall tape i).memory i.args) ∧ a.holds C.prog (lone (Frame.enter C.prog f i.args .normal) [] (w.forCall tape i)))
    (contract : ∀ (W : World) (base : Nat) (args : Array Value) (ds gs : List (DataW H)) (before : List MemPlace),
      (∀ (j : Nat) t v, fn.params[j]? = some t → args[j]? = some v → Value.okWide C.prog W .any base t v) →
      DataW.Whole enc C.prog fn.params.toList s.vars apart W args.toList ds gs before →
      conds.all (PathCond.test C.prog ⟨fn.params.toList, ds, s.plain.varTypes C.prog, gs⟩) = true →
      (DataW.weightsEach C.prog (fn.params.toList ++ s.plain.varTypes C.prog) (ds ++ gs)).all (· ≤ reachBytes) = true → X W args → W.ShapedOpen C.prog →
      a.holds C.prog (lone (Frame.enter C.prog f args .normal) [] W) →
      Calls C.prog f args W fun e W' => ∃ v, e = .returned v ∧ s.post enc C.prog fn apart fresh handsOn again W args v W') :
    ReturnsInHanded a C os f .any (fun w args => (s.pre enc C.prog fn conds apart w args ∧ X w args) ∧ sizedMet enc C.prog fn (OpenSpec.ofChange s) apart w args) (s.post enc C.prog fn apart fresh handsOn again) := by
  refine returnsInHanded_of_calls own started noInit witness ?_
  intro w tape i _ hsh _ hok hpre hholds
  obtain ⟨_, _, _, fn', hfn', _, _, _, _, hval⟩ := hok
  have e : fn' = fn := Option.some.inj (hfn'.symm.trans hfn)
  subst e
  obtain ⟨⟨⟨ds, gs, before, hw, hc⟩, hx⟩, hz⟩ := hpre
  have hw' := DataW.Whole.of_heap (w' := w.forCall tape i) (by rfl) hw
  refine (contract (w.forCall tape i) w.heap.size i.args ds gs before hval hw' hc (hz.weights hw) (hX _ _ _ (by rfl) hx) hsh hholds).mono fun e W' ⟨v, he, hp⟩ => ?_
  subst he
  exact ChangeSpec.post_blind hp
theorem len_shaped {P : Program} {w : World} {g : Nat} {t : TypeId} {zero : Array Value} (h : w.ShapedOpen P) (hg : g < P.globals.size)
    (h0 : ((begin P (fun _ _ => 0) default).world.heap[g]?).bind Obj.row? = some (zero, t)) (hz : zero.size = 1) (hb : P.buildable t = true) (hc : P.cellTypes P.depth t = some [t]) (hu : P.underlying t = some (.int .i64)) :
    ∃ o, w.heap[g]? = some o ∧ ∃ m t' f, o = .cells #[.int .i64 m] t' f := by
  obtain ⟨cs, hh, hs, hr⟩ := h.1 g zero t hg h0
  obtain ⟨ts, hts, _, hall⟩ := hr hb
  rw [hc] at hts
  cases hts
  have h1 : 0 < cs.size := by omega
  obtain ⟨u, hu', hok⟩ := hall 0 cs[0] (by simp [h1])
  have : u = t := by simpa using hu'.symm
  subst this
  unfold Cell.ok at hok
  rw [hu] at hok
  have hcs : cs = #[cs[0]] := by
    apply Array.ext
    · simp; omega
    · intro i h2 h3
      have : i = 0 := by omega
      subst this
      rfl
  cases hv : cs[0] <;> rw [hv] at hok <;> simp at hok
  case int k' n =>
    rw [hok.1] at hv
    rw [hv] at hcs
    exact ⟨_, hh, n, _, _, by rw [hcs]⟩
theorem tab_laid {P : Program} {w : World} {name : String} {k : IntKind} {zs : List Int} {g : Nat} (h : Lib.TabIs P w name k zs) (hg : P.globalNamed name = some g) : ∃ o, w.heap[g]? = some o ∧ ∃ t f, o = .cells (zs.map fun z => Value.int k z).toArray t f := by
  unfold Lib.TabIs World.var? at h
  rw [hg] at h
  simp only [Option.bind_some] at h
  split at h
  · rename_i cs t f hh
    exact ⟨_, hh, t, f, by rw [Option.some.inj h]⟩
  · cases h
theorem tab_vars {P : Program} {W : World} {name : String} {k : IntKind} {zs : List Int} {g : Nat} {t e : TypeId} {n : Nat}
    (hg : P.globalNamed name = some g) (hty : (P.globals[g]?).map (·.type) = some t) (ht : P.underlying t = some (.array n e)) (he : P.underlying e = some (.int k)) (hce : P.cellsOf e = 1) (hct : P.cellsOf t = n) :
    ∀ (l : List (String × DataW Unit)) (ps : List MemPlace), (name, Lib.tabData k zs) ∈ l → DataW.LaidVars P W l ps → Lib.TabIs P W name k zs
  | [], _, hm, _ => by cases hm
  | (m, d) :: r, ps, hm, ⟨g', t', cs, fuel, p, q, hg', ht', hvar, hd, hs, _⟩ => by
    rcases List.mem_cons.1 hm with e' | hm
    · obtain ⟨rfl, rfl⟩ := Prod.mk.inj e'
      obtain rfl := Option.some.inj (hg.symm.trans hg')
      obtain rfl := Option.some.inj (hty.symm.trans ht')
      unfold Lib.TabIs
      rw [hvar, ← Lib.cells_of_tab ht he hce hct hd]
    · exact tab_vars hg hty ht he hce hct r q hm hs
theorem tab_met {P : Program} {W : World} {name : String} {k : IntKind} {zs : List Int} {g : Nat} {t e : TypeId} {n : Nat} {l : List (String × DataW Unit)}
    (hg : P.globalNamed name = some g) (hty : (P.globals[g]?).map (·.type) = some t) (ht : P.underlying t = some (.array n e)) (he : P.underlying e = some (.int k)) (hce : P.cellsOf e = 1) (hct : P.cellsOf t = n)
    (hp : (l.all fun x => x.2.handleName?.isNone) = true) (hm : (name, Lib.tabData k zs) ∈ l) (h : laidMetH P l W) : ∃ o, W.heap[g]? = some o ∧ ∃ t f, o = .cells (zs.map fun z => Value.int k z).toArray t f := by
  rw [MakeChecks.laidMetH_plain _ _ _ hp] at h
  obtain ⟨ps, h, _⟩ := h
  exact tab_laid (tab_vars hg hty ht he hce hct l ps hm h) hg
theorem witness_zip {H : Type} {enc : TypeId × Value → H} {C : Checked} {os : Go.Os} {f : FuncId} {fn : Func} {s : ChangeSpec} {conds : List PathCond} {apart : Bool} {X : World → Array Value → Prop} (modest : Bool) (w0 : World) (args : Array Value) (fuel : Nat) (hos : w0.os = os)
    (hv : (w0.forCall (fun _ _ => 0) ⟨#[], args, []⟩).variablesZipB C.prog = true)
    (hr : ((w0.forCall (fun _ _ => 0) ⟨#[], args, []⟩).heap.toList.drop C.prog.globals.size).take ((begin C.prog (fun _ _ => 0) default).world.heap.size - C.prog.globals.size) =
      (begin C.prog (fun _ _ => 0) default).world.heap.toList.drop C.prog.globals.size)
    (hok : Input.okWideB C.prog (w0.forCall (fun _ _ => 0) ⟨#[], args, []⟩) f ⟨#[], args, []⟩ = true)
    (hpre : s.preB enc C.prog fn conds apart (w0.forCall (fun _ _ => 0) ⟨#[], args, []⟩).memory args fuel = true)
    (hsz : s.sizedB enc C.prog fn apart (w0.forCall (fun _ _ => 0) ⟨#[], args, []⟩).memory args fuel = true)
    (hx : X (w0.forCall (fun _ _ => 0) ⟨#[], args, []⟩).memory args) :
    ∃ (w : World) (tape : Tape) (i : Input), w.os = os ∧ (w.forCall tape i).Shaped C.prog ∧ i.vars = [] ∧ Input.okWide C.prog (w.forCall tape i) .any w.heap.size f i ∧
      ((s.pre enc C.prog fn conds apart (w.forCall tape i).memory i.args ∧ X (w.forCall tape i).memory i.args) ∧ sizedMet enc C.prog fn (OpenSpec.ofChange s) apart (w.forCall tape i).memory i.args) ∧ ({ modest := modest } : Assume).holds C.prog (lone (Frame.enter C.prog f i.args .normal) [] (w.forCall tape i)) :=
  ⟨w0, fun _ _ => 0, ⟨#[], args, []⟩, hos, World.shaped_of_ZipB hv hr, (Input.okWide_of_okWideB (base := 0) hok).1, (Input.okWide_of_okWideB hok).2, ⟨⟨ChangeSpec.pre_of_preB hpre, hx⟩, sizedMet_of_sizedB hsz⟩, by
    simp only [Assume.holds]
    exact ⟨by simp, by simp, fun _ => Modest.zero, by simp, by simp⟩⟩
theorem met_laid {P : Program} {os : Go.Os} {laid : List (String × DataW Unit)} (args : Array Value) (hp : (laid.all fun x => x.2.handleName?.isNone) = true)
    (hf : (World.holding P os ⟨#[], #[], []⟩).layFits P laid [] = true)
    (hi : (World.holding P os ⟨#[], #[], []⟩).layIfaces P laid (World.laidAll P os laid) = true) :
    laidMetH P laid ((World.laidAll P os laid).forCall (fun _ _ => 0) ⟨#[], args, []⟩).memory := by
  rw [MakeChecks.laidMetH_plain _ _ _ hp]
  exact laidMet_laidAll args hf hi
end Go.Proofs.YthpjjjnbkfnghaaGreatDoor
