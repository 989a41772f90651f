/-
  edit: some texts come to a script whose last texts are at hand.
-/
import Derived.Test.YtpbccamaipekjaaEditZ
import Derived.Test.YtpbccamaipekjaaAxo
set_option linter.unusedSimpArgs false
set_option linter.unusedVariables false
set_option maxRecDepth 100000
set_option maxHeartbeats 2000000
namespace Go.Proofs.Ytpbccamaipekjaa
open Go
attribute [local irreducible] AW AVle ASle RowLe
def lastT (l : List (Int × List (List UInt8))) : List (List UInt8) := (l.getD (l.length - 1) (0, [])).2
def stepC (l : List (Int × List (List UInt8))) (tv : Nat) : Nat → Nat → AV := fun i j => if i + 1 = l.length ∧ j = 1 then .ow 1 tv (lastT l).length else (eP eI (eL eS)).enc (l.getD i (0, [])) j
def rowP (v tv : Nat) (l : List (Int × List (List UInt8))) : Row := .sl v 91 2 l.length (stepC l tv)
theorem lastT_snoc (m : List (Int × List (List UInt8))) (s : Int × List (List UInt8)) : lastT (m ++ [s]) = s.2 := by simp [lastT, List.getD]
theorem snoc_get (m : List (Int × List (List UInt8))) (s : Int × List (List UInt8)) : (m ++ [s]).getD m.length (0, []) = s := by simp [List.getD]
theorem snoc_lt {m : List (Int × List (List UInt8))} {s : Int × List (List UInt8)} {i : Nat} (h : i < m.length) : (m ++ [s]).getD i (0, []) = m.getD i (0, []) := by simp [List.getD, List.getElem?_append_left h]
theorem stepC0 (l : List (Int × List (List UInt8))) (tv i : Nat) : stepC l tv i 0 = .val (.int .i64 (l.getD i (0, [])).1) := by
  unfold stepC
  rw [if_neg (fun h => absurd h.2 (by decide))]
  rfl
theorem stepC1 (m : List (Int × List (List UInt8))) (s : Int × List (List UInt8)) (tv : Nat) : stepC (m ++ [s]) tv m.length 1 = .ow 1 tv s.2.length := by
  unfold stepC
  rw [if_pos ⟨by simp, rfl⟩, lastT_snoc]
theorem stepC_lt {l : List (Int × List (List UInt8))} {tv i j : Nat} (h : i + 1 < l.length) : stepC l tv i j = (eP eI (eL eS)).enc (l.getD i (0, [])) j := by
  unfold stepC
  rw [if_neg (fun hh => by omega)]
theorem putL_nil (l : List (Int × List (List UInt8))) (k : Int) : putL l k [] = l := by rfl
theorem putL_first {k : Int} {ts : List (List UInt8)} (h : ts.length ≠ 0) : putL [] k ts = [(k, ts)] := by
  unfold putL
  rw [if_neg h]
  rfl
theorem putL_same {m : List (Int × List (List UInt8))} {s : Int × List (List UInt8)} {k : Int} {ts : List (List UInt8)} (h : ts.length ≠ 0) (hk : s.1 = k) : putL (m ++ [s]) k ts = m ++ [(k, s.2 ++ ts)] := by
  unfold putL
  rw [if_neg h]
  simp [hk]
theorem putL_new {m : List (Int × List (List UInt8))} {s : Int × List (List UInt8)} {k : Int} {ts : List (List UInt8)} (h : ts.length ≠ 0) (hk : ¬ s.1 = k) : putL (m ++ [s]) k ts = m ++ [s] ++ [(k, ts)] := by
  unfold putL
  rw [if_neg h]
  simp [hk]
theorem stepC_same {m : List (Int × List (List UInt8))} {s : Int × List (List UInt8)} {k : Int} {ts : List (List UInt8)} {tv nx : Nat} (hk : s.1 = k) : ∀ i, i < m.length + 1 → ∀ j, j < 2 →
    AVle (stE (stepC (m ++ [s]) tv) m.length 1 1 (fun _ => AV.ow 1 nx (s.2.length + ts.length)) i j) (stepC (m ++ [(k, s.2 ++ ts)]) nx i j) := fun i hi j hj => by
  simp only [stE]
  by_cases e : i = m.length
  · subst e
    match j, hj with
    | 0, _ =>
      rw [if_neg (by omega), stepC0, stepC0, snoc_get, snoc_get, hk]
      exact AVle.refl _
    | 1, _ =>
      rw [if_pos (by omega), stepC1]
      simp only [List.length_append]
      exact AVle.refl _
  · rw [if_neg (fun h => e h.1), stepC_lt (by simp; omega), stepC_lt (by simp; omega), snoc_lt (by omega), snoc_lt (by omega)]
    exact AVle.refl _
theorem stepC_first {k : Int} {ts : List (List UInt8)} {c d : Nat → Nat → AV} {v : Nat} (h0 : d 0 0 = .val (.int .i64 k)) (h1 : d 0 1 = .ow 2 v ts.length) : ∀ i, i < 1 → ∀ j, j < 2 → AVle (apC 0 c d i j) (stepC [(k, ts)] v i j) := fun i hi j hj => by
  obtain rfl : i = 0 := by omega
  show AVle (d 0 j) _
  match j, hj with
  | 0, _ =>
    rw [h0, stepC0]
    exact AVle.refl _
  | 1, _ =>
    rw [h1, show stepC [(k, ts)] v 0 1 = _ from stepC1 [] (k, ts) v]
    exact AVle.ow
theorem stepC_new {m : List (Int × List (List UInt8))} {s : Int × List (List UInt8)} {k : Int} {ts : List (List UInt8)} {d : Nat → Nat → AV} {tv v : Nat} (h0 : d 0 0 = .val (.int .i64 k)) (h1 : d 0 1 = .ow 2 v ts.length) :
    ∀ i, i < m.length + 1 + 1 → ∀ j, j < 2 → AVle (fz 1 tv (lastT (m ++ [s])).length 1 (fun i => eS.enc ((lastT (m ++ [s])).getD i [])) (apC (m.length + 1) (stepC (m ++ [s]) tv) d i j)) (stepC (m ++ [s] ++ [(k, ts)]) v i j) := fun i hi j hj => by
  rw [lastT_snoc]
  simp only [apC]
  by_cases e : i < m.length + 1
  · rw [if_pos e, stepC_lt (l := m ++ [s] ++ [(k, ts)]) (by simp; omega), snoc_lt (m := m ++ [s]) (by simp; omega)]
    by_cases e2 : i = m.length
    · subst e2
      rw [snoc_get]
      match j, hj with
      | 0, _ =>
        rw [stepC0, snoc_get]
        exact AVle.refl _
      | 1, _ =>
        rw [stepC1]
        simp only [fz, and_self, if_true, Nat.le_refl]
        exact AVle.refl _
    · rw [stepC_lt (by simp; omega)]
      match j, hj with
      | 0, _ => exact AVle.refl _
      | 1, _ => exact AVle.refl _
  · obtain rfl : i = m.length + 1 := by omega
    rw [if_neg (by omega), Nat.sub_self]
    match j, hj with
    | 0, _ =>
      rw [h0, stepC0]
      simp only [fz]
      rw [show (m ++ [s] ++ [(k, ts)]).getD (m.length + 1) (0, []) = (k, ts) by simp [List.getD]]
      exact AVle.refl _
    | 1, _ =>
      rw [h1, show stepC (m ++ [s] ++ [(k, ts)]) v (m.length + 1) 1 = _ by simpa using stepC1 (m ++ [s]) (k, ts) v]
      simp only [fz]
      exact AVle.ow
def sPut0 : MSpec := fun args hp top nx K => ∃ l v tv k y ts, args = [.ow 0 v l.length, kI.enc k, y] ∧ AVle y (sL eS ts) ∧ hp = rws [(0, rowP v tv l), (1, rowL tv 9 eS (lastT l))] ∧ top = 2 ∧ l.length < 100000000 ∧ (lastT l).length + ts.length < 1000000000 ∧
  ∀ v' tv' nx', (v' = v ∨ nx ≤ v') → (tv' = tv ∨ nx ≤ tv') → nx ≤ nx' → K (.ow 0 v' (putL l k ts).length) (rws [(0, rowP v' tv' (putL l k ts)), (1, rowL tv' 9 eS (lastT (putL l k ts)))]) 2 nx'
theorem okPut0 : MethOK Try.prog 39 sPut0 := by
  refine MethOK.mk Try.func39 rfl (by decide) Try.results39 Try.ntmps39 ?_
  rintro args hp top nx K ⟨l, v, tv, k, y, ts, rfl, hy, rfl, rfl, hl, ht, hK⟩
  have hΓ : GOK Try.prog (gam [(54, sCloneS)]) := (.cons okCloneS .nil)
  refine ⟨Nat.le_of_ble_eq_true rfl, AW.late ?_⟩
  refine AW.le (stM_le (.cons (AVle.refl _) (.cons (AVle.refl _) (.cons hy .nil)))) ?_
  by_cases h0 : ts.length = 0
  · obtain rfl := List.length_eq_zero_iff.1 h0
    refine AW.of hΓ mixed [99999] _ _ _ rfl ?_
    simp only [go_sem, sCloneS, rowP, st_sz]
    refine ⟨by omega, _, ASle.refl _, ?_⟩
    simp only [go_sem, sCloneS]
    exact hK v tv nx (.inl rfl) (.inl rfl) (Nat.le_refl _)
  have hts : ((ts.length : Int) = 0) = False := eq_false (by omega)
  rcases l.eq_nil_or_concat with rfl | ⟨m, s, hms⟩
  · refine AW.of hΓ mixed [99999] _ _ _ rfl ?_
    simp only [go_sem, sCloneS, rowP, st_sz, stepC0, hts]
    refine ⟨sL eS ts, ts, rfl, AVle.refl _, by omega, fun ver nx' h1 h2 => ⟨_, toFitsV (fun p => if p = 1 then 2 else p) (l := [(6, .ow 0 (nx' + 1) 1)]) (r := [(0, rowP (nx' + 1) ver (putL [] k ts)), (1, rowL ver 9 eS (lastT (putL [] k ts)))]) (sz := 47) (top := 2) (nx := nx' + 1 + 1) (df := []) ?_, ?_⟩⟩
    · rw [putL_first h0]
      simp only [go_sem, sCloneS, rowP]
      exact ⟨RowLe.sl rfl (stepC_first rfl rfl), RowLe.refl _⟩
    · simp only [go_sem, sCloneS]
      have := hK (nx' + 1) ver (nx' + 1 + 1) (.inr (by omega)) (.inr h1) (by omega)
      rwa [show (putL [] k ts).length = 1 by rw [putL_first h0]; rfl] at this
  · rw [List.concat_eq_append] at hms
    subst hms
    have e1 : (((m.length + 1 : Nat) : Int) - 1) = (m.length : Int) := by omega
    have e2 : (0 ≤ (m.length : Int)) = True := eq_true (by omega)
    refine AW.of hΓ mixed [99999] _ _ _ rfl ?_
    simp only [go_sem, sCloneS, rowP, st_sz, stepC0, stepC1, snoc_get, hts, e1, e2]
    have hlm : m.length + 1 < 100000000 := by simpa using hl
    rw [lastT_snoc] at ht
    refine ⟨by omega, by omega, by omega, fun hk => ⟨by omega, by omega, ⟨by rw [lastT_snoc], by omega⟩, by omega, by omega, ?_⟩, fun hk => ?_⟩
    · refine ⟨_, toFitsV (fun p => p) (l := [(6, .ow 0 v (m.length + 1))]) (r := [(0, rowP v nx (putL (m ++ [s]) k ts)), (1, rowL nx 9 eS (lastT (putL (m ++ [s]) k ts)))]) (sz := 47) (top := 2) (nx := nx + 1) (df := []) ?_, ?_⟩
      · rw [putL_same h0 hk, lastT_snoc, lastT_snoc]
        simp only [go_sem, sCloneS, rowP]
        refine ⟨RowLe.sl rfl (stepC_same hk), ?_⟩
        exact row_app (E := eS) rfl rfl rfl rfl (by simp) fun i hi j hj => AVle.refl _
      · simp only [go_sem, sCloneS]
        have := hK v nx (nx + 1) (.inl rfl) (.inr (Nat.le_refl _)) (by omega)
        rwa [show (putL (m ++ [s]) k ts).length = m.length + 1 by rw [putL_same h0 hk]; simp] at this
    · refine ⟨sL eS ts, ts, rfl, AVle.refl _, by omega, fun ver nx' h1 h2 => ⟨by omega, _, (ASle.freeze 1 tv 9 1 (lastT (m ++ [s])).length (fun i => eS.enc ((lastT (m ++ [s])).getD i [])) rfl fun i _ j _ => rfl).trans (toFitsV (fun p => if p = 1 then 2 else p) (l := [(6, .ow 0 (nx' + 1) (m.length + 1 + 1))]) (r := [(0, rowP (nx' + 1) ver (putL (m ++ [s]) k ts)), (1, rowL ver 9 eS (lastT (putL (m ++ [s]) k ts)))]) (sz := 47) (top := 2) (nx := nx' + 1 + 1) (df := []) ?_), ?_⟩⟩
      · rw [putL_new h0 hk, lastT_snoc (m := m ++ [s])]
        simp only [go_sem, sCloneS, rowP]
        exact ⟨RowLe.sl rfl (stepC_new rfl rfl), RowLe.refl _⟩
      · simp only [go_sem, sCloneS]
        have := hK (nx' + 1) ver (nx' + 1 + 1) (.inr (by omega)) (.inr h1) (by omega)
        rwa [show (putL (m ++ [s]) k ts).length = m.length + 1 + 1 by rw [putL_new h0 hk]; simp] at this
end Go.Proofs.Ytpbccamaipekjaa
