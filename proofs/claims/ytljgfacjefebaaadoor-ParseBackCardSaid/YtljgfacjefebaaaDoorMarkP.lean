/-
  Markers and their lines.
-/
import Derived.Test.YtljgfacjefebaaaDoorDocP
import Derived.Test.YtljgfacjefebaaaDoorAxu
set_option linter.unusedSimpArgs false
set_option linter.unusedVariables false
set_option maxRecDepth 100000
namespace Go.Proofs.YtljgfacjefebaaaDoor
open Go
/-- Its sign, its flag, its label. -/
abbrev Mk := Int × Bool × BS
instance : DecidableEq Mk := inferInstance
abbrev eMk : El Mk := eP eU (eP eB eS)
def mk0 : Mk := (0, false, [])
def wideM (w : Int) : Bool := decide (1 ≤ w) && decide (w ≤ 1073741824)
def signI (k : Int) : Prop := k = 60 ∨ k = 124 ∨ k = 61 ∨ k = 62
def mayM (m : Mk) : Bool :=
  if m.1 = 60 then !m.2.1 && plainB m.2.2 else if m.1 = 124 ∨ m.1 = 62 then plainB m.2.2 else if m.1 = 61 then decide (m.2.2 = []) else false
theorem may_sign {m : Mk} (h : mayM m = true) : signI m.1 := by
  unfold mayM at h
  unfold signI
  split at h
  · omega
  · split at h
    · omega
    · split at h
      · omega
      · cases h
theorem may_plain {m : Mk} (h : mayM m = true) : plainB m.2.2 = true := by
  unfold mayM at h
  split at h
  · exact (Bool.and_eq_true_iff.1 h).2
  · split at h
    · exact h
    · split at h
      · rw [of_decide_eq_true h]; rfl
      · cases h
/-- What stands behind the signs. -/
def tailM (f : Bool) (l : BS) : BS := (if f = true then [33] else []) ++ ((if l = [] then [] else 32 :: l) ++ [10])
def lineM (m : Mk) (w : Int) : BS := List.replicate w.toNat (UInt8.ofNat m.1.toNat) ++ tailM m.2.1 m.2.2
theorem tailM_len (f : Bool) (l : BS) : (tailM f l).length ≤ l.length + 3 := by
  unfold tailM
  cases f <;> by_cases h : l = [] <;> simp [h]
theorem lineM_len (m : Mk) (w : Int) : (lineM m w).length ≤ w.toNat + (m.2.2.length + 3) := by
  unfold lineM
  have := tailM_len m.2.1 m.2.2
  simp only [List.length_append, List.length_replicate]
  omega
/-- A sign's text begins with none of what stands behind signs. -/
theorem tailM_head (f : Bool) (l : BS) : ∃ h t, tailM f l = h :: t ∧ (h = 33 ∨ h = 32 ∨ h = 10) := by
  unfold tailM
  cases f with
  | true => exact ⟨33, _, rfl, .inl rfl⟩
  | false =>
    by_cases h : l = []
    · subst h
      exact ⟨10, [], rfl, .inr (.inr rfl)⟩
    · rw [if_neg h]
      exact ⟨32, _, rfl, .inr (.inl rfl)⟩
/-- The flag and the label that stand behind the signs. -/
def rdT (r : BS) : Option (Bool × BS) :=
  let f := decide (r.getD 0 0 = 33)
  let r1 := if f = true then r.drop 1 else r
  let l := if 1 < r1.length ∧ r1.getD 0 0 = 32 then (r1.take (r1.length - 1)).drop 1 else []
  if tailM f l = r then some (f, l) else none
theorem rdT_tail (f : Bool) (l : BS) : rdT (tailM f l) = some (f, l) := by
  have hf : decide ((tailM f l).getD 0 0 = 33) = f := by
    unfold tailM
    cases f with
    | true => rfl
    | false =>
      by_cases h : l = []
      · subst h; rfl
      · rw [if_neg h]; rfl
  have hr : (if f = true then (tailM f l).drop 1 else tailM f l) = (if l = [] then [] else 32 :: l) ++ [10] := by
    unfold tailM
    cases f with
    | true => rfl
    | false => rfl
  have hl : (if 1 < ((if l = [] then ([] : BS) else 32 :: l) ++ [10]).length ∧ ((if l = [] then ([] : BS) else 32 :: l) ++ [10]).getD 0 0 = 32 then (((if l = [] then ([] : BS) else 32 :: l) ++ [10]).take (((if l = [] then ([] : BS) else 32 :: l) ++ [10]).length - 1)).drop 1 else []) = l := by
    by_cases h : l = []
    · subst h; rfl
    · rw [if_neg h, if_pos ⟨by simp, rfl⟩]
      simp
  unfold rdT
  simp only [hf, hr, hl, if_pos]
theorem rdT_iff {r : BS} {f : Bool} {l : BS} : rdT r = some (f, l) ↔ tailM f l = r := by
  constructor
  · intro h
    unfold rdT at h
    generalize decide (r.getD 0 0 = 33) = f' at h
    dsimp only at h
    generalize (if f' = true then r.drop 1 else r) = r1 at h
    generalize (if 1 < r1.length ∧ r1.getD 0 0 = 32 then (r1.take (r1.length - 1)).drop 1 else []) = l' at h
    by_cases e : tailM f' l' = r
    · rw [if_pos e] at h
      simp only [Option.some.injEq, Prod.mk.injEq] at h
      obtain ⟨h1, h2⟩ := h
      rw [h2, h1] at e
      exact e
    · rw [if_neg e] at h
      cases h
  · rintro rfl
    exact rdT_tail f l
/-- The same, as the program has it. -/
def cutS (s : BS) : BS := if endsL s = true then s.take (s.length - 1) else s
def prB (a b : BS) : Bool := decide (a.take 1 = b)
theorem prB_iff (a b : BS) : prB a b = true ↔ a.take 1 = b := decide_eq_true_iff
theorem prB_no {a b : BS} : prB a b = false ↔ ¬ a.take 1 = b := decide_eq_false_iff_not
def cutP (s : BS) (c : UInt8) : BS := if s.take 1 = [c] then s.drop 1 else s
def rdI (r : BS) : Option (Bool × BS) :=
  if endsL r = true ∧ prB (cutP (cutS r) 33) [32] = decide (cutP (cutP (cutS r) 33) 32 ≠ []) then some (prB (cutS r) [33], cutP (cutP (cutS r) 33) 32) else none
theorem ends_split {r : BS} (h : endsL r = true) : r = r.take (r.length - 1) ++ [10] := by
  have h : r.getLast? = some 10 := of_decide_eq_true h
  rcases r.eq_nil_or_concat with rfl | ⟨m, c, rfl⟩
  · cases h
  · rw [List.concat_eq_append] at *
    simp at h
    subst h
    simp
theorem take1 {s : BS} {c : UInt8} (h : s.take 1 = [c]) : s = c :: s.drop 1 := by
  cases s with
  | nil => cases h
  | cons x s => simp at h; subst h; rfl
theorem rdI_iff {r : BS} {f : Bool} {l : BS} : rdI r = some (f, l) ↔ tailM f l = r := by
  unfold rdI prB
  constructor
  · intro h
    split at h
    · rename_i hh
      obtain ⟨h1, h2⟩ := hh
      simp only [Option.some.injEq, Prod.mk.injEq] at h
      obtain ⟨h3, h4⟩ := h
      have e1 : cutS r = r.take (r.length - 1) := if_pos h1
      have e0 := ends_split h1
      rw [e1] at h2 h3 h4
      generalize r.take (r.length - 1) = b at *
      rw [h4] at h2
      rw [e0]
      have eb : cutP b 33 = (if l = [] then [] else 32 :: l) := by
        by_cases g : (cutP b 33).take 1 = [32]
        · rw [decide_eq_true g] at h2
          have : l ≠ [] := of_decide_eq_true h2.symm
          have h5 : cutP (cutP b 33) 32 = (cutP b 33).drop 1 := if_pos g
          rw [if_neg this, take1 g, ← h5, h4]
        · rw [decide_eq_false g] at h2
          have hl : l = [] := by simpa using h2
          have : cutP (cutP b 33) 32 = cutP b 33 := if_neg g
          rw [if_pos hl, ← this, h4, hl]
      unfold tailM
      rw [← eb, ← List.append_assoc]
      congr 1
      by_cases g : b.take 1 = [33]
      · rw [← h3, decide_eq_true g, if_pos rfl]
        have : cutP b 33 = b.drop 1 := if_pos g
        rw [this]
        exact (take1 g).symm
      · rw [← h3, decide_eq_false g, if_neg (by simp)]
        exact if_neg g
    · cases h
  · rintro rfl
    have h1 : endsL (tailM f l) = true := by
      unfold endsL tailM
      rw [← List.append_assoc, List.getLast?_append]
      rfl
    have e1 : cutS (tailM f l) = (if f = true then [33] else []) ++ (if l = [] then [] else 32 :: l) := by
      unfold cutS
      rw [if_pos h1]
      unfold tailM
      rw [← List.append_assoc]
      generalize (if f = true then ([33] : BS) else []) ++ (if l = [] then [] else 32 :: l) = x
      simp
    have e2 : (cutS (tailM f l)).take 1 = [33] ↔ f = true := by
      rw [e1]
      cases f with
      | true => simp
      | false =>
        by_cases h : l = []
        · simp [h]
        · simp [h]
    have e3 : cutP (cutS (tailM f l)) 33 = (if l = [] then [] else 32 :: l) := by
      unfold cutP
      cases f with
      | true => rw [if_pos (e2.2 rfl), e1]; rfl
      | false => rw [if_neg (fun h => by have := e2.1 h; cases this), e1]; rfl
    have e4 : cutP (if l = [] then ([] : BS) else 32 :: l) 32 = l := by
      by_cases h : l = []
      · subst h; rfl
      · rw [if_neg h]; rfl
    have e5 : (if l = [] then ([] : BS) else 32 :: l).take 1 = [32] ↔ l ≠ [] := by
      by_cases h : l = []
      · simp [h]
      · simp [h]
    rw [e3, e4, if_pos ⟨h1, by rw [decide_eq_decide]; exact e5⟩]
    congr 2
    cases f with
    | true => exact decide_eq_true (e2.2 rfl)
    | false => exact decide_eq_false fun h => by have := e2.1 h; cases this
theorem rdI_eq (r : BS) : rdI r = rdT r := by
  cases h : rdT r with
  | some p => obtain ⟨f, l⟩ := p; exact rdI_iff.2 (rdT_iff.1 h)
  | none =>
    cases g : rdI r with
    | none => rfl
    | some p => obtain ⟨f, l⟩ := p; rw [rdT_iff.2 (rdI_iff.1 g)] at h; cases h
/-! ### runs -/
theorem tw_rep (c : UInt8) (t : BS) : ∀ n, (List.replicate n c ++ t).takeWhile (· == c) = List.replicate n c ++ t.takeWhile (· == c)
  | 0 => rfl
  | n + 1 => by
    rw [List.replicate_succ, List.cons_append, List.takeWhile_cons, if_pos (by simp), tw_rep c t n]
    rfl
def signB (c : UInt8) : Prop := c = 60 ∨ c = 124 ∨ c = 61 ∨ c = 62
theorem sign_byte {k : Int} (h : signI k) : signB (UInt8.ofNat k.toNat) ∧ ((UInt8.ofNat k.toNat).toNat : Int) = k := by
  rcases h with rfl | rfl | rfl | rfl
  · exact ⟨.inl rfl, rfl⟩
  · exact ⟨.inr (.inl rfl), rfl⟩
  · exact ⟨.inr (.inr (.inl rfl)), rfl⟩
  · exact ⟨.inr (.inr (.inr rfl)), rfl⟩
theorem run_rep {c : UInt8} (h : signB c) {n : Nat} (hn : 1 ≤ n) (t : BS) : runL (List.replicate n c ++ t) = n + (t.takeWhile (· == c)).length := by
  cases n with
  | zero => omega
  | succ n =>
    have h : c = 60 ∨ c = 124 ∨ c = 61 ∨ c = 62 := h
    rw [List.replicate_succ, List.cons_append, runL, if_pos h, tw_rep]
    simp only [List.length_append, List.length_replicate]
    omega
theorem run_line {c : UInt8} (h : signB c) {n : Nat} (hn : 1 ≤ n) (f : Bool) (l : BS) : runL (List.replicate n c ++ tailM f l) = n := by
  rw [run_rep h hn]
  obtain ⟨x, t, e, hx⟩ := tailM_head f l
  rw [e, List.takeWhile_cons, if_neg]
  · rfl
  · intro hh
    have : x = c := by simpa using hh
    subst this
    unfold signB at h
    revert h hx
    generalize x = y
    intro hx h
    rcases hx with rfl | rfl | rfl <;> rcases h with h | h | h | h <;> cases h
theorem run_split {s : BS} {n : Nat} (h1 : 1 ≤ n) (h : n ≤ runL s) : signB (s.getD 0 0) ∧ s = List.replicate n (s.getD 0 0) ++ s.drop n := by
  cases s with
  | nil => simp [runL] at h; omega
  | cons c r =>
    rw [runL] at h
    split at h
    · rename_i hs
      refine ⟨hs, ?_⟩
      have e : ∀ (m : Nat) (r : BS), m ≤ (r.takeWhile (· == c)).length → r = List.replicate m c ++ r.drop m := by
        intro m
        induction m with
        | zero => intro r _; rfl
        | succ m ih =>
          intro r hr
          cases r with
          | nil => simp at hr
          | cons d r =>
            rw [List.takeWhile_cons] at hr
            split at hr
            · rename_i hd
              obtain rfl : d = c := by simpa using hd
              rw [List.replicate_succ, List.cons_append, List.drop_succ_cons]
              congr 1
              exact ih r (by simpa using hr)
            · simp at hr
      obtain ⟨m, rfl⟩ : ∃ m, n = m + 1 := ⟨n - 1, by omega⟩
      rw [List.getD_cons_zero, List.replicate_succ, List.cons_append, List.drop_succ_cons]
      congr 1
      exact e m r (by omega)
    · omega
/-- The Marker of a line; is there one; what is wrong. -/
def readM (s : BS) (w : Int) : Mk × Bool × Int :=
  if wideM w = false then (mk0, false, 4) else if (runL s : Int) < w then (mk0, false, 0) else
    match rdT (s.drop w.toNat) with
    | some (f, l) => if mayM ((s.getD 0 0).toNat, f, l) = true then (((s.getD 0 0).toNat, f, l), true, 0) else (mk0, false, 6)
    | none => (mk0, false, 6)
theorem wide_iff {w : Int} : wideM w = true ↔ 1 ≤ w ∧ w ≤ 1073741824 := by simp [wideM]
theorem read_line {m : Mk} {w : Int} (hm : mayM m = true) (hw : wideM w = true) : readM (lineM m w) w = (m, true, 0) := by
  obtain ⟨h1, h2⟩ := wide_iff.1 hw
  obtain ⟨s1, s2⟩ := sign_byte (may_sign hm)
  obtain ⟨k, f, l⟩ := m
  simp only at s1 s2
  have hr : runL (lineM (k, f, l) w) = w.toNat := run_line s1 (by omega) f l
  have hd : (lineM (k, f, l) w).drop w.toNat = tailM f l := by
    unfold lineM
    rw [List.drop_append_of_le_length (by simp), List.drop_of_length_le (by simp), List.nil_append]
  have h0 : ((lineM (k, f, l) w).getD 0 0) = UInt8.ofNat k.toNat := by
    unfold lineM
    obtain ⟨n, hn⟩ : ∃ n, w.toNat = n + 1 := ⟨w.toNat - 1, by omega⟩
    rw [hn, List.replicate_succ]
    rfl
  unfold readM
  rw [if_neg (by rw [hw]; simp), if_neg (by rw [hr]; omega), hd, rdT_tail]
  simp only [h0, s2]
  rw [if_pos hm]
theorem line_read {s : BS} {w : Int} {m : Mk} {e : Int} (h : readM s w = (m, true, e)) : lineM m w = s ∧ mayM m = true ∧ wideM w = true ∧ e = 0 := by
  unfold readM at h
  split at h
  · simp at h
  · rename_i hw
    split at h
    · simp at h
    · rename_i hr
      have hw : wideM w = true := by simpa using hw
      obtain ⟨h1, h2⟩ := wide_iff.1 hw
      obtain ⟨g1, g2⟩ := run_split (s := s) (n := w.toNat) (by omega) (by omega)
      split at h
      · rename_i f l hf
        split at h
        · rename_i hm
          simp only [Prod.mk.injEq] at h
          obtain ⟨rfl, _, rfl⟩ := h
          refine ⟨?_, hm, hw, rfl⟩
          unfold lineM
          simp only
          rw [rdT_iff.1 hf]
          have : UInt8.ofNat ((s.getD 0 0).toNat : Int).toNat = s.getD 0 0 := by simp
          rw [this]
          exact g2.symm
        · simp at h
      · simp at h
theorem read_no {s : BS} {w : Int} (h : (readM s w).2.1 = false) : (readM s w).1 = mk0 := by
  unfold readM at *
  by_cases h1 : wideM w = false
  · rw [if_pos h1]
  · rw [if_neg h1] at h ⊢
    by_cases h2 : (runL s : Int) < w
    · rw [if_pos h2]
    · rw [if_neg h2] at h ⊢
      cases hr : rdT (s.drop w.toNat) with
      | none => rfl
      | some p =>
        obtain ⟨f, l⟩ := p
        rw [hr] at h
        dsimp only at h ⊢
        by_cases h3 : mayM ((s.getD 0 0).toNat, f, l) = true
        · rw [if_pos h3] at h; cases h
        · rw [if_neg h3]
theorem read_less {m : Mk} {w v : Int} (hm : mayM m = true) (h1 : 1 ≤ v) (hw : w ≤ 1073741824) (h : v < w) : readM (lineM m w) v = (mk0, false, 6) := by
  obtain ⟨s1, s2⟩ := sign_byte (may_sign hm)
  obtain ⟨k, f, l⟩ := m
  simp only at s1 s2
  have hr : runL (lineM (k, f, l) w) = w.toNat := run_line s1 (by omega) f l
  have hd : (lineM (k, f, l) w).drop v.toNat = List.replicate (w.toNat - v.toNat) (UInt8.ofNat k.toNat) ++ tailM f l := by
    unfold lineM
    rw [List.drop_append_of_le_length (by simp; omega), List.drop_replicate]
  have hn : rdT (List.replicate (w.toNat - v.toNat) (UInt8.ofNat k.toNat) ++ tailM f l) = none := by
    cases g : rdT (List.replicate (w.toNat - v.toNat) (UInt8.ofNat k.toNat) ++ tailM f l) with
    | none => rfl
    | some p =>
      obtain ⟨f', l'⟩ := p
      have e := rdT_iff.1 g
      obtain ⟨x, t, e2, hx⟩ := tailM_head f' l'
      obtain ⟨n, hn⟩ : ∃ n, w.toNat - v.toNat = n + 1 := ⟨w.toNat - v.toNat - 1, by omega⟩
      rw [e2, hn, List.replicate_succ, List.cons_append] at e
      have hxc := (List.cons.inj e).1
      rw [← hxc] at s1
      rcases hx with rfl | rfl | rfl <;> rcases s1 with h | h | h | h <;> cases h
  unfold readM
  rw [if_neg (by rw [wide_iff.2 ⟨h1, by omega⟩]; simp), if_neg (by rw [hr]; omega), hd, hn]
theorem read_more {m : Mk} {w v : Int} (hm : mayM m = true) (h1 : 1 ≤ w) (hv : v ≤ 1073741824) (h : w < v) : readM (lineM m w) v = (mk0, false, 0) := by
  obtain ⟨s1, s2⟩ := sign_byte (may_sign hm)
  obtain ⟨k, f, l⟩ := m
  simp only at s1 s2
  have hr : runL (lineM (k, f, l) w) = w.toNat := run_line s1 (by omega) f l
  unfold readM
  rw [if_neg (by rw [wide_iff.2 ⟨by omega, hv⟩]; simp), if_pos (by rw [hr]; omega)]
/-- A width that can be laid, or one that may not be. -/
def narrW (w : Int) : Int := if 300 < w ∧ w ≤ 1073741824 then w.tmod 300 + 1 else w
theorem narr_wide {w : Int} (h : wideM (narrW w) = true) : 1 ≤ narrW w ∧ narrW w ≤ 300 := by
  obtain ⟨h1, h2⟩ := wide_iff.1 h
  unfold narrW at *
  split
  · rw [Int.tmod_eq_emod_of_nonneg (by omega)]
    omega
  · rename_i hh
    rw [if_neg hh] at h1 h2
    omega
end Go.Proofs.YtljgfacjefebaaaDoor
