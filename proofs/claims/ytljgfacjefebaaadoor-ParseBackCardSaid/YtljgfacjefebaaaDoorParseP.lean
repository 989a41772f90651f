/-
  A text with markers, read line by line.
-/
import Derived.Test.YtljgfacjefebaaaDoorMarkV
set_option linter.unusedSimpArgs false
set_option linter.unusedVariables false
set_option maxRecDepth 100000
namespace Go.Proofs.YtljgfacjefebaaaDoor
open Go
def followsI (a k : Int) : Bool := if k = 60 then decide (a = 0) else if k = 124 then decide (a = 60) else if k = 61 then (decide (a = 60) || decide (a = 124)) else decide (a = 61)
def setLeft (c : Pt) (s : BS) : Pt := (c.1, c.2.1, c.2.2.1, c.2.2.2.1, c.2.2.2.2.1, s, c.2.2.2.2.2.2.1, c.2.2.2.2.2.2.2.1, c.2.2.2.2.2.2.2.2)
def setBase (c : Pt) (s : BS) : Pt := (c.1, c.2.1, c.2.2.1, c.2.2.2.1, c.2.2.2.2.1, c.2.2.2.2.2.1, s, c.2.2.2.2.2.2.2.1, c.2.2.2.2.2.2.2.2)
def setRight (c : Pt) (s : BS) : Pt := (c.1, c.2.1, c.2.2.1, c.2.2.2.1, c.2.2.2.2.1, c.2.2.2.2.2.1, c.2.2.2.2.2.2.1, s, c.2.2.2.2.2.2.2.2)
def setBL (c : Pt) (s : BS) : Pt := (c.1, s, c.2.2.1, c.2.2.2.1, c.2.2.2.2.1, c.2.2.2.2.2.1, c.2.2.2.2.2.2.1, c.2.2.2.2.2.2.2.1, true)
def setRL (c : Pt) (s : BS) : Pt := (c.1, c.2.1, s, c.2.2.2.1, c.2.2.2.2.1, c.2.2.2.2.2.1, c.2.2.2.2.2.2.1, c.2.2.2.2.2.2.2.1, c.2.2.2.2.2.2.2.2)
/-- The conflict, with the side ahead of a marker. -/
def putS (a : Int) (sd : BS) (c : Pt) : Pt := if a = 60 then setLeft c sd else if a = 124 then setBase c sd else if a = 61 then setRight c sd else c
/-- With the marker's label. -/
def putC (a : Int) (m : Mk) (sd : BS) (c : Pt) : Pt :=
  if m.1 = 60 then (m.2.2, [], [], true, [], [], [], [], false) else if m.1 = 124 then setBL (putS a sd c) m.2.2 else if m.1 = 62 then setRL (putS a sd c) m.2.2 else putS a sd c
def putL (a : Int) (m : Mk) (now sd : BS) (c : Pt) (ps : List Pt) : List Pt :=
  if m.1 = 60 then ps ++ [textP now] else if m.1 = 62 then ps ++ [putC a m sd c] else ps
def sideF (m : Mk) (now : BS) : Option BS := if m.2.1 = true then (if cutS now = [] ∨ endsL (cutS now) = true then none else some (cutS now)) else some now
def takeR (a : Int) (now : BS) (c : Pt) (ps : List Pt) (m : Mk) : Int × Int × Pt × List Pt :=
  if m.1 = 60 ∧ a ≠ 0 then (7, a, c, ps) else if followsI a m.1 = false then (8, a, c, ps) else match sideF m now with
    | none => (9, a, c, ps)
    | some sd => (0, if m.1 = 62 then 0 else m.1, putC a m sd c, putL a m now sd c ps)
def runR (w : Int) : List BS → Int → BS → Pt → List Pt → Nat → List Pt × Int × Int
  | [], a, now, _, ps, i => if a ≠ 0 then ([], 10, (i : Int) + 1) else (ofD (ps ++ [textP now]), 0, 0)
  | l :: ls, a, now, c, ps, i =>
    if (readM l w).2.1 = true then
      if (takeR a now c ps (readM l w).1).1 ≠ 0 then ([], (takeR a now c ps (readM l w).1).1, (i : Int) + 1)
      else runR w ls (takeR a now c ps (readM l w).1).2.1 [] (takeR a now c ps (readM l w).1).2.2.1 (takeR a now c ps (readM l w).1).2.2.2 (i + 1)
    else if (readM l w).2.2 ≠ 0 then ([], (readM l w).2.2, (i : Int) + 1) else runR w ls a (now ++ l) c ps (i + 1)
/-- A text's Doc; what is wrong, and in which line. -/
def textR (s : BS) (w : Int) : List Pt × Int × Int := if wideM w = false then ([], 4, 0) else runR w (splitL s) 0 [] ePt.dflt [] 0
/-! ### lines that are no markers -/
theorem run_text {w : Int} (hw : wideM w = true) (ls : List BS) (a : Int) (c : Pt) (ps : List Pt) : ∀ (xs : List BS), (∀ x ∈ xs, (runL x : Int) < w) → ∀ (now : BS) (i : Nat), runR w (xs ++ ls) a now c ps i = runR w ls a (now ++ xs.flatten) c ps (i + xs.length)
  | [], _, now, i => by simp
  | x :: xs, h, now, i => by
    have h1 : readM x w = (mk0, false, 0) := by
      unfold readM
      rw [if_neg (by rw [hw]; simp), if_pos (h x (List.mem_cons_self ..))]
    rw [List.cons_append, runR, h1]
    simp only [if_neg (show ¬ (false = true) by simp), if_neg (show ¬ ((0 : Int) ≠ 0) by simp)]
    rw [run_text hw ls a c ps xs (fun y hy => h y (List.mem_cons_of_mem x hy))]
    simp only [List.flatten_cons, List.append_assoc, List.length_cons]
    congr 1
    omega
theorem run_mark {w : Int} (hw : wideM w = true) {m : Mk} (hm : mayM m = true) (ls : List BS) (a : Int) (now : BS) (c : Pt) (ps : List Pt) (i : Nat) (h : (takeR a now c ps m).1 = 0) :
    runR w (lineM m w :: ls) a now c ps i = runR w ls (takeR a now c ps m).2.1 [] (takeR a now c ps m).2.2.1 (takeR a now c ps m).2.2.2 (i + 1) := by
  rw [runR, read_line hm hw]
  simp only [if_true, h, ne_eq, not_true_eq_false, if_false]
theorem splitL_app {a : BS} (b : BS) (h : a = [] ∨ endsL a = true) : splitL (a ++ b) = splitL a ++ splitL b := by
  induction a with
  | nil => rfl
  | cons x a ih =>
    by_cases ha : a = []
    · subst ha
      have hx : x = 10 := by
        rcases h with h | h
        · cases h
        · simpa [endsL] using h
      subst hx
      rfl
    · have h' : endsL a = true := by
        rcases h with h | h
        · cases h
        · unfold endsL at h ⊢
          rw [List.getLast?_cons_of_ne_nil ha] at h
          exact h
      have := ih (.inr h')
      rw [List.cons_append]
      simp only [splitL]
      by_cases hx : x = 10
      · rw [if_pos hx, if_pos hx, this]
        rfl
      · rw [if_neg hx, if_neg hx, this]
        cases hs : splitL a with
        | nil =>
          have := splitL_flat a
          rw [hs] at this
          exact absurd this.symm ha
        | cons y ys => rfl
theorem lineM_no {m : Mk} (w : Int) (hm : mayM m = true) : ∃ t : BS, lineM m w = t ++ [10] ∧ (10 : UInt8) ∉ t := by
  obtain ⟨s1, s2⟩ := sign_byte (may_sign hm)
  have hp := may_plain hm
  obtain ⟨k, f, l⟩ := m
  simp only at s1 hp
  have hl : (10 : UInt8) ∉ l := of_decide_eq_true hp
  refine ⟨List.replicate w.toNat (UInt8.ofNat k.toNat) ++ ((if f = true then [33] else []) ++ (if l = [] then [] else 32 :: l)), ?_, ?_⟩
  · unfold lineM tailM
    simp only [List.append_assoc]
  · intro hh
    simp only [List.mem_append] at hh
    rcases hh with hh | hh | hh
    · have := List.eq_of_mem_replicate hh
      rw [← this] at s1
      rcases s1 with h | h | h | h <;> cases h
    · cases f with
      | true => simp at hh
      | false => simp at hh
    · by_cases h0 : l = []
      · simp [h0] at hh
      · rw [if_neg h0] at hh
        rcases List.mem_cons.1 hh with h | h
        · cases h
        · exact hl h
theorem split_line {m : Mk} (w : Int) (hm : mayM m = true) (b : BS) : splitL (lineM m w ++ b) = lineM m w :: splitL b := by
  obtain ⟨t, e, h⟩ := lineM_no w hm
  rw [e, List.append_assoc]
  exact splitL_cut _ _ h
theorem side_ends (s : BS) : sideM s = [] ∨ endsL (sideM s) = true := by
  unfold sideM lackM
  by_cases h : s = []
  · left; simp [h]
  · cases he : endsL s with
    | true => right; simp [he]
    | false =>
      right
      simp only [ne_eq, h, not_false_eq_true, decide_true, Bool.not_false, Bool.and_self, if_true]
      simp [endsL]
theorem longL_mem {l : List BS} {x : BS} (h : x ∈ l) : runL x ≤ longL l := by
  have key : ∀ (l : List BS) (n : Nat), (∀ x ∈ l, runL x ≤ l.foldl (fun n x => max n (runL x)) n) ∧ n ≤ l.foldl (fun n x => max n (runL x)) n := by
    intro l
    induction l with
    | nil => intro n; exact ⟨fun x h => by simp at h, Nat.le_refl _⟩
    | cons y l ih =>
      intro n
      obtain ⟨h1, h2⟩ := ih (max n (runL y))
      refine ⟨fun x hx => ?_, Nat.le_trans (Nat.le_max_left ..) h2⟩
      rcases List.mem_cons.1 hx with rfl | hx
      · exact Nat.le_trans (Nat.le_max_right ..) h2
      · exact h1 x hx
  exact (key l 0).1 x h
theorem run_end (x : BS) : runL (x ++ [10]) = runL x := by
  cases x with
  | nil => rfl
  | cons c r =>
    rw [List.cons_append, runL, runL]
    split
    · rename_i h
      have h10 : ((10 : UInt8) == c) = false := by
        rcases h with rfl | rfl | rfl | rfl <;> rfl
      have : ∀ r : BS, ((r ++ [10]).takeWhile (· == c)).length = (r.takeWhile (· == c)).length := by
        intro r
        induction r with
        | nil => simp [h10]
        | cons d r ih =>
          rw [List.cons_append, List.takeWhile_cons, List.takeWhile_cons]
          split
          · simp [ih]
          · rfl
      rw [this]
    · rfl
theorem split_snoc : ∀ (n : Nat) (s : BS), s.length ≤ n → s ≠ [] → endsL s = false → ∀ m : Nat, (∀ x ∈ splitL s, runL x < m) → ∀ x ∈ splitL (s ++ [10]), runL x < m
  | 0, s, hn, h0, _, _, _ => absurd (List.length_eq_zero_iff.1 (Nat.le_zero.1 hn)) h0
  | n + 1, s, hn, h0, he, m, hm => by
    by_cases h10 : (10 : UInt8) ∈ s
    · obtain ⟨p, q, rfl, hp⟩ : ∃ p q : BS, s = p ++ 10 :: q ∧ (10 : UInt8) ∉ p := by
        rcases idx_cases s with ⟨_, h'⟩ | ⟨p, q, e, hp, _⟩
        · exact absurd h10 h'
        · exact ⟨p, q, e, hp⟩
      have hq0 : q ≠ [] := by
        rintro rfl
        simp [endsL] at he
      have hqe : endsL q = false := by
        rcases q.eq_nil_or_concat with e | ⟨m', c, e⟩
        · exact absurd e hq0
        · rw [List.concat_eq_append] at e
          unfold endsL at he ⊢
          rw [e] at he ⊢
          rw [show p ++ 10 :: (m' ++ [c]) = (p ++ 10 :: m') ++ [c] by simp, List.getLast?_concat] at he
          rw [List.getLast?_concat]
          exact he
      rw [splitL_cut p q hp] at hm
      rw [show p ++ 10 :: q ++ [10] = p ++ 10 :: (q ++ [10]) by simp, splitL_cut p _ hp]
      intro x hx
      rcases List.mem_cons.1 hx with rfl | hx
      · exact hm _ (List.mem_cons_self ..)
      · exact split_snoc n q (by simp at hn; omega) hq0 hqe m (fun y hy => hm y (List.mem_cons_of_mem _ hy)) x hx
    · rw [splitL_one _ h10 h0] at hm
      rw [splitL_cut s [] h10]
      intro x hx
      rcases List.mem_cons.1 hx with rfl | hx
      · rw [run_end]
        exact hm _ (List.mem_cons_self ..)
      · simp [splitL] at hx
theorem side_runs {s : BS} {m : Nat} (h : longL (splitL s) < m) : ∀ x ∈ splitL (sideM s), runL x < m := by
  have h1 : ∀ x ∈ splitL s, runL x < m := fun x hx => Nat.lt_of_le_of_lt (longL_mem hx) h
  unfold sideM
  split
  · rename_i hl
    unfold lackM at hl
    simp only [Bool.and_eq_true, decide_eq_true_eq, Bool.not_eq_true'] at hl
    exact split_snoc _ s (Nat.le_refl _) hl.1 hl.2 m h1
  · exact h1
theorem side_back {s : BS} (k : Int) (l : BS) : sideF (k, lackM s, l) (sideM s) = some s := by
  unfold sideF
  cases h : lackM s with
  | false =>
    rw [if_neg (by simp)]
    exact congrArg some (if_neg (by rw [h]; simp))
  | true =>
    have e : sideM s = s ++ [10] := if_pos h
    have hc : cutS (s ++ [10]) = s := by
      unfold cutS
      rw [if_pos (by simp [endsL])]
      simp
    unfold lackM at h
    simp only [Bool.and_eq_true, decide_eq_true_eq, Bool.not_eq_true'] at h
    rw [if_pos rfl, e, hc, if_neg]
    rintro (h1 | h1)
    · exact h.1 h1
    · rw [h.2] at h1; cases h1
/-! ### back from what was printed -/
/-- The lines of a Part's print. -/
def linesP (w : Int) (p : Pt) : List BS :=
  if hkP p = true then
    lineM (60, false, p.1) w :: (splitL (sideM p.2.2.2.2.2.1) ++ (if p.2.2.2.2.2.2.2.2 = true then
        lineM (124, lackM p.2.2.2.2.2.1, p.2.1) w :: (splitL (sideM p.2.2.2.2.2.2.1) ++ (lineM (61, lackM p.2.2.2.2.2.2.1, []) w :: (splitL (sideM p.2.2.2.2.2.2.2.1) ++ [lineM (62, lackM p.2.2.2.2.2.2.2.1, p.2.2.1) w])))
      else lineM (61, lackM p.2.2.2.2.2.1, []) w :: (splitL (sideM p.2.2.2.2.2.2.2.1) ++ [lineM (62, lackM p.2.2.2.2.2.2.2.1, p.2.2.1) w])))
  else splitL (txP p)
/-- A Doc that may be, Part by Part; is the one ahead text? -/
def RgL : Bool → List Pt → Prop
  | _, [] => True
  | pv, p :: d => ((hkP p = true ∧ confD p = true) ∨ (hkP p = false ∧ isTextD p = true ∧ txP p ≠ [] ∧ pv = false ∧ (d ≠ [] → endsL (txP p) = true))) ∧ RgL (!hkP p) d
theorem right_rec {d : List Pt} (h : rightD d = true) : ∀ (k n : Nat), n + k = d.length → RgL (decide (0 < n) && !hkP (d.getD (n - 1) ePt.dflt)) (d.drop n)
  | 0, n, hn => by
    rw [List.drop_of_length_le (by omega)]
    trivial
  | k + 1, n, hn => by
    have hlt : n < d.length := by omega
    have ih := right_rec h k (n + 1) (by omega)
    have h1 := of_decide_eq_true h n hlt
    rw [List.drop_eq_getElem_cons hlt, ← gd_lt d ePt.dflt hlt]
    unfold okAt at h1
    simp only [Nat.add_sub_cancel, show (0 < n + 1) = True from eq_true (by omega), decide_true, Bool.true_and] at ih
    refine ⟨?_, ih⟩
    simp only [Bool.and_eq_true, Bool.or_eq_true, decide_eq_true_eq] at h1
    cases hh : hkP (d.getD n ePt.dflt) with
    | true =>
      left
      refine ⟨rfl, ?_⟩
      rcases h1.2 with h2 | h2
      · exact h2
      · unfold aheadD at h2
        simp only [Bool.and_eq_true] at h2
        have h3 := isText_eq h2.1
        rw [h3] at hh
        cases hh
    | false =>
      right
      rw [hh] at h1
      have h2 : aheadD (d.getD n ePt.dflt) (decide (n + 1 < d.length)) = true := by
        rcases h1.2 with h2 | h2
        · unfold confD at h2
          simp only [Bool.and_eq_true] at h2
          rw [show (d.getD n ePt.dflt).2.2.2.1 = false from hh] at h2
          exact absurd h2.1 (by simp)
        · exact h2
      unfold aheadD at h2
      simp only [Bool.and_eq_true, decide_eq_true_eq] at h2
      refine ⟨rfl, h2.1, h2.2.1, ?_, fun h0 => ?_⟩
      · rcases h1.1 with h3 | h3
        · cases h3
        · rcases h3 with h3 | h3
          · subst h3; rfl
          · rw [h3]; simp
      · have h3 : n + 1 < d.length := by
          rcases Nat.lt_or_ge (n + 1) d.length with g | g
          · exact g
          · exact absurd (List.drop_of_length_le g) h0
        have := h2.2.2
        rw [decide_eq_true h3] at this
        simpa using this
theorem right_RgL {d : List Pt} (h : rightD d = true) : RgL false d := by
  have := right_rec h d.length 0 (by omega)
  simpa using this
theorem conf_parts {p : Pt} (h : confD p = true) : p.2.2.2.2.1 = [] ∧ (p.2.2.2.2.2.2.2.2 = true ∨ p.2.2.2.2.2.2.1 = [] ∧ p.2.1 = []) ∧ plainB p.1 = true ∧ plainB p.2.1 = true ∧ plainB p.2.2.1 = true := by
  unfold confD plainD at h
  simp only [Bool.and_eq_true, Bool.or_eq_true, decide_eq_true_eq] at h
  exact ⟨h.2.1, h.2.2.1, h.2.2.2.1, h.2.2.2.2.1, h.2.2.2.2.2⟩
theorem may60 {l : BS} (h : plainB l = true) : mayM (60, false, l) = true := by
  show (!false && plainB l) = true
  rw [h]; rfl
theorem may124 {l : BS} (f : Bool) (h : plainB l = true) : mayM (124, f, l) = true := h
theorem may61 (f : Bool) : mayM (61, f, []) = true := rfl
theorem may62 {l : BS} (f : Bool) (h : plainB l = true) : mayM (62, f, l) = true := h
theorem split_part {w : Int} {p : Pt} (b : BS) (h : (hkP p = true ∧ confD p = true) ∨ (hkP p = false ∧ (endsL (txP p) = true ∨ b = []))) : splitL (printP w p ++ b) = linesP w p ++ splitL b := by
  rcases h with ⟨h1, h2⟩ | ⟨h1, h2⟩
  · obtain ⟨_, _, q1, q2, q3⟩ := conf_parts h2
    unfold printP linesP
    rw [if_pos h1, if_pos h1]
    by_cases hb : p.2.2.2.2.2.2.2.2 = true
    · rw [if_pos hb, if_pos hb]
      simp only [List.append_assoc, List.cons_append, List.nil_append]
      rw [split_line w (may60 q1), splitL_app _ (side_ends _), split_line w (may124 _ q2), splitL_app _ (side_ends _), split_line w (may61 _), splitL_app _ (side_ends _), split_line w (may62 _ q3)]
    · rw [if_neg hb, if_neg hb]
      simp only [List.append_assoc, List.cons_append, List.nil_append]
      rw [split_line w (may60 q1), splitL_app _ (side_ends _), split_line w (may61 _), splitL_app _ (side_ends _), split_line w (may62 _ q3)]
  · unfold printP linesP
    rw [h1, if_neg (by simp), if_neg (by simp)]
    rcases h2 with h2 | h2
    · exact splitL_app _ (.inr h2)
    · rw [h2]
      simp [splitL]
theorem split_print (w : Int) : ∀ (d : List Pt) (pv : Bool), RgL pv d → splitL (printL w d) = (d.map (linesP w)).flatten
  | [], _, _ => rfl
  | p :: d, pv, ⟨h, hr⟩ => by
    have ih := split_print w d _ hr
    have e : printL w (p :: d) = printP w p ++ printL w d := by simp [printL]
    rw [e, split_part, ih]
    · rfl
    · rcases h with h | ⟨h1, _, _, _, h5⟩
      · exact .inl h
      · refine .inr ⟨h1, ?_⟩
        by_cases h0 : d = []
        · subst h0; exact .inr rfl
        · exact .inl (h5 h0)
theorem fresh_join {m : List Pt} {t : BS} (h0 : t ≠ []) (hm : ∀ q, m.getLast? = some q → isTextD q = false) : joinR m (textP t) = m ++ [textP t] := by
  rcases m.eq_nil_or_concat with rfl | ⟨m', q, rfl⟩
  · rw [joinR_nil fun e => h0 e.2]
    rfl
  · rw [List.concat_eq_append] at *
    rw [join_new (fun e => h0 e.2) (hm q (by simp))]
/-- What was read so far. -/
def InvR (pv : Bool) (done : List Pt) (now : BS) (ps : List Pt) : Prop :=
  (pv = false ∧ now = [] ∧ ps.foldl joinR [] = done ∧ ∀ q, done.getLast? = some q → isTextD q = false) ∨
  (pv = true ∧ now ≠ [] ∧ ps.foldl joinR [] ++ [textP now] = done ∧ ∀ q, (ps.foldl joinR []).getLast? = some q → isTextD q = false)
theorem inv_done {pv : Bool} {done : List Pt} {now : BS} {ps : List Pt} (h : InvR pv done now ps) : (ps ++ [textP now]).foldl joinR [] = done := by
  rw [List.foldl_append]
  rcases h with ⟨_, rfl, h, _⟩ | ⟨_, h0, h, hq⟩
  · rw [h]
    exact join_em (isText_textP _) rfl
  · exact (fresh_join h0 hq).trans h
theorem runs_part {w : Int} {p : Pt} (h : (longT (fourP p) : Int) < w) : (∀ x ∈ splitL p.2.2.2.2.1, (runL x : Int) < w) ∧ (∀ x ∈ splitL (sideM p.2.2.2.2.2.1), (runL x : Int) < w) ∧ (∀ x ∈ splitL (sideM p.2.2.2.2.2.2.1), (runL x : Int) < w) ∧ ∀ x ∈ splitL (sideM p.2.2.2.2.2.2.2.1), (runL x : Int) < w := by
  have e : longT (fourP p) = max (max (max (longL (splitL p.2.2.2.2.1)) (longL (splitL p.2.2.2.2.2.1))) (longL (splitL p.2.2.2.2.2.2.1))) (longL (splitL p.2.2.2.2.2.2.2.1)) := by
    unfold longT fourP
    simp
  have hs : ∀ s : BS, (longL (splitL s) : Int) < w → ∀ x ∈ splitL (sideM s), (runL x : Int) < w := fun s hs x hx => by
    have := side_runs (m := w.toNat) (s := s) (by omega) x hx
    omega
  refine ⟨fun x hx => ?_, hs _ (by omega), hs _ (by omega), hs _ (by omega)⟩
  have := longL_mem hx
  omega
theorem run_back {w : Int} (hw : wideM w = true) : ∀ (d : List Pt) (pv : Bool) (done : List Pt) (now : BS) (c : Pt) (ps : List Pt) (i : Nat), RgL pv d → (∀ p ∈ d, (longT (fourP p) : Int) < w) → InvR pv done now ps →
    runR w ((d.map (linesP w)).flatten) 0 now c ps i = (done ++ d, 0, 0)
  | [], pv, done, now, c, ps, i, _, _, hI => by
    show runR w [] 0 now c ps i = _
    rw [runR, if_neg (by simp), ofD_eq, inv_done hI, List.append_nil]
  | p :: d, pv, done, now, c, ps, i, ⟨h, hr⟩, hl, hI => by
    obtain ⟨r1, r2, r3, r4⟩ := runs_part (hl p (List.mem_cons_self ..))
    have hl' : ∀ q ∈ d, (longT (fourP q) : Int) < w := fun q hq => hl q (List.mem_cons_of_mem p hq)
    rw [List.map_cons, List.flatten_cons]
    rcases h with ⟨h1, h2⟩ | ⟨h1, h2, h3, h4, _⟩
    · obtain ⟨q0, q4, q1, q2, q3⟩ := conf_parts h2
      rw [h1] at hr
      have hI2 : ∀ ps', (ps' = ps ++ [textP now] ++ [p]) → InvR false (done ++ [p]) [] ps' := fun ps' e => by
        have hp : isTextD p = false := by
          cases c : isTextD p with
          | false => rfl
          | true => rw [isText_eq c] at h1; cases h1
        refine .inl ⟨rfl, rfl, ?_, fun q hq => ?_⟩
        · rw [e, List.foldl_append, inv_done hI]
          exact join_no hp
        · simp at hq
          rw [← hq]; exact hp
      obtain ⟨ll, bl, rl, hk, x, lf, b, r, hb⟩ := p
      simp only at q0 q1 q2 q3 q4 r1 r2 r3 r4 h1
      have h1 : hk = true := h1
      subst h1 q0
      cases hb with
      | true =>
        have hlp : linesP w (ll, bl, rl, true, [], lf, b, r, true) = lineM (60, false, ll) w :: (splitL (sideM lf) ++ (lineM (124, lackM lf, bl) w :: (splitL (sideM b) ++ (lineM (61, lackM b, []) w :: (splitL (sideM r) ++ [lineM (62, lackM r, rl) w]))))) := rfl
        rw [hlp]
        simp only [List.append_assoc, List.cons_append, List.nil_append]
        have t1 : takeR 0 now c ps (60, false, ll) = (0, 60, (ll, [], [], true, [], [], [], [], false), ps ++ [textP now]) := rfl
        rw [run_mark hw (may60 q1) _ 0 now c ps i (by rw [t1]), t1]
        dsimp only
        rw [run_text hw _ _ _ _ _ r2, splitL_flat, List.nil_append]
        have t2 : takeR 60 (sideM lf) (ll, [], [], true, [], [], [], [], false) (ps ++ [textP now]) (124, lackM lf, bl) = (0, 124, (ll, bl, [], true, [], lf, [], [], true), ps ++ [textP now]) := by
          unfold takeR
          dsimp only
          rw [if_neg (by simp), if_neg (show ¬ followsI 60 124 = false by decide), side_back]
          rfl
        rw [run_mark hw (may124 _ q2) _ _ _ _ _ _ (by rw [t2]), t2]
        dsimp only
        rw [run_text hw _ _ _ _ _ r3, splitL_flat, List.nil_append]
        have t3 : takeR 124 (sideM b) (ll, bl, [], true, [], lf, [], [], true) (ps ++ [textP now]) (61, lackM b, []) = (0, 61, (ll, bl, [], true, [], lf, b, [], true), ps ++ [textP now]) := by
          unfold takeR
          dsimp only
          rw [if_neg (by simp), if_neg (show ¬ followsI 124 61 = false by decide), side_back]
          rfl
        rw [run_mark hw (may61 _) _ _ _ _ _ _ (by rw [t3]), t3]
        dsimp only
        rw [run_text hw _ _ _ _ _ r4, splitL_flat, List.nil_append]
        have t4 : takeR 61 (sideM r) (ll, bl, [], true, [], lf, b, [], true) (ps ++ [textP now]) (62, lackM r, rl) = (0, 0, (ll, bl, rl, true, [], lf, b, r, true), ps ++ [textP now] ++ [(ll, bl, rl, true, [], lf, b, r, true)]) := by
          unfold takeR
          dsimp only
          rw [if_neg (by simp), if_neg (show ¬ followsI 61 62 = false by decide), side_back]
          rfl
        rw [run_mark hw (may62 _ q3) _ _ _ _ _ _ (by rw [t4]), t4]
        dsimp only
        rw [run_back hw d false _ [] _ _ _ hr hl' (hI2 _ rfl)]
        simp
      | false =>
        obtain ⟨rfl, rfl⟩ := q4.resolve_left (by simp)
        have hlp : linesP w (ll, [], rl, true, [], lf, [], r, false) = lineM (60, false, ll) w :: (splitL (sideM lf) ++ (lineM (61, lackM lf, []) w :: (splitL (sideM r) ++ [lineM (62, lackM r, rl) w]))) := rfl
        rw [hlp]
        simp only [List.append_assoc, List.cons_append, List.nil_append]
        have t1 : takeR 0 now c ps (60, false, ll) = (0, 60, (ll, [], [], true, [], [], [], [], false), ps ++ [textP now]) := rfl
        rw [run_mark hw (may60 q1) _ 0 now c ps i (by rw [t1]), t1]
        dsimp only
        rw [run_text hw _ _ _ _ _ r2, splitL_flat, List.nil_append]
        have t3 : takeR 60 (sideM lf) (ll, [], [], true, [], [], [], [], false) (ps ++ [textP now]) (61, lackM lf, []) = (0, 61, (ll, [], [], true, [], lf, [], [], false), ps ++ [textP now]) := by
          unfold takeR
          dsimp only
          rw [if_neg (by simp), if_neg (show ¬ followsI 60 61 = false by decide), side_back]
          rfl
        rw [run_mark hw (may61 _) _ _ _ _ _ _ (by rw [t3]), t3]
        dsimp only
        rw [run_text hw _ _ _ _ _ r4, splitL_flat, List.nil_append]
        have t4 : takeR 61 (sideM r) (ll, [], [], true, [], lf, [], [], false) (ps ++ [textP now]) (62, lackM r, rl) = (0, 0, (ll, [], rl, true, [], lf, [], r, false), ps ++ [textP now] ++ [(ll, [], rl, true, [], lf, [], r, false)]) := by
          unfold takeR
          dsimp only
          rw [if_neg (by simp), if_neg (show ¬ followsI 61 62 = false by decide), side_back]
          rfl
        rw [run_mark hw (may62 _ q3) _ _ _ _ _ _ (by rw [t4]), t4]
        dsimp only
        rw [run_back hw d false _ [] _ _ _ hr hl' (hI2 _ rfl)]
        simp
    · subst h4
      have hlp : linesP w p = splitL (txP p) := by
        unfold linesP
        rw [if_neg (by rw [h1]; simp)]
      rw [h1] at hr
      rcases hI with ⟨_, rfl, hF, hq⟩ | ⟨h5, _⟩
      · rw [hlp, run_text hw _ _ _ _ _ r1, splitL_flat, List.nil_append, run_back hw d true (done ++ [p]) (txP p) c ps _ hr hl' (.inr ⟨rfl, h3, ?_, ?_⟩)]
        · simp
        · rw [hF, ← isText_eq h2]
        · rw [hF]; exact hq
      · cases h5
theorem text_back {d : List Pt} {w : Int} (hw : wideM w = true) (hr : rightD d = true) (hf : fitsD d w = true) : textR (printL w d) w = (d, 0, 0) := by
  have hl : ∀ p ∈ d, (longT (fourP p) : Int) < w := by
    unfold fitsD at hf
    simp only [Bool.and_eq_true, decide_eq_true_eq] at hf
    exact hf.2
  unfold textR
  rw [if_neg (by rw [hw]; simp), split_print w d false (right_RgL hr), run_back hw d false [] [] _ [] 0 (right_RgL hr) hl (.inl ⟨rfl, rfl, rfl, fun q hq => by cases hq⟩)]
  rfl
theorem lines_wide {w : Int} (hw : wideM w = true) {p : Pt} (hl : (longT (fourP p) : Int) < w) (h : hkP p = true → confD p = true) : ∀ x ∈ linesP w p, (runL x : Int) < w + 1 := by
  obtain ⟨h1, h2⟩ := wide_iff.1 hw
  obtain ⟨r1, r2, r3, r4⟩ := runs_part hl
  have hm : ∀ m : Mk, mayM m = true → (runL (lineM m w) : Int) < w + 1 := fun m hm => by
    have := run_line (sign_byte (may_sign hm)).1 (n := w.toNat) (by omega) m.2.1 m.2.2
    unfold lineM
    omega
  intro x hx
  unfold linesP at hx
  by_cases hk : hkP p = true
  · rw [if_pos hk] at hx
    obtain ⟨_, _, q1, q2, q3⟩ := conf_parts (h hk)
    have s2 := fun x hx => Int.lt_add_one_of_le (Int.le_of_lt (r2 x hx))
    have s3 := fun x hx => Int.lt_add_one_of_le (Int.le_of_lt (r3 x hx))
    have s4 := fun x hx => Int.lt_add_one_of_le (Int.le_of_lt (r4 x hx))
    by_cases hb : p.2.2.2.2.2.2.2.2 = true
    · rw [if_pos hb] at hx
      simp only [List.mem_cons, List.mem_append, List.not_mem_nil, or_false] at hx
      rcases hx with rfl | hx | rfl | hx | rfl | hx | rfl
      · exact hm _ (may60 q1)
      · exact s2 x hx
      · exact hm _ (may124 _ q2)
      · exact s3 x hx
      · exact hm _ (may61 _)
      · exact s4 x hx
      · exact hm _ (may62 _ q3)
    · rw [if_neg hb] at hx
      simp only [List.mem_cons, List.mem_append, List.not_mem_nil, or_false] at hx
      rcases hx with rfl | hx | rfl | hx | rfl
      · exact hm _ (may60 q1)
      · exact s2 x hx
      · exact hm _ (may61 _)
      · exact s4 x hx
      · exact hm _ (may62 _ q3)
  · rw [if_neg hk] at hx
    have := r1 x hx
    omega
theorem RgL_conf : ∀ {d : List Pt} {pv : Bool}, RgL pv d → ∀ p ∈ d, hkP p = true → confD p = true
  | q :: d, pv, ⟨h, hr⟩, p, hp, hk => by
    rcases List.mem_cons.1 hp with rfl | hp
    · rcases h with h | h
      · exact h.2
      · rw [h.1] at hk; cases hk
    · exact RgL_conf hr p hp hk
theorem text_wider {d : List Pt} {w : Int} (hw : wideM w = true) (hw2 : w ≠ 1073741824) (hr : rightD d = true) (hf : fitsD d w = true) : conflD (textR (printL w d) (w + 1)).1 = 0 ∧ (textR (printL w d) (w + 1)).1.length ≤ 1 := by
  have hl : ∀ p ∈ d, (longT (fourP p) : Int) < w := by
    unfold fitsD at hf
    simp only [Bool.and_eq_true, decide_eq_true_eq] at hf
    exact hf.2
  obtain ⟨h1, h2⟩ := wide_iff.1 hw
  have hw3 : wideM (w + 1) = true := wide_iff.2 ⟨by omega, by omega⟩
  have hR := right_RgL hr
  have hall : ∀ x ∈ splitL (printL w d), (runL x : Int) < w + 1 := by
    rw [split_print w d false hR]
    intro x hx
    obtain ⟨l, hl1, hl2⟩ := List.mem_flatten.1 hx
    obtain ⟨p, hp, rfl⟩ := List.mem_map.1 hl1
    exact lines_wide hw (hl p hp) (RgL_conf hR p hp) x hl2
  unfold textR
  rw [if_neg (by rw [hw3]; simp)]
  have := run_text hw3 [] 0 ePt.dflt [] (splitL (printL w d)) hall [] 0
  rw [List.append_nil] at this
  rw [this, runR, if_neg (by simp), ofD_eq]
  show conflD (joinR [] (textP _)) = 0 ∧ (joinR [] (textP _)).length ≤ 1
  generalize [] ++ (splitL (printL w d)).flatten = s
  by_cases h0 : s = []
  · rw [join_em (isText_textP _) (show txP (textP s) = [] from h0)]
    exact ⟨rfl, by simp⟩
  · rw [joinR_nil fun e => h0 e.2]
    exact ⟨rfl, by simp⟩
end Go.Proofs.YtljgfacjefebaaaDoor
