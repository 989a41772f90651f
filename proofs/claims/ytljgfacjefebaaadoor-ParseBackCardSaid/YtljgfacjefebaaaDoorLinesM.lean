/-
  Texts as lines: the plain facts.
-/
import Derived.WalkKit
import Derived.Lib.IndexLaws
import Derived.Lib.Join
import Derived.Test.YtljgfacjefebaaaDoorTrimM
namespace Go.Proofs.YtljgfacjefebaaaDoor
open Go
/-- A text's lines, each with its end. -/
def splitL : List UInt8 → List (List UInt8)
  | [] => []
  | c :: r => if c = 10 then [c] :: splitL r else match splitL r with
    | [] => [[c]]
    | l :: ls => (c :: l) :: ls
/-- The pieces that end behind each line's end; the last one doesn't. -/
def spA : List UInt8 → List (List UInt8)
  | [] => [[]]
  | c :: r => if c = 10 then [c] :: spA r else match spA r with
    | [] => [[c]]
    | l :: ls => (c :: l) :: ls
theorem spA_ne (s : List UInt8) : spA s ≠ [] := by
  cases s with
  | nil => simp [spA]
  | cons c r =>
    unfold spA
    split
    · simp
    · split <;> simp
theorem splitL_cut : ∀ (p r : List UInt8), (10 : UInt8) ∉ p → splitL (p ++ 10 :: r) = (p ++ [10]) :: splitL r
  | [], r, _ => by simp [splitL]
  | c :: p, r, h => by
    simp only [List.mem_cons, not_or] at h
    rw [List.cons_append, splitL, if_neg (Ne.symm h.1), splitL_cut p r h.2]
    rfl
theorem splitL_one : ∀ (p : List UInt8), (10 : UInt8) ∉ p → p ≠ [] → splitL p = [p]
  | [], _, h => absurd rfl h
  | [c], h, _ => by
    simp only [List.mem_cons, List.not_mem_nil, or_false] at h
    simp [splitL, Ne.symm h]
  | c :: d :: p, h, _ => by
    simp only [List.mem_cons, not_or] at h
    rw [splitL, if_neg (Ne.symm h.1), splitL_one (d :: p) (by simp only [List.mem_cons, not_or]; exact h.2) (by simp)]
theorem spA_cut : ∀ (p r : List UInt8), (10 : UInt8) ∉ p → spA (p ++ 10 :: r) = (p ++ [10]) :: spA r
  | [], r, _ => by simp [spA]
  | c :: p, r, h => by
    simp only [List.mem_cons, not_or] at h
    rw [List.cons_append, spA, if_neg (Ne.symm h.1), spA_cut p r h.2]
    rfl
theorem spA_one : ∀ (p : List UInt8), (10 : UInt8) ∉ p → spA p = [p]
  | [], _ => rfl
  | c :: p, h => by
    simp only [List.mem_cons, not_or] at h
    rw [spA, if_neg (Ne.symm h.1), spA_one p h.2]
/-- Where the first end is, if there is one. -/
theorem idx_cases (x : List UInt8) : (Lib.indexByte x 10 = -1 ∧ (10 : UInt8) ∉ x) ∨ ∃ p r, x = p ++ 10 :: r ∧ (10 : UInt8) ∉ p ∧ Lib.indexByte x 10 = p.length := by
  rcases Int.lt_or_le (Lib.indexByte x 10) 0 with h | h
  · have := Lib.indexByte_ge x 10
    have e : Lib.indexByte x 10 = -1 := by omega
    refine .inl ⟨e, fun hm => ?_⟩
    obtain ⟨k, hk, hx⟩ := List.mem_iff_getElem.1 hm
    exact Lib.indexByte_none e k (by rw [List.getElem?_eq_getElem hk, hx])
  · obtain ⟨o, ho⟩ := Int.eq_ofNat_of_zero_le h
    obtain ⟨h1, h2⟩ := Lib.indexByte_some (o := o) ho
    obtain ⟨hl, hx⟩ := List.getElem?_eq_some_iff.1 h1
    refine .inr ⟨x.take o, x.drop (o + 1), ?_, fun hm => ?_, ?_⟩
    · conv => lhs; rw [← List.take_append_drop o x]
      rw [List.drop_eq_getElem_cons hl, hx]
    · obtain ⟨k, hk, hk'⟩ := List.mem_iff_getElem.1 hm
      have hk2 : k < o := by simp at hk; omega
      refine h2 k hk2 ?_
      rw [List.getElem_take] at hk'
      rw [List.getElem?_eq_getElem (by omega), hk']
    · rw [ho, List.length_take]
      have : min o x.length = o := by omega
      rw [this]
theorem splitL_nil_iff (s : List UInt8) : splitL s = [] ↔ s = [] := by
  cases s with
  | nil => simp [splitL]
  | cons c r =>
    unfold splitL
    split
    · simp
    · split <;> simp
theorem spA_split : ∀ (s : List UInt8), (spA s = splitL s ++ [[]]) ∨ (spA s = splitL s ∧ ∀ l ∈ splitL s, l ≠ [])
  | [] => .inl rfl
  | c :: r => by
    have ih := spA_split r
    unfold spA splitL
    by_cases h : c = 10
    · rw [if_pos h, if_pos h]
      rcases ih with e | ⟨e, hl⟩
      · exact .inl (by rw [e]; rfl)
      · refine .inr ⟨by rw [e], ?_⟩
        intro l hm
        rcases List.mem_cons.1 hm with rfl | hm
        · simp
        · exact hl l hm
    · rw [if_neg h, if_neg h]
      rcases ih with e | ⟨e, hl⟩
      · rw [e]
        cases hs : splitL r with
        | nil => exact .inr ⟨rfl, by simp⟩
        | cons l ls => exact .inl rfl
      · rw [e]
        refine .inr ⟨rfl, ?_⟩
        cases hs : splitL r with
        | nil => simp
        | cons l ls =>
          rw [hs] at hl
          intro x hm
          rcases List.mem_cons.1 hm with rfl | hm
          · simp
          · exact hl x (List.mem_cons_of_mem _ hm)
theorem splitL_ne : ∀ (s : List UInt8), ∀ l ∈ splitL s, l ≠ []
  | [] => by simp [splitL]
  | c :: r => by
    have ih := splitL_ne r
    unfold splitL
    split
    · intro l hm
      rcases List.mem_cons.1 hm with rfl | hm
      · simp
      · exact ih l hm
    · split
      · simp
      · rename_i l ls hs
        rw [hs] at ih
        intro x hm
        rcases List.mem_cons.1 hm with rfl | hm
        · simp
        · exact ih x (List.mem_cons_of_mem _ hm)
theorem splitL_flat : ∀ (s : List UInt8), (splitL s).flatten = s
  | [] => rfl
  | c :: r => by
    have ih := splitL_flat r
    unfold splitL
    split
    · simp [ih]
    · split
      · rename_i hs
        rw [hs] at ih
        simp at ih
        simp [ih]
      · rename_i l ls hs
        rw [hs] at ih
        simp only [List.flatten_cons] at ih ⊢
        simp [ih]
theorem splitL_append : ∀ (n : Nat) (a b : List UInt8), a.length ≤ n → (a = [] ∨ a.getLast? = some 10) → splitL (a ++ b) = splitL a ++ splitL b
  | n, a, b, hn, h => by
    rcases idx_cases a with ⟨_, hno⟩ | ⟨p, r, rfl, hp, _⟩
    · rcases h with rfl | h
      · rfl
      · exact absurd (List.mem_of_getLast? h) hno
    · cases n with
      | zero => simp at hn
      | succ n =>
        rw [List.append_assoc, List.cons_append, splitL_cut p _ hp, splitL_cut p r hp, List.cons_append]
        congr 1
        refine splitL_append n r b (by simp at hn; omega) ?_
        rcases h with h | h
        · simp at h
        · cases r with
          | nil => exact .inl rfl
          | cons c r => rw [List.getLast?_append, List.getLast?_cons_cons] at h; exact .inr (by simpa using h)
theorem splitL_len (s : List UInt8) : (splitL s).length ≤ s.length := by
  have h : ∀ l : List (List UInt8), (∀ x ∈ l, x ≠ []) → l.length ≤ l.flatten.length := by
    intro l
    induction l with
    | nil => simp
    | cons x l ih =>
      intro hx
      have h1 := ih fun y hy => hx y (List.mem_cons_of_mem _ hy)
      have h2 : 0 < x.length := List.length_pos_iff.2 (hx x (List.mem_cons_self ..))
      simp only [List.length_cons, List.flatten_cons, List.length_append]
      omega
  have := h (splitL s) (splitL_ne s)
  rwa [splitL_flat] at this
/-- One line. -/
def oneL (x : List UInt8) : Bool := decide ((splitL x).length = 1)
/-- Has it its end? -/
def endsL (x : List UInt8) : Bool := decide (x.getLast? = some 10)
/-- A text's lines, perhaps. -/
def wholeL : List (List UInt8) → Bool
  | [] => true
  | [x] => oneL x
  | x :: y :: r => oneL x && endsL x && wholeL (y :: r)
theorem wholeL_iff : ∀ (l : List (List UInt8)), wholeL l = true ↔ ∀ i, i < l.length → oneL (l.getD i []) = true ∧ (i + 1 < l.length → endsL (l.getD i []) = true)
  | [] => by simp [wholeL]
  | [x] => by
    unfold wholeL
    constructor
    · intro h i hi
      have : i = 0 := by simp at hi; omega
      subst this
      exact ⟨h, fun h => by simp at h⟩
    · intro h
      exact (h 0 (by simp)).1
  | x :: y :: r => by
    unfold wholeL
    rw [Bool.and_eq_true, Bool.and_eq_true, wholeL_iff (y :: r)]
    constructor
    · rintro ⟨⟨h1, h2⟩, h3⟩ i hi
      cases i with
      | zero => exact ⟨h1, fun _ => h2⟩
      | succ i =>
        have := h3 i (by simpa using hi)
        simp only [List.getD_cons_succ]
        exact ⟨this.1, fun h => this.2 (by simpa using h)⟩
    · intro h
      refine ⟨⟨(h 0 (by simp)).1, (h 0 (by simp)).2 (by simp)⟩, fun i hi => ?_⟩
      have := h (i + 1) (by simpa using hi)
      simp only [List.getD_cons_succ] at this
      exact ⟨this.1, fun h => this.2 (by simpa using h)⟩
theorem wholeL_split : ∀ (l : List (List UInt8)), wholeL l = true → splitL l.flatten = l
  | [], _ => rfl
  | [x], h => by
    simp only [wholeL, oneL, decide_eq_true_eq] at h
    simp only [List.flatten_cons, List.flatten_nil, List.append_nil]
    have hf := splitL_flat x
    match hs : splitL x, h with
    | [y], _ => rw [hs] at hf; simp at hf; rw [hf]
  | x :: y :: r, h => by
    simp only [wholeL, oneL, endsL, Bool.and_eq_true, decide_eq_true_eq] at h
    obtain ⟨⟨h1, h2⟩, h3⟩ := h
    rw [List.flatten_cons, splitL_append x.length x _ (Nat.le_refl _) (.inr h2), wholeL_split (y :: r) h3]
    have hf := splitL_flat x
    match hs : splitL x, h1 with
    | [z], _ => rw [hs] at hf; simp at hf; rw [hf]; rfl
theorem oneL_cut (p r : List UInt8) (hp : (10 : UInt8) ∉ p) : oneL (p ++ 10 :: r) = decide (r = []) := by
  unfold oneL
  rw [splitL_cut p r hp]
  simp [splitL_nil_iff]
theorem oneL_no (p : List UInt8) (hp : (10 : UInt8) ∉ p) : oneL p = decide (p ≠ []) := by
  unfold oneL
  by_cases h : p = []
  · subst h; rfl
  · rw [splitL_one p hp h]; simp [h]
theorem endsL_no (p : List UInt8) (hp : (10 : UInt8) ∉ p) : endsL p = false := by
  unfold endsL
  rw [decide_eq_false_iff_not]
  exact fun h => hp (List.mem_of_getLast? h)
theorem wholeL_splitL : ∀ (n : Nat) (s : List UInt8), s.length ≤ n → wholeL (splitL s) = true
  | n, s, hn => by
    rcases idx_cases s with ⟨_, hno⟩ | ⟨p, r, rfl, hp, _⟩
    · cases s with
      | nil => rfl
      | cons c s => rw [splitL_one _ hno (by simp)]; simp [wholeL, oneL_no _ hno]
    · cases n with
      | zero => simp at hn
      | succ n =>
        rw [splitL_cut p r hp]
        have ih := wholeL_splitL n r (by simp at hn; omega)
        have h1 : oneL (p ++ [10]) = true := by rw [oneL_cut p [] hp]; rfl
        cases hs : splitL r with
        | nil => exact h1
        | cons x l =>
          rw [hs] at ih
          simp [wholeL, h1, ih, endsL]
/-- How often a sign stands at a line's beginning. -/
def runL : List UInt8 → Nat
  | [] => 0
  | c :: r => if c = 60 ∨ c = 124 ∨ c = 61 ∨ c = 62 then 1 + (r.takeWhile (· == c)).length else 0
def longL (l : List (List UInt8)) : Nat := l.foldl (fun n x => max n (runL x)) 0
theorem runL_le (x : List UInt8) : runL x ≤ x.length := by
  cases x with
  | nil => simp [runL]
  | cons c r =>
    have := (List.takeWhile_sublist (· == c) (l := r)).length_le
    rw [runL, List.length_cons]
    split
    · omega
    · omega
theorem takeWhile_at (c : UInt8) : ∀ (r : List UInt8) (n : Nat), n ≤ r.length → (∀ k, k < n → r.getD k 0 = c) → (n < r.length → r.getD n 0 ≠ c) → (r.takeWhile (· == c)).length = n
  | [], n, h, _, _ => by simp at h; simp [h]
  | x :: r, 0, _, _, h => by
    have := h (by simp)
    simp at this
    simp [this]
  | x :: r, n + 1, h, hk, hn => by
    have h0 := hk 0 (by omega)
    simp at h0
    subst h0
    rw [List.takeWhile_cons, if_pos (by simp), List.length_cons]
    rw [takeWhile_at x r n (by simpa using h) (fun k hk' => by simpa using hk (k + 1) (by omega)) (fun hl => by simpa using hn (by simpa using hl))]
/-- A number for each text, where it is met first. -/
def numL : List (List UInt8) → List (List UInt8) → List (List UInt8) × List Int
  | ks, [] => (ks, [])
  | ks, x :: l => ((numL (if x ∈ ks then ks else ks ++ [x]) l).1, (ks.idxOf x : Int) :: (numL (if x ∈ ks then ks else ks ++ [x]) l).2)
def numF : List (List UInt8) → List (List (List UInt8)) → List (List Int)
  | _, [] => []
  | ks, f :: fs => (numL ks f).2 :: numF (numL ks f).1 fs
theorem numL_len : ∀ (ks l : List (List UInt8)), (numL ks l).2.length = l.length
  | _, [] => rfl
  | ks, x :: l => by simp [numL, numL_len _ l]
theorem numF_len : ∀ (ks : List (List UInt8)) (fs : List (List (List UInt8))), (numF ks fs).length = fs.length
  | _, [] => rfl
  | ks, f :: fs => by simp [numF, numF_len _ fs]
theorem numL_app : ∀ (ks l m : List (List UInt8)), numL ks (l ++ m) = ((numL (numL ks l).1 m).1, (numL ks l).2 ++ (numL (numL ks l).1 m).2)
  | ks, [], m => by simp [numL]
  | ks, x :: l, m => by simp [numL, numL_app _ l m]
theorem numF_app : ∀ (ks : List (List UInt8)) (fs gs : List (List (List UInt8))), numF ks (fs ++ gs) = numF ks fs ++ numF (fs.foldl (fun k f => (numL k f).1) ks) gs
  | ks, [], gs => rfl
  | ks, f :: fs, gs => by simp [numF, numF_app _ fs gs]
theorem numL_ks : ∀ (ks l : List (List UInt8)), (numL ks l).1.length ≤ ks.length + l.length
  | ks, [] => by simp [numL]
  | ks, x :: l => by
    have := numL_ks (if x ∈ ks then ks else ks ++ [x]) l
    simp only [numL, List.length_cons]
    split at this <;> simp at this ⊢ <;> split <;> simp_all <;> omega
end Go.Proofs.YtljgfacjefebaaaDoor
