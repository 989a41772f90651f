/-
  Part 3 of what the proof rests on: values that are told, code that is walked, what comes out.
-/
import Derived.Test.YtjfmigpahglajaaGreatDoorMh2
import Derived.WalkKit
import Derived.Lib.IndexLaws
import Derived.Lib.Join
import Derived.Shelf.Strings.Builder1
import Derived.Shelf.Strings.Builder2
import Derived.Shelf.Strings.OnBuilder
import Derived.Shelf.Small.Strs
import Derived.Shelf.Strings.BuilderF
import Derived.Shelf.Strings.Search1
import Derived.Shelf.Strings.Search2
import Derived.Shelf.Strings.Search3
import Derived.Shelf.Strings.Count
import Derived.Shelf.LaysM
import Derived.Shelf.Strings.Shaped
import Derived.Shelf.Strings.Prefix
import Derived.Shelf.Strings.Split
import Derived.Shelf.Bits.Mul64
import Derived.Shelf.Strings.Repeat
import Derived.Shelf.Unicode.DecodeSlow
import Derived.Test.YtjfmigpahglajaaGreatDoorProg
import Derived.Lib.AppendStr
import Derived.ProofKit
import Derived.OpenShut
import Derived.SizedLaws
import Derived.Laws.Runes
import Derived.Laws.BytesArg
import Derived.Test.YtjfmigpahglajaaGreatDoorChecked
import Derived.Tactics
import Derived.Tactics2
import Derived.StillTactics
import Derived.Laws.Pointers
import Derived.Laws.Externs
import Derived.Laws.Entries
import Derived.Lib.Builder
import Derived.Lib.UnsafeStr
import Derived.KernelRfl
namespace Go.Proofs.YtjfmigpahglajaaGreatDoor
open Go
def splitL : List UInt8 → List (List UInt8)
  | [] => []
  | c :: r => if c = 10 then [c] :: splitL r else match splitL r with
    | [] => [[c]]
    | l :: ls => (c :: l) :: ls
def spA : List UInt8 → List (List UInt8)
  | [] => [[]]
  | c :: r => if c = 10 then [c] :: spA r else match spA r with
    | [] => [[c]]
    | l :: ls => (c :: l) :: ls
theorem spA_ne (s : List UInt8) : spA s ≠ [] := by
  cases s with
  | nil => simp [spA]
  | cons c r =>
    unfold spA
    split
    · simp
    · split <;> simp
theorem splitL_cut : ∀ (p r : List UInt8), (10 : UInt8) ∉ p → splitL (p ++ 10 :: r) = (p ++ [10]) :: splitL r
  | [], r, _ => by simp [splitL]
  | c :: p, r, h => by
    simp only [List.mem_cons, not_or] at h
    rw [List.cons_append, splitL, if_neg (Ne.symm h.1), splitL_cut p r h.2]
    rfl
theorem splitL_one : ∀ (p : List UInt8), (10 : UInt8) ∉ p → p ≠ [] → splitL p = [p]
  | [], _, h => absurd rfl h
  | [c], h, _ => by
    simp only [List.mem_cons, List.not_mem_nil, or_false] at h
    simp [splitL, Ne.symm h]
  | c :: d :: p, h, _ => by
    simp only [List.mem_cons, not_or] at h
    rw [splitL, if_neg (Ne.symm h.1), splitL_one (d :: p) (by simp only [List.mem_cons, not_or]; exact h.2) (by simp)]
theorem spA_cut : ∀ (p r : List UInt8), (10 : UInt8) ∉ p → spA (p ++ 10 :: r) = (p ++ [10]) :: spA r
  | [], r, _ => by simp [spA]
  | c :: p, r, h => by
    simp only [List.mem_cons, not_or] at h
    rw [List.cons_append, spA, if_neg (Ne.symm h.1), spA_cut p r h.2]
    rfl
theorem spA_one : ∀ (p : List UInt8), (10 : UInt8) ∉ p → spA p = [p]
  | [], _ => rfl
  | c :: p, h => by
    simp only [List.mem_cons, not_or] at h
    rw [spA, if_neg (Ne.symm h.1), spA_one p h.2]
theorem idx_cases (x : List UInt8) : (Lib.indexByte x 10 = -1 ∧ (10 : UInt8) ∉ x) ∨ ∃ p r, x = p ++ 10 :: r ∧ (10 : UInt8) ∉ p ∧ Lib.indexByte x 10 = p.length := by
  rcases Int.lt_or_le (Lib.indexByte x 10) 0 with h | h
  · have := Lib.indexByte_ge x 10
    have e : Lib.indexByte x 10 = -1 := by omega
    refine .inl ⟨e, fun hm => ?_⟩
    obtain ⟨k, hk, hx⟩ := List.mem_iff_getElem.1 hm
    exact Lib.indexByte_none e k (by rw [List.getElem?_eq_getElem hk, hx])
  · obtain ⟨o, ho⟩ := Int.eq_ofNat_of_zero_le h
    obtain ⟨h1, h2⟩ := Lib.indexByte_some (o := o) ho
    obtain ⟨hl, hx⟩ := List.getElem?_eq_some_iff.1 h1
    refine .inr ⟨x.take o, x.drop (o + 1), ?_, fun hm => ?_, ?_⟩
    · conv => lhs; rw [← List.take_append_drop o x]
      rw [List.drop_eq_getElem_cons hl, hx]
    · obtain ⟨k, hk, hk'⟩ := List.mem_iff_getElem.1 hm
      have hk2 : k < o := by simp at hk; omega
      refine h2 k hk2 ?_
      rw [List.getElem_take] at hk'
      rw [List.getElem?_eq_getElem (by omega), hk']
    · rw [ho, List.length_take]
      have : min o x.length = o := by omega
      rw [this]
theorem splitL_nil_iff (s : List UInt8) : splitL s = [] ↔ s = [] := by
  cases s with
  | nil => simp [splitL]
  | cons c r =>
    unfold splitL
    split
    · simp
    · split <;> simp
theorem spA_split : ∀ (s : List UInt8), (spA s = splitL s ++ [[]]) ∨ (spA s = splitL s ∧ ∀ l ∈ splitL s, l ≠ [])
  | [] => .inl rfl
  | c :: r => by
    have ih := spA_split r
    unfold spA splitL
    by_cases h : c = 10
    · rw [if_pos h, if_pos h]
      rcases ih with e | ⟨e, hl⟩
      · exact .inl (by rw [e]; rfl)
      · refine .inr ⟨by rw [e], ?_⟩
        intro l hm
        rcases List.mem_cons.1 hm with rfl | hm
        · simp
        · exact hl l hm
    · rw [if_neg h, if_neg h]
      rcases ih with e | ⟨e, hl⟩
      · rw [e]
        cases hs : splitL r with
        | nil => exact .inr ⟨rfl, by simp⟩
        | cons l ls => exact .inl rfl
      · rw [e]
        refine .inr ⟨rfl, ?_⟩
        cases hs : splitL r with
        | nil => simp
        | cons l ls =>
          rw [hs] at hl
          intro x hm
          rcases List.mem_cons.1 hm with rfl | hm
          · simp
          · exact hl x (List.mem_cons_of_mem _ hm)
theorem splitL_ne : ∀ (s : List UInt8), ∀ l ∈ splitL s, l ≠ []
  | [] => by simp [splitL]
  | c :: r => by
    have ih := splitL_ne r
    unfold splitL
    split
    · intro l hm
      rcases List.mem_cons.1 hm with rfl | hm
      · simp
      · exact ih l hm
    · split
      · simp
      · rename_i l ls hs
        rw [hs] at ih
        intro x hm
        rcases List.mem_cons.1 hm with rfl | hm
        · simp
        · exact ih x (List.mem_cons_of_mem _ hm)
theorem splitL_flat : ∀ (s : List UInt8), (splitL s).flatten = s
  | [] => rfl
  | c :: r => by
    have ih := splitL_flat r
    unfold splitL
    split
    · simp [ih]
    · split
      · rename_i hs
        rw [hs] at ih
        simp at ih
        simp [ih]
      · rename_i l ls hs
        rw [hs] at ih
        simp only [List.flatten_cons] at ih ⊢
        simp [ih]
theorem splitL_append : ∀ (n : Nat) (a b : List UInt8), a.length ≤ n → (a = [] ∨ a.getLast? = some 10) → splitL (a ++ b) = splitL a ++ splitL b
  | n, a, b, hn, h => by
    rcases idx_cases a with ⟨_, hno⟩ | ⟨p, r, rfl, hp, _⟩
    · rcases h with rfl | h
      · rfl
      · exact absurd (List.mem_of_getLast? h) hno
    · cases n with
      | zero => simp at hn
      | succ n =>
        rw [List.append_assoc, List.cons_append, splitL_cut p _ hp, splitL_cut p r hp, List.cons_append]
        congr 1
        refine splitL_append n r b (by simp at hn; omega) ?_
        rcases h with h | h
        · simp at h
        · cases r with
          | nil => exact .inl rfl
          | cons c r => rw [List.getLast?_append, List.getLast?_cons_cons] at h; exact .inr (by simpa using h)
theorem splitL_len (s : List UInt8) : (splitL s).length ≤ s.length := by
  have h : ∀ l : List (List UInt8), (∀ x ∈ l, x ≠ []) → l.length ≤ l.flatten.length := by
    intro l
    induction l with
    | nil => simp
    | cons x l ih =>
      intro hx
      have h1 := ih fun y hy => hx y (List.mem_cons_of_mem _ hy)
      have h2 : 0 < x.length := List.length_pos_iff.2 (hx x (List.mem_cons_self ..))
      simp only [List.length_cons, List.flatten_cons, List.length_append]
      omega
  have := h (splitL s) (splitL_ne s)
  rwa [splitL_flat] at this
def oneL (x : List UInt8) : Bool := decide ((splitL x).length = 1)
def endsL (x : List UInt8) : Bool := decide (x.getLast? = some 10)
def wholeL : List (List UInt8) → Bool
  | [] => true
  | [x] => oneL x
  | x :: y :: r => oneL x && endsL x && wholeL (y :: r)
theorem wholeL_iff : ∀ (l : List (List UInt8)), wholeL l = true ↔ ∀ i, i < l.length → oneL (l.getD i []) = true ∧ (i + 1 < l.length → endsL (l.getD i []) = true)
  | [] => by simp [wholeL]
  | [x] => by
    unfold wholeL
    constructor
    · intro h i hi
      have : i = 0 := by simp at hi; omega
      subst this
      exact ⟨h, fun h => by simp at h⟩
    · intro h
      exact (h 0 (by simp)).1
  | x :: y :: r => by
    unfold wholeL
    rw [Bool.and_eq_true, Bool.and_eq_true, wholeL_iff (y :: r)]
    constructor
    · rintro ⟨⟨h1, h2⟩, h3⟩ i hi
      cases i with
      | zero => exact ⟨h1, fun _ => h2⟩
      | succ i =>
        have := h3 i (by simpa using hi)
        simp only [List.getD_cons_succ]
        exact ⟨this.1, fun h => this.2 (by simpa using h)⟩
    · intro h
      refine ⟨⟨(h 0 (by simp)).1, (h 0 (by simp)).2 (by simp)⟩, fun i hi => ?_⟩
      have := h (i + 1) (by simpa using hi)
      simp only [List.getD_cons_succ] at this
      exact ⟨this.1, fun h => this.2 (by simpa using h)⟩
theorem wholeL_split : ∀ (l : List (List UInt8)), wholeL l = true → splitL l.flatten = l
  | [], _ => rfl
  | [x], h => by
    simp only [wholeL, oneL, decide_eq_true_eq] at h
    simp only [List.flatten_cons, List.flatten_nil, List.append_nil]
    have hf := splitL_flat x
    match hs : splitL x, h with
    | [y], _ => rw [hs] at hf; simp at hf; rw [hf]
  | x :: y :: r, h => by
    simp only [wholeL, oneL, endsL, Bool.and_eq_true, decide_eq_true_eq] at h
    obtain ⟨⟨h1, h2⟩, h3⟩ := h
    rw [List.flatten_cons, splitL_append x.length x _ (Nat.le_refl _) (.inr h2), wholeL_split (y :: r) h3]
    have hf := splitL_flat x
    match hs : splitL x, h1 with
    | [z], _ => rw [hs] at hf; simp at hf; rw [hf]; rfl
theorem oneL_cut (p r : List UInt8) (hp : (10 : UInt8) ∉ p) : oneL (p ++ 10 :: r) = decide (r = []) := by
  unfold oneL
  rw [splitL_cut p r hp]
  simp [splitL_nil_iff]
theorem oneL_no (p : List UInt8) (hp : (10 : UInt8) ∉ p) : oneL p = decide (p ≠ []) := by
  unfold oneL
  by_cases h : p = []
  · subst h; rfl
  · rw [splitL_one p hp h]; simp [h]
theorem wholeL_splitL : ∀ (n : Nat) (s : List UInt8), s.length ≤ n → wholeL (splitL s) = true
  | n, s, hn => by
    rcases idx_cases s with ⟨_, hno⟩ | ⟨p, r, rfl, hp, _⟩
    · cases s with
      | nil => rfl
      | cons c s => rw [splitL_one _ hno (by simp)]; simp [wholeL, oneL_no _ hno]
    · cases n with
      | zero => simp at hn
      | succ n =>
        rw [splitL_cut p r hp]
        have ih := wholeL_splitL n r (by simp at hn; omega)
        have h1 : oneL (p ++ [10]) = true := by rw [oneL_cut p [] hp]; rfl
        cases hs : splitL r with
        | nil => exact h1
        | cons x l =>
          rw [hs] at ih
          simp [wholeL, h1, ih, endsL]
def runL : List UInt8 → Nat
  | [] => 0
  | c :: r => if c = 60 ∨ c = 124 ∨ c = 61 ∨ c = 62 then 1 + (r.takeWhile (· == c)).length else 0
def longL (l : List (List UInt8)) : Nat := l.foldl (fun n x => max n (runL x)) 0
theorem runL_le (x : List UInt8) : runL x ≤ x.length := by
  cases x with
  | nil => simp [runL]
  | cons c r =>
    have := (List.takeWhile_sublist (· == c) (l := r)).length_le
    rw [runL, List.length_cons]
    split
    · omega
    · omega
theorem takeWhile_at (c : UInt8) : ∀ (r : List UInt8) (n : Nat), n ≤ r.length → (∀ k, k < n → r.getD k 0 = c) → (n < r.length → r.getD n 0 ≠ c) → (r.takeWhile (· == c)).length = n
  | [], n, h, _, _ => by simp at h; simp [h]
  | x :: r, 0, _, _, h => by
    have := h (by simp)
    simp at this
    simp [this]
  | x :: r, n + 1, h, hk, hn => by
    have h0 := hk 0 (by omega)
    simp at h0
    subst h0
    rw [List.takeWhile_cons, if_pos (by simp), List.length_cons]
    rw [takeWhile_at x r n (by simpa using h) (fun k hk' => by simpa using hk (k + 1) (by omega)) (fun hl => by simpa using hn (by simpa using hl))]
def numL : List (List UInt8) → List (List UInt8) → List (List UInt8) × List Int
  | ks, [] => (ks, [])
  | ks, x :: l => ((numL (if x ∈ ks then ks else ks ++ [x]) l).1, (ks.idxOf x : Int) :: (numL (if x ∈ ks then ks else ks ++ [x]) l).2)
def numF : List (List UInt8) → List (List (List UInt8)) → List (List Int)
  | _, [] => []
  | ks, f :: fs => (numL ks f).2 :: numF (numL ks f).1 fs
theorem numL_len : ∀ (ks l : List (List UInt8)), (numL ks l).2.length = l.length
  | _, [] => rfl
  | ks, x :: l => by simp [numL, numL_len _ l]
theorem numF_len : ∀ (ks : List (List UInt8)) (fs : List (List (List UInt8))), (numF ks fs).length = fs.length
  | _, [] => rfl
  | ks, f :: fs => by simp [numF, numF_len _ fs]
theorem numL_app : ∀ (ks l m : List (List UInt8)), numL ks (l ++ m) = ((numL (numL ks l).1 m).1, (numL ks l).2 ++ (numL (numL ks l).1 m).2)
  | ks, [], m => by simp [numL]
  | ks, x :: l, m => by simp [numL, numL_app _ l m]
theorem numF_app : ∀ (ks : List (List UInt8)) (fs gs : List (List (List UInt8))), numF ks (fs ++ gs) = numF ks fs ++ numF (fs.foldl (fun k f => (numL k f).1) ks) gs
  | ks, [], gs => rfl
  | ks, f :: fs, gs => by simp [numF, numF_app _ fs gs]
theorem numL_ks : ∀ (ks l : List (List UInt8)), (numL ks l).1.length ≤ ks.length + l.length
  | ks, [] => by simp [numL]
  | ks, x :: l => by
    have := numL_ks (if x ∈ ks then ks else ks ++ [x]) l
    simp only [numL, List.length_cons]
    split at this <;> simp at this ⊢ <;> split <;> simp_all <;> omega
end Go.Proofs.YtjfmigpahglajaaGreatDoor
set_option linter.unusedSimpArgs false
set_option linter.unusedVariables false
set_option maxRecDepth 100000
set_option maxHeartbeats 2000000
namespace Go.Proofs.YtjfmigpahglajaaGreatDoor
open Go
attribute [local irreducible] AW AVle ASle RowLe
def sCloneS : MSpec := fun args hp top nx K => ∃ x l, args = [x] ∧ AVle x (sL eS l) ∧ l.length < 1000000000 ∧ ∀ ver nx', nx ≤ ver → ver < nx' → K (.ow top ver l.length) (updR hp top (rowL ver 9 eS l)) (top + 1) nx'
theorem okCloneS : MethOK Tryz.prog 87 sCloneS := by
  refine MethOK.mk Tryz.func87 rfl (by decide) Tryz.results87 Tryz.ntmps87 ?_
  rintro args hp top nx K ⟨x, l, rfl, hx, hl, hK⟩
  have hΓ : GOK Tryz.prog (gam []) := GOK.nil
  refine ⟨Nat.le_of_ble_eq_true rfl, ?_⟩
  refine AW.le (stM_le (.cons hx .nil)) ?_
  refine AW.of hΓ mixed [2, 99999] _ _ _ rfl ?_
  simp only [go_sem]
  refine ⟨fun h0 => ?_, ?_⟩
  · refine AW.adopt 2 9 1 (fun i => eS.enc (l.getD i [])) rfl ?_
    refine AW.of hΓ mixed [] _ _ _ rfl ?_
    simp only [go_sem]
    obtain rfl := List.length_eq_zero_iff.1 h0
    exact hK nx (nx + 1) (Nat.le_refl _) (Nat.lt_succ_self _)
  · exact ⟨by omega, hK nx (nx + 1) (Nat.le_refl _) (Nat.lt_succ_self _)⟩
end Go.Proofs.YtjfmigpahglajaaGreatDoor
namespace Go.Proofs.YtjfmigpahglajaaGreatDoor
def rgt (a b : List Int) : Int → Int → List (Int × Int) → Bool
  | _, _, [] => true
  | u, v, p :: l => decide (u < p.1 ∧ v < p.2 ∧ p.1 < a.length ∧ p.2 < b.length ∧ a.getD p.1.toNat 0 = b.getD p.2.toNat 0) && rgt a b p.1 p.2 l
end Go.Proofs.YtjfmigpahglajaaGreatDoor
set_option linter.unusedSimpArgs false
set_option linter.unusedVariables false
set_option maxRecDepth 100000
set_option maxHeartbeats 2000000
namespace Go.Proofs.YtjfmigpahglajaaGreatDoor
open Go
attribute [local irreducible] AW AVle ASle RowLe
theorem pp_sz : (eP eI eI).sz = 2 := rfl
theorem pp0 (p : Int × Int) : (eP eI eI).enc p 0 = .val (.int .i64 p.1) := rfl
theorem pp1 (p : Int × Int) : (eP eI eI).enc p 1 = .val (.int .i64 p.2) := rfl
theorem pp_d : (eP eI eI).dflt = ((0 : Int), (0 : Int)) := rfl
end Go.Proofs.YtjfmigpahglajaaGreatDoor
set_option linter.unusedSimpArgs false
set_option linter.unusedVariables false
set_option maxRecDepth 100000
namespace Go.Proofs.YtjfmigpahglajaaGreatDoor
open Go
attribute [local irreducible] AW AVle ASle RowLe
def sNumber : Spec := Spec.f1 (kL (eL eS)) (fun l => l.length ≤ 1000000 ∧ ∀ f ∈ l, f.length ≤ 10000000) (fun l => sL (eL eI) (numF [] l))
theorem numF_snoc (ks : List (List UInt8)) (fs : List (List (List UInt8))) (f : List (List UInt8)) : numF ks (fs ++ [f]) = numF ks fs ++ [(numL (fs.foldl (fun k f => (numL k f).1) ks) f).2] := by
  rw [numF_app]; rfl
theorem take_snoc {α : Type} (l : List α) (d : α) {i : Nat} (h : i < l.length) : l.take (i + 1) = l.take i ++ [l.getD i d] := by
  rw [List.take_add_one, gd_lt _ _ h]; simp [h]
theorem numL_snoc (ks f : List (List UInt8)) {k : Nat} (h : k < f.length) : numL ks (f.take (k + 1)) =
    (if f.getD k [] ∈ (numL ks (f.take k)).1 then (numL ks (f.take k)).1 else (numL ks (f.take k)).1 ++ [f.getD k []], (numL ks (f.take k)).2 ++ [((numL ks (f.take k)).1.idxOf (f.getD k []) : Int)]) := by
  rw [take_snoc f [] h, numL_app]
  simp [numL]
theorem okNumber : SpecOK Tryz.prog 96 sNumber := by
  refine SpecOK.f1 Tryz.func96 rfl (by decide) Tryz.results96 Tryz.ntmps96 (by decide) fun fs ⟨hl, hf⟩ => ?_
  have hΓ : GOK Tryz.prog (gam []) := GOK.nil
  refine AW.of hΓ mixed [] _ _ _ rfl ?_
  simp only [go_sem]
  refine ⟨by omega, ?_⟩
  refine AW.round (α := { x : Nat × Nat × Nat // x.1 ≤ fs.length ∧ x.2.1 < x.2.2 })
    (fun x => ⟨[(3, .mp 0 0), (4, .ow 1 x.1.2.1 x.1.1), (16, sL (eL eS) fs), (17, .val (.int .i64 fs.length)), (18, .val (.int .i64 x.1.1))],
      [(0, .mp 0 true ((fs.take x.1.1).foldl (fun k f => (numL k f).1) []).length (mapS ((fs.take x.1.1).foldl (fun k f => (numL k f).1) []))), (1, rowL x.1.2.1 75 (eL eI) (numF [] (fs.take x.1.1)))], 55, 2, x.1.2.2, []⟩) (fun x => fs.length - x.1.1) ⟨(0, 1, 2), by simp⟩ ?_ ?_
  · simp only [go_sem]
    refine ⟨RowLe.of_eq ?_, row_nil rfl⟩
    simp [mapS]
    funext k
    cases k <;> simp [mapS]
  · rintro ⟨⟨i, v, nx⟩, hi, hv⟩
    simp only at hi hv
    refine AW.of hΓ mixed [7] _ _ _ rfl ?_
    simp only [go_sem]
    refine ⟨fun hil => ?_, fun hil => ?_⟩
    · have hlt : i < fs.length := by omega
      have hfi := hf _ (gd_lt fs [] hlt ▸ List.getElem_mem hlt)
      generalize hfe : fs.getD i [] = f at *
      generalize hke : (fs.take i).foldl (fun k f => (numL k f).1) [] = ks0
      refine ⟨by omega, by omega, ?_⟩
      refine AW.to (fun x : { x : Nat // nx < x } => Sh.st ⟨[(3, .mp 0 0), (4, .ow 1 v i), (7, sL eI (numL ks0 f).2), (16, sL (eL eS) fs), (17, .val (.int .i64 fs.length)), (18, .val (.int .i64 i))],
        [(0, .mp 0 true (numL ks0 f).1.length (mapS (numL ks0 f).1)), (1, rowL v 75 (eL eI) (numF [] (fs.take i)))], 55, 3, x.1, []⟩) ?_ ?_
      · refine AW.block (AW.round (α := { x : Nat × Nat × Nat // x.1 ≤ f.length ∧ x.2.1 < x.2.2 ∧ nx < x.2.2 })
          (fun x => ⟨[(3, .mp 0 0), (4, .ow 1 v i), (7, .ow 2 x.1.2.1 x.1.1), (16, sL (eL eS) fs), (17, .val (.int .i64 fs.length)), (18, .val (.int .i64 i)), (25, sL eS f), (26, .val (.int .i64 f.length)), (27, .val (.int .i64 x.1.1))],
          [(0, .mp 0 true (numL ks0 (f.take x.1.1)).1.length (mapS (numL ks0 (f.take x.1.1)).1)), (1, rowL v 75 (eL eI) (numF [] (fs.take i))), (2, rowL x.1.2.1 3 eI (numL ks0 (f.take x.1.1)).2)], 55, 3, x.1.2.2, []⟩) (fun x => f.length - x.1.1) ⟨(0, nx, nx + 1), by simp⟩ ?_ ?_)
        · simp only [go_sem, hke]
          exact ⟨RowLe.of_eq (by simp [numL]), RowLe.refl _, row_nil (by simp [numL])⟩
        · rintro ⟨⟨k, u, nx'⟩, hk, hu, hnx⟩
          simp only at hk hu hnx
          have hlen : (numL ks0 (f.take k)).2.length = k := by rw [numL_len]; simp; omega
          have hkl : (numL ks0 (f.take k)).1.length ≤ ks0.length + k := by
            have := numL_ks ks0 (f.take k)
            simp at this; omega
          by_cases hkf : k < f.length
          · have hs := numL_snoc ks0 f hkf
            have hkc : (k : Int) < f.length := by omega
            generalize hx : f.getD k [] = x at *
            generalize (numL ks0 (f.take k)).1 = ks at *
            generalize (numL ks0 (f.take k)).2 = ns at *
            by_cases hb : x ∈ ks
            · rw [if_pos hb] at hs
              refine AW.of hΓ mixed [99999] _ _ _ rfl ?_
              simp only [go_sem, hb, hx, hkc]
              refine ⟨by omega, ⟨by omega, by omega⟩, by omega, ⟨(k + 1, nx', nx' + 1), by dsimp only; omega, by dsimp only; omega, by dsimp only; omega⟩, ⟨Nat.le_refl _, ⟨⟨rfl, rfl⟩, by dsimp only; omega⟩, ?_, RowLe.refl _, ?_⟩, by dsimp only; omega⟩
              · rw [hs]; exact RowLe.refl _
              · rw [hs]; exact row_app1 rfl rfl hlen.symm rfl rfl fun _ _ => AVle.refl _
            · rw [if_neg hb] at hs
              refine AW.of hΓ mixed [99999] _ _ _ rfl ?_
              simp only [go_sem, hb, hx, hkc]
              have hidx : ks.idxOf x = ks.length := List.idxOf_eq_length hb
              refine ⟨by omega, ⟨by omega, by omega⟩, by omega, ⟨(k + 1, nx', nx' + 1), by dsimp only; omega, by dsimp only; omega, by dsimp only; omega⟩, ⟨Nat.le_refl _, ⟨⟨rfl, rfl⟩, by dsimp only; omega⟩, ?_, RowLe.refl _, ?_⟩, by dsimp only; omega⟩
              · rw [hs, mapS_push ks x hb]; exact RowLe.of_eq (by simp)
              · rw [hs, hidx]; exact row_app1 rfl rfl hlen.symm rfl rfl fun _ _ => AVle.refl _
          · obtain rfl : k = f.length := by omega
            refine AW.of hΓ mixed [99999] _ _ _ rfl ?_
            simp only [go_sem]
            have hlf : (numL ks0 f).2.length = f.length := numL_len ks0 f
            refine ⟨⟨nx', hnx⟩, ASle.trans (ASle.freeze 2 u 3 1 _ _ rfl fun _ _ _ _ => rfl) (toFits ?_)⟩
            simp only [go_sem, hlf]
            exact ⟨vw_all rfl rfl hlf.symm, RowLe.refl _, RowLe.refl _⟩
      · rintro ⟨nx', hnx⟩
        simp only [go_sem]
        have hft : fs.take (i + 1) = fs.take i ++ [f] := by rw [take_snoc fs [] hlt, hfe]
        refine ⟨⟨by rw [numF_len]; simp; omega, by omega⟩, by omega, ⟨(i + 1, nx', nx' + 1), by dsimp only; omega, by dsimp only; omega⟩, ⟨Nat.le_refl _, ⟨⟨rfl, rfl⟩, by dsimp only; omega⟩, ?_, ?_⟩, by dsimp only; omega⟩
        · dsimp only
          rw [hft, List.foldl_append, hke]
          exact RowLe.refl _
        · dsimp only
          rw [hft, numF_snoc, hke]
          exact row_app1 rfl rfl (by rw [numF_len]; simp; omega) rfl (by simp [numF_len]) fun _ _ => AVle.refl _
    · obtain rfl : i = fs.length := by omega
      refine ⟨by rw [numF_len]; simp, ?_⟩
      rw [List.take_length]
      exact vw_all rfl rfl (by rw [numF_len])
end Go.Proofs.YtjfmigpahglajaaGreatDoor
set_option linter.unusedSimpArgs false
set_option linter.unusedVariables false
set_option maxRecDepth 100000
set_option maxHeartbeats 2000000
namespace Go.Proofs.YtjfmigpahglajaaGreatDoor
open Go
attribute [local irreducible] AW AVle ASle RowLe
def cutL {α : Type} (a : List α) (i j : Nat) : List α := (a.take j).drop i
theorem cutL_len {α : Type} (a : List α) {i j : Nat} (h : j ≤ a.length) : (cutL a i j).length = j - i := by simp [cutL]; omega
theorem cut_map {a : List (List UInt8)} {i j : Nat} (h : j ≤ a.length) : cutL a i j = (List.range (j - i)).map fun t => a.getD (i + t) [] := by
  refine list_ext_getD [] (by rw [cutL_len a h]; simp) fun t ht => ?_
  rw [cutL_len a h] at ht
  simp [cutL, List.getD, ht, List.getElem?_take, show i + t < j by omega]
theorem cut_le {a : List (List UInt8)} {i j : Nat} (h : j ≤ a.length) : AVle (.sn (j - i) 1 fun t => eS.enc (a.getD (i + t) [])) (sL eS (cutL a i j)) :=
  sn_le (E := eS) (j - i) (fun t => a.getD (i + t) []) _ (cut_map h)
def numA (a b : List (List UInt8)) : List Int := (numF [] [a, b]).getD 0 []
def numB (a b : List (List UInt8)) : List Int := (numF [] [a, b]).getD 1 []
theorem numA_len (a b : List (List UInt8)) : (numA a b).length = a.length := by
  simp [numA, numF, numL_len]
theorem numB_len (a b : List (List UInt8)) : (numB a b).length = b.length := by
  simp [numB, numF, numL_len]
end Go.Proofs.YtjfmigpahglajaaGreatDoor
set_option linter.unusedSimpArgs false
set_option linter.unusedVariables false
set_option maxRecDepth 100000
set_option maxHeartbeats 2000000
namespace Go.Proofs.YtjfmigpahglajaaGreatDoor
open Go
attribute [local irreducible] AW AVle ASle RowLe
abbrev Sp := Int × Int
abbrev Ck := Bool × Sp × Sp × Sp
abbrev Pl := Int × Int × Int
abbrev eSp : El Sp := eP eI eI
abbrev eCk : El Ck := eP eB (eP eSp (eP eSp eSp))
abbrev ePl : El Pl := eP eI (eP eI eI)
theorem pl_le {a b d : Int} {c : Nat → AV} (h0 : c 0 = .val (.int .i64 a)) (h1 : c 1 = .val (.int .i64 b)) (h2 : c 2 = .val (.int .i64 d)) : AVle (.ag 3 c) (.ag 3 (ePl.enc (a, b, d))) := AVle.ag fun j hj => AVle.of_eq (match j, hj with
  | 0, _ => h0
  | 1, _ => h1
  | 2, _ => h2)
theorem ck_le {s : Bool} {b1 b2 l1 l2 r1 r2 : Int} {c : Nat → AV} (h0 : c 0 = .val (.bool s)) (h1 : c 1 = .val (.int .i64 b1)) (h2 : c 2 = .val (.int .i64 b2)) (h3 : c 3 = .val (.int .i64 l1)) (h4 : c 4 = .val (.int .i64 l2)) (h5 : c 5 = .val (.int .i64 r1)) (h6 : c 6 = .val (.int .i64 r2)) :
    AVle (.ag 7 c) (.ag 7 (eCk.enc (s, (b1, b2), (l1, l2), r1, r2))) := AVle.ag fun j hj => AVle.of_eq (match j, hj with
  | 0, _ => h0
  | 1, _ => h1
  | 2, _ => h2
  | 3, _ => h3
  | 4, _ => h4
  | 5, _ => h5
  | 6, _ => h6)
def cutS (s : Sp) (l : List (List UInt8)) : List (List UInt8) := if s.1 < 0 ∨ (l.length : Int) < s.2 ∨ s.2 < s.1 then [] else cutL l s.1.toNat s.2.toNat
theorem cutS_le (s : Sp) (l : List (List UInt8)) : (cutS s l).length ≤ l.length := by
  unfold cutS
  by_cases h : s.1 < 0 ∨ (l.length : Int) < s.2 ∨ s.2 < s.1
  · rw [if_pos h]; simp
  · rw [if_neg h, cutL_len l (by omega)]; omega
def sCutK : Spec := Spec.f2 (kA eSp) (kL eS) (fun s l => l.length < 100000000) (fun s l => sL eS (cutS s l))
theorem okCutK : SpecOK Tryz.prog 43 sCutK := by
  refine SpecOK.f2 Tryz.func43 rfl (by decide) Tryz.results43 Tryz.ntmps43 (by decide) fun s l hl => ?_
  have hΓ : GOK Tryz.prog (gam [(87, sCloneS)]) := (.cons okCloneS .nil)
  obtain ⟨f, t⟩ := s
  unfold cutS
  refine AW.of hΓ mixed [] _ _ _ rfl ?_
  simp only [go_sem, sCloneS]
  refine ⟨fun h => by simp [h], fun h => by simp [h], fun h => ?_, fun h => ?_⟩
  · simp only [Bool.or_eq_true, decide_eq_true_eq, or_assoc] at h
    rw [if_pos h]
    exact AVle.em_sn
  · simp only [Bool.or_eq_false_iff, decide_eq_false_iff_not] at h
    refine ⟨by omega, _, cutL l f.toNat t.toNat, rfl, cut_le (by omega), by rw [cutL_len l (by omega)]; omega, fun ver nx' _ _ => ?_⟩
    rw [if_neg (by omega)]
    exact AVle.refl _
def turnC (c : Ck) : Ck := (c.1, c.2.1, c.2.2.2, c.2.2.1)
def sTurnedK : Spec := Spec.f1 (kA eCk) (fun _ => True) (fun c => (kA eCk).enc (turnC c))
theorem okTurnedK : SpecOK Tryz.prog 28 sTurnedK := by
  refine SpecOK.f1 Tryz.func28 rfl (by decide) Tryz.results28 Tryz.ntmps28 (by decide) fun c _ => ?_
  have hΓ : GOK Tryz.prog (gam []) := GOK.nil
  obtain ⟨s, ⟨b1, b2⟩, ⟨l1, l2⟩, r1, r2⟩ := c
  unfold turnC
  refine AW.of hΓ mixed [] _ _ _ rfl ?_
  simp only [go_sem]
  exact ck_le rfl rfl rfl rfl rfl rfl rfl
def btw (p q : Pl) : Ck := (false, (p.1, q.1), (p.2.1, q.2.1), (p.2.2, q.2.2))
def sBetween : Spec := Spec.f2 (kA ePl) (kA ePl) (fun _ _ => True) (fun p q => (kA eCk).enc (btw p q))
theorem okBetween : SpecOK Tryz.prog 101 sBetween := by
  refine SpecOK.f2 Tryz.func101 rfl (by decide) Tryz.results101 Tryz.ntmps101 (by decide) fun p q _ => ?_
  have hΓ : GOK Tryz.prog (gam []) := GOK.nil
  obtain ⟨p1, p2, p3⟩ := p
  obtain ⟨q1, q2, q3⟩ := q
  unfold btw
  refine AW.of hΓ mixed [] _ _ _ rfl ?_
  simp only [go_sem]
  exact ck_le rfl rfl rfl rfl rfl rfl rfl
def nextP (p : Pl) : Pl := (p.1 + 1, p.2.1 + 1, p.2.2 + 1)
def okPl (p : Pl) : Prop := (-9223372036854775808 ≤ p.1 ∧ p.1 < 9223372036854775807) ∧ (-9223372036854775808 ≤ p.2.1 ∧ p.2.1 < 9223372036854775807) ∧ -9223372036854775808 ≤ p.2.2 ∧ p.2.2 < 9223372036854775807
def sNextP : Spec := Spec.f1 (kA ePl) okPl (fun p => (kA ePl).enc (nextP p))
theorem okNextP : SpecOK Tryz.prog 103 sNextP := by
  refine SpecOK.f1 Tryz.func103 rfl (by decide) Tryz.results103 Tryz.ntmps103 (by decide) fun p hp => ?_
  have hΓ : GOK Tryz.prog (gam []) := GOK.nil
  obtain ⟨p1, p2, p3⟩ := p
  obtain ⟨h1, h2, h3⟩ := hp
  simp only at h1 h2 h3
  unfold nextP
  refine AW.of hΓ mixed [] _ _ _ rfl ?_
  simp only [go_sem]
  exact ⟨by omega, by omega, by omega, pl_le rfl rfl rfl⟩
def classK (c : Ck) (b l r : List (List UInt8)) : Int := if c.1 = true then 0 else if cutS c.2.2.1 l = cutS c.2.1 b then 2 else if cutS c.2.2.2 r = cutS c.2.1 b then 1 else if cutS c.2.2.1 l = cutS c.2.2.2 r then 3 else 4
def sClassK : Spec := Spec.f4 (kA eCk) (kL eS) (kL eS) (kL eS) (fun c b l r => b.length < 100000000 ∧ l.length < 100000000 ∧ r.length < 100000000) (fun c b l r => kI.enc (classK c b l r))
theorem okClassK : SpecOK Tryz.prog 44 sClassK := by
  refine SpecOK.f4 Tryz.func44 rfl (by decide) Tryz.results44 Tryz.ntmps44 (by decide) fun c b l r ⟨hb, hl, hr⟩ => ?_
  have hΓ : GOK Tryz.prog (gam [(43, sCutK), (88, sEqS)]) := (.cons okCutK (.cons okEqS .nil))
  obtain ⟨s, ⟨b1, b2⟩, ⟨l1, l2⟩, r1, r2⟩ := c
  unfold classK
  dsimp only
  have g1 := cutS_le (b1, b2) b
  have g2 := cutS_le (l1, l2) l
  have g3 := cutS_le (r1, r2) r
  refine AW.of hΓ mixed [] _ _ _ rfl ?_
  simp only [go_sem, sCutK, sEqS]
  refine ⟨fun h => by rw [if_pos h], fun h => ⟨hb, hl, hr, by omega, fun h1 => by simp [h, h1], fun h1 => ⟨by omega, fun h2 => by simp [h, h1, h2], fun h2 => ⟨by omega, fun h3 => ?_, fun h3 => ?_⟩⟩⟩⟩
  · rw [if_neg (by simp [h]), if_neg h1, if_neg h2, if_pos h3]
  · rw [if_neg (by simp [h]), if_neg h1, if_neg h2, if_neg h3]
end Go.Proofs.YtjfmigpahglajaaGreatDoor
set_option linter.unusedSimpArgs false
set_option linter.unusedVariables false
set_option maxRecDepth 100000
set_option maxHeartbeats 2000000
namespace Go.Proofs.YtjfmigpahglajaaGreatDoor
open Go
attribute [local irreducible] AW AVle ASle RowLe
def riseB (a b : Int) : Int → Int → List (Int × Int) → Bool
  | _, _, [] => true
  | u, v, p :: l => decide (u < p.1 ∧ v < p.2 ∧ p.1 < a ∧ p.2 < b) && riseB a b p.1 p.2 l
def sRises : Spec := Spec.f3 (kL (eP eI eI)) kI kI (fun l a b => l.length < 100000000) (fun l a b => kB.enc (riseB a b (-1) (-1) l))
theorem okRises : SpecOK Tryz.prog 99 sRises := by
  refine SpecOK.f3 Tryz.func99 rfl (by decide) Tryz.results99 Tryz.ntmps99 (by decide) fun l a b hl => ?_
  have hΓ : GOK Tryz.prog (gam []) := GOK.nil
  refine AW.of hΓ mixed [] _ _ _ rfl ?_
  simp only [go_sem, pp_sz]
  refine AW.round (α := { x : Nat × Int × Int × Nat // x.1 ≤ l.length ∧ riseB a b (-1) (-1) l = riseB a b x.2.1 x.2.2.1 (l.drop x.1) ∧ -1 ≤ x.2.1 ∧ -1 ≤ x.2.2.1 })
    (fun x => ⟨[(1, .val (.int .i64 a)), (2, .val (.int .i64 b)), (7, .pt 0 0 0), (11, sL (eP eI eI) l), (12, .val (.int .i64 l.length)), (13, .val (.int .i64 x.1.1))], [(0, .box 0 108 2 fun j => if j = 0 then .val (.int .i64 x.1.2.1) else .val (.int .i64 x.1.2.2.1))], 43, 1, x.1.2.2.2, []⟩) (fun x => l.length - x.1.1) ⟨(0, -1, -1, 1), Nat.zero_le _, rfl, Int.le_refl _, Int.le_refl _⟩ ?_ ?_
  · simp only [go_sem]
    refine RowLe.box fun j hj => AVle.of_eq ?_
    match j, hj with
    | 0, _ => rfl
    | 1, _ => rfl
  · rintro ⟨⟨i, u, v, nx⟩, hi, hr, hu, hv⟩
    simp only at hi hr hu hv
    refine AW.of hΓ mixed [4, 99999] _ _ _ rfl ?_
    simp only [go_sem, pp_sz]
    refine ⟨fun hlt => ?_, fun hge => ?_⟩
    · obtain ⟨x, y, hxy⟩ : ∃ x y, l.getD i (0, 0) = (x, y) := ⟨_, _, rfl⟩
      have hd : l.drop i = (x, y) :: l.drop (i + 1) := by
        rw [List.drop_eq_getElem_cons (by omega), ← gd_lt l (0, 0) (by omega), hxy]
      rw [hd, riseB] at hr
      dsimp only at hr
      refine ⟨by omega, ?_⟩
      refine AW.cut ⟨[(1, .val (.int .i64 a)), (2, .val (.int .i64 b)), (7, .pt 0 0 0), (9, .pt 1 nx 0), (11, sL (eP eI eI) l), (12, .val (.int .i64 l.length)), (13, .val (.int .i64 i))], [(0, .box 0 108 2 fun j => if j = 0 then .val (.int .i64 u) else .val (.int .i64 v)), (1, .box nx 108 2 fun j => if j = 0 then .val (.int .i64 x) else .val (.int .i64 y))], 43, 2, nx + 1, []⟩ ?_ ?_
      · simp only [go_sem]
        refine ⟨RowLe.refl _, RowLe.box fun j hj => AVle.of_eq ?_⟩
        match j, hj with
        | 0, _ => show (eP eI eI).enc (l.getD i (0, 0)) 0 = _; rw [hxy]; rfl
        | 1, _ => show (eP eI eI).enc (l.getD i (0, 0)) 1 = _; rw [hxy]; rfl
      · refine AW.of hΓ mixed [99999] _ _ _ rfl ?_
        simp only [go_sem]
        refine ⟨fun h => by simp [h], fun h => by rw [h]; rfl, fun h => by rw [h]; rfl, fun h => ?_, fun h => ?_⟩
        · simp only [Bool.or_eq_true, decide_eq_true_eq] at h
          rw [hr, decide_eq_false (by omega), Bool.false_and]
        · simp only [Bool.or_eq_false_iff, decide_eq_false_iff_not] at h
          rw [decide_eq_true (by omega), Bool.true_and] at hr
          exact ⟨by omega, ⟨(i + 1, x, y, nx + 1), by dsimp only; omega, hr, by dsimp only; omega, by dsimp only; omega⟩, ⟨Nat.le_refl _, by dsimp only; omega, box_st⟩, by dsimp only; omega⟩
    · obtain rfl : i = l.length := by omega
      rw [List.drop_length] at hr
      exact hr.symm
end Go.Proofs.YtjfmigpahglajaaGreatDoor
set_option linter.unusedSimpArgs false
set_option linter.unusedVariables false
set_option maxRecDepth 100000
set_option maxHeartbeats 2000000
namespace Go.Proofs.YtjfmigpahglajaaGreatDoor
open Go
attribute [local irreducible] AW AVle ASle RowLe
def bothF : List (Int × Int) → List (Int × Int) → List Pl
  | [], _ => []
  | _ :: _, [] => []
  | p :: l, q :: r => if p.1 < q.1 then bothF l (q :: r) else if q.1 < p.1 then bothF (p :: l) r else (p.1, p.2, q.2) :: bothF l r
  termination_by l r => l.length + r.length
theorem both_nil (l : List (Int × Int)) : bothF l [] = [] := by cases l <;> simp [bothF]
theorem both_nil' (r : List (Int × Int)) : bothF [] r = [] := by simp [bothF]
def sBoth : Spec := Spec.f2 (kL (eP eI eI)) (kL (eP eI eI)) (fun l r => l.length < 100000000 ∧ r.length < 100000000) (fun l r => sL ePl (bothF l r))
theorem okBoth : SpecOK Tryz.prog 100 sBoth := by
  refine SpecOK.f2 Tryz.func100 rfl (by decide) Tryz.results100 Tryz.ntmps100 (by decide) fun l r ⟨hl, hr⟩ => ?_
  have hΓ : GOK Tryz.prog (gam []) := GOK.nil
  refine AW.of hΓ mixed [200004] _ _ _ rfl ?_
  simp only [go_sem, pp_sz]
  refine AW.adopt 5 161 3 (fun i => ePl.enc (([] : List Pl).getD i (0, 0, 0))) rfl ?_
  refine AW.round (α := { x : Nat × Nat × List Pl × Nat × Nat // x.1 ≤ l.length ∧ x.2.1 ≤ r.length ∧ x.2.2.1.length ≤ x.1 ∧ bothF l r = x.2.2.1 ++ bothF (l.drop x.1) (r.drop x.2.1) })
    (fun x => ⟨[(0, sL (eP eI eI) l), (1, sL (eP eI eI) r), (5, .ow 0 x.1.2.2.2.1 x.1.2.2.1.length), (6, .val (.int .i64 x.1.1)), (7, .val (.int .i64 x.1.2.1))], [(0, rowL x.1.2.2.2.1 161 ePl x.1.2.2.1)], 70, 1, x.1.2.2.2.2, []⟩) (fun x => l.length + r.length - x.1.1 - x.1.2.1) ⟨(0, 0, [], 0, 1), Nat.zero_le _, Nat.zero_le _, Nat.le_refl _, rfl⟩ ?_ ?_
  · simp only [go_sem, pp_sz]
    exact RowLe.refl _
  · rintro ⟨⟨i, j, out, v, nx⟩, hi, hj, ho, hb⟩
    simp only at hi hj ho hb
    refine AW.of hΓ mixed [200004, 99999] _ _ _ rfl ?_
    simp only [go_sem, pp_sz, pp_d, pp0, pp1]
    refine ⟨fun ⟨h1, h2⟩ => ?_, fun h => ?_⟩
    · have hdl : l.drop i = l.getD i (0, 0) :: l.drop (i + 1) := by
        rw [List.drop_eq_getElem_cons (by omega), ← gd_lt l (0, 0) (by omega)]
      have hdr : r.drop j = r.getD j (0, 0) :: r.drop (j + 1) := by
        rw [List.drop_eq_getElem_cons (by omega), ← gd_lt r (0, 0) (by omega)]
      refine ⟨by omega, by omega, fun c => ?_, fun c => ⟨by omega, by omega, fun c2 => ?_, fun c2 => ?_⟩⟩
      · rw [hdl, hdr, bothF, if_pos c, ← hdr] at hb
        exact ⟨by omega, ⟨(i + 1, j, out, v, nx), by dsimp only; omega, by dsimp only; omega, by dsimp only; omega, hb⟩, ⟨Nat.le_refl _, ⟨⟨rfl, rfl⟩, by dsimp only; omega, rfl⟩, RowLe.refl _⟩, by dsimp only; omega⟩
      · rw [hdl, hdr, bothF, if_neg c, if_pos c2, ← hdl] at hb
        exact ⟨by omega, ⟨(i, j + 1, out, v, nx), by dsimp only; omega, by dsimp only; omega, by dsimp only; omega, hb⟩, ⟨Nat.le_refl _, ⟨⟨rfl, rfl⟩, rfl, by dsimp only; omega⟩, RowLe.refl _⟩, by dsimp only; omega⟩
      · rw [hdl, hdr, bothF, if_neg c, if_neg c2] at hb
        refine AW.drawT hΓ mixed 18 [] (by decide +kernel) ?_
        simp only [go_sem, pp_sz, pp_d, pp0, pp1]
        refine ⟨by omega, by omega, by omega, by omega, by omega, by omega, ⟨(i + 1, j + 1, out ++ [((l.getD i (0, 0)).1, (l.getD i (0, 0)).2, (r.getD j (0, 0)).2)], nx, nx + 1), by dsimp only; omega, by dsimp only; omega, by simp; omega, by dsimp only; rw [hb, List.append_assoc]; rfl⟩, ⟨Nat.le_refl _, ⟨⟨rfl, by simp⟩, by dsimp only; omega, by dsimp only; omega⟩, ?_⟩, by dsimp only; omega⟩
        refine row_app1 (E := ePl) rfl rfl rfl rfl (by simp) fun k hk => ?_
        match k, hk with
        | 0, _ => exact AVle.refl _
        | 1, _ => exact AVle.refl _
        | 2, _ => exact AVle.refl _
    · have e : bothF (l.drop i) (r.drop j) = [] := by
        rcases Nat.lt_or_ge i l.length with c | c
        · rw [show r.drop j = [] from List.drop_eq_nil_of_le (by omega)]
          exact both_nil _
        · rw [show l.drop i = [] from List.drop_eq_nil_of_le (by omega)]
          exact both_nil' _
      rw [e, List.append_nil] at hb
      rw [hb]
      exact vw_all (E := ePl) rfl rfl rfl
end Go.Proofs.YtjfmigpahglajaaGreatDoor
set_option linter.unusedSimpArgs false
set_option linter.unusedVariables false
namespace Go.Proofs.YtjfmigpahglajaaGreatDoor
open Go
theorem ASle.still {st : AS} (s q v e m : Nat) (c : Nat → AV) (hs : st.fr s = .pt q v 0) (hrow : st.hp q = .box v e m c) (hfl : ∀ j, j < m → (c j).flat = true) :
    ASle st ⟨updA st.fr s (.ps m c), updR st.hp q .dead, st.sz, st.top, st.nx, st.df⟩ := by
  intro ct η a w h
  have hver : ∀ p u, (updR st.hp q .dead p).ver = some u → (st.hp p).ver = some u ∧ p ≠ q := fun p u hv => by
    by_cases e : p = q
    · subst e; rw [updR_at] at hv; cases hv
    · rw [updR_ne _ _ e] at hv; exact ⟨hv, e⟩
  have hblk : ∀ p b, (updR st.hp q .dead p).blk η = some b → (st.hp p).blk η = some b ∧ p ≠ q := fun p b hb => by
    by_cases e : p = q
    · subst e; rw [updR_at] at hb; cases hb
    · rw [updR_ne _ _ e] at hb; exact ⟨hb, e⟩
  have hL : ∀ b, Lset ct η (updR st.hp q .dead) b → Lset ct η st.hp b := by
    rintro b (hl | ⟨p, hp⟩)
    · exact .inl hl
    · exact .inr ⟨p, (hblk p b hp).1⟩
  have less : ∀ {x u}, Rep w η (Lset ct η st.hp) x u → Rep w η (Lset ct η (updR st.hp q .dead)) x u := fun h => Rep.less (fun b _ hb => hL b hb) h
  have lessN : ∀ {x u}, Rep w noEnv (Lset ct η st.hp) x u → Rep w noEnv (Lset ct η (updR st.hp q .dead)) x u := fun h => Rep.less (fun b _ hb => hL b hb) h
  refine ⟨η, ⟨⟨h.hs.fr, h.hs.lx, fun p => ?_, fun p p' u hp hq => h.hs.vers p p' u (hver p u hp).1 (hver p' u hq).1, fun p u hp => h.hs.bnd p u (hver p u hp).1,
    fun p p' b hp hq => h.hs.disj p p' b (hblk p b hp).1 (hblk p' b hq).1, fun p b hp => h.hs.own p b (hblk p b hp).1, h.hs.fresh, h.hs.env⟩, fun p hp => ?_, h.size,
    fun t => ?_, h.defs⟩⟩
  · show RowOK w η (Lset ct η (updR st.hp q .dead)) (if p = q then .dead else st.hp p)
    by_cases e : p = q
    · rw [if_pos e]; trivial
    · rw [if_neg e]
      exact RowOK.less hL (h.hs.rows p)
  · show (if p = q then Row.dead else st.hp p) = .dead
    by_cases e : p = q
    · rw [if_pos e]
    · rw [if_neg e]
      exact h.dead p hp
  · by_cases et : t = s
    · subst et
      show Rep w η (Lset ct η (updR st.hp q .dead)) (if t = t then .ps m c else st.fr t) _
      rw [if_pos rfl]
      have hr := h.slots t
      rw [hs] at hr
      obtain ⟨g, cap, hη, hv⟩ := hr
      have hrr := h.hs.rows q
      rw [hrow] at hrr
      obtain ⟨b, cur, hg, hh, hsz, hc⟩ := hrr (some g) cap hη
      have hg : g = b := Option.some.inj hg
      subst hg
      have hbk : (st.hp q).blk η = some g := by rw [hrow]; simp [Row.blk, Row.ver, hη]
      refine ⟨g, 0, hv, fun _ => ?_, fun j hj => ?_⟩
      · rintro (hl | ⟨p', hp'⟩)
        · exact (h.hs.own q g hbk).2.1 hl
        · obtain ⟨h1, h2⟩ := hblk p' g hp'
          exact h2 (h.hs.disj p' q g h1 hbk)
      · obtain ⟨u, hu, h1, hrep⟩ := hc j hj
        exact ⟨u, by rw [cell_heap hh, Nat.zero_add]; exact hu, h1, lessN (flat_rep (hfl j hj) hrep)⟩
    · show Rep w η (Lset ct η (updR st.hp q .dead)) (if t = s then .ps m c else st.fr t) _
      rw [if_neg et]
      exact less (h.slots t)
theorem AW.still {P : Program} {x : Code} {Q : Exit → AS → Prop} {st : AS} (s q v e m : Nat) (c : Nat → AV) (hs : st.fr s = .pt q v 0) (hrow : st.hp q = .box v e m c) (hfl : ∀ j, j < m → (c j).flat = true)
    (k : AW P x Q ⟨updA st.fr s (.ps m c), updR st.hp q .dead, st.sz, st.top, st.nx, st.df⟩) : AW P x Q st := AW.le (ASle.still s q v e m c hs hrow hfl) k
section
variable {α β γ δ ε ζ : Type}
def Spec.f5 (A : Kd α) (B : Kd β) (C : Kd γ) (D : Kd δ) (E : Kd ε) (dom : α → β → γ → δ → ε → Prop) (out : α → β → γ → δ → ε → AV) : Spec where
  pre | [x, y, z, u, v] => A.ok x ∧ B.ok y ∧ C.ok z ∧ D.ok u ∧ E.ok v ∧ dom (A.dec x) (B.dec y) (C.dec z) (D.dec u) (E.dec v)
      | _ => False
  res | [x, y, z, u, v] => out (A.dec x) (B.dec y) (C.dec z) (D.dec u) (E.dec v)
      | _ => .any
variable {P : Program} {f : FuncId} {fn : Func} {code : Code} {l : List ResultVar}
theorem SpecOK.f5 {A : Kd α} {B : Kd β} {C : Kd γ} {D : Kd δ} {E : Kd ε} {dom : α → β → γ → δ → ε → Prop} {out : α → β → γ → δ → ε → AV} (hf : P.funcs[f]? = some fn) (hb : fn.body = some code) (hn : (fn.name == "runtime.NumGoroutine") = false) (hl : fn.results = l.toArray) {n : Nat} (ht : fn.ntmps = n) (hm : 5 ≤ n)
    (h : ∀ a b c d e, dom a b c d e → AW P code (retQ P l (out a b c d e)) (st0 n [A.enc a, B.enc b, C.enc c, D.enc d, E.enc e])) : SpecOK P f (Spec.f5 A B C D E dom out) := by
  subst ht
  refine SpecOK.mk hf hb hn hl fun args hp => ?_
  match args, hp with
  | [x, y, z, u, v], hp => exact ⟨hm, AW.le (st0_le (.cons hp.1 (.cons hp.2.1 (.cons hp.2.2.1 (.cons hp.2.2.2.1 (.cons hp.2.2.2.2.1 .nil)))))) (h _ _ _ _ _ hp.2.2.2.2.2)⟩
end
attribute [go_sem] Spec.f5
end Go.Proofs.YtjfmigpahglajaaGreatDoor
set_option linter.unusedSimpArgs false
set_option linter.unusedVariables false
set_option maxRecDepth 100000
set_option maxHeartbeats 2000000
namespace Go.Proofs.YtjfmigpahglajaaGreatDoor
open Go
attribute [local irreducible] AW AVle ASle RowLe
def stretchF (l : List Ck) (p : Pl) : List Ck :=
  match l.getLast? with
  | some c => if c.1 = true then l.dropLast ++ [(true, (c.2.1.1, p.1 + 1), (c.2.2.1.1, p.2.1 + 1), (c.2.2.2.1, p.2.2 + 1))] else l ++ [(true, (p.1, p.1 + 1), (p.2.1, p.2.1 + 1), (p.2.2, p.2.2 + 1))]
  | none => l ++ [(true, (p.1, p.1 + 1), (p.2.1, p.2.1 + 1), (p.2.2, p.2.2 + 1))]
theorem stretch_snoc (m : List Ck) (c : Ck) (p : Pl) : stretchF (m ++ [c]) p = if c.1 = true then m ++ [(true, (c.2.1.1, p.1 + 1), (c.2.2.1.1, p.2.1 + 1), (c.2.2.2.1, p.2.2 + 1))] else m ++ [c] ++ [(true, (p.1, p.1 + 1), (p.2.1, p.2.1 + 1), (p.2.2, p.2.2 + 1))] := by
  simp [stretchF]
theorem stretch_nil (p : Pl) : stretchF [] p = [(true, (p.1, p.1 + 1), (p.2.1, p.2.1 + 1), (p.2.2, p.2.2 + 1))] := rfl
theorem snocD {α : Type} (m : List α) (c d : α) : (m ++ [c]).getD m.length d = c := by simp [List.getD]
def sStretch0 : MSpec := fun args hp top nx K => ∃ (l : List Ck) (v : Nat) (p : Pl), args = [.ow 0 v l.length, (kA ePl).enc p] ∧ hp = rws [(0, rowL v 63 eCk l)] ∧ top = 1 ∧ l.length < 100000000 ∧ okPl p ∧
  ∀ v' nx', (v' = v ∨ nx ≤ v') → nx ≤ nx' → K (.ow 0 v' (stretchF l p).length) (rws [(0, rowL v' 63 eCk (stretchF l p))]) 1 nx'
theorem okStretch0 : MethOK Tryz.prog 102 sStretch0 := by
  refine MethOK.mk Tryz.func102 rfl (by decide) Tryz.results102 Tryz.ntmps102 ?_
  rintro args hp top nx K ⟨l, v, p, rfl, rfl, rfl, hl, hp, hK⟩
  have hΓ : GOK Tryz.prog (gam [(103, sNextP), (101, sBetween)]) := (.cons okNextP (.cons okBetween .nil))
  refine ⟨Nat.le_of_ble_eq_true rfl, AW.late ?_⟩
  have hp' := hp
  obtain ⟨p1, p2, p3⟩ := p
  obtain ⟨q1, q2, q3⟩ := hp'
  simp only at q1 q2 q3
  have hn : nextP (p1, p2, p3) = (p1 + 1, p2 + 1, p3 + 1) := rfl
  have hb : btw (p1, p2, p3) (p1 + 1, p2 + 1, p3 + 1) = (false, (p1, p1 + 1), (p2, p2 + 1), (p3, p3 + 1)) := rfl
  rcases l.eq_nil_or_concat with rfl | ⟨m, c, hms⟩
  · refine AW.of hΓ mixed [200005, 99999] _ _ _ rfl ?_
    simp only [go_sem, sNextP, sBetween, hn, hb]
    refine ⟨hp, _, toFitsV (fun p => p) (l := [(4, .ow 0 (nx + 1 + 1 + 1) 1)]) (r := [(0, rowL (nx + 1 + 1 + 1) 63 eCk (stretchF [] (p1, p2, p3)))]) (sz := 53) (top := 1) (nx := nx + 1 + 1 + 1 + 1) (df := []) ?_, ?_⟩
    · simp only [go_sem, sNextP, sBetween]
      rw [stretch_nil]
      refine row_app1 (E := eCk) (l := []) rfl rfl rfl rfl rfl fun j hj => ?_
      match j, hj with
      | 0, _ => exact AVle.refl _
      | 1, _ => exact AVle.refl _
      | 2, _ => exact AVle.refl _
      | 3, _ => exact AVle.refl _
      | 4, _ => exact AVle.refl _
      | 5, _ => exact AVle.refl _
      | 6, _ => exact AVle.refl _
    · simp only [go_sem, sNextP, sBetween]
      exact hK (nx + 1 + 1 + 1) (nx + 1 + 1 + 1 + 1) (.inr (by omega)) (by omega)
  · rw [List.concat_eq_append] at hms
    subst hms
    have e1 : (((m.length + 1 : Nat) : Int) - 1) = (m.length : Int) := by omega
    have e2 : (0 ≤ (m.length : Int)) = True := eq_true (by omega)
    have hlm : m.length + 1 < 100000000 := by simpa using hl
    obtain ⟨s, ⟨b1, b2⟩, ⟨l1, l2⟩, r1, r2⟩ := c
    cases s with
    | true =>
      refine AW.of hΓ mixed [200005, 99999] _ _ _ rfl ?_
      simp only [go_sem, sNextP, sBetween, hn, hb, snocD, e1, e2]
      refine ⟨hp, by omega, by omega, by omega, by omega, ?_⟩
      refine AW.still 5 2 (nx + 1) 161 3 _ rfl rfl (fun j hj => match j, hj with | 0, _ => rfl | 1, _ => rfl | 2, _ => rfl) ?_
      refine AW.drawZ hΓ mixed 12 [13, 14, 15, 17, 18, 19] [3, 4, 5, 6, 7, 8, 13, 14, 15, 17, 18, 19] [] (by decide +kernel) ?_
      simp only [go_sem, sNextP, sBetween, hn, hb, snocD, e1, e2]
      refine ⟨by omega, by omega, by omega, _, toFitsV (fun p => p) (l := [(4, .ow 0 v (m.length + 1))]) (r := [(0, rowL v 63 eCk (stretchF (m ++ [(true, (b1, b2), (l1, l2), r1, r2)]) (p1, p2, p3)))]) (sz := 53) (top := 1) (nx := nx + 1 + 1) (df := []) ?_, ?_⟩
      · simp only [go_sem, sNextP, sBetween]
        rw [stretch_snoc, if_pos rfl]
        refine RowLe.sl (by simp) fun i hi j hj => ?_
        simp only [stE]
        by_cases e : i = m.length
        · subst e
          rw [snocD, snocD]
          match j, hj with
          | 0, _ => simp; exact AVle.refl _
          | 1, _ => simp; exact AVle.refl _
          | 2, _ => simp; exact AVle.refl _
          | 3, _ => simp; exact AVle.refl _
          | 4, _ => simp; exact AVle.refl _
          | 5, _ => simp; exact AVle.refl _
          | 6, _ => simp; exact AVle.refl _
        · rw [if_neg (fun h => e h.1), if_neg (fun h => e h.1), if_neg (fun h => e h.1)]
          have e3 : ∀ c : Ck, (m ++ [c]).getD i eCk.dflt = m.getD i eCk.dflt := fun c => by simp [List.getD, List.getElem?_append_left (show i < m.length by omega)]
          rw [e3, e3]
          exact AVle.refl _
      · simp only [go_sem, sNextP, sBetween]
        have := hK v (nx + 1 + 1) (.inl rfl) (by omega)
        rwa [show (stretchF (m ++ [(true, (b1, b2), (l1, l2), r1, r2)]) (p1, p2, p3)).length = m.length + 1 by rw [stretch_snoc, if_pos rfl]; simp] at this
    | false =>
      refine AW.of hΓ mixed [200005, 99999] _ _ _ rfl ?_
      simp only [go_sem, sNextP, sBetween, hn, hb, snocD, e1, e2]
      refine ⟨hp, by omega, by omega, by omega, by omega, _, toFitsV (fun p => p) (l := [(4, .ow 0 (nx + 1 + 1 + 1) (m.length + 1 + 1))]) (r := [(0, rowL (nx + 1 + 1 + 1) 63 eCk (stretchF (m ++ [(false, (b1, b2), (l1, l2), r1, r2)]) (p1, p2, p3)))]) (sz := 53) (top := 1) (nx := nx + 1 + 1 + 1 + 1) (df := []) ?_, ?_⟩
      · simp only [go_sem, sNextP, sBetween]
        rw [stretch_snoc, if_neg (fun h => by cases h)]
        refine row_app1 (E := eCk) rfl rfl (by simp) rfl (by simp) fun j hj => ?_
        match j, hj with
        | 0, _ => exact AVle.refl _
        | 1, _ => exact AVle.refl _
        | 2, _ => exact AVle.refl _
        | 3, _ => exact AVle.refl _
        | 4, _ => exact AVle.refl _
        | 5, _ => exact AVle.refl _
        | 6, _ => exact AVle.refl _
      · simp only [go_sem, sNextP, sBetween]
        have := hK (nx + 1 + 1 + 1) (nx + 1 + 1 + 1 + 1) (.inr (by omega)) (by omega)
        rwa [show (stretchF (m ++ [(false, (b1, b2), (l1, l2), r1, r2)]) (p1, p2, p3)).length = m.length + 1 + 1 by rw [stretch_snoc, if_neg (fun h => by cases h)]; simp] at this
end Go.Proofs.YtjfmigpahglajaaGreatDoor
set_option linter.unusedSimpArgs false
set_option linter.unusedVariables false
set_option maxRecDepth 100000
set_option maxHeartbeats 2000000
namespace Go.Proofs.YtjfmigpahglajaaGreatDoor
open Go
attribute [local irreducible] AW AVle ASle RowLe
def sStretch : MSpec := framed sStretch0
theorem okStretch : MethOK Tryz.prog 102 sStretch := okStretch0.frame
theorem stretch_go {l : List Ck} {v q n : Nat} {p : Pl} {x : AV} {hp : Nat → Row} {top nx : Nat} {K : AV → (Nat → Row) → Nat → Nat → Prop} (hn : n = l.length) (hx : AVle x ((kA ePl).enc p)) (hr : RowLe (hp q) (rowL v 63 eCk l)) (ht : q < top) (hl : l.length < 100000000) (hp0 : okPl p)
    (hK : ∀ v' nx', nx ≤ nx' → K (.ow q v' (stretchF l p).length) (updR hp q (rowL v' 63 eCk (stretchF l p))) top nx') : sStretch [.ow q v n, x] hp top nx K := by
  subst hn
  have hver : (hp q).ver = some v := hr.vers.symm
  refine ⟨[q], [.ow 0 v l.length, (kA ePl).enc p], rws [(0, rowL v 63 eCk l)], by simp, by simpa using ht, .cons AVle.ow (.cons hx .nil), one_row hr, fun i hi => rws_top (top := 1) (by simp) i (by simpa using hi), l, v, p, rfl, rfl, rfl, hl, hp0, fun v' nx' h1 h3 => ?_⟩
  refine ⟨.ow q v' (stretchF l p).length, _, AVle.ow, fun i r hr => ?_, fun r hr => ?_, fun r hr w hw => ?_, hK v' nx' h3⟩
  · cases i with
    | zero =>
      simp only [List.getElem?_cons_zero, Option.some.injEq] at hr
      subst hr
      rw [updR_at]
      exact RowLe.refl _
    | succ i => simp at hr
  · rw [updR_ne _ _ (by simpa using hr)]
  · simp only [List.mem_singleton] at hr
    subst hr
    rw [updR_at] at hw
    have : some v' = some w := hw
    obtain rfl := Option.some.inj this
    rcases h1 with rfl | h1
    · exact .inl hver
    · exact .inr h1
theorem plEq (p1 p2 p3 t1 t2 t3 : Int) : (decide (p1 = t1) && (decide (p2 = t2) && decide (p3 = t3))) = decide (((p1, p2, p3) : Pl) = (t1, t2, t3)) := by
  rw [Bool.eq_iff_iff]
  simp only [Bool.and_eq_true, decide_eq_true_eq, Prod.mk.injEq]
def ofK (ends : Pl) : List Pl → List Ck → Pl → List Ck
  | [], s, t => if t = ends then s else s ++ [btw t ends]
  | p :: M, s, t => ofK ends M (stretchF (if p = t then s else s ++ [btw t p]) p) (nextP p)
theorem rise_mem {a b : Int} : ∀ {l : List (Int × Int)} {u v : Int}, riseB a b u v l = true → ∀ p ∈ l, u < p.1 ∧ v < p.2 ∧ p.1 < a ∧ p.2 < b
  | q :: l, u, v, h, p, hp => by
    rw [riseB, Bool.and_eq_true, decide_eq_true_eq] at h
    rcases List.mem_cons.1 hp with rfl | hp
    · exact h.1
    · have := rise_mem h.2 p hp
      omega
theorem both_mem : ∀ (n : Nat) (l r : List (Int × Int)), l.length + r.length ≤ n → ∀ x ∈ bothF l r, ∃ p ∈ l, ∃ q ∈ r, p.1 = q.1 ∧ x = (p.1, p.2, q.2)
  | _, [], r, _, x, hx => by rw [both_nil'] at hx; cases hx
  | _, p :: l, [], _, x, hx => by rw [both_nil] at hx; cases hx
  | 0, _ :: _, _ :: _, h, _, _ => by simp at h
  | n + 1, p :: l, q :: r, h, x, hx => by
    simp only [List.length_cons] at h
    rw [bothF] at hx
    by_cases c : p.1 < q.1
    · rw [if_pos c] at hx
      obtain ⟨p', hp, q', hq, e⟩ := both_mem n l (q :: r) (by simp only [List.length_cons]; omega) x hx
      exact ⟨p', List.mem_cons_of_mem _ hp, q', hq, e⟩
    · rw [if_neg c] at hx
      by_cases c2 : q.1 < p.1
      · rw [if_pos c2] at hx
        obtain ⟨p', hp, q', hq, e⟩ := both_mem n (p :: l) r (by simp only [List.length_cons]; omega) x hx
        exact ⟨p', hp, q', List.mem_cons_of_mem _ hq, e⟩
      · rw [if_neg c2] at hx
        rcases List.mem_cons.1 hx with rfl | hx
        · exact ⟨p, List.mem_cons_self .., q, List.mem_cons_self .., by omega, rfl⟩
        · obtain ⟨p', hp, q', hq, e⟩ := both_mem n l r (by omega) x hx
          exact ⟨p', List.mem_cons_of_mem _ hp, q', List.mem_cons_of_mem _ hq, e⟩
theorem both_len : ∀ (n : Nat) (l r : List (Int × Int)), l.length + r.length ≤ n → (bothF l r).length ≤ l.length
  | _, [], r, _ => by rw [both_nil']; simp
  | _, p :: l, [], _ => by rw [both_nil]; simp
  | 0, _ :: _, _ :: _, h => by simp at h
  | n + 1, p :: l, q :: r, h => by
    simp only [List.length_cons] at h
    rw [bothF]
    by_cases c : p.1 < q.1
    · rw [if_pos c]
      have := both_len n l (q :: r) (by simp only [List.length_cons]; omega)
      simp only [List.length_cons]; omega
    · rw [if_neg c]
      by_cases c2 : q.1 < p.1
      · rw [if_pos c2]
        exact both_len n (p :: l) r (by simp only [List.length_cons]; omega)
      · rw [if_neg c2]
        have := both_len n l r (by omega)
        simp only [List.length_cons]; omega
theorem stretch_len (l : List Ck) (p : Pl) : (stretchF l p).length ≤ l.length + 1 := by
  rcases l.eq_nil_or_concat with rfl | ⟨m, c, rfl⟩
  · simp [stretch_nil]
  · rw [List.concat_eq_append, stretch_snoc]
    by_cases h : c.1 = true
    · rw [if_pos h]; simp
    · rw [if_neg h]; simp
def fitK (a b c : Int) (l r : List (Int × Int)) : Bool := decide (0 ≤ a ∧ 0 ≤ b ∧ 0 ≤ c) && (riseB a b (-1) (-1) l && riseB a c (-1) (-1) r)
def sOfK : Spec := Spec.f5 kI kI kI (kL (eP eI eI)) (kL (eP eI eI)) (fun a b c l r => a < 100000000 ∧ b < 100000000 ∧ c < 100000000 ∧ l.length < 10000000 ∧ r.length < 10000000)
  (fun a b c l r => if fitK a b c l r then tu2 (sL eCk (ofK (a, b, c) (bothF l r) [] (0, 0, 0))) (kI.enc 0) else tu2 .em (kI.enc 12))
theorem okOfK : SpecOK Tryz.prog 53 sOfK := by
  refine SpecOK.f5 Tryz.func53 rfl (by decide) Tryz.results53 Tryz.ntmps53 (by decide) fun a b c l r ⟨ha, hb, hc, hl, hr⟩ => ?_
  have hΓ : GOK Tryz.prog (gam [(99, sRises), (100, sBoth), (101, sBetween), (102, sStretch), (103, sNextP)]) := (.cons okRises (.cons okBoth (.cons okBetween (.cons okStretch (.cons okNextP .nil)))))
  rcases hf : fitK a b c l r with _ | _
  · have hbad : (decide (a < 0) || decide (b < 0) || decide (c < 0) || !riseB a b (-1) (-1) l || !riseB a c (-1) (-1) r) = true := by
      cases h : (decide (a < 0) || decide (b < 0) || decide (c < 0) || !riseB a b (-1) (-1) l || !riseB a c (-1) (-1) r) with
      | true => rfl
      | false =>
        simp only [Bool.or_eq_false_iff, decide_eq_false_iff_not, Bool.not_eq_false'] at h
        obtain ⟨⟨⟨⟨h1, h2⟩, h3⟩, h4⟩, h5⟩ := h
        have : fitK a b c l r = true := by
          unfold fitK
          rw [h4, h5, decide_eq_true (by omega)]
          rfl
        rw [this] at hf
        cases hf
    refine AW.of hΓ mixed [5] _ _ _ rfl ?_
    simp only [go_sem, sRises, sBoth, sBetween, sStretch, sNextP, pp_sz, hf]
    refine ⟨fun h => by simp [h], fun h => by rw [h]; rfl, fun _ => by omega, fun h => by rw [h]; rfl, fun _ => by omega, fun h => by rw [h]; rfl, fun h => by rw [hbad] at h; cases h⟩
  · have hf' := hf
    unfold fitK at hf'
    simp only [Bool.and_eq_true, decide_eq_true_eq] at hf'
    obtain ⟨⟨a0, b0, c0⟩, g1, g2⟩ := hf'
    have d1 : (a < 0) = False := eq_false (by omega)
    have d2 : (b < 0) = False := eq_false (by omega)
    have d3 : (c < 0) = False := eq_false (by omega)
    refine AW.of hΓ mixed [5] _ _ _ rfl ?_
    simp only [go_sem, sRises, sBoth, sBetween, sStretch, sNextP, pp_sz, hf, d1, d2, d3, g1, g2]
    refine ⟨by omega, by omega, by omega, ?_⟩
    refine AW.adopt 12 63 7 (fun i => eCk.enc (([] : List Ck).getD i eCk.dflt)) rfl ?_
    have hM : ∀ p ∈ bothF l r, (0 ≤ p.1 ∧ p.1 < a) ∧ (0 ≤ p.2.1 ∧ p.2.1 < b) ∧ 0 ≤ p.2.2 ∧ p.2.2 < c := fun p hp => by
      obtain ⟨x, hx, y, hy, _, rfl⟩ := both_mem _ l r (Nat.le_refl _) p hp
      have h1 := rise_mem g1 x hx
      have h2 := rise_mem g2 y hy
      exact ⟨by dsimp only; omega, by dsimp only; omega, by dsimp only; omega⟩
    have hMl := both_len _ l r (Nat.le_refl _)
    generalize hMe : bothF l r = M at *
    refine AW.block (AW.round (α := { x : Nat × List Ck × Pl × Nat × Nat × Nat × Nat // x.1 ≤ M.length ∧ x.2.1.length ≤ 2 * x.1 ∧ ofK (a, b, c) M [] (0, 0, 0) = ofK (a, b, c) (M.drop x.1) x.2.1 x.2.2.1 })
      (fun x => ⟨[(12, .ow 2 x.1.2.2.2.2.2.1 x.1.2.1.length), (13, .pt 0 x.1.2.2.2.1 0), (14, .pt 1 x.1.2.2.2.2.1 0), (48, sL ePl M), (49, .val (.int .i64 M.length)), (50, .val (.int .i64 x.1.1))],
        [(0, .box x.1.2.2.2.1 161 3 (ePl.enc x.1.2.2.1)), (1, .box x.1.2.2.2.2.1 161 3 (ePl.enc (a, b, c))), (2, rowL x.1.2.2.2.2.2.1 63 eCk x.1.2.1)], 80, 3, x.1.2.2.2.2.2.2, []⟩) (fun x => M.length - x.1.1) ⟨(0, [], (0, 0, 0), 0, 1, 2, 3), Nat.zero_le _, Nat.le_refl _, rfl⟩ ?_ ?_)
    · simp only [go_sem, sRises, sBoth, sBetween, sStretch, sNextP]
      refine ⟨RowLe.box fun j hj => ?_, RowLe.box fun j hj => ?_, RowLe.refl _⟩
      · match j, hj with
        | 0, _ => exact AVle.refl _
        | 1, _ => exact AVle.refl _
        | 2, _ => exact AVle.refl _
      · match j, hj with
        | 0, _ => exact AVle.refl _
        | 1, _ => exact AVle.refl _
        | 2, _ => exact AVle.refl _
    · rintro ⟨⟨i, s, ⟨t1, t2, t3⟩, va, vb, v, nx⟩, hi, hs, he⟩
      simp only at hi hs he
      refine AW.of hΓ mixed [8, 99999] _ _ _ rfl ?_
      simp only [go_sem, sRises, sBoth, sBetween, sStretch, sNextP]
      refine ⟨fun hil => ?_, fun hil => ?_⟩
      · have hlt : i < M.length := by omega
        obtain ⟨p1, p2, p3, hp⟩ : ∃ p1 p2 p3, M.getD i ePl.dflt = (p1, p2, p3) := ⟨_, _, _, rfl⟩
        have hd : M.drop i = (p1, p2, p3) :: M.drop (i + 1) := by
          rw [List.drop_eq_getElem_cons hlt, ← gd_lt M ePl.dflt hlt, hp]
        have hpb := hM (p1, p2, p3) (by rw [← hp, gd_lt M _ hlt]; exact List.getElem_mem _)
        simp only at hpb
        rw [hd, ofK] at he
        refine ⟨by omega, ?_⟩
        obtain ⟨s', hs'⟩ : ∃ s', (if (p1, p2, p3) = (t1, t2, t3) then s else s ++ [btw (t1, t2, t3) (p1, p2, p3)]) = s' := ⟨_, rfl⟩
        have hsl : s'.length ≤ s.length + 1 := by
          rw [← hs']
          split
          · omega
          · simp
        rw [hs'] at he
        refine AW.to (fun x : Nat × Nat => Sh.st ⟨[(12, .ow 2 x.1 s'.length), (13, .pt 0 va 0), (14, .pt 1 vb 0), (16, .pt 3 nx 0), (48, sL ePl M), (49, .val (.int .i64 M.length)), (50, .val (.int .i64 i))],
          [(0, .box va 161 3 (ePl.enc (p1, p2, p3))), (1, .box vb 161 3 (ePl.enc (a, b, c))), (2, rowL x.1 63 eCk s'), (3, .box nx 161 3 (ePl.enc (p1, p2, p3)))], 80, 4, x.2, []⟩) ?_ ?_
        · refine AW.of hΓ mixed [99999] _ _ _ rfl ?_
          simp only [go_sem, sRises, sBoth, sBetween, sStretch, sNextP, hp]
          rw [plEq]
          refine ⟨fun h => ⟨by omega, ⟨(nx + 1, nx + 1 + 1), toFits ?_⟩⟩, fun h => ⟨(v, nx + 1), toFits ?_⟩⟩
          · have hne : ¬ ((p1, p2, p3) : Pl) = (t1, t2, t3) := fun e => by rw [decide_eq_true e] at h; cases h
            rw [if_neg hne] at hs'
            subst hs'
            simp only [go_sem, sRises, sBoth, sBetween, sStretch, sNextP]
            refine ⟨RowLe.box fun j hj => ?_, RowLe.refl _, row_app1 (E := eCk) rfl rfl rfl rfl (by simp) fun j hj => AVle.refl _, RowLe.box fun j hj => ?_⟩
            · match j, hj with
              | 0, _ => exact AVle.refl _
              | 1, _ => exact AVle.refl _
              | 2, _ => exact AVle.refl _
            · match j, hj with
              | 0, _ => exact AVle.refl _
              | 1, _ => exact AVle.refl _
              | 2, _ => exact AVle.refl _
          · have heq : ((p1, p2, p3) : Pl) = (t1, t2, t3) := of_decide_eq_true (by simpa only [Bool.not_eq_false'] using h)
            rw [if_pos heq] at hs'
            subst hs'
            obtain ⟨rfl, rfl, rfl⟩ : p1 = t1 ∧ p2 = t2 ∧ p3 = t3 := by simpa using heq
            simp only [go_sem, sRises, sBoth, sBetween, sStretch, sNextP]
            refine ⟨RowLe.refl _, RowLe.refl _, RowLe.refl _, RowLe.box fun j hj => ?_⟩
            match j, hj with
            | 0, _ => exact AVle.refl _
            | 1, _ => exact AVle.refl _
            | 2, _ => exact AVle.refl _
        · rintro ⟨v', nx'⟩
          simp only [go_sem, sRises, sBoth, sBetween, sStretch, sNextP]
          have hok : okPl (p1, p2, p3) := ⟨by dsimp only; omega, by dsimp only; omega, by dsimp only; omega⟩
          have hsl2 := stretch_len s' (p1, p2, p3)
          refine stretch_go (q := 2) (l := s') (p := (p1, p2, p3)) rfl (AVle.refl _) (RowLe.refl _) (by decide) (by omega) hok fun v2 n2 h2 => ?_
          generalize stretchF s' (p1, p2, p3) = s2 at *
          simp only [go_sem, sRises, sBoth, sBetween, sStretch, sNextP]
          refine ⟨hok, by omega, ⟨(i + 1, s2, nextP (p1, p2, p3), va, vb, v2, n2), by dsimp only; omega, by dsimp only; omega, he⟩, ⟨Nat.le_refl _, ⟨⟨rfl, rfl⟩, rfl, rfl, by dsimp only; omega⟩, RowLe.box fun j hj => ?_, RowLe.refl _, RowLe.refl _⟩, by dsimp only; omega⟩
          match j, hj with
          | 0, _ => exact AVle.refl _
          | 1, _ => exact AVle.refl _
          | 2, _ => exact AVle.refl _
      · obtain rfl : i = M.length := by omega
        rw [List.drop_length, ofK] at he
        refine AW.seqTo (fun x : Nat × Nat => Sh.st ⟨[(12, .ow 2 x.1 (ofK (a, b, c) M [] (0, 0, 0)).length)], [(2, rowL x.1 63 eCk (ofK (a, b, c) M [] (0, 0, 0)))], 80, 3, x.2, []⟩) ?_ ?_
        · refine AW.of hΓ mixed [] _ _ _ rfl ?_
          simp only [go_sem, sRises, sBoth, sBetween, sStretch, sNextP]
          rw [plEq]
          refine ⟨fun h => ⟨by omega, ⟨(nx, nx + 1), toFits ?_⟩⟩, fun h => ⟨(v, nx), toFits ?_⟩⟩
          · have hne : ¬ ((t1, t2, t3) : Pl) = (a, b, c) := fun e => by rw [decide_eq_true e] at h; cases h
            rw [if_neg hne] at he
            rw [he]
            simp only [go_sem, sRises, sBoth, sBetween, sStretch, sNextP]
            exact row_app1 (E := eCk) rfl rfl rfl rfl (by simp) fun j hj => AVle.refl _
          · have heq : ((t1, t2, t3) : Pl) = (a, b, c) := of_decide_eq_true (by simpa only [Bool.not_eq_false'] using h)
            rw [if_pos heq] at he
            rw [he]
            simp only [go_sem, sRises, sBoth, sBetween, sStretch, sNextP]
            exact RowLe.refl _
        · rintro ⟨v', nx'⟩
          refine AW.of hΓ mixed [] _ _ _ rfl ?_
          simp only [go_sem, sRises, sBoth, sBetween, sStretch, sNextP]
          exact vw_all (E := eCk) rfl rfl rfl
end Go.Proofs.YtjfmigpahglajaaGreatDoor
set_option linter.unusedSimpArgs false
set_option linter.unusedVariables false
namespace Go.Proofs.YtjfmigpahglajaaGreatDoor
theorem rise_tail {a b u v : Int} {p : Int × Int} {l : List (Int × Int)} (h : riseB a b u v (p :: l) = true) : (u < p.1 ∧ v < p.2 ∧ p.1 < a ∧ p.2 < b) ∧ riseB a b p.1 p.2 l = true := by
  rw [riseB, Bool.and_eq_true, decide_eq_true_eq] at h
  exact h
end Go.Proofs.YtjfmigpahglajaaGreatDoor
set_option linter.unusedSimpArgs false
set_option linter.unusedVariables false
namespace Go.Proofs.YtjfmigpahglajaaGreatDoor
def swapP (p : Pl) : Pl := (p.1, p.2.2, p.2.1)
theorem both_swap : ∀ (n : Nat) (l r : List (Int × Int)), l.length + r.length ≤ n → bothF r l = (bothF l r).map swapP
  | _, [], r, _ => by rw [both_nil', both_nil]; rfl
  | _, p :: l, [], _ => by rw [both_nil', both_nil]; rfl
  | 0, _ :: _, _ :: _, h => by simp at h
  | n + 1, p :: l, q :: r, h => by
    simp only [List.length_cons] at h
    rw [bothF, bothF]
    by_cases c : p.1 < q.1
    · rw [if_neg (by omega), if_pos c, if_pos c]
      exact both_swap n l (q :: r) (by simp only [List.length_cons]; omega)
    · by_cases c2 : q.1 < p.1
      · rw [if_pos c2, if_neg c, if_pos c2]
        exact both_swap n (p :: l) r (by simp only [List.length_cons]; omega)
      · rw [if_neg c2, if_neg c, if_neg c, if_neg c2, both_swap n l r (by omega), List.map_cons]
        have : p.1 = q.1 := by omega
        simp only [swapP, this]
theorem stretch_turn (s : List Ck) (p : Pl) : stretchF (s.map turnC) (swapP p) = (stretchF s p).map turnC := by
  rcases s.eq_nil_or_concat with rfl | ⟨m, c, rfl⟩
  · rfl
  · rw [List.concat_eq_append, List.map_append, List.map_cons, List.map_nil, stretch_snoc, stretch_snoc]
    have e : (turnC c).1 = c.1 := rfl
    rw [e]
    by_cases h : c.1 = true
    · rw [if_pos h, if_pos h, List.map_append]
      rfl
    · rw [if_neg h, if_neg h, List.map_append, List.map_append]
      rfl
theorem swap_inj {p q : Pl} : swapP p = swapP q ↔ p = q := by
  obtain ⟨p1, p2, p3⟩ := p
  obtain ⟨q1, q2, q3⟩ := q
  simp only [swapP, Prod.mk.injEq]
  exact ⟨fun ⟨h1, h2, h3⟩ => ⟨h1, h3, h2⟩, fun ⟨h1, h2, h3⟩ => ⟨h1, h3, h2⟩⟩
theorem btw_swap (p q : Pl) : btw (swapP p) (swapP q) = turnC (btw p q) := rfl
theorem of_swap (ends : Pl) : ∀ (M : List Pl) (s : List Ck) (t : Pl), ofK (swapP ends) (M.map swapP) (s.map turnC) (swapP t) = (ofK ends M s t).map turnC
  | [], s, t => by
    rw [List.map_nil, ofK, ofK]
    by_cases h : t = ends
    · rw [if_pos h, if_pos (swap_inj.2 h)]
    · rw [if_neg h, if_neg (fun e => h (swap_inj.1 e)), List.map_append, btw_swap]
      rfl
  | p :: M, s, t => by
    rw [List.map_cons, ofK, ofK, ← of_swap ends M]
    have e : (if swapP p = swapP t then s.map turnC else s.map turnC ++ [btw (swapP t) (swapP p)]) = (if p = t then s else s ++ [btw t p]).map turnC := by
      by_cases h : p = t
      · rw [if_pos h, if_pos (swap_inj.2 h)]
      · rw [if_neg h, if_neg (fun e => h (swap_inj.1 e)), List.map_append, btw_swap]
        rfl
    rw [e, stretch_turn]
    rfl
def fromP (c : Ck) : Pl := (c.2.1.1, c.2.2.1.1, c.2.2.2.1)
def toP (c : Ck) : Pl := (c.2.1.2, c.2.2.1.2, c.2.2.2.2)
def leP (p q : Pl) : Prop := p.1 ≤ q.1 ∧ p.2.1 ≤ q.2.1 ∧ p.2.2 ≤ q.2.2
def chF : Pl → Option Bool → List Ck → Pl → Prop
  | t, _, [], e => t = e
  | t, o, c :: l, e => fromP c = t ∧ leP t (toP c) ∧ t ≠ toP c ∧ o ≠ some c.1 ∧ chF (toP c) (some c.1) l e
def lastO : Option Bool → List Ck → Option Bool
  | o, [] => o
  | _, c :: l => lastO (some c.1) l
theorem lastO_snoc (c : Ck) : ∀ (o : Option Bool) (s : List Ck), lastO o (s ++ [c]) = some c.1
  | _, [] => rfl
  | _, d :: s => lastO_snoc c (some d.1) s
theorem ch_snoc {e : Pl} {c : Ck} : ∀ {t : Pl} {o : Option Bool} {s : List Ck}, chF t o (s ++ [c]) e ↔ chF t o s (fromP c) ∧ leP (fromP c) (toP c) ∧ fromP c ≠ toP c ∧ lastO o s ≠ some c.1 ∧ toP c = e
  | t, o, [] => by
    show (fromP c = t ∧ leP t (toP c) ∧ t ≠ toP c ∧ o ≠ some c.1 ∧ toP c = e) ↔ (t = fromP c ∧ leP (fromP c) (toP c) ∧ fromP c ≠ toP c ∧ o ≠ some c.1 ∧ toP c = e)
    constructor
    · rintro ⟨rfl, h⟩; exact ⟨rfl, h⟩
    · rintro ⟨rfl, h⟩; exact ⟨rfl, h⟩
  | t, o, d :: s => by
    have ih := ch_snoc (e := e) (c := c) (t := toP d) (o := some d.1) (s := s)
    show (fromP d = t ∧ leP t (toP d) ∧ t ≠ toP d ∧ o ≠ some d.1 ∧ chF (toP d) (some d.1) (s ++ [c]) e) ↔ ((fromP d = t ∧ leP t (toP d) ∧ t ≠ toP d ∧ o ≠ some d.1 ∧ chF (toP d) (some d.1) s (fromP c)) ∧ leP (fromP c) (toP c) ∧ fromP c ≠ toP c ∧ lastO (some d.1) s ≠ some c.1 ∧ toP c = e)
    rw [ih]
    constructor
    · rintro ⟨h1, h2, h3, h4, h5, h6⟩; exact ⟨⟨h1, h2, h3, h4, h5⟩, h6⟩
    · rintro ⟨⟨h1, h2, h3, h4, h5⟩, h6⟩; exact ⟨h1, h2, h3, h4, h5, h6⟩
theorem leP_trans {p q r : Pl} (h : leP p q) (k : leP q r) : leP p r := ⟨Int.le_trans h.1 k.1, Int.le_trans h.2.1 k.2.1, Int.le_trans h.2.2 k.2.2⟩
theorem leP_refl (p : Pl) : leP p p := ⟨Int.le_refl _, Int.le_refl _, Int.le_refl _⟩
theorem ch_le : ∀ {t : Pl} {o : Option Bool} {s : List Ck} {e : Pl}, chF t o s e → leP t e
  | t, _, [], _, h => by rw [show t = _ from h]; exact leP_refl _
  | _, _, _ :: _, _, ⟨_, h2, _, _, h5⟩ => leP_trans h2 (ch_le h5)
def upM (ends : Pl) : Pl → List Pl → Prop
  | t, [] => leP t ends
  | t, p :: M => leP t p ∧ upM ends (nextP p) M
theorem both_up {a b c : Int} : ∀ (n : Nat) (l r : List (Int × Int)) (u v u' w : Int) (t : Pl), l.length + r.length ≤ n → riseB a b u v l = true → riseB a c u' w r = true → (t.1 ≤ u + 1 ∨ t.1 ≤ u' + 1) → t.2.1 ≤ v + 1 → t.2.2 ≤ w + 1 → leP t (a, b, c) → upM (a, b, c) t (bothF l r)
  | _, [], r, _, _, _, _, t, _, _, _, _, _, _, h => by rw [both_nil']; exact h
  | _, p :: l, [], _, _, _, _, t, _, _, _, _, _, _, h => by rw [both_nil]; exact h
  | 0, _ :: _, _ :: _, _, _, _, _, _, h, _, _, _, _, _, _ => by simp at h
  | n + 1, p :: l, q :: r, u, v, u', w, t, h, hl, hr, h1, h2, h3, h4 => by
    simp only [List.length_cons] at h
    obtain ⟨l1, l2⟩ := rise_tail hl
    obtain ⟨r1, r2⟩ := rise_tail hr
    rw [bothF]
    by_cases e1 : p.1 < q.1
    · rw [if_pos e1]
      exact both_up n l (q :: r) p.1 p.2 u' w t (by simp only [List.length_cons]; omega) l2 hr (by omega) (by omega) h3 h4
    · by_cases e2 : q.1 < p.1
      · rw [if_neg e1, if_pos e2]
        exact both_up n (p :: l) r u v q.1 q.2 t (by simp only [List.length_cons]; omega) hl r2 (by omega) h2 (by omega) h4
      · rw [if_neg e1, if_neg e2]
        refine ⟨⟨?_, ?_, ?_⟩, both_up n l r p.1 p.2 q.1 q.2 _ (by omega) l2 r2 (.inl (Int.le_refl _)) (Int.le_refl _) (Int.le_refl _) ⟨?_, ?_, ?_⟩⟩
        · show t.1 ≤ p.1
          omega
        · show t.2.1 ≤ p.2
          omega
        · show t.2.2 ≤ q.2
          omega
        · show p.1 + 1 ≤ a
          omega
        · show p.2 + 1 ≤ b
          omega
        · show q.2 + 1 ≤ c
          omega
theorem nextP_ne (p q : Pl) (h : leP p q) : p ≠ nextP q := fun e => by
  have h1 : p.1 = q.1 + 1 := congrArg Prod.fst e
  have := h.1
  omega
theorem le_nextP (p : Pl) : leP p (nextP p) := ⟨Int.le_of_lt (Int.lt_succ _), Int.le_of_lt (Int.lt_succ _), Int.le_of_lt (Int.lt_succ _)⟩
theorem ch_stretch {s : List Ck} {t : Pl} (h : chF (0, 0, 0) none s t) : chF (0, 0, 0) none (stretchF s t) (nextP t) ∧ lastO none (stretchF s t) = some true := by
  rcases s.eq_nil_or_concat with rfl | ⟨m, c, rfl⟩
  · have h : (0, 0, 0) = t := h
    subst h
    exact ⟨⟨rfl, le_nextP _, nextP_ne _ _ (leP_refl _), by simp, rfl⟩, rfl⟩
  · rw [List.concat_eq_append] at h ⊢
    rw [stretch_snoc]
    by_cases hc : c.1 = true
    · rw [if_pos hc]
      obtain ⟨h1, h2, h3, h4, h5⟩ := ch_snoc.1 h
      refine ⟨ch_snoc.2 ⟨h1, ?_, ?_, ?_, rfl⟩, lastO_snoc _ _ _⟩
      · exact leP_trans (h5 ▸ h2) (le_nextP t)
      · exact nextP_ne _ t (h5 ▸ h2)
      · rw [hc] at h4; exact h4
    · rw [if_neg hc]
      refine ⟨ch_snoc.2 ⟨h, le_nextP t, nextP_ne _ t (leP_refl _), ?_, rfl⟩, lastO_snoc _ _ _⟩
      rw [lastO_snoc]
      intro e
      exact hc (Option.some.inj e)
theorem ch_of (ends : Pl) : ∀ (M : List Pl) (s : List Ck) (t : Pl), chF (0, 0, 0) none s t → lastO none s ≠ some false → upM ends t M → chF (0, 0, 0) none (ofK ends M s t) ends
  | [], s, t, h, hl, hu => by
    rw [ofK]
    by_cases e : t = ends
    · rw [if_pos e, ← e]; exact h
    · rw [if_neg e]
      exact ch_snoc.2 ⟨h, hu, e, hl, rfl⟩
  | p :: M, s, t, h, hl, hu => by
    rw [ofK]
    by_cases e : p = t
    · rw [if_pos e, e]
      obtain ⟨h1, h2⟩ := ch_stretch h
      exact ch_of ends M _ _ h1 (by rw [h2]; simp) (e ▸ hu.2)
    · rw [if_neg e]
      obtain ⟨h1, h2⟩ := ch_stretch (s := s ++ [btw t p]) (t := p) (ch_snoc.2 ⟨h, hu.1, fun e2 => e e2.symm, hl, rfl⟩)
      exact ch_of ends M _ _ h1 (by rw [h2]; simp) hu.2
theorem ch_all {a b c : Int} {l r : List (Int × Int)} (h : fitK a b c l r = true) : chF (0, 0, 0) none (ofK (a, b, c) (bothF l r) [] (0, 0, 0)) (a, b, c) := by
  unfold fitK at h
  simp only [Bool.and_eq_true, decide_eq_true_eq] at h
  obtain ⟨⟨h1, h2, h3⟩, h4, h5⟩ := h
  exact ch_of (a, b, c) _ _ _ rfl (by simp [lastO]) (both_up _ l r (-1) (-1) (-1) (-1) (0, 0, 0) (Nat.le_refl _) h4 h5 (.inl (Int.le_refl _)) (Int.le_refl _) (Int.le_refl _) ⟨h1, h2, h3⟩)
theorem of_turned {a b c : Int} {l r : List (Int × Int)} : ofK (a, c, b) (bothF r l) [] (0, 0, 0) = (ofK (a, b, c) (bothF l r) [] (0, 0, 0)).map turnC := by
  rw [both_swap _ l r (Nat.le_refl _)]
  exact of_swap (a, b, c) (bothF l r) [] (0, 0, 0)
end Go.Proofs.YtjfmigpahglajaaGreatDoor
set_option linter.unusedVariables false
namespace Go.Proofs.YtjfmigpahglajaaGreatDoor
open Go
abbrev BS := List UInt8
instance : DecidableEq (BS × BS × BS × BS × Bool) := inferInstance
instance : DecidableEq (Bool × BS × BS × BS × BS × Bool) := inferInstance
abbrev Pt := BS × BS × BS × Bool × BS × BS × BS × BS × Bool
instance : DecidableEq Pt := inferInstance
abbrev ePt : El Pt := eP eS (eP eS (eP eS (eP eB (eP eS (eP eS (eP eS (eP eS eB)))))))
abbrev eLb : El (BS × BS × BS) := eP eS (eP eS eS)
@[reducible] def hkP (p : Pt) : Bool := p.2.2.2.1
@[reducible] def txP (p : Pt) : BS := p.2.2.2.2.1
def textP (t : BS) : Pt := ([], [], [], false, t, [], [], [], false)
def isTextD (p : Pt) : Bool := decide (p = textP (txP p))
def plainB (s : BS) : Bool := decide ((10 : UInt8) ∉ s)
def plainD (p : Pt) : Bool := plainB p.1 && (plainB p.2.1 && plainB p.2.2.1)
theorem plain_app (a b : BS) : plainB (a ++ b) = (plainB a && plainB b) := by
  unfold plainB
  rw [Bool.eq_iff_iff]
  simp [not_or]
theorem plain_ix (s : BS) : decide (0 ≤ Lib.indexByte s 10) = !plainB s := by
  unfold plainB
  rcases idx_cases s with ⟨h1, h2⟩ | ⟨p, r, rfl, h2, h1⟩
  · rw [h1]
    simp [h2]
  · rw [h1]
    simp
def confD (p : Pt) : Bool := p.2.2.2.1 && (decide (p.2.2.2.2.1 = []) && ((p.2.2.2.2.2.2.2.2 || (decide (p.2.2.2.2.2.2.1 = []) && decide (p.2.1 = []))) && plainD p))
def aheadD (p : Pt) (another : Bool) : Bool := isTextD p && (decide (txP p ≠ []) && (!another || endsL (txP p)))
def okAt (d : List Pt) (i : Nat) : Bool := (hkP (d.getD i ePt.dflt) || (decide (i = 0) || hkP (d.getD (i - 1) ePt.dflt))) && (confD (d.getD i ePt.dflt) || aheadD (d.getD i ePt.dflt) (decide (i + 1 < d.length)))
def rightD (d : List Pt) : Bool := decide (∀ i, i < d.length → okAt d i = true)
def conflD (d : List Pt) : Nat := (d.filter hkP).length
def longT (l : List BS) : Nat := l.foldl (fun n s => max n (longL (splitL s))) 0
theorem longT_snoc (l : List BS) (x : BS) : longT (l ++ [x]) = max (longT l) (longL (splitL x)) := by
  unfold longT
  rw [List.foldl_append]
  rfl
def fourP (p : Pt) : List BS := [p.2.2.2.2.1, p.2.2.2.2.2.1, p.2.2.2.2.2.2.1, p.2.2.2.2.2.2.2.1]
def fitsD (d : List Pt) (w : Int) : Bool := decide (1 ≤ w) && decide (∀ p ∈ d, (longT (fourP p) : Int) < w)
def withD (d : List Pt) (ts : List BS) : List Pt := if ts.flatten = [] then d else d ++ [textP ts.flatten]
def ofGo : List Pt → List Pt → List BS → List Pt
  | [], d, ts => withD d ts
  | p :: l, d, ts => if isTextD p = true then ofGo l d (ts ++ [txP p]) else ofGo l (withD d ts ++ [p]) []
def ofD (l : List Pt) : List Pt := ofGo l [] []
theorem isText_textP (t : BS) : isTextD (textP t) = true := decide_eq_true rfl
theorem isText_eq {p : Pt} (h : isTextD p = true) : p = textP (txP p) := of_decide_eq_true h
def joinR (out : List Pt) (p : Pt) : List Pt :=
  if isTextD p = true then
    if txP p = [] then out else
      match out.getLast? with
      | some q => if isTextD q = true then out.dropLast ++ [textP (txP q ++ txP p)] else out ++ [p]
      | none => out ++ [p]
  else out ++ [p]
theorem join_no {out : List Pt} {p : Pt} (h : isTextD p = false) : joinR out p = out ++ [p] := by unfold joinR; rw [if_neg (by simp [h])]
theorem join_em {out : List Pt} {p : Pt} (h : isTextD p = true) (h2 : txP p = []) : joinR out p = out := by unfold joinR; rw [if_pos h, if_pos h2]
theorem joinR_nil {p : Pt} (h2 : ¬ (isTextD p = true ∧ txP p = [])) : joinR [] p = [p] := by
  unfold joinR
  by_cases h : isTextD p = true
  · rw [if_pos h, if_neg fun e => h2 ⟨h, e⟩]
    rfl
  · rw [if_neg h]
    rfl
theorem join_two {m : List Pt} {q p : Pt} (h : isTextD p = true) (h2 : txP p ≠ []) (hq : isTextD q = true) : joinR (m ++ [q]) p = m ++ [textP (txP q ++ txP p)] := by
  unfold joinR
  rw [if_pos h, if_neg h2]
  simp [hq]
theorem join_new {m : List Pt} {q p : Pt} (h2 : ¬ (isTextD p = true ∧ txP p = [])) (hq : isTextD q = false) : joinR (m ++ [q]) p = m ++ [q] ++ [p] := by
  unfold joinR
  by_cases h : isTextD p = true
  · rw [if_pos h, if_neg fun e => h2 ⟨h, e⟩]
    simp [hq]
  · rw [if_neg h]
theorem with_nil (d : List Pt) : withD d [] = d := rfl
theorem with_join {d : List Pt} {ts : List BS} {p : Pt} (hd : ∀ q, d.getLast? = some q → isTextD q = false) (hp : isTextD p = true) : withD d (ts ++ [txP p]) = joinR (withD d ts) p := by
  have e := isText_eq hp
  by_cases h0 : txP p = []
  · rw [join_em hp h0]
    unfold withD
    rw [h0]
    simp
  · unfold withD
    have hf : ¬ (ts ++ [txP p]).flatten = [] := by simp [h0]
    rw [if_neg hf]
    by_cases h1 : ts.flatten = []
    · rw [if_pos h1]
      have ef : (ts ++ [txP p]).flatten = txP p := by simp [h1]
      rw [ef, ← e]
      rcases d.eq_nil_or_concat with rfl | ⟨m, q, rfl⟩
      · rw [joinR_nil fun h => h0 h.2]
        rfl
      · rw [List.concat_eq_append] at hd ⊢
        rw [join_new (fun h => h0 h.2) (hd q (by simp))]
    · rw [if_neg h1, join_two hp h0 (isText_textP _)]
      simp [textP, txP]
theorem of_go : ∀ (l d : List Pt) (ts : List BS), (∀ q, d.getLast? = some q → isTextD q = false) → ofGo l d ts = l.foldl joinR (withD d ts)
  | [], d, ts, _ => rfl
  | p :: l, d, ts, hd => by
    rw [ofGo, List.foldl_cons]
    cases h : isTextD p with
    | true => rw [if_pos rfl, of_go l d _ hd, with_join hd h]
    | false =>
      rw [if_neg (by simp), of_go l _ [] (fun q hq => by
        rw [List.getLast?_append] at hq
        simp at hq
        rw [← hq]; exact h), with_nil, join_no h]
theorem ofD_eq (l : List Pt) : ofD l = l.foldl joinR [] := of_go l [] [] (fun q h => by cases h)
def sumT (l : List Pt) : Nat := (l.map fun p => (txP p).length).sum
theorem sumT_app (l m : List Pt) : sumT (l ++ m) = sumT l + sumT m := by simp [sumT]
theorem sumT_one (p : Pt) : sumT [p] = (txP p).length := by simp [sumT]
theorem sumT_take (l : List Pt) (i : Nat) : sumT (l.take i) ≤ sumT l := by
  have := sumT_app (l.take i) (l.drop i)
  rw [List.take_append_drop] at this
  omega
theorem join_sum (out : List Pt) (p : Pt) : sumT (joinR out p) ≤ sumT out + (txP p).length ∧ (joinR out p).length ≤ out.length + 1 := by
  have hn : sumT (out ++ [p]) ≤ sumT out + (txP p).length ∧ (out ++ [p]).length ≤ out.length + 1 := by rw [sumT_app, sumT_one]; simp
  cases hp : isTextD p with
  | false => rw [join_no hp]; exact hn
  | true =>
    by_cases h0 : txP p = []
    · rw [join_em hp h0]; omega
    · rcases out.eq_nil_or_concat with rfl | ⟨m, q, rfl⟩
      · rw [joinR_nil fun e => h0 e.2]; exact hn
      · rw [List.concat_eq_append] at *
        cases hqt : isTextD q with
        | false => rw [join_new (fun e => h0 e.2) hqt]; exact hn
        | true =>
          rw [join_two hp h0 hqt, sumT_app, sumT_app, sumT_one, sumT_one]
          simp [textP, txP]
          omega
theorem fold_sum : ∀ (l out : List Pt), sumT (l.foldl joinR out) ≤ sumT out + sumT l ∧ (l.foldl joinR out).length ≤ out.length + l.length
  | [], out => by simp [sumT]
  | p :: l, out => by
    have h1 := fold_sum l (joinR out p)
    have h2 := join_sum out p
    have e : sumT (p :: l) = (txP p).length + sumT l := by simp [sumT]
    rw [List.foldl_cons, e, List.length_cons]
    omega
theorem ofD_sum (l : List Pt) : sumT (ofD l) ≤ sumT l ∧ (ofD l).length ≤ l.length := by
  have := fold_sum l []
  rw [← ofD_eq] at this
  simpa [sumT] using this
end Go.Proofs.YtjfmigpahglajaaGreatDoor
set_option linter.unusedSimpArgs false
set_option linter.unusedVariables false
set_option maxRecDepth 100000
namespace Go.Proofs.YtjfmigpahglajaaGreatDoor
open Go
def okS (l : List Pt) (i : Nat) : Bool := (hkP (l.getD i ePt.dflt) || (decide (i = 0) || hkP (l.getD (i - 1) ePt.dflt))) && (confD (l.getD i ePt.dflt) || aheadD (l.getD i ePt.dflt) true)
def SrP (l : List Pt) : Prop := ∀ i, i < l.length → okS l i = true
theorem ahead_any {p : Pt} (b : Bool) (h : aheadD p true = true) : aheadD p b = true := by
  unfold aheadD at *
  simp only [Bool.and_eq_true, Bool.not_true, Bool.false_or] at h
  rw [h.1, h.2.1, h.2.2]
  simp
theorem ok_of {l : List Pt} {i : Nat} (h : okS l i = true) : okAt l i = true := by
  unfold okS at h
  unfold okAt
  simp only [Bool.and_eq_true] at h ⊢
  refine ⟨h.1, ?_⟩
  have h3 := h.2
  rw [Bool.or_eq_true] at h3 ⊢
  rcases h3 with h2 | h2
  · exact .inl h2
  · exact .inr (ahead_any _ h2)
theorem SrP.right {l : List Pt} (h : SrP l) : rightD l = true := decide_eq_true fun i hi => ok_of (h i hi)
theorem okS_app {l : List Pt} {p : Pt} {i : Nat} (h : i < l.length) : okS (l ++ [p]) i = okS l i := by
  have e : ∀ k, k < l.length → (l ++ [p]).getD k ePt.dflt = l.getD k ePt.dflt := fun k hk => by simp [List.getD, List.getElem?_append_left hk]
  unfold okS
  rw [e i h]
  rcases Nat.eq_zero_or_pos i with rfl | h0
  · simp
  · rw [e (i - 1) (by omega)]
theorem snocPt (l : List Pt) (p : Pt) : (l ++ [p]).getD l.length ePt.dflt = p := by simp [List.getD]
theorem prevD (l : List Pt) (p : Pt) (h : 0 < l.length) : (l ++ [p]).getD (l.length - 1) ePt.dflt = l.getD (l.length - 1) ePt.dflt := by
  simp [List.getD, List.getElem?_append_left (show l.length - 1 < l.length by omega)]
theorem SrP.left {l : List Pt} {p : Pt} (h : SrP (l ++ [p])) : SrP l := fun i hi => by
  have := h i (by simp; omega)
  rwa [okS_app hi] at this
theorem SrP.snoc {l : List Pt} {p : Pt} (h : SrP l) (hp : okS (l ++ [p]) l.length = true) : SrP (l ++ [p]) := fun i hi => by
  rcases Nat.lt_or_ge i l.length with g | g
  · rw [okS_app g]; exact h i g
  · obtain rfl : i = l.length := by simp at hi; omega
    exact hp
theorem right_snoc {l : List Pt} {p : Pt} (h : SrP l) (hp : okAt (l ++ [p]) l.length = true) : rightD (l ++ [p]) = true := decide_eq_true fun i hi => by
  rcases Nat.lt_or_ge i l.length with g | g
  · exact ok_of (by rw [okS_app g]; exact h i g)
  · obtain rfl : i = l.length := by simp at hi; omega
    exact hp
theorem conf_hk {p : Pt} (h : confD p = true) : hkP p = true := by
  unfold confD at h
  simp only [Bool.and_eq_true] at h
  exact h.1
theorem text_noHk {p : Pt} (h : isTextD p = true) : hkP p = false := by
  rw [isText_eq h]
  rfl
theorem conf_noText {p : Pt} (h : confD p = true) : isTextD p = false := by
  cases c : isTextD p with
  | false => rfl
  | true => have := text_noHk c; rw [conf_hk h] at this; cases this
theorem SrP.last {l : List Pt} {q : Pt} (h : SrP (l ++ [q])) (hq : isTextD q = false) : hkP q = true := by
  have := h l.length (by simp)
  unfold okS at this
  rw [snocPt] at this
  simp only [Bool.and_eq_true, Bool.or_eq_true] at this
  rcases this.2 with h2 | h2
  · exact conf_hk h2
  · unfold aheadD at h2
    rw [hq] at h2
    cases h2
theorem okS_text {l : List Pt} {t : BS} (h : SrP l) (h0 : t ≠ []) (he : endsL t = true) (hl : ∀ q, l.getLast? = some q → isTextD q = false) : okS (l ++ [textP t]) l.length = true := by
  unfold okS
  rw [snocPt]
  have hk : (decide (l.length = 0) || hkP ((l ++ [textP t]).getD (l.length - 1) ePt.dflt)) = true := by
    rcases l.eq_nil_or_concat with rfl | ⟨m, q, rfl⟩
    · rfl
    · rw [List.concat_eq_append] at *
      rw [prevD _ _ (by simp)]
      have : (m ++ [q]).getD ((m ++ [q]).length - 1) ePt.dflt = q := by simp [List.getD]
      rw [this, h.last (hl q (by simp)), Bool.or_true]
  rw [hk, Bool.or_true, Bool.true_and]
  unfold aheadD
  rw [isText_textP]
  have e : txP (textP t) = t := rfl
  rw [e, he, decide_eq_true h0]
  simp
theorem okAt_text {l : List Pt} {t : BS} (h : SrP l) (h0 : t ≠ []) (hl : ∀ q, l.getLast? = some q → isTextD q = false) : okAt (l ++ [textP t]) l.length = true := by
  unfold okAt
  rw [snocPt]
  have hk : (decide (l.length = 0) || hkP ((l ++ [textP t]).getD (l.length - 1) ePt.dflt)) = true := by
    rcases l.eq_nil_or_concat with rfl | ⟨m, q, rfl⟩
    · rfl
    · rw [List.concat_eq_append] at *
      rw [prevD _ _ (by simp)]
      have : (m ++ [q]).getD ((m ++ [q]).length - 1) ePt.dflt = q := by simp [List.getD]
      rw [this, h.last (hl q (by simp)), Bool.or_true]
  rw [hk, Bool.or_true, Bool.true_and]
  unfold aheadD
  rw [isText_textP, decide_eq_false (show ¬ l.length + 1 < (l ++ [textP t]).length by simp)]
  have e : txP (textP t) = t := rfl
  rw [e, decide_eq_true h0]
  simp
theorem okS_conf {l : List Pt} {p : Pt} (h : confD p = true) : okS (l ++ [p]) l.length = true := by
  unfold okS
  rw [snocPt, conf_hk h, h]
  rfl
theorem join_cases (out : List Pt) (p : Pt) (hp : isTextD p = true) : (txP p = [] ∧ joinR out p = out) ∨
    (txP p ≠ [] ∧ ((∃ m q, out = m ++ [q] ∧ isTextD q = true ∧ joinR out p = m ++ [textP (txP q ++ txP p)]) ∨ ((∀ q, out.getLast? = some q → isTextD q = false) ∧ joinR out p = out ++ [p]))) := by
  by_cases h0 : txP p = []
  · exact .inl ⟨h0, join_em hp h0⟩
  · refine .inr ⟨h0, ?_⟩
    rcases out.eq_nil_or_concat with rfl | ⟨m, q, rfl⟩
    · exact .inr ⟨(fun q h => by cases h), joinR_nil fun e => h0 e.2⟩
    · rw [List.concat_eq_append]
      cases hq : isTextD q with
      | true => exact .inl ⟨m, q, rfl, hq, join_two hp h0 hq⟩
      | false =>
        refine .inr ⟨fun q' h => ?_, join_new (fun e => h0 e.2) hq⟩
        simp at h
        rw [← h]; exact hq
theorem SrP.text {m : List Pt} {q : Pt} (h : SrP (m ++ [q])) (hq : isTextD q = true) : ∀ q', m.getLast? = some q' → isTextD q' = false := fun q' hq' => by
  have := h m.length (by simp)
  unfold okS at this
  rw [snocPt, text_noHk hq] at this
  simp only [Bool.and_eq_true, Bool.or_eq_true, Bool.false_eq_true, false_or, decide_eq_true_eq] at this
  rcases m.eq_nil_or_concat with rfl | ⟨m', q2, rfl⟩
  · cases hq'
  · rw [List.concat_eq_append] at *
    simp at hq'
    subst hq'
    rcases this.1 with h1 | h1
    · simp at h1
    · rw [prevD _ _ (by simp)] at h1
      have e : (m' ++ [q2]).getD ((m' ++ [q2]).length - 1) ePt.dflt = q2 := by simp [List.getD]
      rw [e] at h1
      cases c : isTextD q2 with
      | false => rfl
      | true => rw [text_noHk c] at h1; cases h1
theorem ends_app {a b : BS} (h0 : b ≠ []) : endsL (a ++ b) = endsL b := by
  unfold endsL
  rcases b.eq_nil_or_concat with rfl | ⟨m, c, rfl⟩
  · exact absurd rfl h0
  · rw [List.concat_eq_append, ← List.append_assoc, List.getLast?_concat, List.getLast?_concat]
theorem join_Sr {out : List Pt} {p : Pt} (h : SrP out) (hp : confD p = true ∨ (isTextD p = true ∧ (txP p = [] ∨ endsL (txP p) = true))) : SrP (joinR out p) := by
  rcases hp with hp | ⟨hp, he⟩
  · rw [join_no (conf_noText hp)]
    exact h.snoc (okS_conf hp)
  · rcases join_cases out p hp with ⟨_, e⟩ | ⟨h0, ⟨m, q, rfl, hq, e⟩ | ⟨hl, e⟩⟩
    · rw [e]; exact h
    · rw [e]
      have he := he.resolve_left h0
      exact h.left.snoc (okS_text h.left (by simp [h0]) (by rw [ends_app h0]; exact he) (h.text hq))
    · rw [e]
      have he := he.resolve_left h0
      rw [isText_eq hp]
      exact h.snoc (okS_text h h0 he hl)
theorem join_right {out : List Pt} {p : Pt} (h : SrP out) (hp : confD p = true ∨ isTextD p = true) : rightD (joinR out p) = true := by
  rcases hp with hp | hp
  · exact (join_Sr h (.inl hp)).right
  · rcases join_cases out p hp with ⟨_, e⟩ | ⟨h0, ⟨m, q, rfl, hq, e⟩ | ⟨hl, e⟩⟩
    · rw [e]; exact h.right
    · rw [e]
      exact right_snoc h.left (okAt_text h.left (by simp [h0]) (h.text hq))
    · rw [e, isText_eq hp]
      exact right_snoc h (okAt_text h h0 hl)
theorem fold_Sr : ∀ (l out : List Pt), SrP out → (∀ p ∈ l, confD p = true ∨ (isTextD p = true ∧ (txP p = [] ∨ endsL (txP p) = true))) → SrP (l.foldl joinR out)
  | [], _, h, _ => h
  | p :: l, out, h, hl => fold_Sr l _ (join_Sr h (hl p (List.mem_cons_self ..))) fun q hq => hl q (List.mem_cons_of_mem p hq)
theorem of_right {l : List Pt} (h1 : ∀ p ∈ l, confD p = true ∨ isTextD p = true) (h2 : ∀ p ∈ l.dropLast, confD p = true ∨ (isTextD p = true ∧ (txP p = [] ∨ endsL (txP p) = true))) : rightD (ofD l) = true := by
  rw [ofD_eq]
  rcases l.eq_nil_or_concat with rfl | ⟨m, p, rfl⟩
  · rfl
  · rw [List.concat_eq_append] at *
    rw [List.dropLast_concat] at h2
    rw [List.foldl_append]
    exact join_right (fold_Sr m [] (fun i hi => by simp at hi) h2) (h1 p (by simp))
theorem of_conflG : ∀ (l out : List Pt), conflD (l.foldl joinR out) = conflD out + conflD l
  | [], out => by simp [conflD]
  | p :: l, out => by
    have key : conflD (joinR out p) = conflD out + conflD [p] := by
      have hap : ∀ a b : List Pt, conflD (a ++ b) = conflD a + conflD b := fun a b => by simp [conflD]
      cases hp : isTextD p with
      | false => rw [join_no hp, hap]
      | true =>
        have h1 : ∀ t : BS, conflD [textP t] = 0 := fun t => rfl
        have h2 : conflD [p] = 0 := by rw [isText_eq hp]; rfl
        rcases join_cases out p hp with ⟨_, e⟩ | ⟨h0, ⟨m, q, rfl, hq, e⟩ | ⟨hl, e⟩⟩
        · rw [e, h2]; rfl
        · have h3 : conflD [q] = 0 := by rw [isText_eq hq]; rfl
          rw [e, hap, hap, h1, h2, h3]
        · rw [e, hap]
    have hap : conflD (p :: l) = conflD [p] + conflD l := by
      rw [show p :: l = [p] ++ l from rfl]
      unfold conflD
      rw [List.filter_append, List.length_append]
    rw [List.foldl_cons, of_conflG l, key, hap]
    omega
theorem of_confl (l : List Pt) : conflD (ofD l) = conflD l := by
  rw [ofD_eq, of_conflG]
  simp [conflD]
end Go.Proofs.YtjfmigpahglajaaGreatDoor
set_option linter.unusedSimpArgs false
set_option linter.unusedVariables false
namespace Go.Proofs.YtjfmigpahglajaaGreatDoor
theorem idx_in {l m : List BS} {x : BS} (h : x ∈ l) : (l ++ m).idxOf x = l.idxOf x := by rw [List.idxOf_append, if_pos h]
theorem idx_out {l m : List BS} {x : BS} (h : ¬ x ∈ l) : (l ++ m).idxOf x = m.idxOf x + l.length := by rw [List.idxOf_append, if_neg h]
theorem numL_fin : ∀ (l ks : List BS), ks.Nodup → (numL ks l).1.Nodup ∧ (∃ m, (numL ks l).1 = ks ++ m) ∧ (∀ x ∈ l, x ∈ (numL ks l).1) ∧ (numL ks l).2 = l.map fun x => (((numL ks l).1.idxOf x : Nat) : Int)
  | [], ks, h => ⟨h, ⟨[], by simp [numL]⟩, fun _ h => by simp at h, rfl⟩
  | x :: l, ks, h => by
    have hk : (if x ∈ ks then ks else ks ++ [x]).Nodup := by
      split
      · exact h
      · rename_i hx
        rw [List.nodup_append]
        refine ⟨h, by simp, fun a ha b hb e => ?_⟩
        simp at hb
        exact hx (by rw [← hb, ← e]; exact ha)
    have hx : x ∈ (if x ∈ ks then ks else ks ++ [x]) := by
      split
      · assumption
      · simp
    have hi : (if x ∈ ks then ks else ks ++ [x]).idxOf x = ks.idxOf x := by
      split
      · rfl
      · rename_i hx
        rw [idx_out hx, List.idxOf_cons_self, List.idxOf_eq_length hx, Nat.zero_add]
    have hm : ∃ m, (if x ∈ ks then ks else ks ++ [x]) = ks ++ m := by
      split
      · exact ⟨[], by simp⟩
      · exact ⟨[x], rfl⟩
    obtain ⟨i1, ⟨m, i2⟩, i3, i4⟩ := numL_fin l (if x ∈ ks then ks else ks ++ [x]) hk
    obtain ⟨m', hm⟩ := hm
    simp only [numL]
    refine ⟨i1, ⟨m' ++ m, by rw [i2, hm, List.append_assoc]⟩, fun y hy => ?_, ?_⟩
    · rcases List.mem_cons.1 hy with rfl | hy
      · rw [i2]; exact List.mem_append_left _ hx
      · exact i3 y hy
    · rw [List.map_cons, i4]
      congr 1
      rw [i2, idx_in hx, hi]
theorem idx_inj {K : List BS} {x y : BS} (hx : x ∈ K) (hy : y ∈ K) (h : K.idxOf x = K.idxOf y) : x = y := by
  have h1 := List.idxOf_lt_length_of_mem hx
  have h2 := List.idxOf_lt_length_of_mem hy
  have e1 : K[K.idxOf x] = x := List.getElem_idxOf h1
  have e2 : K[K.idxOf y] = y := List.getElem_idxOf h2
  rw [← e1, ← e2]
  congr 1
theorem num_three (a b c : List BS) : ∃ φ : BS → Int, numF [] [a, b, c] = [a.map φ, b.map φ, c.map φ] ∧ ∀ x y, (x ∈ a ∨ x ∈ b ∨ x ∈ c) → (y ∈ a ∨ y ∈ b ∨ y ∈ c) → φ x = φ y → x = y := by
  obtain ⟨a1, ⟨ma, a2⟩, a3, a4⟩ := numL_fin a [] List.nodup_nil
  obtain ⟨b1, ⟨mb, b2⟩, b3, b4⟩ := numL_fin b (numL [] a).1 a1
  obtain ⟨c1, ⟨mc, c2⟩, c3, c4⟩ := numL_fin c (numL (numL [] a).1 b).1 b1
  generalize hKa : (numL [] a).1 = Ka at *
  generalize hKb : (numL Ka b).1 = Kb at *
  generalize hKc : (numL Kb c).1 = Kc at *
  have ea : ∀ x ∈ a, Kc.idxOf x = Ka.idxOf x := fun x hx => by
    rw [c2, idx_in (by rw [b2]; exact List.mem_append_left _ (a3 x hx)), b2, idx_in (a3 x hx)]
  have eb : ∀ x ∈ b, Kc.idxOf x = Kb.idxOf x := fun x hx => by
    rw [c2, idx_in (b3 x hx)]
  have hin : ∀ x, (x ∈ a ∨ x ∈ b ∨ x ∈ c) → x ∈ Kc := fun x hx => by
    rcases hx with h | h | h
    · rw [c2, b2]; exact List.mem_append_left _ (List.mem_append_left _ (a3 x h))
    · rw [c2]; exact List.mem_append_left _ (b3 x h)
    · exact c3 x h
  refine ⟨fun x => ((Kc.idxOf x : Nat) : Int), ?_, fun x y hx hy e => idx_inj (hin x hx) (hin y hy) (Int.ofNat.inj e)⟩
  simp only [numF]
  rw [hKa, hKb, a4, b4, c4]
  congr 1
  · exact List.map_congr_left fun x hx => by rw [ea x hx]
  · congr 1
    exact List.map_congr_left fun x hx => by rw [eb x hx]
theorem rgt_rise {a b : List Int} : ∀ {l : List (Int × Int)} {u v : Int}, rgt a b u v l = true → riseB a.length b.length u v l = true
  | [], _, _, _ => rfl
  | p :: l, u, v, h => by
    rw [rgt, Bool.and_eq_true, decide_eq_true_eq] at h
    rw [riseB, rgt_rise h.2, Bool.and_true, decide_eq_true_eq]
    exact ⟨h.1.1, h.1.2.1, h.1.2.2.1, h.1.2.2.2.1⟩
theorem rgt_mem {a b : List Int} : ∀ {l : List (Int × Int)} {u v : Int}, rgt a b u v l = true → ∀ p ∈ l, u < p.1 ∧ v < p.2 ∧ p.1 < a.length ∧ p.2 < b.length ∧ a.getD p.1.toNat 0 = b.getD p.2.toNat 0
  | q :: l, u, v, h, p, hp => by
    rw [rgt, Bool.and_eq_true, decide_eq_true_eq] at h
    rcases List.mem_cons.1 hp with rfl | hp
    · exact h.1
    · obtain ⟨g1, g2, g3⟩ := rgt_mem h.2 p hp
      exact ⟨by omega, by omega, g3⟩
theorem map_getD {α : Type} (φ : BS → α) (d : α) {l : List BS} {k : Nat} (h : k < l.length) : (l.map φ).getD k d = φ (l.getD k []) := by
  rw [gd_lt _ _ (by simpa using h), gd_lt _ _ h, List.getElem_map]
theorem getD_mem {l : List BS} {k : Nat} (h : k < l.length) : l.getD k [] ∈ l := by
  rw [gd_lt _ _ h]
  exact List.getElem_mem h
abbrev Fl := List BS × List BS × List BS
def atP (f : Fl) (p : Pl) : Prop := (0 ≤ p.1 ∧ p.1 < f.1.length) ∧ (0 ≤ p.2.1 ∧ p.2.1 < f.2.1.length) ∧ (0 ≤ p.2.2 ∧ p.2.2 < f.2.2.length) ∧ f.2.1.getD p.2.1.toNat [] = f.1.getD p.1.toNat [] ∧ f.2.2.getD p.2.2.toNat [] = f.1.getD p.1.toNat []
def mtch (f : Fl) (l r : List (Int × Int)) : Prop := rgt ((numF [] [f.1, f.2.1, f.2.2]).getD 0 []) ((numF [] [f.1, f.2.1, f.2.2]).getD 1 []) (-1) (-1) l = true ∧ rgt ((numF [] [f.1, f.2.1, f.2.2]).getD 0 []) ((numF [] [f.1, f.2.1, f.2.2]).getD 2 []) (-1) (-1) r = true
theorem mtch_fit {f : Fl} {l r : List (Int × Int)} (h : mtch f l r) : fitK f.1.length f.2.1.length f.2.2.length l r = true := by
  obtain ⟨φ, e, _⟩ := num_three f.1 f.2.1 f.2.2
  unfold mtch at h
  rw [e] at h
  have h1 := rgt_rise h.1
  have h2 := rgt_rise h.2
  simp only [List.getD_cons_zero, List.getD_cons_succ, List.length_map] at h1 h2
  unfold fitK
  rw [h1, h2]
  simp
theorem mtch_at {f : Fl} {l r : List (Int × Int)} (h : mtch f l r) : ∀ p ∈ bothF l r, atP f p := fun x hx => by
  obtain ⟨p, hp, q, hq, e1, rfl⟩ := both_mem _ l r (Nat.le_refl _) x hx
  obtain ⟨φ, e, inj⟩ := num_three f.1 f.2.1 f.2.2
  unfold mtch at h
  rw [e] at h
  obtain ⟨a1, a2, a3, a4, a5⟩ := rgt_mem h.1 p hp
  obtain ⟨b1, b2, b3, b4, b5⟩ := rgt_mem h.2 q hq
  simp only [List.getD_cons_zero, List.getD_cons_succ, List.length_map] at a3 a4 a5 b3 b4 b5
  have k1 : p.1.toNat < f.1.length := by omega
  have k2 : p.2.toNat < f.2.1.length := by omega
  have k3 : q.2.toNat < f.2.2.length := by omega
  rw [map_getD φ 0 k1, map_getD φ 0 k2] at a5
  rw [← e1, map_getD φ 0 k1, map_getD φ 0 k3] at b5
  refine ⟨⟨show (0 : Int) ≤ p.1 by omega, a3⟩, ⟨show (0 : Int) ≤ p.2 by omega, a4⟩, ⟨show (0 : Int) ≤ q.2 by omega, b4⟩, ?_, ?_⟩
  · exact (inj _ _ (.inl (getD_mem k1)) (.inr (.inl (getD_mem k2))) a5).symm
  · exact (inj _ _ (.inl (getD_mem k1)) (.inr (.inr (getD_mem k3))) b5).symm
def addP (p : Pl) (n : Nat) : Pl := (p.1 + n, p.2.1 + n, p.2.2 + n)
def goodC (f : Fl) (c : Ck) : Prop := c.1 = true → ∃ n : Nat, toP c = addP (fromP c) n ∧ ∀ k, k < n → atP f (addP (fromP c) k)
theorem good_stretch {f : Fl} {s : List Ck} {p : Pl} (h : ∀ c ∈ s, goodC f c) (hc : chF (0, 0, 0) none s p) (hp : atP f p) : ∀ c ∈ stretchF s p, goodC f c := by
  have one : goodC f (true, (p.1, p.1 + 1), (p.2.1, p.2.1 + 1), (p.2.2, p.2.2 + 1)) := fun _ => ⟨1, rfl, fun k hk => by
    obtain rfl : k = 0 := by omega
    have : addP p 0 = p := by simp [addP]
    show atP f (addP p 0)
    rw [this]
    exact hp⟩
  rcases s.eq_nil_or_concat with rfl | ⟨m, d, rfl⟩
  · rw [stretch_nil]
    intro c hc
    simp only [List.mem_singleton] at hc
    subst hc
    exact one
  · rw [List.concat_eq_append] at h hc ⊢
    rw [stretch_snoc]
    by_cases hd : d.1 = true
    · rw [if_pos hd]
      obtain ⟨_, _, _, _, e⟩ := ch_snoc.1 hc
      obtain ⟨n, e2, g⟩ := h d (by simp) hd
      intro c hc
      rcases List.mem_append.1 hc with hc | hc
      · exact h c (by simp [hc])
      · simp only [List.mem_singleton] at hc
        subst hc
        rw [e] at e2
        refine fun _ => ⟨n + 1, ?_, fun k hk => ?_⟩
        · rw [e2]
          show (_, _, _) = (_, _, _)
          simp only [addP, fromP, Int.natCast_add, Int.add_assoc]
          rfl
        · show atP f (addP (fromP d) k)
          rcases Nat.lt_or_ge k n with g1 | g1
          · exact g k g1
          · obtain rfl : k = n := by omega
            rw [← e2]
            exact hp
    · rw [if_neg hd]
      intro c hc
      rcases List.mem_append.1 hc with hc | hc
      · exact h c hc
      · simp only [List.mem_singleton] at hc
        subst hc
        exact one
theorem good_of {f : Fl} (ends : Pl) : ∀ (M : List Pl) (s : List Ck) (t : Pl), chF (0, 0, 0) none s t → lastO none s ≠ some false → upM ends t M → (∀ p ∈ M, atP f p) → (∀ c ∈ s, goodC f c) → ∀ c ∈ ofK ends M s t, goodC f c
  | [], s, t, h, hl, hu, hM, hs => by
    rw [ofK]
    by_cases e : t = ends
    · rw [if_pos e]; exact hs
    · rw [if_neg e]
      intro c hc
      rcases List.mem_append.1 hc with hc | hc
      · exact hs c hc
      · simp only [List.mem_singleton] at hc
        subst hc
        exact fun h => by cases h
  | p :: M, s, t, h, hl, hu, hM, hs => by
    rw [ofK]
    by_cases e : p = t
    · rw [if_pos e, e]
      obtain ⟨h1, h2⟩ := ch_stretch h
      exact good_of ends M _ _ h1 (by rw [h2]; simp) (e ▸ hu.2) (fun q hq => hM q (List.mem_cons_of_mem _ hq)) (good_stretch hs h (e ▸ hM p (List.mem_cons_self ..)))
    · rw [if_neg e]
      have hc := ch_snoc (e := p) (c := btw t p) (t := (0, 0, 0)) (o := none) (s := s) |>.2 ⟨h, hu.1, fun e2 => e e2.symm, hl, rfl⟩
      obtain ⟨h1, h2⟩ := ch_stretch (s := s ++ [btw t p]) (t := p) hc
      refine good_of ends M _ _ h1 (by rw [h2]; simp) hu.2 (fun q hq => hM q (List.mem_cons_of_mem _ hq)) (good_stretch (fun c hc => ?_) hc (hM p (List.mem_cons_self ..)))
      rcases List.mem_append.1 hc with hc | hc
      · exact hs c hc
      · simp only [List.mem_singleton] at hc
        subst hc
        exact fun h => by cases h
def cksF (f : Fl) (l r : List (Int × Int)) : List Ck := ofK (f.1.length, f.2.1.length, f.2.2.length) (bothF l r) [] (0, 0, 0)
def endP (f : Fl) : Pl := (f.1.length, f.2.1.length, f.2.2.length)
theorem cks_ch {f : Fl} {l r : List (Int × Int)} (h : mtch f l r) : chF (0, 0, 0) none (cksF f l r) (endP f) := ch_all (mtch_fit h)
theorem cks_good {f : Fl} {l r : List (Int × Int)} (h : mtch f l r) : ∀ c ∈ cksF f l r, goodC f c := by
  have hf := mtch_fit h
  unfold fitK at hf
  simp only [Bool.and_eq_true, decide_eq_true_eq] at hf
  obtain ⟨⟨h1, h2, h3⟩, h4, h5⟩ := hf
  exact good_of (endP f) _ _ _ rfl (by simp [lastO]) (both_up _ l r (-1) (-1) (-1) (-1) (0, 0, 0) (Nat.le_refl _) h4 h5 (.inl (Int.le_refl _)) (Int.le_refl _) (Int.le_refl _) ⟨h1, h2, h3⟩) (mtch_at h) (fun c hc => by simp at hc)
def cutB (f : Fl) (c : Ck) : List BS := cutS c.2.1 f.1
def cutO (f : Fl) (c : Ck) : List BS := cutS c.2.2.1 f.2.1
def cutT (f : Fl) (c : Ck) : List BS := cutS c.2.2.2 f.2.2
theorem cutS_in {s : Sp} {l : List BS} (h1 : 0 ≤ s.1) (h2 : s.1 ≤ s.2) (h3 : s.2 ≤ l.length) : cutS s l = cutL l s.1.toNat s.2.toNat := by
  unfold cutS
  rw [if_neg (by omega)]
theorem cutL_len' {α : Type} (a : List α) {i j : Nat} (h : j ≤ a.length) : (cutL a i j).length = j - i := by simp [cutL]; omega
theorem cutL_at {a : List BS} {i j k : Nat} (h : k < j - i) (hj : j ≤ a.length) : (cutL a i j).getD k [] = a.getD (i + k) [] := by
  simp [cutL, List.getD, List.getElem?_take, show i + k < j by omega]
theorem cutL_mem {a : List BS} {i j : Nat} {x : BS} (hj : j ≤ a.length) (h : x ∈ cutL a i j) : ∃ k, i ≤ k ∧ k < j ∧ x = a.getD k [] := by
  obtain ⟨k, hk, e⟩ := List.getElem_of_mem h
  have hk' : k < j - i := by rw [cutL_len' a hj] at hk; exact hk
  refine ⟨i + k, by omega, by omega, ?_⟩
  rw [← cutL_at hk' hj, gd_lt _ _ hk, e]
structure Cmp (g : Ck → Sp) (h : Pl → Int) : Prop where
  fro : ∀ c, (g c).1 = h (fromP c)
  too : ∀ c, (g c).2 = h (toP c)
  mono : ∀ p q, leP p q → h p ≤ h q
  add : ∀ p (n : Nat), h (addP p n) = h p + n
  zero : h (0, 0, 0) = 0
theorem cmpB : Cmp (fun c => c.2.1) (fun p => p.1) := ⟨fun _ => rfl, fun _ => rfl, fun _ _ h => h.1, fun _ _ => rfl, rfl⟩
theorem cmpO : Cmp (fun c => c.2.2.1) (fun p => p.2.1) := ⟨fun _ => rfl, fun _ => rfl, fun _ _ h => h.2.1, fun _ _ => rfl, rfl⟩
theorem cmpT : Cmp (fun c => c.2.2.2) (fun p => p.2.2) := ⟨fun _ => rfl, fun _ => rfl, fun _ _ h => h.2.2, fun _ _ => rfl, rfl⟩
theorem cutL_join {α : Type} (a : List α) {i j k : Nat} (h1 : i ≤ j) (h2 : j ≤ k) : cutL a i j ++ cutL a j k = cutL a i k := by
  unfold cutL
  have e : a.take j = (a.take k).take j := by rw [List.take_take]; congr 1; omega
  rw [e]
  generalize a.take k = b
  rw [List.drop_take]
  have : b.drop j = (b.drop i).drop (j - i) := by rw [List.drop_drop]; congr 1; omega
  rw [this, List.take_append_drop]
theorem span_join {g : Ck → Sp} {h : Pl → Int} (hg : Cmp g h) {l : List BS} : ∀ {L : List Ck} {t : Pl} {o : Option Bool} {e : Pl}, chF t o L e → 0 ≤ h t → h e ≤ l.length → (L.map fun c => cutS (g c) l).flatten = cutL l (h t).toNat (h e).toNat
  | [], t, _, e, hc, _, _ => by
    have : t = e := hc
    subst this
    simp [cutL]
  | c :: L, t, o, e, ⟨h1, h2, h3, h4, h5⟩, h6, h7 => by
    have m1 := hg.mono _ _ h2
    have m2 := hg.mono _ _ (ch_le h5)
    rw [List.map_cons, List.flatten_cons, span_join hg h5 (by omega) h7, cutS_in (by rw [hg.fro, h1]; exact h6) (by rw [hg.fro, hg.too, h1]; exact m1) (by rw [hg.too]; omega), hg.fro, hg.too, h1]
    exact cutL_join l (by omega) (by omega)
theorem span_all {g : Ck → Sp} {h : Pl → Int} (hg : Cmp g h) {l : List BS} {L : List Ck} {e : Pl} (hc : chF (0, 0, 0) none L e) (he : h e = l.length) : (L.map fun c => cutS (g c) l).flatten = l := by
  rw [span_join hg hc (by rw [hg.zero]; exact Int.le_refl _) (by omega), hg.zero, he]
  simp [cutL]
theorem ch_in : ∀ {L : List Ck} {t : Pl} {o : Option Bool} {e : Pl}, chF t o L e → ∀ c ∈ L, leP t (fromP c) ∧ leP (fromP c) (toP c) ∧ leP (toP c) e
  | c :: L, t, o, e, ⟨h1, h2, h3, h4, h5⟩, d, hd => by
    rcases List.mem_cons.1 hd with rfl | hd
    · exact ⟨by rw [h1]; exact leP_refl _, by rw [h1]; exact h2, ch_le h5⟩
    · obtain ⟨g1, g2, g3⟩ := ch_in h5 d hd
      exact ⟨leP_trans h2 g1, g2, g3⟩
def inF (f : Fl) (c : Ck) : Prop := leP (0, 0, 0) (fromP c) ∧ leP (fromP c) (toP c) ∧ leP (toP c) (endP f)
theorem cutB_in {f : Fl} {c : Ck} (h : inF f c) : cutB f c = cutL f.1 c.2.1.1.toNat c.2.1.2.toNat := cutS_in h.1.1 h.2.1.1 h.2.2.1
theorem cutO_in {f : Fl} {c : Ck} (h : inF f c) : cutO f c = cutL f.2.1 c.2.2.1.1.toNat c.2.2.1.2.toNat := cutS_in h.1.2.1 h.2.1.2.1 h.2.2.2.1
theorem cutT_in {f : Fl} {c : Ck} (h : inF f c) : cutT f c = cutL f.2.2 c.2.2.2.1.toNat c.2.2.2.2.toNat := cutS_in h.1.2.2 h.2.1.2.2 h.2.2.2.2
theorem good_same {f : Fl} {c : Ck} (h : inF f c) (hg : goodC f c) (hs : c.1 = true) : cutO f c = cutB f c ∧ cutT f c = cutB f c := by
  obtain ⟨n, e, g⟩ := hg hs
  have e1 : c.2.1.2 = c.2.1.1 + n := congrArg (fun p : Pl => p.1) e
  have e2 : c.2.2.1.2 = c.2.2.1.1 + n := congrArg (fun p : Pl => p.2.1) e
  have e3 : c.2.2.2.2 = c.2.2.2.1 + n := congrArg (fun p : Pl => p.2.2) e
  have a1 : (0 : Int) ≤ c.2.1.1 := h.1.1
  have a2 : (0 : Int) ≤ c.2.2.1.1 := h.1.2.1
  have a3 : (0 : Int) ≤ c.2.2.2.1 := h.1.2.2
  have b1 : c.2.1.2 ≤ f.1.length := h.2.2.1
  have b2 : c.2.2.1.2 ≤ f.2.1.length := h.2.2.2.1
  have b3 : c.2.2.2.2 ≤ f.2.2.length := h.2.2.2.2
  rw [cutB_in h, cutO_in h, cutT_in h]
  have l1 := cutL_len' f.1 (i := c.2.1.1.toNat) (j := c.2.1.2.toNat) (by omega)
  have l2 := cutL_len' f.2.1 (i := c.2.2.1.1.toNat) (j := c.2.2.1.2.toNat) (by omega)
  have l3 := cutL_len' f.2.2 (i := c.2.2.2.1.toNat) (j := c.2.2.2.2.toNat) (by omega)
  have key : ∀ k, k < n → f.2.1.getD (c.2.2.1.1.toNat + k) [] = f.1.getD (c.2.1.1.toNat + k) [] ∧ f.2.2.getD (c.2.2.2.1.toNat + k) [] = f.1.getD (c.2.1.1.toNat + k) [] := fun k hk => by
    obtain ⟨_, _, _, g4, g5⟩ := g k hk
    have q1 : (addP (fromP c) k).1.toNat = c.2.1.1.toNat + k := by show (c.2.1.1 + (k : Int)).toNat = _; omega
    have q2 : (addP (fromP c) k).2.1.toNat = c.2.2.1.1.toNat + k := by show (c.2.2.1.1 + (k : Int)).toNat = _; omega
    have q3 : (addP (fromP c) k).2.2.toNat = c.2.2.2.1.toNat + k := by show (c.2.2.2.1 + (k : Int)).toNat = _; omega
    rw [q1, q2] at g4
    rw [q1, q3] at g5
    exact ⟨g4, g5⟩
  constructor
  · refine list_ext_getD [] (by omega) fun k hk => ?_
    rw [cutL_at (by omega) (by omega), cutL_at (by omega) (by omega)]
    exact (key k (by omega)).1
  · refine list_ext_getD [] (by omega) fun k hk => ?_
    rw [cutL_at (by omega) (by omega), cutL_at (by omega) (by omega)]
    exact (key k (by omega)).2
def wholeF (f : Fl) : Prop := wholeL f.1 = true ∧ wholeL f.2.1 = true ∧ wholeL f.2.2 = true
theorem whole_ends {l : List BS} (h : wholeL l = true) {k : Nat} (hk : k + 1 < l.length) : endsL (l.getD k []) = true := ((wholeL_iff l).1 h k (by omega)).2 hk
def allEnd (f : Fl) (c : Ck) : Prop := ∀ x, x ∈ cutB f c ∨ x ∈ cutO f c ∨ x ∈ cutT f c → endsL x = true
theorem cut_ends {l : List BS} (hw : wholeL l = true) {i j : Nat} (h : j < l.length) : ∀ x ∈ cutL l i j, endsL x = true := fun x hx => by
  obtain ⟨k, h1, h2, rfl⟩ := cutL_mem (by omega) hx
  exact whole_ends hw (by omega)
theorem ch_ends {f : Fl} (hw : wholeF f) : ∀ (L : List Ck) (t : Pl) (o : Option Bool), chF t o L (endP f) → leP (0, 0, 0) t → (∀ c ∈ L, goodC f c) → ∀ c ∈ L.dropLast, allEnd f c
  | [], _, _, _, _, _, _, h => by simp at h
  | [c], _, _, _, _, _, _, h => by simp at h
  | c :: d :: L, t, o, hc, h0, hg, x, hx => by
    have hx : x = c ∨ x ∈ (d :: L).dropLast := by simpa using hx
    obtain ⟨h1, h2, h3, h4, h5⟩ := hc
    have h5' := h5
    obtain ⟨k1, k2, k3, k4, k5⟩ := h5
    rcases hx with rfl | hx
    · have hin : inF f x := ⟨by rw [h1]; exact h0, by rw [h1]; exact h2, ch_le h5'⟩
      have hle := ch_le k5
      have z1 : (0 : Int) ≤ (toP x).1 := Int.le_trans h0.1 h2.1
      have z2 : (0 : Int) ≤ (toP x).2.1 := Int.le_trans h0.2.1 h2.2.1
      have z3 : (0 : Int) ≤ (toP x).2.2 := Int.le_trans h0.2.2 h2.2.2
      have w1 : (toP x).1 ≤ (toP d).1 := k2.1
      have w2 : (toP x).2.1 ≤ (toP d).2.1 := k2.2.1
      have w3 : (toP x).2.2 ≤ (toP d).2.2 := k2.2.2
      have v1 : (toP d).1 ≤ f.1.length := hle.1
      have v2 : (toP d).2.1 ≤ f.2.1.length := hle.2.1
      have v3 : (toP d).2.2 ≤ f.2.2.length := hle.2.2
      cases hs : x.1 with
      | true =>
        obtain ⟨e1, e2⟩ := good_same hin (hg x (by simp)) hs
        have hall : ∀ y ∈ cutB f x, endsL y = true := by
          by_cases c1 : (toP x).1 < (toP d).1
          · rw [cutB_in hin]
            exact cut_ends hw.1 (by show (toP x).1.toNat < _; omega)
          · by_cases c2 : (toP x).2.1 < (toP d).2.1
            · rw [← e1, cutO_in hin]
              exact cut_ends hw.2.1 (by show (toP x).2.1.toNat < _; omega)
            · by_cases c3 : (toP x).2.2 < (toP d).2.2
              · rw [← e2, cutT_in hin]
                exact cut_ends hw.2.2 (by show (toP x).2.2.toNat < _; omega)
              · exact absurd (show toP x = toP d from Prod.ext (by omega) (Prod.ext (by omega) (by omega))) k3
        intro y hy
        rw [e1, e2] at hy
        rcases hy with hy | hy | hy
        · exact hall y hy
        · exact hall y hy
        · exact hall y hy
      | false =>
        have hd : d.1 = true := by
          cases hd : d.1 with
          | true => rfl
          | false => rw [hs, hd] at k4; exact absurd rfl k4
        obtain ⟨n, e, _⟩ := hg d (by simp) hd
        rw [k1] at e
        have hn : 0 < n := by
          rcases Nat.eq_zero_or_pos n with rfl | h
          · exact absurd (show toP x = toP d by rw [e]; simp [addP]) k3
          · exact h
        have u1 : (toP d).1 = (toP x).1 + n := congrArg (fun p : Pl => p.1) e
        have u2 : (toP d).2.1 = (toP x).2.1 + n := congrArg (fun p : Pl => p.2.1) e
        have u3 : (toP d).2.2 = (toP x).2.2 + n := congrArg (fun p : Pl => p.2.2) e
        intro y hy
        rcases hy with hy | hy | hy
        · rw [cutB_in hin] at hy
          exact cut_ends hw.1 (by show (toP x).1.toNat < _; omega) y hy
        · rw [cutO_in hin] at hy
          exact cut_ends hw.2.1 (by show (toP x).2.1.toNat < _; omega) y hy
        · rw [cutT_in hin] at hy
          exact cut_ends hw.2.2 (by show (toP x).2.2.toNat < _; omega) y hy
    · exact ch_ends hw (d :: L) (toP c) (some c.1) h5' (leP_trans h0 h2) (fun e he => hg e (List.mem_cons_of_mem _ he)) x hx
end Go.Proofs.YtjfmigpahglajaaGreatDoor
set_option linter.unusedSimpArgs false
set_option linter.unusedVariables false
namespace Go.Proofs.YtjfmigpahglajaaGreatDoor
def clsF (f : Fl) (c : Ck) : Int := classK c f.1 f.2.1 f.2.2
def hoistF (st : Int) (l r : List BS) : Nat × Nat := if st = 2 then (ahd l r, bhd (l.drop (ahd l r)) (r.drop (ahd l r))) else (0, 0)
theorem hoist_le (st : Int) (l r : List BS) : (hoistF st l r).1 + (hoistF st l r).2 ≤ l.length ∧ (hoistF st l r).1 + (hoistF st l r).2 ≤ r.length := by
  unfold hoistF
  split
  · have h1 := ahd_le l r
    have h2 := bhd_le (l.drop (ahd l r)) (r.drop (ahd l r))
    simp only [List.length_drop] at h2
    simp only
    omega
  · simp
def confP (f : Fl) (c : Ck) (st : Int) (lb : BS × BS × BS) : Pt :=
  (lb.1, (if st = 0 then [] else lb.2.1), lb.2.2, true, [], (cutL (cutO f c) (hoistF st (cutO f c) (cutT f c)).1 ((cutO f c).length - (hoistF st (cutO f c) (cutT f c)).2)).flatten,
    (if st = 0 then [] else (cutB f c).flatten), (cutL (cutT f c) (hoistF st (cutO f c) (cutT f c)).1 ((cutT f c).length - (hoistF st (cutO f c) (cutT f c)).2)).flatten, decide (st ≠ 0))
def confL (f : Fl) (c : Ck) (st : Int) (lb : BS × BS × BS) : List Pt :=
  [textP ((cutO f c).take (hoistF st (cutO f c) (cutT f c)).1).flatten, confP f c st lb, textP ((cutO f c).drop ((cutO f c).length - (hoistF st (cutO f c) (cutT f c)).2)).flatten]
def sideF (f : Fl) (c : Ck) (k fav : Int) : List BS := if k = 0 then cutB f c else if k = 2 then cutT f c else if k = 4 ∧ fav = 3 then cutT f c else cutO f c
def ckPs (f : Fl) (st : Int) (lb : BS × BS × BS) (fav : Int) (c : Ck) : List Pt := if clsF f c = 4 ∧ fav = 0 then confL f c st lb else [textP (sideF f c (clsF f c) fav).flatten]
def styOK (n : Int) : Bool := decide (n = 0) || (decide (n = 1) || decide (n = 2))
def favOK (n : Int) : Bool := decide (n = 0) || (decide (n = 1) || decide (n = 3))
def plainLb (lb : BS × BS × BS) : Bool := plainB lb.1 && (plainB lb.2.1 && plainB lb.2.2)
def docF (f : Fl) (L : List Ck) (st : Int) (lb : BS × BS × BS) (fav : Int) : List Pt × Int :=
  if (styOK st && favOK fav) = false then ([], 5) else if plainLb lb = false then ([], 3) else (ofD (L.flatMap (ckPs f st lb fav)), 0)
def cntF (f : Fl) (L : List Ck) : Nat := (L.filter fun c => decide (clsF f c = 4)).length
theorem flat_ends {l : List BS} (h : ∀ x ∈ l, endsL x = true) : l.flatten = [] ∨ endsL l.flatten = true := by
  rcases l.eq_nil_or_concat with rfl | ⟨m, x, rfl⟩
  · exact .inl rfl
  · right
    rw [List.concat_eq_append, List.flatten_append]
    have hx := h x (by simp)
    have : [x].flatten = x := by simp
    rw [this, ends_app (fun e => by rw [e] at hx; simp [endsL] at hx)]
    exact hx
theorem confP_ok {f : Fl} {c : Ck} {st : Int} {lb : BS × BS × BS} (h : plainLb lb = true) : confD (confP f c st lb) = true := by
  unfold plainLb at h
  simp only [Bool.and_eq_true] at h
  unfold confD confP plainD
  simp only [Bool.and_eq_true, Bool.or_eq_true, decide_eq_true_eq]
  refine ⟨trivial, trivial, ?_, h.1, ?_, h.2.2⟩
  · by_cases e : st = 0
    · rw [if_pos e, if_pos e]
      exact .inr ⟨rfl, rfl⟩
    · exact .inl e
  · split
    · rfl
    · exact h.2.1
theorem ckPs_or {f : Fl} {st : Int} {lb : BS × BS × BS} {fav : Int} (h : plainLb lb = true) (c : Ck) : ∀ p ∈ ckPs f st lb fav c, confD p = true ∨ isTextD p = true := by
  unfold ckPs
  split
  · intro p hp
    unfold confL at hp
    simp only [List.mem_cons, List.not_mem_nil, or_false] at hp
    rcases hp with rfl | rfl | rfl
    · exact .inr (isText_textP _)
    · exact .inl (confP_ok h)
    · exact .inr (isText_textP _)
  · intro p hp
    simp only [List.mem_singleton] at hp
    subst hp
    exact .inr (isText_textP _)
theorem side_end {f : Fl} {c : Ck} (h : allEnd f c) (k fav : Int) : ∀ x ∈ sideF f c k fav, endsL x = true := by
  intro x hx
  unfold sideF at hx
  split at hx
  · exact h x (.inl hx)
  · split at hx
    · exact h x (.inr (.inr hx))
    · split at hx
      · exact h x (.inr (.inr hx))
      · exact h x (.inr (.inl hx))
theorem ckPs_end {f : Fl} {st : Int} {lb : BS × BS × BS} {fav : Int} {c : Ck} (hp : plainLb lb = true) (h : allEnd f c) : ∀ p ∈ ckPs f st lb fav c, confD p = true ∨ (isTextD p = true ∧ (txP p = [] ∨ endsL (txP p) = true)) := by
  unfold ckPs
  split
  · intro p hpm
    unfold confL at hpm
    simp only [List.mem_cons, List.not_mem_nil, or_false] at hpm
    rcases hpm with rfl | rfl | rfl
    · exact .inr ⟨isText_textP _, flat_ends fun x hx => h x (.inr (.inl (List.mem_of_mem_take hx)))⟩
    · exact .inl (confP_ok hp)
    · exact .inr ⟨isText_textP _, flat_ends fun x hx => h x (.inr (.inl (List.mem_of_mem_drop hx)))⟩
  · intro p hpm
    simp only [List.mem_singleton] at hpm
    subst hpm
    exact .inr ⟨isText_textP _, flat_ends (side_end h _ _)⟩
theorem cls_cases (f : Fl) (c : Ck) : (clsF f c = 0 ∧ c.1 = true) ∨ (c.1 = false ∧ (clsF f c = 2 ∧ cutO f c = cutB f c ∨ clsF f c = 1 ∧ cutT f c = cutB f c ∨ clsF f c = 3 ∧ cutO f c = cutT f c ∨ clsF f c = 4 ∧ cutO f c ≠ cutB f c ∧ cutT f c ≠ cutB f c ∧ cutO f c ≠ cutT f c)) := by
  unfold clsF classK
  cases h : c.1 with
  | true => exact .inl ⟨rfl, rfl⟩
  | false =>
    refine .inr ⟨rfl, ?_⟩
    rw [if_neg (by simp)]
    by_cases h1 : cutS c.2.2.1 f.2.1 = cutS c.2.1 f.1
    · rw [if_pos h1]; exact .inl ⟨rfl, h1⟩
    · rw [if_neg h1]
      by_cases h2 : cutS c.2.2.2 f.2.2 = cutS c.2.1 f.1
      · rw [if_pos h2]; exact .inr (.inl ⟨rfl, h2⟩)
      · rw [if_neg h2]
        by_cases h3 : cutS c.2.2.1 f.2.1 = cutS c.2.2.2 f.2.2
        · rw [if_pos h3]; exact .inr (.inr (.inl ⟨rfl, h3⟩))
        · rw [if_neg h3]; exact .inr (.inr (.inr ⟨rfl, h1, h2, h3⟩))
theorem cls_four {f : Fl} {c : Ck} (h : clsF f c = 4) : cutO f c ≠ cutT f c := by
  rcases cls_cases f c with ⟨h1, _⟩ | ⟨_, ⟨h1, _⟩ | ⟨h1, _⟩ | ⟨h1, _⟩ | ⟨_, _, _, h2⟩⟩
  · omega
  · omega
  · omega
  · omega
  · exact h2
theorem ahead_end {f : Fl} (hw : wholeF f) {c : Ck} (hin : inF f c) (hne : cutO f c ≠ cutT f c) : ∀ x ∈ (cutO f c).take (ahd (cutO f c) (cutT f c)), endsL x = true := by
  intro x hx
  have hle := ahd_le (cutO f c) (cutT f c)
  have hsp := (ahd_spec [] (cutO f c) (cutT f c)).1
  have b2 : c.2.2.1.2 ≤ f.2.1.length := hin.2.2.2.1
  have b3 : c.2.2.2.2 ≤ f.2.2.length := hin.2.2.2.2
  have a2 : (0 : Int) ≤ c.2.2.1.1 := hin.1.2.1
  have a3 : (0 : Int) ≤ c.2.2.2.1 := hin.1.2.2
  obtain ⟨k, hk, e⟩ := List.getElem_of_mem hx
  rw [List.length_take] at hk
  rw [List.getElem_take] at e
  have e' : (cutO f c).getD k [] = x := by rw [gd_lt _ _ (by omega)]; exact e
  have lO : (cutO f c).length = c.2.2.1.2.toNat - c.2.2.1.1.toNat := by rw [cutO_in hin]; exact cutL_len' _ (by omega)
  have lT : (cutT f c).length = c.2.2.2.2.toNat - c.2.2.2.1.toNat := by rw [cutT_in hin]; exact cutL_len' _ (by omega)
  rcases Nat.lt_or_ge (ahd (cutO f c) (cutT f c)) (cutO f c).length with g | g
  · rw [← e', cutO_in hin, cutL_at (by omega) (by omega)]
    exact whole_ends hw.2.1 (by omega)
  · rcases Nat.lt_or_ge (ahd (cutO f c) (cutT f c)) (cutT f c).length with g2 | g2
    · rw [← e', hsp k (by omega), cutT_in hin, cutL_at (by omega) (by omega)]
      exact whole_ends hw.2.2 (by omega)
    · exact absurd (ahd_all (by omega) (by omega)) hne
theorem ckPs_ne (f : Fl) (st : Int) (lb : BS × BS × BS) (fav : Int) (c : Ck) : ckPs f st lb fav c ≠ [] := by
  unfold ckPs
  split
  · simp [confL]
  · simp
theorem ckPs_last {f : Fl} (hw : wholeF f) {st : Int} {lb : BS × BS × BS} {fav : Int} {c : Ck} (hp : plainLb lb = true) (hin : inF f c) : ∀ p ∈ (ckPs f st lb fav c).dropLast, confD p = true ∨ (isTextD p = true ∧ (txP p = [] ∨ endsL (txP p) = true)) := by
  unfold ckPs
  split
  · rename_i hc
    intro p hpm
    unfold confL at hpm
    have hpm : p = textP ((cutO f c).take (hoistF st (cutO f c) (cutT f c)).1).flatten ∨ p = confP f c st lb := by simpa using hpm
    rcases hpm with rfl | rfl
    · refine .inr ⟨isText_textP _, flat_ends fun x hx => ?_⟩
      unfold hoistF at hx
      split at hx
      · exact ahead_end hw hin (cls_four hc.1) x hx
      · simp at hx
    · exact .inl (confP_ok hp)
  · intro p hpm
    simp at hpm
theorem dropLast_app {α : Type} (a b : List α) (h : b ≠ []) : (a ++ b).dropLast = a ++ b.dropLast := by
  rw [List.dropLast_append_of_ne_nil h]
theorem doc_right {f : Fl} (hw : wholeF f) {L : List Ck} (hc : chF (0, 0, 0) none L (endP f)) (hg : ∀ c ∈ L, goodC f c) {st : Int} {lb : BS × BS × BS} {fav : Int} (hp : plainLb lb = true) : rightD (ofD (L.flatMap (ckPs f st lb fav))) = true := by
  refine of_right (fun p h => ?_) (fun p h => ?_)
  · obtain ⟨c, _, hc2⟩ := List.mem_flatMap.1 h
    exact ckPs_or hp c p hc2
  · have hends := ch_ends hw L (0, 0, 0) none hc (leP_refl _) hg
    have hin := ch_in hc
    rcases L.eq_nil_or_concat with rfl | ⟨m, c, rfl⟩
    · simp at h
    · rw [List.concat_eq_append] at h hends hin
      rw [List.flatMap_append, dropLast_app _ _ (by simpa using ckPs_ne f st lb fav c)] at h
      rcases List.mem_append.1 h with h | h
      · obtain ⟨d, hd, hd2⟩ := List.mem_flatMap.1 h
        exact ckPs_end hp (hends d (by simpa using hd)) p hd2
      · have h : p ∈ (ckPs f st lb fav c).dropLast := by simpa using h
        exact ckPs_last hw hp (hin c (by simp)) p h
theorem confl_app (a b : List Pt) : conflD (a ++ b) = conflD a + conflD b := by simp [conflD]
theorem ckPs_confl (f : Fl) (st : Int) (lb : BS × BS × BS) (c : Ck) : conflD (ckPs f st lb 0 c) = if clsF f c = 4 then 1 else 0 := by
  unfold ckPs
  by_cases h : clsF f c = 4
  · rw [if_pos ⟨h, rfl⟩, if_pos h]
    rfl
  · rw [if_neg (fun e => h e.1), if_neg h]
    rfl
theorem cnt_cons (f : Fl) (c : Ck) (L : List Ck) : cntF f (c :: L) = (if clsF f c = 4 then 1 else 0) + cntF f L := by
  unfold cntF
  rw [List.filter_cons]
  by_cases h : clsF f c = 4
  · rw [if_pos (by simpa using h), if_pos h, List.length_cons]; omega
  · rw [if_neg (by simpa using h), if_neg h]; omega
theorem cnt_snoc (f : Fl) (c : Ck) (L : List Ck) : cntF f (L ++ [c]) = cntF f L + (if clsF f c = 4 then 1 else 0) := by
  unfold cntF
  rw [List.filter_append, List.length_append]
  congr 1
  rw [List.filter_cons]
  by_cases h : clsF f c = 4
  · rw [if_pos (by simpa using h), if_pos h]; rfl
  · rw [if_neg (by simpa using h), if_neg h]; rfl
theorem doc_confl (f : Fl) (st : Int) (lb : BS × BS × BS) : ∀ L : List Ck, conflD (L.flatMap (ckPs f st lb 0)) = cntF f L
  | [] => rfl
  | c :: L => by
    rw [List.flatMap_cons, confl_app, ckPs_confl, doc_confl f st lb L, cnt_cons]
theorem ckPs_fav (f : Fl) (st : Int) (lb : BS × BS × BS) {fav : Int} (h : fav ≠ 0) (c : Ck) : ckPs f st lb fav c = [textP (sideF f c (clsF f c) fav).flatten] := by
  unfold ckPs
  rw [if_neg (fun e => h e.2)]
theorem map_fav (f : Fl) (st : Int) (lb : BS × BS × BS) {fav : Int} (h : fav ≠ 0) (L : List Ck) : L.flatMap (ckPs f st lb fav) = (L.map fun c => (sideF f c (clsF f c) fav).flatten).map textP := by
  induction L with
  | nil => rfl
  | cons c L ih => rw [List.flatMap_cons, ckPs_fav f st lb h, ih]; rfl
theorem of_texts : ∀ (ts : List BS) (d : List Pt) (acc : List BS), ofGo (ts.map textP) d acc = withD d (acc ++ ts)
  | [], d, acc => by rw [List.map_nil, ofGo, List.append_nil]
  | t :: ts, d, acc => by
    rw [List.map_cons, ofGo, if_pos (isText_textP t), of_texts ts d (acc ++ [txP (textP t)])]
    congr 1
    rw [List.append_assoc]
    rfl
def favT (f : Fl) (L : List Ck) (fav : Int) : BS := (L.map fun c => sideF f c (clsF f c) fav).flatten.flatten
theorem flat_map {l : List (List BS)} : (l.map List.flatten).flatten = l.flatten.flatten := by
  induction l with
  | nil => rfl
  | cons a l ih => rw [List.map_cons, List.flatten_cons, List.flatten_cons, List.flatten_append, ih]
theorem doc_fav (f : Fl) (st : Int) (lb : BS × BS × BS) {fav : Int} (h : fav ≠ 0) (L : List Ck) : ofD (L.flatMap (ckPs f st lb fav)) = if favT f L fav = [] then [] else [textP (favT f L fav)] := by
  rw [map_fav f st lb h]
  show ofGo _ [] [] = _
  rw [of_texts]
  have e : ([] ++ L.map fun c => (sideF f c (clsF f c) fav).flatten).flatten = favT f L fav := by
    unfold favT
    rw [← flat_map, List.map_map]
    rfl
  unfold withD
  rw [e]
  rfl
end Go.Proofs.YtjfmigpahglajaaGreatDoor
set_option linter.unusedSimpArgs false
set_option linter.unusedVariables false
set_option maxRecDepth 100000
set_option maxHeartbeats 2000000
namespace Go.Proofs.YtjfmigpahglajaaGreatDoor
open Go
attribute [local irreducible] AW AVle ASle RowLe
@[go_sem] theorem kCell_str (l : Array UInt8) : kCell (.string ⟨l⟩) = .st l.toList := rfl
theorem ends_drop (a : List UInt8) : (decide (1 ≤ (a.length : Int)) && decide (List.drop ((a.length : Int) - 1).toNat a = [10])) = endsL a := by
  unfold endsL
  have e : ((a.length : Int) - 1).toNat = a.length - 1 := by omega
  rw [e, Bool.eq_iff_iff]
  simp only [Bool.and_eq_true, decide_eq_true_eq]
  rcases a.eq_nil_or_concat with rfl | ⟨m, c, rfl⟩
  · simp
  · rw [List.concat_eq_append]
    have e2 : (m ++ [c]).length - 1 = m.length := by simp
    rw [e2, List.drop_left]
    simp
    omega
def sHasSufL : Spec := Spec.f2 kS kS (fun a b => a.length ≤ 100000000000 ∧ b = [10]) (fun a _ => kB.enc (endsL a))
theorem okHasSufL : SpecOK Tryz.prog 147 sHasSufL := by
  refine SpecOK.f2 Tryz.func147 rfl (by decide) Tryz.results147 Tryz.ntmps147 (by decide) fun a b ⟨ha, h⟩ => ?_
  have hΓ : GOK Tryz.prog (gam []) := GOK.nil
  subst h
  refine AW.of hΓ mixed [] _ _ _ rfl ?_
  simp only [go_sem]
  exact ⟨by omega, by omega, ends_drop a⟩
def sHasSuf : Spec := Spec.f2 kS kS (fun a b => a.length ≤ 100000000000 ∧ b = [10]) (fun a _ => kB.enc (endsL a))
theorem okHasSuf : SpecOK Tryz.prog 117 sHasSuf := by
  refine SpecOK.f2 Tryz.func117 rfl (by decide) Tryz.results117 Tryz.ntmps117 (by decide) fun a b ⟨ha, h⟩ => ?_
  have hΓ : GOK Tryz.prog (gam [(147, sHasSufL)]) := (.cons okHasSufL .nil)
  subst h
  refine AW.of hΓ mixed [] _ _ _ rfl ?_
  simp only [go_sem, sHasSufL]
  exact ha
theorem isText_iff (ll bl rl : BS) (h : Bool) (t l b r : BS) (hb : Bool) : isTextD (ll, bl, rl, h, t, l, b, r, hb) = true ↔ ll = [] ∧ bl = [] ∧ rl = [] ∧ h = false ∧ l = [] ∧ b = [] ∧ r = [] ∧ hb = false := by
  simp [isTextD, textP, txP]
def sIsText : Spec := Spec.f1 (kA ePt) (fun _ => True) (fun p => kB.enc (isTextD p))
theorem okIsText : SpecOK Tryz.prog 119 sIsText := by
  refine SpecOK.f1 Tryz.func119 rfl (by decide) Tryz.results119 Tryz.ntmps119 (by decide) fun p _ => ?_
  have hΓ : GOK Tryz.prog (gam []) := GOK.nil
  obtain ⟨ll, bl, rl, h, t, l, b, r, hb⟩ := p
  refine AW.of hΓ mixed [] _ _ _ rfl ?_
  simp only [go_sem]
  rw [Bool.eq_iff_iff, isText_iff]
  simp only [Bool.and_eq_true, decide_eq_true_eq, and_assoc]
theorem pt_le {ll bl rl : BS} {h : Bool} {t l b r : BS} {hb : Bool} {c : Nat → AV} (h0 : c 0 = .st ll) (h1 : c 1 = .st bl) (h2 : c 2 = .st rl) (h3 : c 3 = .val (.bool h)) (h4 : c 4 = .st t) (h5 : c 5 = .st l) (h6 : c 6 = .st b) (h7 : c 7 = .st r) (h8 : c 8 = .val (.bool hb)) :
    AVle (.ag 9 c) (.ag 9 (ePt.enc (ll, bl, rl, h, t, l, b, r, hb))) := AVle.ag fun j hj => AVle.of_eq (match j, hj with
  | 0, _ => h0
  | 1, _ => h1
  | 2, _ => h2
  | 3, _ => h3
  | 4, _ => h4
  | 5, _ => h5
  | 6, _ => h6
  | 7, _ => h7
  | 8, _ => h8)
theorem ptEq (x y : Pt) : (decide (x.1 = y.1) && (decide (x.2.1 = y.2.1) && (decide (x.2.2.1 = y.2.2.1) && (decide (x.2.2.2.1 = y.2.2.2.1) && (decide (x.2.2.2.2.1 = y.2.2.2.2.1) && (decide (x.2.2.2.2.2.1 = y.2.2.2.2.2.1) && (decide (x.2.2.2.2.2.2.1 = y.2.2.2.2.2.2.1) && (decide (x.2.2.2.2.2.2.2.1 = y.2.2.2.2.2.2.2.1) && decide (x.2.2.2.2.2.2.2.2 = y.2.2.2.2.2.2.2.2))))))))) = decide (x = y) := by
  obtain ⟨ll, bl, rl, h, t, l, b, r, hb⟩ := x
  obtain ⟨ll', bl', rl', h', t', l', b', r', hb'⟩ := y
  rw [Bool.eq_iff_iff]
  simp only [Bool.and_eq_true, decide_eq_true_eq, Prod.mk.injEq]
theorem ptEqN (x y : Pt) : ((decide (x.1 = y.1) && (decide (x.2.1 = y.2.1) && decide (x.2.2.1 = y.2.2.1))) && (decide (x.2.2.2.1 = y.2.2.2.1) && (decide (x.2.2.2.2.1 = y.2.2.2.2.1) && (decide (x.2.2.2.2.2.1 = y.2.2.2.2.2.1) && (decide (x.2.2.2.2.2.2.1 = y.2.2.2.2.2.2.1) && (decide (x.2.2.2.2.2.2.2.1 = y.2.2.2.2.2.2.2.1) && decide (x.2.2.2.2.2.2.2.2 = y.2.2.2.2.2.2.2.2))))))) = decide (x = y) := by
  rw [← ptEq]
  simp only [Bool.and_assoc]
def sEqD : Spec := Spec.f2 (kL ePt) (kL ePt) (fun a b => a.length < 1000000000 ∧ b.length < 1000000000) (fun a b => kB.enc (decide (a = b)))
theorem okEqD : SpecOK Tryz.prog 94 sEqD := by
  refine SpecOK.f2 Tryz.func94 rfl (by decide) Tryz.results94 Tryz.ntmps94 (by decide) fun a b ⟨ha, hb⟩ => ?_
  have hΓ : GOK Tryz.prog (gam []) := GOK.nil
  refine AW.of hΓ mixed [] _ _ _ rfl ?_
  simp only [go_sem]
  refine ⟨fun h e => h (by rw [e]), fun h => ?_⟩
  have hab : a.length = b.length := by omega
  refine AW.round (α := { x : Nat × Nat // x.1 ≤ a.length ∧ ∀ k, k < x.1 → a.getD k ePt.dflt = b.getD k ePt.dflt })
    (fun x => ⟨[(0, sL ePt a), (1, sL ePt b), (12, .val (.int .i64 a.length)), (13, .val (.int .i64 x.1.1))], [], 26, 0, x.1.2, []⟩) (fun x => a.length - x.1.1) ⟨(0, 0), Nat.zero_le _, fun k hk => absurd hk (Nat.not_lt_zero _)⟩ ?_ ?_
  · simp only [go_sem]
  · rintro ⟨⟨i, nx⟩, hi, he⟩
    simp only at hi he
    refine AW.of hΓ mixed [99999] _ _ _ rfl ?_
    simp only [go_sem]
    rw [ptEqN]
    refine ⟨fun hlt => ⟨by omega, by omega, fun hn e => ?_, fun hn => ⟨by omega, ⟨(i + 1, nx), by dsimp only; omega, fun k hk => ?_⟩, ⟨Nat.le_refl _, by dsimp only; omega⟩, by dsimp only; omega⟩⟩, fun hge => ?_⟩
    · rw [e, decide_eq_true rfl] at hn
      cases hn
    · dsimp only at hk
      rcases Nat.lt_or_ge k i with h' | h'
      · exact he k h'
      · obtain rfl : k = i := by omega
        simpa using hn
    · exact list_ext_getD ePt.dflt hab fun k hk => he k (by omega)
def sSameDD : Spec := Spec.f2 (kL ePt) (kL ePt) (fun a b => a.length < 1000000000 ∧ b.length < 1000000000) (fun a b => kB.enc (decide (a = b)))
theorem okSameDD : SpecOK Tryz.prog 46 sSameDD := by
  refine SpecOK.f2 Tryz.func46 rfl (by decide) Tryz.results46 Tryz.ntmps46 (by decide) fun a b ⟨ha, hb⟩ => ?_
  have hΓ : GOK Tryz.prog (gam [(94, sEqD)]) := (.cons okEqD .nil)
  refine AW.of hΓ mixed [] _ _ _ rfl ?_
  simp only [go_sem, sEqD]
  exact ⟨ha, hb⟩
theorem pt_eta (p : Pt) : (p.1, p.2.1, p.2.2.1, p.2.2.2.1, p.2.2.2.2.1, p.2.2.2.2.2.1, p.2.2.2.2.2.2.1, p.2.2.2.2.2.2.2.1, p.2.2.2.2.2.2.2.2) = p := rfl
end Go.Proofs.YtjfmigpahglajaaGreatDoor
namespace Go.Proofs
open Go.Shelf
def Tryz.lays156_ren : Go.Shelf.Ren := ⟨fun | 156 => 86 | 165 => 131 | 166 => 92 | 169 => 93 | 240 => 135 | 241 => 153 | 276 => 156 | 277 => 167 | n => n, fun | 31 => 69 | 9 => 9 | 3 => 3 | 4 => 4 | 0 => 0 | 20 => 20 | 72 => 149 | 76 => 153 | 70 => 146 | 37 => 147 | 75 => 152 | 127 => 191 | 164 => 208 | 5 => 5 | 80 => 155 | n => n, fun | n => n⟩
theorem Tryz.lays156 : Go.Proofs.Lays.n156 Tryz.prog Tryz.lays156_ren := {
  mixed := by kernel_rfl
  f156 := Tryz.func86.trans (congrArg some (by kernel_rfl))
  f165 := Tryz.func131.trans (congrArg some (by kernel_rfl))
  f166 := Tryz.func92.trans (congrArg some (by kernel_rfl))
  f169 := Tryz.func93.trans (congrArg some (by kernel_rfl))
  f240 := Tryz.func135.trans (congrArg some (by kernel_rfl))
  f241 := Tryz.func153.trans (congrArg some (by kernel_rfl))
  f276 := Tryz.func156.trans (congrArg some (by kernel_rfl))
  f277 := Tryz.func167.trans (congrArg some (by kernel_rfl))
  t0 := Tryz.underlying0
  a0 := Tryz.isAgg0
  z0 := Tryz.sizeOf0
  v0 := Tryz.zeroValue0
  t3 := Tryz.underlying3
  a3 := Tryz.isAgg3
  z3 := Tryz.sizeOf3
  v3 := Tryz.zeroValue3
  t4 := Tryz.underlying4
  a4 := Tryz.isAgg4
  z4 := Tryz.sizeOf4
  v4 := Tryz.zeroValue4
  t9 := Tryz.underlying9
  a9 := Tryz.isAgg9
  z9 := Tryz.sizeOf9
  v9 := Tryz.zeroValue9
  t20 := Tryz.underlying20
  a20 := Tryz.isAgg20
  z20 := Tryz.sizeOf20
  v20 := Tryz.zeroValue20
  t31 := Tryz.underlying69
  a31 := Tryz.isAgg69
  z31 := Tryz.sizeOf69
  v31 := Tryz.zeroValue69
  t37 := Tryz.underlying147
  a37 := Tryz.isAgg147
  z37 := Tryz.sizeOf147
  v37 := Tryz.zeroValue147
  t70 := Tryz.underlying146
  a70 := Tryz.isAgg146
  z70 := Tryz.sizeOf146
  v70 := Tryz.zeroValue146
  t72 := Tryz.underlying149
  a72 := Tryz.isAgg149
  z72 := Tryz.sizeOf149
  v72 := Tryz.zeroValue149
  t75 := Tryz.underlying152
  a75 := Tryz.isAgg152
  z75 := Tryz.sizeOf152
  v75 := Tryz.zeroValue152
  t76 := Tryz.underlying153
  a76 := Tryz.isAgg153
  z76 := Tryz.sizeOf153
  v76 := Tryz.zeroValue153
  t127 := Tryz.underlying191
  a127 := Tryz.isAgg191
  z127 := Tryz.sizeOf191
  v127 := Tryz.zeroValue191
  t164 := Tryz.underlying208
  a164 := Tryz.isAgg208
  z164 := Tryz.sizeOf208
  v164 := Tryz.zeroValue208 }
theorem Tryz.Builder_Extra_156 : Builder.Extra Tryz.prog Tryz.lays156_ren := {
  sizeBuilder := by kernel_rfl
  liesBuilder := by kernel_rfl
  t5 := Tryz.underlying5
  a5 := Tryz.isAgg5
  z5 := Tryz.sizeOf5
  v5 := Tryz.zeroValue5
  infoByte := by kernel_rfl
  cellsByte := by kernel_rfl
  sizeByte := by kernel_rfl
  neB5 := by decide }
open Go.RowKit in
theorem Tryz.strings_Join_none (a : Option Addr) (c : Nat) (sep : ByteArray) (w : World) :
    Calls Tryz.prog 86 #[.slice a 0 c, .string sep] w fun e w' => e = .returned (.string ⟨#[]⟩) ∧ w' = w := Any.strings_Join_none Tryz.lays156 Tryz.Builder_Extra_156 a c sep w
open Go.RowKit in
theorem Tryz.strings_Join (bk o c : Nat) (xs : List ByteArray) (sep : ByteArray) (w : World) (hcells : ∀ (j : Nat) x, xs[j]? = some x → w.cell? ⟨bk, o + j, none⟩ = some (.string x)) (hbk : bk < w.heap.size) (hN : xs.length ≤ 140737488355328) (hcap : xs.length ≤ c) (hlen : (Lib.join (xs.map (·.data.toList)) sep.data.toList).length ≤ 140737488355328) :
    Calls Tryz.prog 86 #[.slice (some ⟨bk, o, none⟩) xs.length c, .string sep] w fun e w' => e = .returned (.string ⟨(Lib.join (xs.map (·.data.toList)) sep.data.toList).toArray⟩) ∧ Below w.heap.size w w' := Any.strings_Join Tryz.lays156 Tryz.Builder_Extra_156 bk o c xs sep w hcells hbk hN hcap hlen
def Tryz.lays137_ren : Go.Shelf.Ren := ⟨fun | 137 => 142 | 217 => 160 | 266 => 176 | n => n, fun | 9 => 9 | 5 => 5 | 3 => 3 | n => n, fun | n => n⟩
theorem Tryz.lays137 : Go.Proofs.Lays.n137 Tryz.prog Tryz.lays137_ren := {
  mixed := by kernel_rfl
  f137 := Tryz.func142.trans (congrArg some (by kernel_rfl))
  f217 := Tryz.func160.trans (congrArg some (by kernel_rfl))
  f266 := Tryz.func176.trans (congrArg some (by kernel_rfl))
  t3 := Tryz.underlying3
  a3 := Tryz.isAgg3
  z3 := Tryz.sizeOf3
  v3 := Tryz.zeroValue3
  t5 := Tryz.underlying5
  a5 := Tryz.isAgg5
  z5 := Tryz.sizeOf5
  v5 := Tryz.zeroValue5
  t9 := Tryz.underlying9
  a9 := Tryz.isAgg9
  z9 := Tryz.sizeOf9
  v9 := Tryz.zeroValue9 }
open Go.RowKit in
theorem Tryz.strings_IndexByte (s : ByteArray) (c : Int) (w : World) :
    Calls Tryz.prog 142 #[.string s, .int .u8 c] w fun e w' => e = .returned (.int .i64 (Lib.indexByte s.data.toList c.toNat.toUInt8)) ∧ w' = w := Any.strings_IndexByte Tryz.lays137 s c w
def Tryz.lays143_ren : Go.Shelf.Ren := ⟨fun | 143 => 152 | 219 => 166 | 217 => 160 | 225 => 179 | 224 => 180 | 267 => 181 | 266 => 176 | 314 => 189 | n => n, fun | 9 => 9 | 3 => 3 | 4 => 4 | 5 => 5 | 46 => 183 | 146 => 201 | 51 => 200 | n => n, fun | 1 => 0 | n => n⟩
theorem Tryz.lays143 : Go.Proofs.Lays.n143 Tryz.prog Tryz.lays143_ren := {
  mixed := by kernel_rfl
  f143 := Tryz.func152.trans (congrArg some (by kernel_rfl))
  f217 := Tryz.func160.trans (congrArg some (by kernel_rfl))
  f219 := Tryz.func166.trans (congrArg some (by kernel_rfl))
  f224 := Tryz.func180.trans (congrArg some (by kernel_rfl))
  f225 := Tryz.func179.trans (congrArg some (by kernel_rfl))
  f266 := Tryz.func176.trans (congrArg some (by kernel_rfl))
  f267 := Tryz.func181.trans (congrArg some (by kernel_rfl))
  f314 := Tryz.func189.trans (congrArg some (by kernel_rfl))
  t3 := Tryz.underlying3
  a3 := Tryz.isAgg3
  z3 := Tryz.sizeOf3
  v3 := Tryz.zeroValue3
  t4 := Tryz.underlying4
  a4 := Tryz.isAgg4
  z4 := Tryz.sizeOf4
  v4 := Tryz.zeroValue4
  t5 := Tryz.underlying5
  a5 := Tryz.isAgg5
  z5 := Tryz.sizeOf5
  v5 := Tryz.zeroValue5
  t9 := Tryz.underlying9
  a9 := Tryz.isAgg9
  z9 := Tryz.sizeOf9
  v9 := Tryz.zeroValue9
  t46 := Tryz.underlying183
  a46 := Tryz.isAgg183
  z46 := Tryz.sizeOf183
  v46 := Tryz.zeroValue183
  t51 := Tryz.underlying200
  a51 := Tryz.isAgg200
  z51 := Tryz.sizeOf200
  v51 := Tryz.zeroValue200
  t146 := Tryz.underlying201
  a146 := Tryz.isAgg201
  z146 := Tryz.sizeOf201
  v146 := Tryz.zeroValue201
  g1 := by kernel_rfl }
open Go.RowKit Go.Lib in
theorem Tryz.strings_Index_one (s : ByteArray) (c : UInt8) (w : World) :
    Calls Tryz.prog 152 #[.string s, .string ⟨#[c]⟩] w fun e w' => e = .returned (.int .i64 (Lib.indexByte s.data.toList c)) ∧ w' = w := Any.strings_Index_one Tryz.lays143 s c w
def Tryz.lays138_ren : Go.Shelf.Ren := ⟨fun | 138 => 151 | 195 => 163 | 218 => 165 | 143 => 152 | 219 => 166 | 217 => 160 | 225 => 179 | 224 => 180 | 267 => 181 | 266 => 176 | 314 => 189 | n => n, fun | 9 => 9 | 3 => 3 | 4 => 4 | 5 => 5 | 0 => 0 | 46 => 183 | 146 => 201 | 51 => 200 | n => n, fun | 1 => 0 | n => n⟩
theorem Tryz.lays138 : Go.Proofs.Lays.n138 Tryz.prog Tryz.lays138_ren := {
  mixed := by kernel_rfl
  f138 := Tryz.func151.trans (congrArg some (by kernel_rfl))
  f143 := Tryz.func152.trans (congrArg some (by kernel_rfl))
  f195 := Tryz.func163.trans (congrArg some (by kernel_rfl))
  f217 := Tryz.func160.trans (congrArg some (by kernel_rfl))
  f218 := Tryz.func165.trans (congrArg some (by kernel_rfl))
  f219 := Tryz.func166.trans (congrArg some (by kernel_rfl))
  f224 := Tryz.func180.trans (congrArg some (by kernel_rfl))
  f225 := Tryz.func179.trans (congrArg some (by kernel_rfl))
  f266 := Tryz.func176.trans (congrArg some (by kernel_rfl))
  f267 := Tryz.func181.trans (congrArg some (by kernel_rfl))
  f314 := Tryz.func189.trans (congrArg some (by kernel_rfl))
  t0 := Tryz.underlying0
  a0 := Tryz.isAgg0
  z0 := Tryz.sizeOf0
  v0 := Tryz.zeroValue0
  t3 := Tryz.underlying3
  a3 := Tryz.isAgg3
  z3 := Tryz.sizeOf3
  v3 := Tryz.zeroValue3
  t4 := Tryz.underlying4
  a4 := Tryz.isAgg4
  z4 := Tryz.sizeOf4
  v4 := Tryz.zeroValue4
  t5 := Tryz.underlying5
  a5 := Tryz.isAgg5
  z5 := Tryz.sizeOf5
  v5 := Tryz.zeroValue5
  t9 := Tryz.underlying9
  a9 := Tryz.isAgg9
  z9 := Tryz.sizeOf9
  v9 := Tryz.zeroValue9
  t46 := Tryz.underlying183
  a46 := Tryz.isAgg183
  z46 := Tryz.sizeOf183
  v46 := Tryz.zeroValue183
  t51 := Tryz.underlying200
  a51 := Tryz.isAgg200
  z51 := Tryz.sizeOf200
  v51 := Tryz.zeroValue200
  t146 := Tryz.underlying201
  a146 := Tryz.isAgg201
  z146 := Tryz.sizeOf201
  v146 := Tryz.zeroValue201
  g1 := by kernel_rfl }
open Go.RowKit Go.Lib in
theorem Tryz.strings_Count_one (s : ByteArray) (c : UInt8) (w : World) :
    Calls Tryz.prog 151 #[.string s, .string ⟨#[c]⟩] w fun e w' => e = .returned (.int .i64 (Lib.countByte s.data.toList c)) ∧ w' = w := Any.strings_Count_one Tryz.lays138 s c w
open Go.RowKit Go.Lib in
def Tryz.lays105_ren : Go.Shelf.Ren := ⟨fun | 105 => 155 | 212 => 124 | 99 => 168 | 165 => 131 | 166 => 92 | 170 => 169 | 169 => 93 | 263 => 148 | 264 => 149 | 206 => 177 | 240 => 135 | 241 => 153 | 276 => 156 | 277 => 167 | n => n, fun | 9 => 9 | 3 => 3 | 4 => 4 | 20 => 20 | 0 => 0 | 46 => 183 | 109 => 184 | 5 => 5 | 72 => 149 | 76 => 153 | 51 => 200 | 146 => 201 | 53 => 90 | 148 => 203 | 70 => 146 | 37 => 147 | 75 => 152 | 127 => 191 | 164 => 208 | 80 => 155 | n => n, fun | n => n⟩
theorem Tryz.lays105 : Go.Proofs.Lays.n105 Tryz.prog Tryz.lays105_ren := {
  mixed := by kernel_rfl
  f99 := Tryz.func168.trans (congrArg some (by kernel_rfl))
  f105 := Tryz.func155.trans (congrArg some (by kernel_rfl))
  f165 := Tryz.func131.trans (congrArg some (by kernel_rfl))
  f166 := Tryz.func92.trans (congrArg some (by kernel_rfl))
  f169 := Tryz.func93.trans (congrArg some (by kernel_rfl))
  f170 := Tryz.func169.trans (congrArg some (by kernel_rfl))
  f206 := Tryz.func177.trans (congrArg some (by kernel_rfl))
  f212 := Tryz.func124.trans (congrArg some (by kernel_rfl))
  f240 := Tryz.func135.trans (congrArg some (by kernel_rfl))
  f241 := Tryz.func153.trans (congrArg some (by kernel_rfl))
  f263 := Tryz.func148.trans (congrArg some (by kernel_rfl))
  f264 := Tryz.func149.trans (congrArg some (by kernel_rfl))
  f276 := Tryz.func156.trans (congrArg some (by kernel_rfl))
  f277 := Tryz.func167.trans (congrArg some (by kernel_rfl))
  t0 := Tryz.underlying0
  a0 := Tryz.isAgg0
  z0 := Tryz.sizeOf0
  v0 := Tryz.zeroValue0
  t3 := Tryz.underlying3
  a3 := Tryz.isAgg3
  z3 := Tryz.sizeOf3
  v3 := Tryz.zeroValue3
  t4 := Tryz.underlying4
  a4 := Tryz.isAgg4
  z4 := Tryz.sizeOf4
  v4 := Tryz.zeroValue4
  t5 := Tryz.underlying5
  a5 := Tryz.isAgg5
  z5 := Tryz.sizeOf5
  v5 := Tryz.zeroValue5
  t9 := Tryz.underlying9
  a9 := Tryz.isAgg9
  z9 := Tryz.sizeOf9
  v9 := Tryz.zeroValue9
  t20 := Tryz.underlying20
  a20 := Tryz.isAgg20
  z20 := Tryz.sizeOf20
  v20 := Tryz.zeroValue20
  t37 := Tryz.underlying147
  a37 := Tryz.isAgg147
  z37 := Tryz.sizeOf147
  v37 := Tryz.zeroValue147
  t46 := Tryz.underlying183
  a46 := Tryz.isAgg183
  z46 := Tryz.sizeOf183
  v46 := Tryz.zeroValue183
  t51 := Tryz.underlying200
  a51 := Tryz.isAgg200
  z51 := Tryz.sizeOf200
  v51 := Tryz.zeroValue200
  t53 := Tryz.underlying90
  a53 := Tryz.isAgg90
  z53 := Tryz.sizeOf90
  v53 := Tryz.zeroValue90
  t70 := Tryz.underlying146
  a70 := Tryz.isAgg146
  z70 := Tryz.sizeOf146
  v70 := Tryz.zeroValue146
  t72 := Tryz.underlying149
  a72 := Tryz.isAgg149
  z72 := Tryz.sizeOf149
  v72 := Tryz.zeroValue149
  t75 := Tryz.underlying152
  a75 := Tryz.isAgg152
  z75 := Tryz.sizeOf152
  v75 := Tryz.zeroValue152
  t76 := Tryz.underlying153
  a76 := Tryz.isAgg153
  z76 := Tryz.sizeOf153
  v76 := Tryz.zeroValue153
  t109 := Tryz.underlying184
  a109 := Tryz.isAgg184
  z109 := Tryz.sizeOf184
  v109 := Tryz.zeroValue184
  t127 := Tryz.underlying191
  a127 := Tryz.isAgg191
  z127 := Tryz.sizeOf191
  v127 := Tryz.zeroValue191
  t146 := Tryz.underlying201
  a146 := Tryz.isAgg201
  z146 := Tryz.sizeOf201
  v146 := Tryz.zeroValue201
  t148 := Tryz.underlying203
  a148 := Tryz.isAgg203
  z148 := Tryz.sizeOf203
  v148 := Tryz.zeroValue203
  t164 := Tryz.underlying208
  a164 := Tryz.isAgg208
  z164 := Tryz.sizeOf208
  v164 := Tryz.zeroValue208 }
theorem Tryz.Builder_Extra_105 : Builder.Extra Tryz.prog Tryz.lays105_ren := {
  sizeBuilder := by kernel_rfl
  liesBuilder := by kernel_rfl
  t5 := Tryz.underlying5
  a5 := Tryz.isAgg5
  z5 := Tryz.sizeOf5
  v5 := Tryz.zeroValue5
  infoByte := by kernel_rfl
  cellsByte := by kernel_rfl
  sizeByte := by kernel_rfl
  neB5 := by decide }
open Go.RowKit Go.Lib in
theorem Tryz.strings_Repeat (s : ByteArray) (c : Nat) (w : World) (hc : c ≤ 9223372036854775807) (hlen : s.size * c ≤ 140737488355328) :
    Calls Tryz.prog 155 #[.string s, .int .i64 c] w fun e w' => e = .returned (.string ⟨(Lib.repeatL s.data.toList c).toArray⟩) ∧ Below w.heap.size w w' := Any.strings_Repeat Tryz.lays105 Tryz.Builder_Extra_105 s c w hc hlen
end Go.Proofs
set_option linter.unusedSimpArgs false
set_option linter.unusedVariables false
set_option maxRecDepth 100000
namespace Go.Proofs.YtjfmigpahglajaaGreatDoor
open Go
attribute [local irreducible] AW AVle ASle RowLe
def sIndex1 : Spec := Spec.f2 kS kS (fun _ b => b = [10]) (fun a _ => kI.enc (Lib.indexByte a 10))
theorem okIndex1 : SpecOK Tryz.prog 152 sIndex1 := by
  refine SpecOK.ss Tryz.func152 rfl (by decide) fun a b hd w => ?_
  subst hd
  refine (Tryz.strings_Index_one ⟨a.toArray⟩ 10 w).mono ?_
  rintro e w' ⟨rfl, rfl⟩
  exact ⟨_, rfl, Fr.refl _ _, fun _ => rfl⟩
def sCount1 : Spec := Spec.f2 kS kS (fun _ b => b = [10]) (fun a _ => kI.enc (a.count 10 : Nat))
theorem okCount1 : SpecOK Tryz.prog 151 sCount1 := by
  refine SpecOK.ss Tryz.func151 rfl (by decide) fun a b hd w => ?_
  subst hd
  refine (Tryz.strings_Count_one ⟨a.toArray⟩ 10 w).mono ?_
  rintro e w' ⟨rfl, rfl⟩
  exact ⟨_, rfl, Fr.refl _ _, fun _ => rfl⟩

theorem spA_step {r : List UInt8} (h : (10 : UInt8) ∈ r) : ∃ m : Nat, Lib.indexByte r 10 = m ∧ m + 1 ≤ r.length ∧ spA r = r.take (m + 1) :: spA (r.drop (m + 1)) ∧ (r.drop (m + 1)).count 10 + 1 = r.count 10 := by
  rcases idx_cases r with ⟨_, h'⟩ | ⟨p, q, rfl, hp, hm⟩
  · exact absurd h h'
  · have e0 : p ++ 10 :: q = (p ++ [10]) ++ q := by simp
    have el : p.length + 1 = (p ++ [10]).length := by simp
    have e1 : (p ++ 10 :: q).take (p.length + 1) = p ++ [10] := by rw [e0, el, List.take_left]
    have e2 : (p ++ 10 :: q).drop (p.length + 1) = q := by rw [e0, el, List.drop_left]
    refine ⟨p.length, hm, by simp, ?_, ?_⟩
    · rw [e1, e2, spA_cut p q hp]
    · rw [e2, List.count_append, List.count_eq_zero.2 hp]
      simp
def sGenSplit : Spec := Spec.f4 kS kS kI kI (fun s b k n => s.length ≤ 100000000 ∧ b = [10] ∧ k = 1 ∧ n = -1) (fun s _ _ _ => sL eS (spA s))
theorem okGenSplit : SpecOK Tryz.prog 130 sGenSplit := by
  refine SpecOK.f4 Tryz.func130 rfl (by decide) Tryz.results130 Tryz.ntmps130 (by decide) fun s b k n ⟨hs, hb, hk, hn⟩ => ?_
  have hΓ : GOK Tryz.prog (gam [(152, sIndex1), (151, sCount1)]) := (.cons okIndex1 (.cons okCount1 .nil))
  subst hb hk hn
  have hc : s.count 10 ≤ s.length := List.count_le_length
  have hn : min ((s.count 10 : Int) + 1) ((s.length : Int) + 1) = (s.count 10 : Nat) + 1 := by omega
  refine AW.of hΓ mixed [99999] _ _ _ rfl ?_
  simp only [go_sem, sIndex1, sCount1, hn]
  refine ⟨by omega, by omega, by omega, by omega, ?_⟩
  refine AW.round (α := { x : List (List UInt8) × List UInt8 // x.1 ++ spA x.2 = spA s ∧ x.1.length + x.2.count 10 = s.count 10 ∧ x.2.length ≤ s.length })
    (fun x => ⟨[(0, .st x.1.2), (1, .st [10]), (2, .val (.int .i64 1)), (3, .val (.int .i64 (s.count 10 : Nat))), (9, .ow 0 0 (s.count 10 + 1)), (10, .val (.int .i64 x.1.1.length))],
      [(0, rowL 0 9 eS (x.1.1 ++ List.replicate (x.1.2.count 10 + 1) []))], 66, 1, 1, []⟩) (fun x => s.count 10 - x.1.1.length) ⟨([], s), by simp, by simp, Nat.le_refl _⟩ ?_ ?_
  · simp only [go_sem, sIndex1, sCount1]
    exact row_make rfl rfl (by simp) zC_S
  · rintro ⟨⟨acc, r⟩, h1, h2, h3⟩
    simp only at h1 h2 h3
    refine AW.of hΓ mixed [] _ _ _ rfl ?_
    simp only [go_sem, sIndex1, sCount1]
    have hcr : r.count 10 ≤ r.length := List.count_le_length
    refine ⟨fun hi => ?_, fun hi => ?_⟩
    · obtain ⟨m, hm1, hm2, hm3, hm4⟩ := spA_step (List.count_pos_iff.1 (by omega : 0 < r.count 10))
      rw [hm1, toNat_add1]
      refine ⟨fun h => absurd h (by omega), fun _ => ?_⟩
      refine ⟨by omega, by omega, by omega, by omega, by omega, by omega, by omega, ⟨(acc ++ [r.take (m + 1)], r.drop (m + 1)), ?_, ?_, ?_⟩, ⟨⟨rfl, ?_⟩, ?_⟩, ?_⟩
      · simp [← h1, hm3]
      · simp; omega
      · simp; omega
      · simp
      · refine row_set (l := acc ++ List.replicate (r.count 10 + 1) []) rfl ?_ (by simp) (by simp <;> omega) (fun j _ => AVle.refl _)
        have e : ∀ x : List UInt8, (List.replicate (r.count 10 + 1) []).set 0 x = x :: List.replicate (r.count 10) [] := fun x => by rw [List.replicate_succ]; rfl
        rw [List.set_append_right _ _ (Nat.le_refl _), Nat.sub_self, e, ← hm4]
        simp
      · simp; omega
    · have h0 : r.count 10 = 0 := by omega
      have hno : (10 : UInt8) ∉ r := List.count_eq_zero.1 h0
      refine ⟨by omega, by omega, by omega, by omega, ⟨by omega, fun i _ => stE_flat (fun _ _ => rfl) (fun _ => rfl) i 0⟩, ?_⟩
      refine sn_set rfl rfl ?_ (by simp <;> omega) (fun j _ => AVle.refl _)
      rw [← h1, spA_one r hno, h0, List.set_append_right _ _ (Nat.le_refl _), Nat.sub_self]
      exact (List.take_of_length_le (by simp)).symm
def sSplitAfter : Spec := Spec.f2 kS kS (fun s b => s.length ≤ 100000000 ∧ b = [10]) (fun s _ => sL eS (spA s))
theorem okSplitAfter : SpecOK Tryz.prog 85 sSplitAfter := by
  refine SpecOK.f2 Tryz.func85 rfl (by decide) Tryz.results85 Tryz.ntmps85 (by decide) fun s b ⟨hs, hb⟩ => ?_
  have hΓ : GOK Tryz.prog (gam [(130, sGenSplit)]) := (.cons okGenSplit .nil)
  subst hb
  refine AW.of hΓ mixed [] _ _ _ rfl ?_
  simp only [go_sem, sGenSplit]
  exact hs
def sSplit : Spec := Spec.f1 kS (fun s => s.length ≤ 100000000) (fun s => sL eS (splitL s))
theorem okSplit : SpecOK Tryz.prog 41 sSplit := by
  refine SpecOK.f1 Tryz.func41 rfl (by decide) Tryz.results41 Tryz.ntmps41 (by decide) fun s hs => ?_
  have hΓ : GOK Tryz.prog (gam [(85, sSplitAfter)]) := (.cons okSplitAfter .nil)
  have hl := splitL_len s
  rcases spA_split s with e | ⟨e, hn⟩
  · refine AW.of hΓ mixed [99999] _ _ _ rfl ?_
    simp only [go_sem, sSplitAfter, e]
    have e1 : (((splitL s).length + 1 : Nat) : Int) - 1 = (splitL s).length := by omega
    have e2 : (splitL s ++ [[]]).getD (splitL s).length [] = [] := by simp [List.getD]
    rw [e1, Int.toNat_natCast]
    refine ⟨hs, by omega, by omega, fun _ => ⟨by omega, vw_row rfl rfl (by simp) (by simp)⟩, fun h => absurd e2 h⟩
  · have hne : splitL s ≠ [] := e ▸ spA_ne s
    have hpos : 0 < (splitL s).length := List.length_pos_iff.2 hne
    refine AW.of hΓ mixed [99999] _ _ _ rfl ?_
    simp only [go_sem, sSplitAfter, e]
    have e1 : (((splitL s).length : Nat) : Int) - 1 = ((splitL s).length - 1 : Nat) := by omega
    rw [e1, Int.toNat_natCast]
    refine ⟨hs, by omega, by omega, fun h => absurd h (hn _ ?_)⟩
    rw [gd_lt _ _ (by omega)]
    exact List.getElem_mem _
def okLs (l : List (List UInt8)) : Prop := l.length ≤ 100000000 ∧ l.flatten.length ≤ 100000000000
theorem flat_len (l : List (List UInt8)) (i : Nat) : (l.getD i []).length ≤ l.flatten.length := by
  rcases Nat.lt_or_ge i l.length with h | h
  · rw [gd_lt _ _ h]
    exact (List.sublist_flatten_of_mem (List.getElem_mem h)).length_le
  · simp [List.getD, List.getElem?_eq_none h]
theorem join_nil (xs : List (List UInt8)) : Lib.join xs [] = xs.flatten := by
  cases xs with
  | nil => rfl
  | cons x r => rw [Lib.join_cons]; simp [Lib.joinTail]
def sJoinS : Spec := Spec.f2 (kL eS) kS (fun l b => l.length ≤ 100000000 ∧ l.flatten.length ≤ 100000000000 ∧ b = []) (fun l _ => kS.enc l.flatten)
theorem okJoinS : SpecOK Tryz.prog 86 sJoinS := by
  refine SpecOK.raw Tryz.func86 rfl (by decide) fun args hp w L vs hL ha => ?_
  match args, hp with
  | [x, y], hp =>
    obtain ⟨h1, h2, h3, h4, h5⟩ := hp
    cases ha with
    | cons hx hr => cases hr with
      | cons hy hr => cases hr with
        | nil =>
          have ex := okGet h1 hx
          have ey := okGet h2 hy
          show Calls _ _ _ _ fun e w' => ∃ v, e = .returned v ∧ Fr (fun _ => False) w w' ∧ Rep w' noEnv L (kS.enc ((kL eS).dec x).flatten) v
          generalize (kL eS).dec x = l at *
          rw [h5] at ey
          obtain ⟨a, cap, rfl, hcap, hc⟩ := ex
          obtain rfl := ey
          rcases Nat.eq_zero_or_pos l.length with h0 | h0
          · rw [h0]
            refine (Tryz.strings_Join_none a cap ⟨#[]⟩ w).mono ?_
            rintro e w' ⟨rfl, rfl⟩
            have : l = [] := List.length_eq_zero_iff.1 h0
            subst this
            exact ⟨_, rfl, Fr.refl _ _, rfl⟩
          · obtain ⟨b, off, rfl, hb, hcells⟩ := hc h0 (by decide)
            have hget : ∀ (j : Nat) y, (l.map fun y => (⟨y.toArray⟩ : ByteArray))[j]? = some y → w.cell? ⟨b, off + j, none⟩ = some (.string y) := fun j y hj => by
              rw [List.getElem?_map] at hj
              cases hl : l[j]? with
              | none => rw [hl] at hj; cases hj
              | some z =>
                rw [hl] at hj
                simp only [Option.map_some, Option.some.injEq] at hj
                subst hj
                obtain ⟨hlt, _⟩ := List.getElem?_eq_some_iff.1 hl
                obtain ⟨u, hu, _, hrep⟩ := hcells j hlt 0 (by decide)
                have e : l.getD j eS.dflt = z := by simp [List.getD, hl]
                have hrep : Rep w noEnv L (eS.enc (l.getD j eS.dflt) 0) u := hrep
                rw [e] at hrep
                have : u = .string ⟨z.toArray⟩ := hrep
                subst this
                simpa [eS_sz] using hu
            have e1 : (l.map fun y => (⟨y.toArray⟩ : ByteArray)).map (·.data.toList) = l := by simp [Function.comp_def]
            have hbs : b < w.heap.size := by
              obtain ⟨u, hu, _⟩ := hcells 0 h0 0 (by decide)
              exact World.block_lt_of_cell? w _ hu
            have hJ := Tryz.strings_Join b off cap (l.map fun y => ⟨y.toArray⟩) ⟨#[]⟩ w hget hbs (by simp; omega) (by simpa using hcap) (by rw [e1]; show (Lib.join l []).length ≤ _; rw [join_nil]; omega)
            rw [e1, List.length_map] at hJ
            refine hJ.mono ?_
            rintro e w' ⟨rfl, hbel⟩
            refine ⟨_, rfl, Fr.of_below hbel _, ?_⟩
            show Value.string ⟨(Lib.join l []).toArray⟩ = .string ⟨l.flatten.toArray⟩
            rw [join_nil]
def sJoin : Spec := Spec.f1 (kL eS) okLs (fun l => kS.enc l.flatten)
theorem okJoin : SpecOK Tryz.prog 42 sJoin := by
  refine SpecOK.f1 Tryz.func42 rfl (by decide) Tryz.results42 Tryz.ntmps42 (by decide) fun l ⟨h1, h2⟩ => ?_
  have hΓ : GOK Tryz.prog (gam [(86, sJoinS)]) := (.cons okJoinS .nil)
  refine AW.of hΓ mixed [] _ _ _ rfl ?_
  simp only [go_sem, sJoinS]
  exact ⟨h1, h2⟩
end Go.Proofs.YtjfmigpahglajaaGreatDoor
set_option linter.unusedSimpArgs false
set_option linter.unusedVariables false
set_option maxRecDepth 100000
namespace Go.Proofs.YtjfmigpahglajaaGreatDoor
open Go
attribute [local irreducible] AW AVle ASle RowLe
def sRun : Spec := Spec.f1 kS (fun l => l.length ≤ 100000000000) (fun l => kI.enc (runL l))
def sIndexByte : Spec := Spec.f2 kS kU (fun _ _ => True) (fun a c => kI.enc (Lib.indexByte a c.toNat.toUInt8))
theorem okIndexByte : SpecOK Tryz.prog 142 sIndexByte := by
  refine SpecOK.raw Tryz.func142 rfl (by decide) fun args hp w L vs hL ha => ?_
  match args, hp with
  | [x, y], hp =>
    obtain ⟨h1, h2, h3⟩ := hp
    cases ha with
    | cons hx hr => cases hr with
      | cons hy hr => cases hr with
        | nil =>
          have ex := okGet h1 hx
          have ey := okGet h2 hy
          obtain rfl := ex
          obtain rfl := ey
          refine (Tryz.strings_IndexByte _ _ w).mono ?_
          rintro e w' ⟨rfl, rfl⟩
          exact ⟨_, rfl, Fr.refl _ _, rfl⟩
theorem run_head (l : List UInt8) (h : l ≠ []) : (Lib.indexByte [60, 124, 61, 62] (l.getD 0 0).toNat.toUInt8 < 0 → runL l = 0) ∧
    (¬ Lib.indexByte [60, 124, 61, 62] (l.getD 0 0).toNat.toUInt8 < 0 → ∀ n, 1 ≤ n → n ≤ l.length → (∀ k, k < n → l.getD k 0 = l.getD 0 0) → (n < l.length → l.getD n 0 ≠ l.getD 0 0) → n = runL l) := by
  cases l with
  | nil => exact absurd rfl h
  | cons c r =>
    have e : ∀ c : UInt8, c.toNat.toUInt8 = c := fun c => by simp
    simp only [List.getD_cons_zero, e]
    have hc : Lib.indexByte [60, 124, 61, 62] c < 0 ↔ ¬ (c = 60 ∨ c = 124 ∨ c = 61 ∨ c = 62) := by
      constructor
      · intro h0 h1
        rcases h1 with rfl | rfl | rfl | rfl <;> exact absurd h0 (by decide)
      · intro h0
        rcases Int.lt_or_le (Lib.indexByte [60, 124, 61, 62] c) 0 with h1 | h1
        · exact h1
        · obtain ⟨o, ho⟩ := Int.eq_ofNat_of_zero_le h1
          have := (Lib.indexByte_some (o := o) ho).1
          have hm := List.mem_of_getElem? this
          simp only [List.mem_cons, List.not_mem_nil, or_false] at hm
          exact absurd hm h0
    refine ⟨fun h0 => ?_, fun h0 n h1 h2 h3 h4 => ?_⟩
    · rw [runL, if_neg (hc.1 h0)]
    · rw [runL, if_pos (Decidable.not_not.1 fun hh => h0 (hc.2 hh))]
      obtain ⟨m, rfl⟩ : ∃ m, n = m + 1 := ⟨n - 1, by omega⟩
      rw [takeWhile_at c r m (by simpa using h2) (fun k hk => by simpa using h3 (k + 1) (by omega)) (fun hm => by simpa using h4 (by simpa using hm))]
      omega
theorem okRun : SpecOK Tryz.prog 112 sRun := by
  refine SpecOK.f1 Tryz.func112 rfl (by decide) Tryz.results112 Tryz.ntmps112 (by decide) fun l hl => ?_
  have hΓ : GOK Tryz.prog (gam [(142, sIndexByte)]) := (.cons okIndexByte .nil)
  by_cases h : l = []
  · subst h
    refine AW.of hΓ mixed [99999] _ _ _ rfl ?_
    simp only [go_sem, sIndexByte]
    rfl
  · obtain ⟨r1, r2⟩ := run_head l h
    have hpos : 0 < l.length := List.length_pos_iff.2 h
    refine AW.of hΓ mixed [99999] _ _ _ rfl ?_
    simp only [go_sem, sIndexByte, h]
    refine ⟨by omega, fun h0 => by rw [r1 h0]; rfl, fun h0 => ?_⟩
    refine AW.round (α := { n : Nat // 1 ≤ n ∧ n ≤ l.length ∧ ∀ k, k < n → l.getD k 0 = l.getD 0 0 }) (fun n => ⟨[(0, .st l), (3, .val (.int .i64 n.1))], [], 27, 0, 0, []⟩) (fun n => l.length - n.1) ⟨1, Nat.le_refl _, hpos, fun k hk => by rw [show k = 0 by omega]⟩ ?_ ?_
    · simp only [go_sem, sIndexByte]
    · rintro ⟨n, h1, h2, h3⟩
      refine AW.of hΓ mixed [99999] _ _ _ rfl ?_
      simp only [go_sem, sIndexByte]
      refine ⟨fun _ => by omega, fun _ => by omega, fun ⟨ha, hb⟩ => ⟨by omega, ⟨n + 1, by omega, by omega, fun k hk => ?_⟩, by dsimp only; omega⟩, fun hh => ?_⟩
      · rcases Nat.lt_or_ge k n with h' | h'
        · exact h3 k h'
        · obtain rfl : k = n := by omega
          exact hb
      · rw [r2 h0 n h1 h2 h3 fun hl => hh (by omega)]
theorem longL_snoc (l : List (List UInt8)) (x : List UInt8) : longL (l ++ [x]) = max (longL l) (runL x) := by
  unfold longL
  rw [List.foldl_append]
  rfl
def sLongest : Spec := Spec.f1 (kL (eL eS)) (fun l => l.length ≤ 100000000 ∧ ∀ f ∈ l, okLs f) (fun l => kI.enc (longL l.flatten))
theorem okLongest : SpecOK Tryz.prog 139 sLongest := by
  refine SpecOK.f1 Tryz.func139 rfl (by decide) Tryz.results139 Tryz.ntmps139 (by decide) fun fs ⟨hl, hf⟩ => ?_
  have hΓ : GOK Tryz.prog (gam [(112, sRun)]) := (.cons okRun .nil)
  refine AW.of hΓ mixed [] _ _ _ rfl ?_
  simp only [go_sem, sRun]
  refine AW.round (α := { i : Nat // i ≤ fs.length }) (fun i => ⟨[(3, .val (.int .i64 (longL (fs.take i.1).flatten))), (8, sL (eL eS) fs), (9, .val (.int .i64 fs.length)), (10, .val (.int .i64 i.1))], [], 27, 0, 0, []⟩) (fun i => fs.length - i.1) ⟨0, by simp⟩ ?_ ?_
  · simp only [go_sem, sRun]
    rfl
  · rintro ⟨i, hi⟩
    refine AW.of hΓ mixed [5] _ _ _ rfl ?_
    simp only [go_sem, sRun]
    refine ⟨fun hil => ?_, fun hil => ?_⟩
    · have hlt : i < fs.length := by omega
      have hfi := hf _ (gd_lt fs [] hlt ▸ List.getElem_mem hlt)
      have hft : (fs.take (i + 1)).flatten = (fs.take i).flatten ++ fs.getD i [] := by rw [take_snoc fs [] hlt]; simp
      generalize hfe : fs.getD i [] = f at *
      obtain ⟨hf1, hf2⟩ := hfi
      refine ⟨by omega, ?_⟩
      refine AW.to (fun _ : Unit => Sh.st ⟨[(3, .val (.int .i64 (longL ((fs.take i).flatten ++ f)))), (8, sL (eL eS) fs), (9, .val (.int .i64 fs.length)), (10, .val (.int .i64 i))], [], 27, 0, 0, []⟩) ?_ ?_
      · refine AW.block (AW.round (α := { k : Nat // k ≤ f.length }) (fun k => ⟨[(3, .val (.int .i64 (longL ((fs.take i).flatten ++ f.take k.1)))), (8, sL (eL eS) fs), (9, .val (.int .i64 fs.length)), (10, .val (.int .i64 i)), (14, sL eS f), (15, .val (.int .i64 f.length)), (16, .val (.int .i64 k.1))], [], 27, 0, 0, []⟩) (fun k => f.length - k.1) ⟨0, by simp⟩ ?_ ?_)
        · simp only [go_sem, sRun]
          simp
        · rintro ⟨k, hk⟩
          refine AW.of hΓ mixed [99999] _ _ _ rfl ?_
          simp only [go_sem, sRun]
          refine ⟨fun hkf => ?_, fun hkf => ?_⟩
          · have hkl : k < f.length := by omega
            have hfl := flat_len f k
            refine ⟨by omega, by omega, by omega, ⟨k + 1, by omega⟩, ⟨?_, by dsimp only; omega⟩, by dsimp only; omega⟩
            dsimp only
            rw [take_snoc f [] hkl, ← List.append_assoc, longL_snoc]
            omega
          · obtain rfl : k = f.length := by omega
            refine ⟨(), toFits ?_⟩
            simp only [go_sem, sRun]
      · intro _
        simp only [go_sem, sRun]
        exact ⟨by omega, ⟨i + 1, by omega⟩, ⟨by dsimp only; rw [hft], by dsimp only; omega⟩, by dsimp only; omega⟩
    · obtain rfl : i = fs.length := by omega
      rw [List.take_length]
end Go.Proofs.YtjfmigpahglajaaGreatDoor
set_option linter.unusedSimpArgs false
set_option linter.unusedVariables false
set_option maxRecDepth 100000
set_option maxHeartbeats 2000000
namespace Go.Proofs.YtjfmigpahglajaaGreatDoor
open Go
attribute [local irreducible] AW AVle ASle RowLe
def sContains : Spec := Spec.f2 kS kS (fun _ b => b = [10]) (fun a _ => kB.enc (!plainB a))
theorem okContains : SpecOK Tryz.prog 136 sContains := by
  refine SpecOK.f2 Tryz.func136 rfl (by decide) Tryz.results136 Tryz.ntmps136 (by decide) fun a b h => ?_
  have hΓ : GOK Tryz.prog (gam [(152, sIndex1)]) := (.cons okIndex1 .nil)
  subst h
  refine AW.of hΓ mixed [] _ _ _ rfl ?_
  simp only [go_sem, sIndex1]
  exact plain_ix a
def sPlainL : Spec := Spec.f1 (kA eLb) (fun l => l.1.length ≤ 1000000000 ∧ l.2.1.length ≤ 1000000000 ∧ l.2.2.length ≤ 1000000000) (fun l => kB.enc (plainB l.1 && (plainB l.2.1 && plainB l.2.2)))
theorem okPlainL : SpecOK Tryz.prog 95 sPlainL := by
  refine SpecOK.f1 Tryz.func95 rfl (by decide) Tryz.results95 Tryz.ntmps95 (by decide) fun l ⟨h1, h2, h3⟩ => ?_
  have hΓ : GOK Tryz.prog (gam [(136, sContains)]) := (.cons okContains .nil)
  obtain ⟨a, b, c⟩ := l
  simp only at h1 h2 h3
  refine AW.of hΓ mixed [] _ _ _ rfl ?_
  simp only [go_sem, sContains, plain_app]
  refine ⟨by omega, by omega, ?_⟩
  rw [Bool.not_not, Bool.and_assoc]
def okPt (p : Pt) : Prop := (p.1.length ≤ 1000000000 ∧ p.2.1.length ≤ 1000000000 ∧ p.2.2.1.length ≤ 1000000000) ∧ (txP p).length ≤ 100000000 ∧ p.2.2.2.2.2.1.length ≤ 100000000 ∧ p.2.2.2.2.2.2.1.length ≤ 100000000 ∧ p.2.2.2.2.2.2.2.1.length ≤ 100000000
def sIsConf : Spec := Spec.f1 (kA ePt) okPt (fun p => kB.enc (confD p))
theorem okIsConf : SpecOK Tryz.prog 121 sIsConf := by
  refine SpecOK.f1 Tryz.func121 rfl (by decide) Tryz.results121 Tryz.ntmps121 (by decide) fun p ⟨⟨h1, h2, h3⟩, _⟩ => ?_
  have hΓ : GOK Tryz.prog (gam [(95, sPlainL)]) := (.cons okPlainL .nil)
  obtain ⟨ll, bl, rl, h, t, l, b, r, hb⟩ := p
  simp only at h1 h2 h3
  refine AW.of hΓ mixed [] _ _ _ rfl ?_
  simp only [go_sem, sPlainL]
  refine ⟨fun h h' => ?_, fun _ => ⟨h1, h2, h3⟩, ?_⟩
  · rw [h.1, h.2, h']
    rfl
  · unfold confD plainD
    simp only [Bool.and_assoc]
def sAhead : Spec := Spec.f2 (kA ePt) kB (fun p _ => okPt p) (fun p b => kB.enc (aheadD p b))
theorem okAhead : SpecOK Tryz.prog 122 sAhead := by
  refine SpecOK.f2 Tryz.func122 rfl (by decide) Tryz.results122 Tryz.ntmps122 (by decide) fun p an ⟨_, h1, _⟩ => ?_
  have hΓ : GOK Tryz.prog (gam [(119, sIsText), (117, sHasSuf)]) := (.cons okIsText (.cons okHasSuf .nil))
  obtain ⟨ll, bl, rl, h, t, l, b, r, hb⟩ := p
  simp only [txP] at h1
  refine AW.of hΓ mixed [] _ _ _ rfl ?_
  simp only [go_sem, sIsText, sHasSuf]
  refine ⟨fun _ => by omega, fun h h' => ?_, ?_⟩
  · rw [h.1, decide_eq_true h.2]
    simpa using h'
  · unfold aheadD
    simp only [Bool.and_assoc]
theorem right_no {l : List Pt} {i : Nat} (h : i < l.length) (h2 : okAt l i = false) : rightD l = false := decide_eq_false fun hh => by
  rw [hh i h] at h2
  cases h2
theorem right_yes {l : List Pt} (h : ∀ i, i < l.length → okAt l i = true) : rightD l = true := decide_eq_true h
def sRightD : Spec := Spec.f1 (kL ePt) (fun l => l.length < 100000000 ∧ ∀ p ∈ l, okPt p) (fun l => kB.enc (rightD l))
theorem okRightD : SpecOK Tryz.prog 68 sRightD := by
  refine SpecOK.f1 Tryz.func68 rfl (by decide) Tryz.results68 Tryz.ntmps68 (by decide) fun l ⟨hl, hp⟩ => ?_
  have hΓ : GOK Tryz.prog (gam [(121, sIsConf), (122, sAhead)]) := (.cons okIsConf (.cons okAhead .nil))
  refine AW.of hΓ mixed [] _ _ _ rfl ?_
  simp only [go_sem, sIsConf, sAhead]
  refine AW.round (α := { x : Nat × Nat × Nat // x.1 ≤ l.length ∧ ∀ k, k < x.1 → okAt l k = true })
    (fun x => ⟨[(0, sL ePt l), (5, sL ePt l), (6, .val (.int .i64 l.length)), (7, .val (.int .i64 x.1.1))], [], 42, x.1.2.2, x.1.2.1, []⟩) (fun x => l.length - x.1.1) ⟨(0, 0, 0), Nat.zero_le _, fun k hk => absurd hk (Nat.not_lt_zero _)⟩ ?_ ?_
  · simp only [go_sem, sIsConf, sAhead]
  · rintro ⟨⟨i, nx, tp⟩, hi, hk⟩
    simp only at hi hk
    rcases Nat.lt_or_ge i l.length with hlt | hge
    · have hlI : ((i : Int) < (l.length : Nat)) = True := eq_true (by omega)
      have e1 : ((i : Int) - 1).toNat = i - 1 := by omega
      have e2 : ((i : Int) < (l.length : Nat) - 1) = (i + 1 < l.length) := propext (by omega)
      have e3 : (0 < (i : Int)) = (0 < i) := propext (by omega)
      have hok : okAt l i = ((hkP (l.getD i ePt.dflt) || (decide (i = 0) || hkP (l.getD (i - 1) ePt.dflt))) && (confD (l.getD i ePt.dflt) || aheadD (l.getD i ePt.dflt) (decide (i + 1 < l.length)))) := rfl
      have hpi : okPt (l.getD i ePt.dflt) := by
        rw [gd_lt l _ hlt]
        exact hp _ (List.getElem_mem _)
      generalize hpe : l.getD i ePt.dflt = p at *
      refine AW.of hΓ mixed [99999] _ _ _ rfl ?_
      simp only [go_sem, sIsConf, sAhead, hlI, e1, e2, e3, hpe, pt_eta]
      generalize hqe : l.getD (i - 1) ePt.dflt = q at *
      refine ⟨by omega, fun _ => by omega, fun _ => by omega, fun h => ?_, fun h => ⟨hpi, fun _ => by omega, fun _ => hpi, fun h2 => ?_, fun h2 => ⟨by omega, ⟨(i + 1, nx + 1, 0), by dsimp only; omega, fun k hk' => ?_⟩, ⟨Nat.le_refl _, by dsimp only; omega⟩, by dsimp only; omega⟩⟩⟩
      · refine (right_no hlt ?_).symm
        obtain ⟨⟨h1, h2⟩, h3⟩ := h
        simp only [Bool.not_eq_true'] at h1 h3
        rw [hok]
        simp only [hkP, h1, h3, decide_eq_false (show ¬ i = 0 by omega)]
        rfl
      · refine (right_no hlt ?_).symm
        simp only [Bool.not_eq_true'] at h2
        rw [hok, h2.1, h2.2, Bool.or_self, Bool.and_false]
      · dsimp only at hk'
        rcases Nat.lt_or_ge k i with h' | h'
        · exact hk k h'
        · obtain rfl : k = i := by omega
          rw [hok, Bool.and_eq_true]
          refine ⟨?_, ?_⟩
          · simp only [hkP, Bool.or_eq_true, decide_eq_true_eq]
            by_cases c : p.2.2.2.1 = true
            · exact .inl c
            · by_cases c2 : k = 0
              · exact .inr (.inl c2)
              · have := h ⟨by simpa using c, by omega⟩
                exact .inr (.inr (by simpa using this))
          · cases c : confD p with
            | true => rfl
            | false =>
              have := h2 (by rw [c]; rfl)
              simpa using this
    · have hlI : ((i : Int) < (l.length : Nat)) = False := eq_false (by omega)
      refine AW.of hΓ mixed [99999] _ _ _ rfl ?_
      simp only [go_sem, sIsConf, sAhead, hlI]
      exact (right_yes fun k hk' => hk k (by omega)).symm
theorem confl_snoc (l : List Pt) (p : Pt) : conflD (l ++ [p]) = conflD l + if p.2.2.2.1 = true then 1 else 0 := by
  unfold conflD
  rw [List.filter_append, List.length_append]
  cases h : p.2.2.2.1 with
  | true => simp [hkP, h]
  | false => simp [hkP, h]
theorem confl_le (l : List Pt) : conflD l ≤ l.length := List.length_filter_le _ _
def sConflD : Spec := Spec.f1 (kL ePt) (fun l => l.length < 100000000) (fun l => kI.enc (conflD l))
theorem okConflD : SpecOK Tryz.prog 47 sConflD := by
  refine SpecOK.f1 Tryz.func47 rfl (by decide) Tryz.results47 Tryz.ntmps47 (by decide) fun l hl => ?_
  have hΓ : GOK Tryz.prog (gam []) := GOK.nil
  refine AW.of hΓ mixed [] _ _ _ rfl ?_
  simp only [go_sem]
  refine AW.round (α := { x : Nat × Nat × Nat // x.1 ≤ l.length })
    (fun x => ⟨[(3, .val (.int .i64 (conflD (l.take x.1.1)))), (6, sL ePt l), (7, .val (.int .i64 l.length)), (8, .val (.int .i64 x.1.1))], [], 18, x.1.2.2, x.1.2.1, []⟩) (fun x => l.length - x.1.1) ⟨(0, 0, 0), Nat.zero_le _⟩ ?_ ?_
  · simp only [go_sem]
    rfl
  · rintro ⟨⟨i, nx, tp⟩, hi⟩
    simp only at hi
    refine AW.of hΓ mixed [99999] _ _ _ rfl ?_
    simp only [go_sem]
    have hc := confl_le (l.take i)
    rw [List.length_take] at hc
    refine ⟨fun hlt => ?_, fun hge => ?_⟩
    · have e := confl_snoc (l.take i) (l.getD i ePt.dflt)
      rw [← take_snoc l ePt.dflt (by omega)] at e
      refine ⟨by omega, fun h => ⟨by omega, by omega, ⟨(i + 1, nx + 1, 0), by dsimp only; omega⟩, ⟨Nat.le_refl _, ?_, by dsimp only; omega⟩, by dsimp only; omega⟩, fun h => ⟨by omega, ⟨(i + 1, nx + 1, 0), by dsimp only; omega⟩, ⟨Nat.le_refl _, ?_, by dsimp only; omega⟩, by dsimp only; omega⟩⟩
      · dsimp only
        rw [e, if_pos h]
        omega
      · dsimp only
        rw [e, if_neg (by rw [h]; exact Bool.false_ne_true)]
        omega
    · obtain rfl : i = l.length := by omega
      rw [List.take_length]
theorem foldMax_le {α : Type} {m : Nat} (f : α → Nat) : ∀ (l : List α) (n : Nat), n ≤ m → (∀ x ∈ l, f x ≤ m) → l.foldl (fun n x => max n (f x)) n ≤ m
  | [], n, h, _ => h
  | x :: l, n, h, h2 => foldMax_le f l (max n (f x)) (Nat.max_le.2 ⟨h, h2 x (List.mem_cons_self ..)⟩) fun y hy => h2 y (List.mem_cons_of_mem _ hy)
theorem longL_le {l : List BS} {m : Nat} (h : ∀ x ∈ l, x.length ≤ m) : longL l ≤ m := foldMax_le runL l 0 (Nat.zero_le _) fun x hx => Nat.le_trans (runL_le x) (h x hx)
theorem split_mem {s x : BS} (h : x ∈ splitL s) : x.length ≤ s.length := by
  have := (List.sublist_flatten_of_mem h).length_le
  rwa [splitL_flat] at this
theorem longT_le {l : List BS} {m : Nat} (h : ∀ x ∈ l, x.length ≤ m) : longT l ≤ m := foldMax_le (fun s => longL (splitL s)) l 0 (Nat.zero_le _) fun x hx => Nat.le_trans (longL_le fun y hy => split_mem hy) (h x hx)
theorem okLs_split {s : BS} (h : s.length ≤ 100000000) : okLs (splitL s) := by
  refine ⟨?_, ?_⟩
  · have := splitL_len s
    omega
  · rw [splitL_flat]
    omega
def sLongestD : Spec := Spec.f1 (kL eS) (fun l => l.length < 100000000 ∧ ∀ s ∈ l, s.length ≤ 100000000) (fun l => kI.enc (longT l))
theorem okLongestD : SpecOK Tryz.prog 98 sLongestD := by
  refine SpecOK.f1 Tryz.func98 rfl (by decide) Tryz.results98 Tryz.ntmps98 (by decide) fun l ⟨hl, hs⟩ => ?_
  have hΓ : GOK Tryz.prog (gam [(41, sSplit), (139, sLongest)]) := (.cons okSplit (.cons okLongest .nil))
  refine AW.of hΓ mixed [] _ _ _ rfl ?_
  simp only [go_sem, sSplit, sLongest]
  refine AW.round (α := { x : Nat × Nat × Nat // x.1 ≤ l.length })
    (fun x => ⟨[(3, .val (.int .i64 (longT (l.take x.1.1)))), (6, sL eS l), (7, .val (.int .i64 l.length)), (8, .val (.int .i64 x.1.1))], [], 20, x.1.2.2, x.1.2.1, []⟩) (fun x => l.length - x.1.1) ⟨(0, 0, 0), Nat.zero_le _⟩ ?_ ?_
  · simp only [go_sem, sSplit, sLongest]
    rfl
  · rintro ⟨⟨i, nx, tp⟩, hi⟩
    simp only at hi
    refine AW.of hΓ mixed [99999] _ _ _ rfl ?_
    simp only [go_sem, sSplit, sLongest]
    refine ⟨fun hlt => ?_, fun hge => ?_⟩
    · have hlt' : i < l.length := by omega
      have h1 : (l.getD i []).length ≤ 100000000 := by
        rw [gd_lt l _ hlt']
        exact hs _ (List.getElem_mem _)
      have e := longT_snoc (l.take i) (l.getD i [])
      rw [← take_snoc l [] hlt'] at e
      refine ⟨by omega, h1, okLs_split h1, by omega, ⟨(i + 1, nx, 0), by dsimp only; omega⟩, ⟨Nat.le_refl _, ?_, by dsimp only; omega⟩, by dsimp only; omega⟩
      dsimp only
      rw [e, show ([splitL (l.getD i [])] : List (List BS)).flatten = splitL (l.getD i []) by simp]
      omega
    · obtain rfl : i = l.length := by omega
      rw [List.take_length]
def sWidthD : Spec := Spec.f2 kI (kL eS) (fun _ l => l.length < 100000000 ∧ ∀ s ∈ l, s.length ≤ 100000000) (fun n l => kI.enc (max n ((longT l : Nat) + 1)))
theorem okWidthD : SpecOK Tryz.prog 52 sWidthD := by
  refine SpecOK.f2 Tryz.func52 rfl (by decide) Tryz.results52 Tryz.ntmps52 (by decide) fun n l ⟨hl, hs⟩ => ?_
  have hΓ : GOK Tryz.prog (gam [(98, sLongestD)]) := (.cons okLongestD .nil)
  refine AW.of hΓ mixed [] _ _ _ rfl ?_
  simp only [go_sem, sLongestD]
  have := longT_le hs
  exact ⟨⟨hl, hs⟩, by omega, by omega⟩
def sFitsD : Spec := Spec.f2 (kL ePt) kI (fun l _ => l.length < 100000000 ∧ ∀ p ∈ l, okPt p) (fun l w => kB.enc (fitsD l w))
theorem okFitsD : SpecOK Tryz.prog 90 sFitsD := by
  refine SpecOK.f2 Tryz.func90 rfl (by decide) Tryz.results90 Tryz.ntmps90 (by decide) fun l w ⟨hl, hp⟩ => ?_
  have hΓ : GOK Tryz.prog (gam [(98, sLongestD)]) := (.cons okLongestD .nil)
  refine AW.of hΓ mixed [] _ _ _ rfl ?_
  simp only [go_sem, sLongestD]
  refine ⟨fun h => (by unfold fitsD; rw [decide_eq_false (by omega)]; rfl), fun h => ?_⟩
  refine AW.round (α := { x : Nat × Nat × Nat // x.1 ≤ l.length ∧ ∀ k, k < x.1 → (longT (fourP (l.getD k ePt.dflt)) : Int) < w })
    (fun x => ⟨[(1, .val (.int .i64 w)), (9, sL ePt l), (10, .val (.int .i64 l.length)), (11, .val (.int .i64 x.1.1))], [], 28, x.1.2.2, x.1.2.1, []⟩) (fun x => l.length - x.1.1) ⟨(0, 0, 0), Nat.zero_le _, fun k hk => absurd hk (Nat.not_lt_zero _)⟩ ?_ ?_
  · simp only [go_sem, sLongestD]
  · rintro ⟨⟨i, nx, tp⟩, hi, hk⟩
    simp only at hi hk
    refine AW.of hΓ mixed [99999] _ _ _ rfl ?_
    simp only [go_sem, sLongestD]
    have e4 : ∀ p : Pt, [p.2.2.2.2.1, p.2.2.2.2.2.1, p.2.2.2.2.2.2.1, p.2.2.2.2.2.2.2.1] = fourP p := fun _ => rfl
    simp only [e4]
    refine ⟨fun hlt => ?_, fun hge => ?_⟩
    · have hlt' : i < l.length := by omega
      have hm : l.getD i ePt.dflt ∈ l := by
        rw [gd_lt l _ hlt']
        exact List.getElem_mem _
      have h4 := (hp _ hm).2
      refine ⟨by omega, ⟨h4.1, h4.2.1, h4.2.2.1, h4.2.2.2⟩, fun hw => ?_, fun hw => ⟨by omega, ⟨(i + 1, nx + 1, 0), by dsimp only; omega, fun k hk' => ?_⟩, ⟨Nat.le_refl _, by dsimp only; omega⟩, by dsimp only; omega⟩⟩
      · unfold fitsD
        rw [decide_eq_false (p := ∀ p ∈ l, _) (fun hh => by have := hh _ hm; omega), Bool.and_false]
      · dsimp only at hk'
        rcases Nat.lt_or_ge k i with h' | h'
        · exact hk k h'
        · obtain rfl : k = i := by omega
          omega
    · unfold fitsD
      rw [decide_eq_true (by omega), decide_eq_true (p := ∀ p ∈ l, _) fun p hp' => ?_]
      · rfl
      · obtain ⟨k, hk', rfl⟩ := List.getElem_of_mem hp'
        have := hk k (by omega)
        rwa [gd_lt l _ hk'] at this
end Go.Proofs.YtjfmigpahglajaaGreatDoor
set_option linter.unusedSimpArgs false
set_option linter.unusedVariables false
namespace Go.Proofs.YtjfmigpahglajaaGreatDoor
open Go
section
variable {P : Program} {Γ : Gam} {ops : Array Oper} {st : AS} {K : AS → Prop}
def xOpsO (P : Program) (Γ : Gam) (ops : Array Oper) : List Bool → List Oper → AS → (AS → Prop) → Prop
  | _, [], st, K => K st
  | true :: W, o :: r, st, K => o.guard = none ∧ OpW P o st fun st' => xOpsO P Γ ops W r st' K
  | false :: W, o :: r, st, K => match gop P Γ ops st o with
    | some (pre, z, row) => (dstOK st.sz o.dst ∧ pre) ∧ xOpsO P Γ ops W r (st.put o.dst z row) K
    | none => o.guard = none ∧ bop P Γ st o fun st' => xOpsO P Γ ops W r st' K
  | [], l, st, K => xOps P Γ ops l st K
theorem xOpsO_seq (hΓ : GOK P Γ) {ops : Array Oper} {Q : Exit → Act → World → Prop} : ∀ (W : List Bool) (l : List Oper) (c : Ctx) (st : AS) (K : AS → Prop) (η : Env) (a : Act) (w : World), SR c st η a w → xOpsO P Γ ops W l st K →
    (∀ st' η' a' w', SR c st' η' a' w' → K st' → Q .normal a' w') → wpList P ops Q l a w
  | [], [], _, _, _, η, a, w, hsr, h, hQ => hQ _ η a w hsr h
  | _ :: _, [], _, _, _, η, a, w, hsr, h, hQ => hQ _ η a w hsr (by unfold xOpsO at h; exact h)
  | [], o :: r, c, st, K, η, a, w, hsr, h, hQ => xOps_seq hΓ (o :: r) c st K η a w hsr h hQ
  | true :: W, o :: r, c, st, K, η, a, w, hsr, h, hQ => by
    unfold xOpsO at h
    refine wpList_step fun KK hKK => ?_
    rw [if_pos (wanted_none h.1)]
    exact h.2 c η a w KK Q hsr fun st' η' a' w' hsr' hx => hKK _ _ (xOpsO_seq hΓ W r c st' K η' a' w' hsr' hx hQ)
  | false :: W, o :: r, c, st, K, η, a, w, hsr, h, hQ => by
    unfold xOpsO at h
    split at h
    · rename_i pre z row hg
      refine wpList_step fun KK hKK => gop_wp hΓ hsr hg h.1.2 h.1.1 fun η' a' w' hsr' => hKK _ _ (xOpsO_seq hΓ W r c _ K η' a' w' hsr' h.2 hQ)
    · refine wpList_step fun KK hKK => ?_
      rw [if_pos (wanted_none h.1)]
      exact bop_wp hΓ h.2 c η a w KK Q hsr fun st' η' a' w' hsr' hx => hKK _ _ (xOpsO_seq hΓ W r c st' K η' a' w' hsr' hx hQ)
def contO (P : Program) (Γ : Gam) (ops : Array Oper) (W : List Bool) (r : List Oper) (K : AS → Prop) : AS → Prop := fun st => xOpsO P Γ ops W r st K
theorem contO_app {W : List Bool} {r : List Oper} : contO P Γ ops W r K st = xOpsO P Γ ops W r st K := rflN rfl
def goO (P : Program) (Γ : Gam) (ops : Array Oper) (W : List Bool) (o : Oper) (r : List Oper) (K : AS → Prop) (st : AS) : AOut → Prop
  | some (pre, z, row) => (dstOK st.sz o.dst ∧ pre) ∧ xOpsO P Γ ops W r (st.put o.dst z row) K
  | none => o.guard = none ∧ bop P Γ st o (contO P Γ ops W r K)
theorem goO_some {W : List Bool} {o : Oper} {r : List Oper} {pre : Prop} {z : AV} {row : Row} : goO P Γ ops W o r K st (some (pre, z, row)) = ((dstOK st.sz o.dst ∧ pre) ∧ xOpsO P Γ ops W r (st.put o.dst z row) K) := rflN rfl
theorem goO_none {W : List Bool} {o : Oper} {r : List Oper} : goO P Γ ops W o r K st none = (o.guard = none ∧ bop P Γ st o (contO P Γ ops W r K)) := rflN rfl
theorem xOpsO_nil {W : List Bool} : xOpsO P Γ ops W [] st K = K st := rflN (by cases W with
  | nil => rfl
  | cons b W => cases b <;> rfl)
theorem xOpsO_out {o : Oper} {r : List Oper} : xOpsO P Γ ops [] (o :: r) st K = xOps P Γ ops (o :: r) st K := rflN rfl
theorem xOpsO_f {W : List Bool} {o : Oper} {r : List Oper} : xOpsO P Γ ops (false :: W) (o :: r) st K = goO P Γ ops W o r K st (gop P Γ ops st o) := rflN rfl
theorem xOpsO_t {W : List Bool} {o : Oper} {r : List Oper} : xOpsO P Γ ops (true :: W) (o :: r) st K = (o.guard = none ∧ OpW P o st (contO P Γ ops W r K)) := rflN rfl
theorem AW.regionO (hΓ : GOK P Γ) {Q : Exit → AS → Prop} {id : Nat} {l : List Oper} (W : List Bool) (h : xOpsO P Γ l.toArray W l st (Q .normal)) : AW P (.region id l.toArray false) Q st := by
  intro c η a w hsr
  exact wp_region_lit (xOpsO_seq hΓ W l c st _ η a w hsr h fun st' η' a' w' hsr' hq => ⟨st', η', hq, hsr'⟩)
end
attribute [go_sem high] xOpsO_f xOpsO_t
attribute [go_sem] contO_app goO_some goO_none xOpsO_nil xOpsO_out
section
variable {w : World}
theorem run_append_empty {P : Program} {t t' e ty : TypeId} (ht : P.underlying t = some (.slice e)) (hu : P.underlying t' = some .string) {k : Nat} (hk : P.cellsOf e = k) (h0 : 0 < k) {a : Option Addr} {n cap : Nat} (hn : n ≤ cap) :
    (Builtin.append_ #[t, t'] ty #[.slice a n cap, .string ⟨#[]⟩]).run P w = .ok (.slice a n cap) w := by
  have e0 : ByteArray.size ⟨#[]⟩ = 0 := rfl
  have hf := Lib.run_firstCells_string (P := P) w k ⟨#[]⟩
  rw [e0] at hf
  have e1 : Lib.strCells ⟨#[]⟩ = [] := rfl
  rw [e1] at hf
  cases a <;> simp [Builtin.append_, run_underlying ht, run_underlying hu, run_sizeOf' (P := P) (w := w) hk h0, Builtin.lenOf, e0, hn, hf, storeCells]
def byteC (s : List UInt8) : Nat → Nat → AV := fun i _ => .val (.int .u8 (s.getD i 0).toNat)
theorem strCells_at (s : List UInt8) {η : Env} {L : Nat → Prop} (i : Nat) (hi : i < s.length) (j : Nat) (hj : j < 1) :
    ∃ u, (Lib.strCells ⟨s.toArray⟩)[i * 1 + j]? = some u ∧ u.oneCell' = true ∧ Rep w η L (byteC s i j) u := by
  obtain rfl : j = 0 := by omega
  refine ⟨.int .u8 (s.getD i 0).toNat, ?_, rfl, rfl⟩
  simp [Lib.strCells, List.getD, hi]
theorem strCells_len (s : List UInt8) : (Lib.strCells ⟨s.toArray⟩).length = s.length := by
  rw [Lib.strCells_length]
  simp [ByteArray.size]
theorem appS_wp {P : Program} {st : AS} {o : Oper} {t t' e : TypeId} {x y : Operand} {K : AS → Prop} {p v n : Nat} {cc : Nat → Nat → AV} {s : List UInt8} (ho : o.op = .call ⟨.builtin .append, ⟨[x, y]⟩, ⟨[t, t']⟩⟩) (hu : P.underlying t = some (.slice e)) (hu' : P.underlying t' = some .string)
    (hxe : st.ev x = .ow p v n) (hye : st.ev y = .st s) (hrow : st.hp p = .sl v e 1 n cc) (hd : dstOK st.sz o.dst) (hok : appOK P e 1 (n + s.length))
    (hK : K ⟨updO st.fr o.dst (.ow p st.nx (n + s.length)), updR st.hp p (.sl st.nx e 1 (n + s.length) (apC n cc (byteC s))), st.sz, st.top, st.nx + 1, st.df⟩) : OpW P o st K := by
  intro c η a w next Q hsr hnext
  have hev : ∀ x, Rep w η (Lset c η st.hp) (st.ev x) (a.eval x) := rep_ev hsr.slots
  have fin : ∀ v w', (Builtin.append_ #[t, t'] o.type #[a.eval x, a.eval y]).run P w = .ok v w' → next (a.put o.dst v) w' → o.wp P a w next Q := fun v w' hr hn => by
    unfold Oper.wp
    have : (execOp a.eval o).run P w = .ok (.value v) w' := by
      unfold execOp
      rw [ho]
      simp [resolve, invoke, builtin, hr]
    rw [this]
    exact hn
  have hx := hev x
  have hyv : a.eval y = .string ⟨s.toArray⟩ := by
    have hy := hev y
    rw [hye] at hy
    exact hy
  rw [hxe] at hx
  obtain ⟨hsz, h0, hb0, hbytes, zl, hz, hzl⟩ := hok
  obtain ⟨i, zv, hi, hiz, hzc, his, hib⟩ := info_of hz
  have hisz : i.size = 1 := by rw [his, hsz]
  have hss : (⟨s.toArray⟩ : ByteArray).size = s.length := by simp [ByteArray.size]
  obtain ⟨g, cap, hη, hv⟩ := hx
  have hr := hsr.hs.rows p
  rw [hrow] at hr
  have hr := hr g cap hη
  have hdead : ∀ q row, st.top ≤ q → updR st.hp p row q = .dead ∨ q = p := fun q row hq => by
    by_cases e : q = p
    · exact .inr e
    · rw [updR_ne _ _ e]; exact .inl (hsr.dead q hq)
  have hpt : p < st.top := by
    rcases Nat.lt_or_ge p st.top with h | h
    · exact h
    · rw [hsr.dead p h] at hrow; cases hrow
  have finish : ∀ (v' : Value) (w' : World) (r : Option Nat × Nat) (O : Nat → Prop), (Builtin.append_ #[t, t'] o.type #[a.eval x, a.eval y]).run P w = .ok v' w' → Fr O w w' →
      (∀ k, k < w.heap.size → O k → (st.hp p).blk η = some k) → (∀ g, r.1 = some g → (st.hp p).blk η = some g ∨ (w.heap.size ≤ g ∧ g < w'.heap.size)) →
      ((∀ x u, Rep w η (Lset c η st.hp) x u → Rep w' (layAt η st.nx r) (Lset c (layAt η st.nx r) (updR st.hp p (.sl st.nx e 1 (n + s.length) (apC n cc (byteC s))))) x u) →
        RowOK w' (layAt η st.nx r) (Lset c (layAt η st.nx r) (updR st.hp p (.sl st.nx e 1 (n + s.length) (apC n cc (byteC s))))) (.sl st.nx e 1 (n + s.length) (apC n cc (byteC s)))) →
      (match r.1 with | none => n + s.length = 0 ∧ ∃ a, v' = .slice a 0 0 | some g => v' = .slice (some ⟨g, 0, none⟩) (n + s.length) r.2 ∧ n + s.length ≤ r.2) → o.wp P a w next Q := by
    intro v' w' r O hrun hf hO hrb hrok hval
    obtain ⟨hs', hkeep⟩ := hsr.hs.swap (p := p) (row := .sl st.nx e 1 (n + s.length) (apC n cc (byteC s))) (r := r) rfl hf hO hrb hrok
    refine fin v' w' hrun (hnext _ (layAt η st.nx r) _ _ (hsr.put hd hs' (fun q hq => (hdead q _ hq).resolve_right (by omega)) hkeep ?_) hK)
    exact ⟨r.1, r.2, layAt_at _ _ _, hval⟩
  have hmb : (n + s.length) * 1 ≤ (n + s.length) * P.bytesOf e := Nat.mul_le_mul_left _ hb0
  by_cases hk0 : s.length = 0
  · -- nothing is added
    obtain rfl := List.length_eq_zero_iff.1 hk0
    have hcapn : ∃ av nn cp, a.eval x = .slice av nn cp ∧ nn ≤ cp := by
      cases g with
      | none => obtain ⟨_, av, e⟩ := hv; exact ⟨av, 0, 0, e, Nat.le_refl _⟩
      | some g => obtain ⟨e, hc⟩ := hv; exact ⟨_, _, _, e, hc⟩
    obtain ⟨av, nn, cp, hxv, hcp⟩ := hcapn
    refine finish (a.eval x) w (g, cap) (fun _ => False) (by rw [hxv, hyv]; exact run_append_empty hu hu' hsz h0 hcp) (Fr.refl _ _) (fun _ _ h => h.elim) (fun g' hg' => .inl ?_) (fun hkeep => ?_) ?_
    · simp only at hg'
      rw [hrow]; simp [Row.blk, Row.ver, hη, hg']
    · intro g' cap' he
      rw [layAt_at] at he
      simp only [Option.some.injEq, Prod.mk.injEq] at he
      obtain ⟨rfl, rfl⟩ := he
      cases g with
      | none => simpa using hr
      | some g =>
        obtain ⟨cur, hh, hcs, hnc, hcm, hc⟩ := hr
        refine ⟨cur, hh, hcs, by simp; omega, hcm, fun i hi j hj => ?_⟩
        have hi : i < n := by simpa using hi
        obtain ⟨u, hu', h1, hrep⟩ := hc i hi j hj
        exact ⟨u, hu', h1, by unfold apC; rw [if_pos hi]; exact hkeep _ _ hrep⟩
    · cases g with
      | none => simpa using hv
      | some g => simpa using hv
  · have hnl := strCells_len s
    have hmx : n + s.length ≤ maxLen := by simp only [maxLen]; omega
    cases g with
    | none =>
      obtain ⟨rfl, av, hxv⟩ := hv
      have hgrow : ∃ cap', (Builtin.append_ #[t, t'] o.type #[a.eval x, a.eval y]).run P w = .ok (.slice (some ⟨w.heap.size, 0, none⟩) s.length cap')
          (w.drew.alloc (.cells ((Lib.strCells ⟨s.toArray⟩).toArray ++ Builtin.zeroCells zv.cells (cap' - s.length)) e)) ∧ s.length ≤ cap' ∧ cap' ≤ maxLen := by
        refine ⟨grownCap w s.length 0 e, ?_, grownCap_ge _ _ _ _, grownCap_le_maxLen _ _ _ _ (by omega)⟩
        rw [hxv, hyv]
        cases av with
        | none =>
          have hr := run_append_nil_string (P := P) w t t' o.type e i zv hu hu' hi hiz ⟨s.toArray⟩ (by rw [hss]; omega) (by rw [hss]; omega) (by rw [hss, hib]; simp only [Nat.zero_add] at hbytes; omega)
          have e1 : ((⟨s.toArray⟩ : ByteArray).data.map fun b => Value.int .u8 b.toNat) = (Lib.strCells ⟨s.toArray⟩).toArray := by
            apply Array.ext'
            simp [Lib.strCells]
          rw [hss] at hr
          rw [← e1]
          exact hr
        | some ad =>
          have := Lib.run_append_grow_string (P := P) w t t' o.type e i zv hu hu' hi hiz ad 0 0 [] (by simp) (by simp) ⟨s.toArray⟩ (by rw [hss]; omega) (by rw [hss]; omega) (growslice_fits (by rw [hss]; omega) (by rw [hss, hib]; exact hbytes))
          rw [hss] at this
          simpa using this
      obtain ⟨cap', hrun, hge, hle⟩ := hgrow
      have hf : Fr (fun _ => False) w (w.drew.alloc (.cells ((Lib.strCells ⟨s.toArray⟩).toArray ++ Builtin.zeroCells zv.cells (cap' - s.length)) e)) := (Fr.refl _ w).drew.trans (Fr.alloc _ _ _)
      refine finish _ _ (some w.heap.size, cap') (fun _ => False) hrun hf (fun _ _ h => h.elim) (fun g' hg' => .inr ?_) (fun hkeep => ?_) ⟨by rw [Nat.zero_add], by omega⟩
      · simp only [Option.some.injEq] at hg'
        subst hg'
        simp
      · intro g' cap'' he
        rw [layAt_at] at he
        simp only [Option.some.injEq, Prod.mk.injEq] at he
        obtain ⟨rfl, rfl⟩ := he
        refine ⟨_, heap_alloc_new w.drew _, ?_, by omega, hle, ?_⟩
        · simp only [Array.size_append, List.size_toArray, size_zeroCells, hzc, hzl, hnl]
          omega
        · refine apC_cells (olds := []) (news := Lib.strCells ⟨s.toArray⟩) (by simp) (fun q hq => ?_) (fun i hi => absurd hi (by omega)) (fun i hi j hj => strCells_at s i hi j hj)
          rw [Nat.zero_add] at hq
          rw [List.nil_append, Array.getElem?_append_left (by simp only [List.size_toArray]; omega), List.getElem?_toArray]
    | some g =>
      obtain ⟨hxv, hcap⟩ := hv
      obtain ⟨cur, hh, hcs, hncap, hcm, hc⟩ := hr
      have hblk : (st.hp p).blk η = some g := by rw [hrow]; simp [Row.blk, Row.ver, hη]
      have hold : (cur.toList.take (n * 1)).length = n * 1 := by
        simp; omega
      have holdr : ∀ (w' : World) (η' : Env) (L' : Nat → Prop), (∀ x u, Rep w η (Lset c η st.hp) x u → Rep w' η' L' x u) → ∀ i, i < n → ∀ j, j < 1 → ∃ u, (cur.toList.take (n * 1))[i * 1 + j]? = some u ∧ u.oneCell' = true ∧ Rep w' η' L' (cc i j) u := by
        intro w' η' L' hkeep i hi j hj
        obtain ⟨u, hu', h1, hrep⟩ := hc i hi j hj
        exact ⟨u, by rw [List.getElem?_take, if_pos (by omega), Array.getElem?_toList]; exact hu', h1, hkeep _ _ hrep⟩
      by_cases hroom : n + s.length ≤ cap
      · have hrun := Lib.run_append_room_string (P := P) w t t' o.type e i hu hu' hi hisz g n cap cur hh ⟨s.toArray⟩ (by rw [hss]; exact hroom) (by rw [hss]; omega)
        rw [hss] at hrun
        refine finish _ _ (some g, cap) (fun b => b = g) (by rw [hxv, hyv]; exact hrun) (fr_setRow w g _) (fun k _ e => by rw [e]; exact hblk) (fun g' hg' => .inl (by simp only [Option.some.injEq] at hg'; rw [← hg']; exact hblk)) (fun hkeep => ?_) ⟨rfl, hroom⟩
        intro g' cap'' he
        rw [layAt_at] at he
        simp only [Option.some.injEq, Prod.mk.injEq] at he
        obtain ⟨rfl, rfl⟩ := he
        refine ⟨_, setRow_heap w g cur _ e (0, 0) hh, ?_, hroom, hcm, ?_⟩
        · simp only [List.size_toArray, List.length_append, List.length_take, List.length_drop, Array.length_toList, hnl]
          omega
        · refine apC_cells (olds := cur.toList.take (n * 1)) (news := Lib.strCells ⟨s.toArray⟩) hold (fun q hq => ?_) (holdr _ _ _ hkeep) (fun i hi j hj => strCells_at s i hi j hj)
          rw [List.getElem?_toArray]
          have e1 : cur.toList.take n = cur.toList.take (n * 1) := by rw [Nat.mul_one]
          rw [e1, List.getElem?_append_left (by rw [List.length_append, hold, hnl]; omega)]
      · have hrun := Lib.run_append_grow_string (P := P) w t t' o.type e i zv hu hu' hi hiz ⟨g, 0, none⟩ n cap (cur.toList.take (n * 1)) (by rw [hisz]; exact hold) (fun j v hj => by
            rw [add_off, Nat.zero_add, cell_heap hh, ← Array.getElem?_toList]
            rw [List.getElem?_take] at hj
            split at hj
            · exact hj
            · cases hj) ⟨s.toArray⟩ (by rw [hss]; omega) (by rw [hss]; omega) (growslice_fits (by rw [hss]; omega) (by rw [hss, hib]; exact hbytes))
        rw [hss] at hrun
        have hge := grownCap_ge w (n + s.length) cap e
        have hle := grownCap_le_maxLen w (n + s.length) cap e hmx
        generalize grownCap w (n + s.length) cap e = cap' at hrun hge hle
        have hf : Fr (fun _ => False) w (w.drew.alloc (.cells ((cur.toList.take (n * 1)).toArray ++ (Lib.strCells ⟨s.toArray⟩).toArray ++ Builtin.zeroCells zv.cells (cap' - (n + s.length))) e)) := (Fr.refl _ w).drew.trans (Fr.alloc _ _ _)
        refine finish _ _ (some w.heap.size, cap') (fun _ => False) (by rw [hxv, hyv]; exact hrun) hf (fun _ _ h => h.elim) (fun g' hg' => .inr ?_) (fun hkeep => ?_) ⟨rfl, hge⟩
        · simp only [Option.some.injEq] at hg'
          subst hg'
          simp
        · intro g' cap'' he
          rw [layAt_at] at he
          simp only [Option.some.injEq, Prod.mk.injEq] at he
          obtain ⟨rfl, rfl⟩ := he
          refine ⟨_, heap_alloc_new w.drew _, ?_, hge, hle, ?_⟩
          · simp only [Array.size_append, List.size_toArray, size_zeroCells, hzc, hzl, hnl, hold]
            omega
          · refine apC_cells (olds := cur.toList.take (n * 1)) (news := Lib.strCells ⟨s.toArray⟩) hold (fun q hq => ?_) (holdr _ _ _ hkeep) (fun i hi j hj => strCells_at s i hi j hj)
            rw [Array.getElem?_append_left (by simp only [Array.size_append, List.size_toArray, hold, hnl]; omega)]
            simp only [List.append_toArray, List.getElem?_toArray]
end
section
variable {c : Ctx} {hp : Nat → Row} {nx : Nat} {η : Env} {w w' : World}
theorem HS.sink (h : HS c hp nx η w) {p g : Nat} (hb : (hp p).blk η = some g) (hf : Fr (fun b => b = g) w w') :
    HS c (updR hp p .dead) nx η w' ∧ ∀ x u, Rep w η (Lset c η hp) x u → Rep w' η (Lset c η (updR hp p .dead)) x u := by
  have hbk : ∀ q b, (updR hp p .dead q).blk η = some b → q ≠ p ∧ (hp q).blk η = some b := fun q b hq => by
    by_cases e : q = p
    · subst e; rw [updR_at] at hq; cases hq
    · rw [updR_ne _ _ e] at hq; exact ⟨e, hq⟩
  have hver : ∀ q v, (updR hp p .dead q).ver = some v → (hp q).ver = some v := fun q v hq => by
    by_cases e : q = p
    · subst e; rw [updR_at] at hq; cases hq
    · rw [updR_ne _ _ e] at hq; exact hq
  have hL : ∀ b, Lset c η (updR hp p .dead) b → Lset c η hp b := by
    rintro b (hl | ⟨q, hq⟩)
    · exact .inl hl
    · exact .inr ⟨q, (hbk q b hq).2⟩
  have hO : ∀ k, k < w.heap.size → k = g → Lset c η hp k := fun k _ e => .inr ⟨p, by rw [e]; exact hb⟩
  refine ⟨⟨h.fr.trans' hf ?_, h.lx, fun q => ?_, fun q r v hq hr => h.vers q r v (hver q v hq) (hver r v hr), fun q v hq => h.bnd q v (hver q v hq), fun q r b hq hr => h.disj q r b (hbk q b hq).2 (hbk r b hr).2, fun q b hq => ?_, h.fresh, h.env⟩,
    fun x u hx => Rep.keep hf hO (fun k _ hl => hL k hl) x η η u (Env.le_refl _) hx⟩
  · intro k hk e
    subst e
    exact (h.own p k hb).1.resolve_right (by omega)
  · by_cases e : q = p
    · subst e; rw [updR_at]; trivial
    · rw [updR_ne _ _ e]
      exact RowOK.keep hf (Env.le_refl _) hO (fun k _ hl => hL k hl) (fun _ _ => rfl) (fun b hq => by
        refine hf.block b (h.own q b hq).2.2 fun e' => e ?_
        subst e'
        exact h.disj q p b hq hb) (h.rows q)
  · have := h.own q b (hbk q b hq).2
    exact ⟨this.1, this.2.1, Nat.lt_of_lt_of_le this.2.2 hf.size⟩
end
end Go.Proofs.YtjfmigpahglajaaGreatDoor
set_option linter.unusedSimpArgs false
namespace Go.Proofs.YtjfmigpahglajaaGreatDoor
open Go Go.ChangeShapes Go.WideShapes Go.ChangeAt Go.RowKit

def reachW {H : Type} (P : Program) (t : TypeId) (d : DataW H) : Prop := ∀ n ∈ d.weights P t, n ≤ reachBytes
structure Opens (P : Program) (t : TypeId) {α : Type} (E : El α) (good : α → Prop) : Prop where
  size : P.cellsOf t = E.sz
  read : ∀ (H : Type) (enc : TypeId × Value → H) (w : World) (base : Nat) (spare : Nat → Bool) (held : Bool) (fuel : Nat) (cs : List Value) (x : DataW H × List MemPlace),
    DataW.trod enc P w base spare held fuel t cs = some x → reachW P t x.1 → ∃ a, good a ∧ ∀ j, j < E.sz → ∃ u, cs[j]? = some u ∧ u.oneCell' = true ∧ Rep w noEnv (fun _ => False) (E.enc a j) u
def gI (n : Int) : Prop := -9223372036854775808 ≤ n ∧ n ≤ 9223372036854775807
def gB (_ : Bool) : Prop := True
def gS (l : List UInt8) : Prop := l.length ≤ 140737488351232
def gP {α β : Type} (g : α → Prop) (h : β → Prop) (p : α × β) : Prop := g p.1 ∧ h p.2

section
variable {P : Program} {t e : TypeId}
theorem one_cell {w : World} {α : Type} {E : El α} {a : α} {v : Value} (hs : E.sz = 1) (h1 : v.oneCell' = true) (hr : Rep w noEnv (fun _ => False) (E.enc a 0) v) :
    ∀ j, j < E.sz → ∃ u, [v][j]? = some u ∧ u.oneCell' = true ∧ Rep w noEnv (fun _ => False) (E.enc a j) u := fun j hj => by
  obtain rfl : j = 0 := by omega
  exact ⟨v, rfl, h1, hr⟩
theorem opens_int (ht : P.underlying t = some (.int .i64)) (hs : P.cellsOf t = 1) : Opens P t eI gI := by
  refine ⟨hs, fun H enc w base spare held fuel cs x h hz => ?_⟩
  cases fuel with
  | zero => simp [DataW.trod] at h
  | succ n =>
    unfold DataW.trod at h
    rw [ht] at h
    split at h <;> simp only [reduceCtorEq, Option.some.injEq, TypeDesc.int.injEq] at *
    rename_i m heq
    subst heq
    split at h
    · rename_i hw
      obtain ⟨rfl, hw⟩ := hw
      refine ⟨m, ?_, one_cell rfl rfl rfl⟩
      simp only [Lit.wf, IntKind.min, IntKind.max, IntKind.signed, IntKind.bits, Bool.and_eq_true, decide_eq_true_eq] at hw
      unfold gI
      simp at hw
      omega
    · cases h
theorem opens_string (ht : P.underlying t = some .string) (hs : P.cellsOf t = 1) : Opens P t eS gS := by
  refine ⟨hs, fun H enc w base spare held fuel cs x h hz => ?_⟩
  cases fuel with
  | zero => simp [DataW.trod] at h
  | succ n =>
    unfold DataW.trod at h
    rw [ht] at h
    split at h <;> simp only [reduceCtorEq, Option.some.injEq] at *
    rename_i s _
    split at h
    · rename_i hm
      refine ⟨s.data.toList, ?_, one_cell rfl rfl rfl⟩
      simp only [Option.some.injEq] at h
      subst h
      have h2 := hz s.data.toList.length (by simp [DataW.weights])
      unfold reachBytes at h2
      exact h2
    · cases h

theorem weights_all {H : Type} {d : DataW H} : ∀ {l : List (DataW H)}, d ∈ l → ∀ n ∈ d.weights P e, n ∈ DataW.weightsAll P e l
  | x :: l, h, n, hn => by
    simp only [DataW.weightsAll, List.mem_append]
    rcases List.mem_cons.1 h with rfl | h
    · exact .inl hn
    · exact .inr (weights_all h n hn)
def OpensL (P : Program) (l : List (Nat × TypeId)) (off : Nat) {α : Type} (E : El α) (good : α → Prop) : Prop :=
  ∀ (H : Type) (enc : TypeId × Value → H) (w : World) (base : Nat) (spare : Nat → Bool) (held : Bool) (fuel : Nat) (cs : List Value),
    (∀ (i : Nat) (x : Nat × TypeId), l[i]? = some x → ∃ y, DataW.trod enc P w base spare held fuel x.2 ((cs.drop x.1).take (P.cellsOf x.2)) = some y ∧ reachW P x.2 y.1) →
    ∃ a, good a ∧ ∀ j, j < E.sz → ∃ u, cs[off + j]? = some u ∧ u.oneCell' = true ∧ Rep w noEnv (fun _ => False) (E.enc a j) u
theorem opensL_one {α : Type} {E : El α} {g : α → Prop} {off : Nat} (h : Opens P t E g) : OpensL P [(off, t)] off E g := by
  intro H enc w base spare held fuel cs hx
  obtain ⟨y, hy, hz⟩ := hx 0 _ rfl
  obtain ⟨a, ha, hj⟩ := h.read H enc w base spare held fuel _ y hy hz
  refine ⟨a, ha, fun j hjs => ?_⟩
  obtain ⟨u, hu, r⟩ := hj j hjs
  refine ⟨u, ?_, r⟩
  rw [List.getElem?_take] at hu
  split at hu
  · simpa using hu
  · cases hu
theorem opensL_cons {α β : Type} {A : El α} {B : El β} {g : α → Prop} {k : β → Prop} {off : Nat} {l : List (Nat × TypeId)} (h : Opens P t A g) (hl : OpensL P l (off + A.sz) B k) : OpensL P ((off, t) :: l) off (eP A B) (gP g k) := by
  intro H enc w base spare held fuel cs hx
  obtain ⟨a, ha, h1⟩ := opensL_one h H enc w base spare held fuel cs fun i x hi => hx 0 x (by
    cases i with
    | zero => simpa using hi
    | succ i => simp at hi)
  obtain ⟨b, hb, h2⟩ := hl H enc w base spare held fuel cs fun i x hi => hx (i + 1) x (by simpa using hi)
  refine ⟨(a, b), ⟨ha, hb⟩, fun j hj => ?_⟩
  show ∃ u, _ ∧ _ ∧ Rep w noEnv (fun _ => False) (if j < A.sz then A.enc a j else B.enc b (j - A.sz)) u
  split
  · rename_i hjA
    exact h1 j hjA
  · rename_i hjA
    have hj' : j < A.sz + B.sz := hj
    obtain ⟨u, hu, r⟩ := h2 (j - A.sz) (by omega)
    exact ⟨u, by rw [← hu]; congr 1; omega, r⟩
theorem opens_struct {α : Type} {E : El α} {g : α → Prop} {fs : Array Field} (ht : P.underlying t = some (.struct fs)) (hs : P.cellsOf t = E.sz) {l : List (Nat × TypeId)} (hl : fs.toList.map (fun f => (f.offset, f.type)) = l) (h : OpensL P l 0 E g) : Opens P t E g := by
  refine ⟨hs, fun H enc w base spare held fuel cs x hx hz => ?_⟩
  obtain ⟨xs, n, _, rfl, hlen, hxs, hf⟩ := DataW.trod_struct ht hx
  obtain ⟨a, ha, hj⟩ := h H enc w base spare held n cs fun i y hi => by
    subst hl
    rw [List.getElem?_map] at hi
    cases hfi : fs.toList[i]? with
    | none => rw [hfi] at hi; cases hi
    | some f =>
      rw [hfi] at hi
      simp only [Option.map_some, Option.some.injEq] at hi
      subst hi
      have hi : i < fs.size := by simpa using (List.getElem?_eq_some_iff.1 hfi).1
      have := hf i f (by simpa using hfi)
      rw [List.getElem?_eq_getElem (by omega)] at this
      refine ⟨_, this, fun m hm => hz m ?_⟩
      simp only [DataW.weights, ht]
      exact DataW.weights_mem_each (j := i) (by simp [hfi]) (by simp [show i < xs.length by omega]) m hm
  exact ⟨a, ha, fun j hjs => by simpa using hj j hjs⟩
theorem opens_array {α : Type} {E : El α} {g : α → Prop} {n : Nat} (ht : P.underlying t = some (.array n e)) (hs : P.cellsOf t = E.sz) {l : List (Nat × TypeId)} (hl : (List.range n).map (fun i => (i * P.cellsOf e, e)) = l) (h : OpensL P l 0 E g) : Opens P t E g := by
  refine ⟨hs, fun H enc w base spare held fuel cs x hx hz => ?_⟩
  obtain ⟨xs, m, _, rfl, hlen, hxs, hf⟩ := DataW.trod_array ht hx
  obtain ⟨a, ha, hj⟩ := h H enc w base spare held m cs fun i y hi => by
    subst hl
    rw [List.getElem?_map] at hi
    cases hfi : (List.range n)[i]? with
    | none => rw [hfi] at hi; cases hi
    | some k =>
      rw [hfi] at hi
      simp only [Option.map_some, Option.some.injEq] at hi
      subst hi
      have hi : i < n := by simpa using (List.getElem?_eq_some_iff.1 hfi).1
      obtain rfl : i = k := by
        have := (List.getElem?_eq_some_iff.1 hfi).2
        simpa using this
      have := hf i hi
      rw [List.getElem?_eq_getElem (by omega)] at this
      refine ⟨_, this, fun m hm => hz m ?_⟩
      simp only [DataW.weights, ht]
      exact weights_all (List.mem_map_of_mem (List.getElem_mem _)) m hm
  exact ⟨a, ha, fun j hjs => by simpa using hj j hjs⟩
end
end Go.Proofs.YtjfmigpahglajaaGreatDoor
set_option linter.unusedSimpArgs false
namespace Go.Proofs.YtjfmigpahglajaaGreatDoor
open Go Go.ChangeShapes Go.WideShapes Go.ChangeAt Go.RowKit

section
variable {P : Program}
def OpensK (P : Program) (t : TypeId) {α : Type} (K : Kd α) (good : α → Prop) : Prop :=
  ∀ (H : Type) (enc : TypeId × Value → H) (W : World) (base : Nat) (v : Value) (d : DataW H) (p : List MemPlace), Value.okWide P W .any base t v → DataW.Trod enc P W 0 (fun _ => true) true t v d p → reachW P t d →
    ∃ a, good a ∧ Rep W noEnv (fun _ => False) (K.enc a) v
theorem opensK_one {t : TypeId} {α : Type} {E : El α} {g : α → Prop} {K : Kd α} (h : Opens P t E g) (hs : E.sz = 1) (hK : ∀ a, K.enc a = E.enc a 0) (hv : ∀ (W : World) (base : Nat) (v : Value), Value.okWide P W .any base t v → v.cells = #[v]) : OpensK P t K g := by
  intro H enc W base v d p hok ⟨fuel, htr⟩ hz
  obtain ⟨a, ha, hj⟩ := h.read H enc W 0 _ _ fuel _ _ htr hz
  obtain ⟨u, hu, _, hr⟩ := hj 0 (by omega)
  rw [hv W base v hok] at hu
  simp only [List.getElem?_cons_zero, Option.some.injEq] at hu
  subst hu
  exact ⟨a, ha, by rw [hK]; exact hr⟩
theorem opensK_string {t : TypeId} (ht : P.underlying t = some .string) (hs : P.cellsOf t = 1) : OpensK P t kS gS :=
  opensK_one (opens_string ht hs) rfl (fun _ => rfl) fun W base v h => by obtain ⟨n, rfl⟩ := okWide_string ht h; rfl
theorem opensK_agg {t : TypeId} {α : Type} {E : El α} {g : α → Prop} (hu : aggT P t = some true) (h : Opens P t E g) : OpensK P t (kA E) g := by
  intro H enc W base v d p hok ⟨fuel, htr⟩ hz
  obtain ⟨a, ha, hj⟩ := h.read H enc W 0 _ _ fuel _ _ htr hz
  have : ∃ cs, v = .agg cs ∧ cs.size = P.cellsOf t := by
    unfold aggT at hu
    unfold Value.okWide at hok
    split at hok
    · obtain ⟨cs, hv, hsz, _⟩ := hok; exact ⟨cs, hv, hsz⟩
    · obtain ⟨cs, hv, hsz, _⟩ := hok; exact ⟨cs, hv, hsz⟩
    · rename_i hns hna
      cases hq : P.underlying t with
      | none => rw [hq] at hu; cases hu
      | some q =>
        rw [hq] at hu
        cases q with
        | struct fs => exact absurd hq (hns fs)
        | array n e => exact absurd hq (hna n e)
        | _ => cases hu
  obtain ⟨cs, rfl, hsz⟩ := this
  exact ⟨a, ha, cs, rfl, by rw [hsz, h.size], fun j hjs => by simpa [Value.cells] using hj j hjs⟩

def OpenAll (P : Program) (ts : List TypeId) (Q : List AV → Prop) : Prop :=
  ∀ (H : Type) (enc : TypeId × Value → H) (W : World) (base : Nat) (vs : List Value) (ds : List (DataW H)) (ps : List MemPlace), DataW.TrodAll enc P W 0 (fun _ => true) true ts vs ds ps →
    (∀ (j : Nat) t v, ts[j]? = some t → vs[j]? = some v → Value.okWide P W .any base t v) → (∀ (j : Nat) t d, ts[j]? = some t → ds[j]? = some d → reachW P t d) → ∃ avs, Q avs ∧ All2 (Rep W noEnv fun _ => False) avs vs
theorem openAll_nil : OpenAll P [] (· = []) := by
  intro H enc W base vs ds ps h _ _
  match vs, ds, h with
  | [], [], _ => exact ⟨[], rfl, .nil⟩
theorem openAll_cons {t : TypeId} {ts : List TypeId} {α : Type} {K : Kd α} {g : α → Prop} {Q : List AV → Prop} (h : OpensK P t K g) (k : OpenAll P ts Q) : OpenAll P (t :: ts) (fun avs => ∃ a r, avs = K.enc a :: r ∧ g a ∧ Q r) := by
  intro H enc W base vs ds ps hA hok hz
  match vs, ds, hA with
  | v :: vs, d :: ds, ⟨p, q, h1, h2, _⟩ =>
    obtain ⟨a, ha, hr⟩ := h H enc W base v d p (hok 0 t v rfl rfl) h1 (hz 0 t d rfl rfl)
    obtain ⟨avs, hQ, hrs⟩ := k H enc W base vs ds q h2 (fun j t' v' ht hv => hok (j + 1) t' v' ht hv) fun j t' d' ht hd => hz (j + 1) t' d' ht hd
    exact ⟨K.enc a :: avs, ⟨a, avs, rfl, ha, hQ⟩, .cons hr hrs⟩
theorem trodAll_below {H : Type} {enc : TypeId × Value → H} (hl : laidOutB P = true) {W W' : World} (hb : Below W.heap.size W W') : ∀ (ts : List TypeId) (vs : List Value) (ds : List (DataW H)) (ps : List MemPlace),
    (∀ t ∈ ts, P.readableRec t = true ∧ t < P.types.size) → DataW.TrodAll enc P W 0 (fun _ => true) true ts vs ds ps → (∀ x ∈ ps, x.block < W.heap.size) →
    DataW.TrodAll enc P W' 0 (fun b => decide (b < W.heap.size)) true ts vs ds ps
  | [], [], [], _, _, h, _ => h
  | t :: ts, v :: vs, d :: ds, ps, ht, ⟨p, q, h1, h2, e⟩, hlt => by
    subst e
    exact ⟨p, q, Below.trod hl (ht t (List.mem_cons_self ..)).1 (ht t (List.mem_cons_self ..)).2 h1 hb fun x hx => hlt x (List.mem_append_left _ hx),
      trodAll_below hl hb ts vs ds q (fun t h => ht t (List.mem_cons_of_mem _ h)) h2 fun x hx => hlt x (List.mem_append_right _ hx), rfl⟩
  | [], _ :: _, _, _, _, h, _ => h.elim
  | [], [], _ :: _, _, _, h, _ => h.elim
  | _ :: _, [], _, _, _, h, _ => h.elim
  | _ :: _, _ :: _, [], _, _, h, _ => h.elim

theorem law_calls {H : Type} {enc : TypeId × Value → H} {f : FuncId} {fn : Func} {s : ChangeSpec} {sp : Spec} {ts : List TypeId} {tb : TypeId} {Q : List AV → Prop} (hl : laidOutB P = true) (hs : SpecOK P f sp) (hp : fn.params.toList = ts) (hr : fn.resultTypes = #[tb])
    (hb : P.underlying tb = some .bool) (hopen : OpenAll P ts Q) (hts' : ts.all (fun t => P.readableRec t && decide (t < P.types.size)) = true) (hpre : ∀ avs, Q avs → sp.pre avs ∧ sp.res avs = .val (.bool true))
    (hsv : s.vars = []) (hsf : ∀ ds : List (DataW H), ds.length = ts.length → (s.fn H ds).results = [.lit (.bool true)] ∧ (s.fn H ds).args = ds ∧ (s.fn H ds).vars = [])
    (W : World) (base : Nat) (args : Array Value) (ds gs : List (DataW H)) (before : List MemPlace)
    (hval : ∀ (j : Nat) t v, fn.params[j]? = some t → args[j]? = some v → Value.okWide P W .any base t v)
    (hW : DataW.Whole enc P fn.params.toList s.vars false W args.toList ds gs before) (hz : (DataW.weightsEach P (fn.params.toList ++ s.plain.varTypes P) (ds ++ gs)).all (· ≤ reachBytes) = true) :
    Calls P f args W fun e W' => ∃ v, e = .returned v ∧ s.post enc P fn false true false false W args v W' := by
  have hts : ∀ t ∈ ts, P.readableRec t = true ∧ t < P.types.size := fun t ht => by simpa using List.all_eq_true.1 hts' t ht
  have hW' := hW
  obtain ⟨p, q, hA, hV, hbe, hfz, hnd⟩ := hW
  rw [hsv] at hV
  obtain ⟨rfl, rfl⟩ := trodVars_none hV
  rw [hp] at hA
  obtain ⟨avs, hQ, hreps⟩ := hopen H enc W base args.toList ds p hA (fun j t v ht hv => hval j t v (by
    have : fn.params.toList[j]? = some t := by rw [hp]; exact ht
    simpa using this) (by simpa using hv)) fun j t d ht hd n hn => by
    have h1 : (fn.params.toList ++ s.plain.varTypes P)[j]? = some t := by
      rw [hp, List.getElem?_append_left (List.getElem?_eq_some_iff.1 ht).1]
      exact ht
    have h2 : (ds ++ [])[j]? = some d := by rw [List.append_nil]; exact hd
    simpa using List.all_eq_true.1 hz n (DataW.weights_mem_each h1 h2 n hn)
  obtain ⟨h1, h2⟩ := hpre avs hQ
  have hlen : ds.length = ts.length := by
    have : ∀ (ts : List TypeId) (vs : List Value) (ds : List (DataW H)) (ps : List MemPlace), DataW.TrodAll enc P W 0 (fun _ => true) true ts vs ds ps → ds.length = ts.length := by
      intro ts
      induction ts with
      | nil =>
        intro vs ds ps h
        match vs, ds, h with
        | [], [], _ => rfl
      | cons t ts ih =>
        intro vs ds ps h
        match vs, ds, h with
        | v :: vs, d :: ds, ⟨p, q, _, h2, _⟩ => simp [ih vs ds q h2]
    exact this ts _ _ _ hA
  have hlt : ∀ x ∈ p, x.block < W.heap.size := fun x hx => by
    refine hW'.lt x ?_
    rw [hbe]
    exact List.mem_append_left _ hx
  have hc := hs.2 avs h1 W (fun _ => False) args.toList (fun _ h => h.elim) hreps
  refine (show Calls P f args W _ by simpa using hc).mono ?_
  rintro e W' ⟨v, rfl, hf, hr'⟩
  rw [h2] at hr'
  have hv : v = .bool true := hr'
  subst hv
  obtain ⟨e1, e2, e3⟩ := hsf ds hlen
  refine ⟨_, rfl, ds, [], before, [], p, [], hW', ?_, ?_, ?_, hf.below.frame _, fun h => by cases h⟩
  · rw [hr, List.append_nil, e1]
    exact trodAll_cons_mk (shut_bool hb _) trodAll_mk0
  · rw [hp, List.append_nil, e2]
    exact trodAll_below hl hf.below ts _ _ _ hts hA hlt
  · rw [hsv, List.append_nil, e3]
    rfl
theorem pre_f2 {α β : Type} {A : Kd α} {B : Kd β} {gA : α → Prop} {gB : β → Prop} {dom : α → β → Prop} {out : α → β → AV} (h : ∀ a b, gA a → gB b → dom a b ∧ out a b = .val (.bool true)) (avs : List AV)
    (hQ : ∃ a r, avs = A.enc a :: r ∧ gA a ∧ ∃ b r', r = B.enc b :: r' ∧ gB b ∧ r' = []) : (Spec.f2 A B dom out).pre avs ∧ (Spec.f2 A B dom out).res avs = .val (.bool true) := by
  obtain ⟨a, _, rfl, ha, b, _, rfl, hb, rfl⟩ := hQ
  obtain ⟨h1, h2⟩ := h a b ha hb
  simp only [Spec.f2, A.law, B.law]
  exact ⟨⟨A.ok_enc a, B.ok_enc b, h1⟩, h2⟩
theorem pre_f3 {α β γ : Type} {A : Kd α} {B : Kd β} {C : Kd γ} {gA : α → Prop} {gB : β → Prop} {gC : γ → Prop} {dom : α → β → γ → Prop} {out : α → β → γ → AV} (h : ∀ a b c, gA a → gB b → gC c → dom a b c ∧ out a b c = .val (.bool true)) (avs : List AV)
    (hQ : ∃ a r, avs = A.enc a :: r ∧ gA a ∧ ∃ b r', r = B.enc b :: r' ∧ gB b ∧ ∃ c r'', r' = C.enc c :: r'' ∧ gC c ∧ r'' = []) : (Spec.f3 A B C dom out).pre avs ∧ (Spec.f3 A B C dom out).res avs = .val (.bool true) := by
  obtain ⟨a, _, rfl, ha, b, _, rfl, hb, c, _, rfl, hc, rfl⟩ := hQ
  obtain ⟨h1, h2⟩ := h a b c ha hb hc
  simp only [Spec.f3, A.law, B.law, C.law]
  exact ⟨⟨A.ok_enc a, B.ok_enc b, C.ok_enc c, h1⟩, h2⟩
end
end Go.Proofs.YtjfmigpahglajaaGreatDoor
set_option linter.unusedSimpArgs false
set_option linter.unusedVariables false
namespace Go.Proofs.YtjfmigpahglajaaGreatDoor
open Go Go.ChangeShapes Go.WideShapes Go.ChangeAt Go.RowKit
def eU : El Int := ⟨1, fun n _ => .val (.int .u8 n), fun c => (c 0).int, 0, fun _ => rfl, fun _ _ h => by rw [h 0 Nat.one_pos]⟩
@[go_sem] theorem eU_sz : eU.sz = 1 := (rfl)
@[go_sem] theorem eU_enc (n : Int) (j : Nat) : eU.enc n j = .val (.int .u8 n) := rfl
@[go_sem] theorem eU_d : eU.dflt = 0 := rfl
@[go_sem] theorem okc_U (n : Int) : eU.okc (fun _ => .val (.int .u8 n)) = True := eq_true fun _ _ => AVle.refl _
@[go_sem] theorem dec_U (n : Int) : eU.dec (fun _ => .val (.int .u8 n)) = n := rfl
@[go_sem] theorem eU_flat (x : Int) (j : Nat) : (eU.enc x j).flat = true := rfl
@[go_sem] theorem eU_dec (c : Nat → AV) : eU.dec c = kU.dec (c 0) := rfl
@[go_sem] theorem eU_okc (c : Nat → AV) : eU.okc c = kU.ok (c 0) := okc_1 rfl (fun _ => rfl) (fun _ => rfl) c
@[go_sem] theorem eqLf_u8 (k : IntKind) (a b : Int) : eqLf (some (.int k)) (.val (.int .u8 a)) (.val (.int .u8 b)) = some (decide (a = b)) := rfl
theorem nil_em : AVle (.val (.slice none 0 0)) .em := fun _ _ _ _ h => ⟨none, h⟩
section
variable {P : Program} {st : AS} {K : AS → Prop} {o : Oper}
theorem pure_wp {z : AV} (hd : dstOK st.sz o.dst) (h : ∀ (c : Ctx) (η : Env) (a : Act) (w : World), SR c st η a w → ∃ v, (execOp a.eval o).run P w = .ok (.value v) w ∧ Rep w η (Lset c η st.hp) z v)
    (hK : K ⟨updO st.fr o.dst z, st.hp, st.sz, st.top, st.nx, st.df⟩) : OpW P o st K := by
  intro c η a w next Q hsr hnext
  obtain ⟨v, e, hr⟩ := h c η a w hsr
  unfold Oper.wp
  rw [e]
  exact hnext _ η _ w (hsr.put hd hsr.hs hsr.dead (fun _ _ h => h) hr) hK
theorem alloc_wp {e : TypeId} {zl : List Value} (ho : o.op = .alloc e) (hz : zeroC P e = some zl) (hd : dstOK st.sz o.dst)
    (hK : K ⟨updO st.fr o.dst (.pt st.top st.nx 0), updR st.hp st.top (.box st.nx e zl.length fun j => .val (zl.getD j undef)), st.sz, st.top + 1, st.nx + 1, st.df⟩) : OpW P o st K := by
  intro c η a w next Q hsr hnext
  obtain ⟨hs', hL⟩ := hsr.hs.declare (p := st.top) (row := .box st.nx e zl.length fun j => .val (zl.getD j undef)) rfl
  obtain ⟨zv, hzr, hzc, hz1⟩ := run_zero (w := w) hz
  have hrow : updR st.hp st.top (.box st.nx e zl.length fun j => .val (zl.getD j undef)) st.top = .box st.nx e zl.length fun j => .val (zl.getD j undef) := updR_at ..
  have hlay := hs'.lay (p := st.top) (ver := st.nx) (cap := 0) (by rw [hrow]; rfl) (hsr.hs.fresh _ (Nat.le_refl _)) hsr.hs.env.2.1 (.cells zl.toArray e) (by
    rw [hrow]
    intro g cap he
    rw [layAt_at] at he
    simp only [Option.some.injEq, Prod.mk.injEq] at he
    obtain ⟨rfl, rfl⟩ := he
    refine ⟨_, _, rfl, heap_alloc_new w _, by simp, fun j hj => ⟨zl[j], by simp [hj], List.all_eq_true.1 hz1 _ (List.getElem_mem hj), ?_⟩⟩
    show zl[j] = zl.getD j undef
    simp [List.getD, hj])
  have run : (execOp a.eval o).run P w = .ok (.value (.pointer (some ⟨w.heap.size, 0, none⟩))) (w.alloc (.cells zl.toArray e)) := by
    simp [execOp, ho, Instr.alloc, hzr, newVar, newRow, hzc]
  unfold Oper.wp
  rw [run]
  have hrep : Rep (w.alloc (.cells zl.toArray e)) (layAt η st.nx (some w.heap.size, 0)) (Lset c (layAt η st.nx (some w.heap.size, 0)) (updR st.hp st.top (.box st.nx e zl.length fun j => .val (zl.getD j undef)))) (.pt st.top st.nx 0) (.pointer (some ⟨w.heap.size, 0, none⟩)) := ⟨w.heap.size, 0, layAt_at _ _ _, rfl⟩
  refine hnext _ (layAt η st.nx (some w.heap.size, 0)) _ _ (hsr.put hd hlay.1 (fun p hp => ?_) (fun x u hx => hlay.2.rep (Rep.less (fun b _ hb => hL b hb) hx)) hrep) hK
  rw [updR_ne _ _ (by omega)]
  exact hsr.dead p (by omega)
theorem rune_wp {s d : TypeId} {x : Operand} {k : IntKind} {n : Int} {l : List UInt8} (ho : o.op = .convert s d x) (hs : (P.underlying s).isSome = true) (hd : P.underlying d = some .string) (hx : st.ev x = .val (.int k n)) (hl : Utf8.encode n = ⟨l.toArray⟩) (hdst : dstOK st.sz o.dst)
    (hK : K ⟨updO st.fr o.dst (.st l), st.hp, st.sz, st.top, st.nx, st.df⟩) : OpW P o st K := by
  refine pure_wp hdst (fun c η a w hsr => ?_) hK
  have hv := rep_ev hsr.slots x
  unfold AS.ev at hx
  rw [hx] at hv
  have hv : a.eval x = .int k n := hv
  refine ⟨.string ⟨l.toArray⟩, ?_, rfl⟩
  unfold execOp
  rw [ho]
  simp [hv, run_convert_int_string w s d k n hs hd, hl]
end
end Go.Proofs.YtjfmigpahglajaaGreatDoor
set_option linter.unusedSimpArgs false
set_option linter.unusedVariables false
set_option maxRecDepth 100000
namespace Go.Proofs.YtjfmigpahglajaaGreatDoor
open Go
abbrev Mk := Int × Bool × BS
instance : DecidableEq Mk := inferInstance
abbrev eMk : El Mk := eP eU (eP eB eS)
def mk0 : Mk := (0, false, [])
def wideM (w : Int) : Bool := decide (1 ≤ w) && decide (w ≤ 1073741824)
def signI (k : Int) : Prop := k = 60 ∨ k = 124 ∨ k = 61 ∨ k = 62
def mayM (m : Mk) : Bool :=
  if m.1 = 60 then !m.2.1 && plainB m.2.2 else if m.1 = 124 ∨ m.1 = 62 then plainB m.2.2 else if m.1 = 61 then decide (m.2.2 = []) else false
theorem may_sign {m : Mk} (h : mayM m = true) : signI m.1 := by
  unfold mayM at h
  unfold signI
  split at h
  · omega
  · split at h
    · omega
    · split at h
      · omega
      · cases h
theorem may_plain {m : Mk} (h : mayM m = true) : plainB m.2.2 = true := by
  unfold mayM at h
  split at h
  · exact (Bool.and_eq_true_iff.1 h).2
  · split at h
    · exact h
    · split at h
      · rw [of_decide_eq_true h]; rfl
      · cases h
def tailM (f : Bool) (l : BS) : BS := (if f = true then [33] else []) ++ ((if l = [] then [] else 32 :: l) ++ [10])
def lineM (m : Mk) (w : Int) : BS := List.replicate w.toNat (UInt8.ofNat m.1.toNat) ++ tailM m.2.1 m.2.2
theorem tailM_len (f : Bool) (l : BS) : (tailM f l).length ≤ l.length + 3 := by
  unfold tailM
  cases f <;> by_cases h : l = [] <;> simp [h]
theorem lineM_len (m : Mk) (w : Int) : (lineM m w).length ≤ w.toNat + (m.2.2.length + 3) := by
  unfold lineM
  have := tailM_len m.2.1 m.2.2
  simp only [List.length_append, List.length_replicate]
  omega
theorem tailM_head (f : Bool) (l : BS) : ∃ h t, tailM f l = h :: t ∧ (h = 33 ∨ h = 32 ∨ h = 10) := by
  unfold tailM
  cases f with
  | true => exact ⟨33, _, rfl, .inl rfl⟩
  | false =>
    by_cases h : l = []
    · subst h
      exact ⟨10, [], rfl, .inr (.inr rfl)⟩
    · rw [if_neg h]
      exact ⟨32, _, rfl, .inr (.inl rfl)⟩
def rdT (r : BS) : Option (Bool × BS) :=
  let f := decide (r.getD 0 0 = 33)
  let r1 := if f = true then r.drop 1 else r
  let l := if 1 < r1.length ∧ r1.getD 0 0 = 32 then (r1.take (r1.length - 1)).drop 1 else []
  if tailM f l = r then some (f, l) else none
theorem rdT_tail (f : Bool) (l : BS) : rdT (tailM f l) = some (f, l) := by
  have hf : decide ((tailM f l).getD 0 0 = 33) = f := by
    unfold tailM
    cases f with
    | true => rfl
    | false =>
      by_cases h : l = []
      · subst h; rfl
      · rw [if_neg h]; rfl
  have hr : (if f = true then (tailM f l).drop 1 else tailM f l) = (if l = [] then [] else 32 :: l) ++ [10] := by
    unfold tailM
    cases f with
    | true => rfl
    | false => rfl
  have hl : (if 1 < ((if l = [] then ([] : BS) else 32 :: l) ++ [10]).length ∧ ((if l = [] then ([] : BS) else 32 :: l) ++ [10]).getD 0 0 = 32 then (((if l = [] then ([] : BS) else 32 :: l) ++ [10]).take (((if l = [] then ([] : BS) else 32 :: l) ++ [10]).length - 1)).drop 1 else []) = l := by
    by_cases h : l = []
    · subst h; rfl
    · rw [if_neg h, if_pos ⟨by simp, rfl⟩]
      simp
  unfold rdT
  simp only [hf, hr, hl, if_pos]
theorem rdT_iff {r : BS} {f : Bool} {l : BS} : rdT r = some (f, l) ↔ tailM f l = r := by
  constructor
  · intro h
    unfold rdT at h
    generalize decide (r.getD 0 0 = 33) = f' at h
    dsimp only at h
    generalize (if f' = true then r.drop 1 else r) = r1 at h
    generalize (if 1 < r1.length ∧ r1.getD 0 0 = 32 then (r1.take (r1.length - 1)).drop 1 else []) = l' at h
    by_cases e : tailM f' l' = r
    · rw [if_pos e] at h
      simp only [Option.some.injEq, Prod.mk.injEq] at h
      obtain ⟨h1, h2⟩ := h
      rw [h2, h1] at e
      exact e
    · rw [if_neg e] at h
      cases h
  · rintro rfl
    exact rdT_tail f l
def cutE (s : BS) : BS := if endsL s = true then s.take (s.length - 1) else s
def prB (a b : BS) : Bool := decide (a.take 1 = b)
theorem prB_iff (a b : BS) : prB a b = true ↔ a.take 1 = b := decide_eq_true_iff
theorem prB_no {a b : BS} : prB a b = false ↔ ¬ a.take 1 = b := decide_eq_false_iff_not
def cutP (s : BS) (c : UInt8) : BS := if s.take 1 = [c] then s.drop 1 else s
def rdI (r : BS) : Option (Bool × BS) :=
  if endsL r = true ∧ prB (cutP (cutE r) 33) [32] = decide (cutP (cutP (cutE r) 33) 32 ≠ []) then some (prB (cutE r) [33], cutP (cutP (cutE r) 33) 32) else none
theorem ends_split {r : BS} (h : endsL r = true) : r = r.take (r.length - 1) ++ [10] := by
  have h : r.getLast? = some 10 := of_decide_eq_true h
  rcases r.eq_nil_or_concat with rfl | ⟨m, c, rfl⟩
  · cases h
  · rw [List.concat_eq_append] at *
    simp at h
    subst h
    simp
theorem take1 {s : BS} {c : UInt8} (h : s.take 1 = [c]) : s = c :: s.drop 1 := by
  cases s with
  | nil => cases h
  | cons x s => simp at h; subst h; rfl
theorem rdI_iff {r : BS} {f : Bool} {l : BS} : rdI r = some (f, l) ↔ tailM f l = r := by
  unfold rdI prB
  constructor
  · intro h
    split at h
    · rename_i hh
      obtain ⟨h1, h2⟩ := hh
      simp only [Option.some.injEq, Prod.mk.injEq] at h
      obtain ⟨h3, h4⟩ := h
      have e1 : cutE r = r.take (r.length - 1) := if_pos h1
      have e0 := ends_split h1
      rw [e1] at h2 h3 h4
      generalize r.take (r.length - 1) = b at *
      rw [h4] at h2
      rw [e0]
      have eb : cutP b 33 = (if l = [] then [] else 32 :: l) := by
        by_cases g : (cutP b 33).take 1 = [32]
        · rw [decide_eq_true g] at h2
          have : l ≠ [] := of_decide_eq_true h2.symm
          have h5 : cutP (cutP b 33) 32 = (cutP b 33).drop 1 := if_pos g
          rw [if_neg this, take1 g, ← h5, h4]
        · rw [decide_eq_false g] at h2
          have hl : l = [] := by simpa using h2
          have : cutP (cutP b 33) 32 = cutP b 33 := if_neg g
          rw [if_pos hl, ← this, h4, hl]
      unfold tailM
      rw [← eb, ← List.append_assoc]
      congr 1
      by_cases g : b.take 1 = [33]
      · rw [← h3, decide_eq_true g, if_pos rfl]
        have : cutP b 33 = b.drop 1 := if_pos g
        rw [this]
        exact (take1 g).symm
      · rw [← h3, decide_eq_false g, if_neg (by simp)]
        exact if_neg g
    · cases h
  · rintro rfl
    have h1 : endsL (tailM f l) = true := by
      unfold endsL tailM
      rw [← List.append_assoc, List.getLast?_append]
      rfl
    have e1 : cutE (tailM f l) = (if f = true then [33] else []) ++ (if l = [] then [] else 32 :: l) := by
      unfold cutE
      rw [if_pos h1]
      unfold tailM
      rw [← List.append_assoc]
      generalize (if f = true then ([33] : BS) else []) ++ (if l = [] then [] else 32 :: l) = x
      simp
    have e2 : (cutE (tailM f l)).take 1 = [33] ↔ f = true := by
      rw [e1]
      cases f with
      | true => simp
      | false =>
        by_cases h : l = []
        · simp [h]
        · simp [h]
    have e3 : cutP (cutE (tailM f l)) 33 = (if l = [] then [] else 32 :: l) := by
      unfold cutP
      cases f with
      | true => rw [if_pos (e2.2 rfl), e1]; rfl
      | false => rw [if_neg (fun h => by have := e2.1 h; cases this), e1]; rfl
    have e4 : cutP (if l = [] then ([] : BS) else 32 :: l) 32 = l := by
      by_cases h : l = []
      · subst h; rfl
      · rw [if_neg h]; rfl
    have e5 : (if l = [] then ([] : BS) else 32 :: l).take 1 = [32] ↔ l ≠ [] := by
      by_cases h : l = []
      · simp [h]
      · simp [h]
    rw [e3, e4, if_pos ⟨h1, by rw [decide_eq_decide]; exact e5⟩]
    congr 2
    cases f with
    | true => exact decide_eq_true (e2.2 rfl)
    | false => exact decide_eq_false fun h => by have := e2.1 h; cases this
theorem rdI_eq (r : BS) : rdI r = rdT r := by
  cases h : rdT r with
  | some p => obtain ⟨f, l⟩ := p; exact rdI_iff.2 (rdT_iff.1 h)
  | none =>
    cases g : rdI r with
    | none => rfl
    | some p => obtain ⟨f, l⟩ := p; rw [rdT_iff.2 (rdI_iff.1 g)] at h; cases h
theorem tw_rep (c : UInt8) (t : BS) : ∀ n, (List.replicate n c ++ t).takeWhile (· == c) = List.replicate n c ++ t.takeWhile (· == c)
  | 0 => rfl
  | n + 1 => by
    rw [List.replicate_succ, List.cons_append, List.takeWhile_cons, if_pos (by simp), tw_rep c t n]
    rfl
def signB (c : UInt8) : Prop := c = 60 ∨ c = 124 ∨ c = 61 ∨ c = 62
theorem sign_byte {k : Int} (h : signI k) : signB (UInt8.ofNat k.toNat) ∧ ((UInt8.ofNat k.toNat).toNat : Int) = k := by
  rcases h with rfl | rfl | rfl | rfl
  · exact ⟨.inl rfl, rfl⟩
  · exact ⟨.inr (.inl rfl), rfl⟩
  · exact ⟨.inr (.inr (.inl rfl)), rfl⟩
  · exact ⟨.inr (.inr (.inr rfl)), rfl⟩
theorem run_rep {c : UInt8} (h : signB c) {n : Nat} (hn : 1 ≤ n) (t : BS) : runL (List.replicate n c ++ t) = n + (t.takeWhile (· == c)).length := by
  cases n with
  | zero => omega
  | succ n =>
    have h : c = 60 ∨ c = 124 ∨ c = 61 ∨ c = 62 := h
    rw [List.replicate_succ, List.cons_append, runL, if_pos h, tw_rep]
    simp only [List.length_append, List.length_replicate]
    omega
theorem run_line {c : UInt8} (h : signB c) {n : Nat} (hn : 1 ≤ n) (f : Bool) (l : BS) : runL (List.replicate n c ++ tailM f l) = n := by
  rw [run_rep h hn]
  obtain ⟨x, t, e, hx⟩ := tailM_head f l
  rw [e, List.takeWhile_cons, if_neg]
  · rfl
  · intro hh
    have : x = c := by simpa using hh
    subst this
    unfold signB at h
    revert h hx
    generalize x = y
    intro hx h
    rcases hx with rfl | rfl | rfl <;> rcases h with h | h | h | h <;> cases h
theorem run_split {s : BS} {n : Nat} (h1 : 1 ≤ n) (h : n ≤ runL s) : signB (s.getD 0 0) ∧ s = List.replicate n (s.getD 0 0) ++ s.drop n := by
  cases s with
  | nil => simp [runL] at h; omega
  | cons c r =>
    rw [runL] at h
    split at h
    · rename_i hs
      refine ⟨hs, ?_⟩
      have e : ∀ (m : Nat) (r : BS), m ≤ (r.takeWhile (· == c)).length → r = List.replicate m c ++ r.drop m := by
        intro m
        induction m with
        | zero => intro r _; rfl
        | succ m ih =>
          intro r hr
          cases r with
          | nil => simp at hr
          | cons d r =>
            rw [List.takeWhile_cons] at hr
            split at hr
            · rename_i hd
              obtain rfl : d = c := by simpa using hd
              rw [List.replicate_succ, List.cons_append, List.drop_succ_cons]
              congr 1
              exact ih r (by simpa using hr)
            · simp at hr
      obtain ⟨m, rfl⟩ : ∃ m, n = m + 1 := ⟨n - 1, by omega⟩
      rw [List.getD_cons_zero, List.replicate_succ, List.cons_append, List.drop_succ_cons]
      congr 1
      exact e m r (by omega)
    · omega
def readM (s : BS) (w : Int) : Mk × Bool × Int :=
  if wideM w = false then (mk0, false, 4) else if (runL s : Int) < w then (mk0, false, 0) else
    match rdT (s.drop w.toNat) with
    | some (f, l) => if mayM ((s.getD 0 0).toNat, f, l) = true then (((s.getD 0 0).toNat, f, l), true, 0) else (mk0, false, 6)
    | none => (mk0, false, 6)
theorem wide_iff {w : Int} : wideM w = true ↔ 1 ≤ w ∧ w ≤ 1073741824 := by simp [wideM]
theorem read_line {m : Mk} {w : Int} (hm : mayM m = true) (hw : wideM w = true) : readM (lineM m w) w = (m, true, 0) := by
  obtain ⟨h1, h2⟩ := wide_iff.1 hw
  obtain ⟨s1, s2⟩ := sign_byte (may_sign hm)
  obtain ⟨k, f, l⟩ := m
  simp only at s1 s2
  have hr : runL (lineM (k, f, l) w) = w.toNat := run_line s1 (by omega) f l
  have hd : (lineM (k, f, l) w).drop w.toNat = tailM f l := by
    unfold lineM
    rw [List.drop_append_of_le_length (by simp), List.drop_of_length_le (by simp), List.nil_append]
  have h0 : ((lineM (k, f, l) w).getD 0 0) = UInt8.ofNat k.toNat := by
    unfold lineM
    obtain ⟨n, hn⟩ : ∃ n, w.toNat = n + 1 := ⟨w.toNat - 1, by omega⟩
    rw [hn, List.replicate_succ]
    rfl
  unfold readM
  rw [if_neg (by rw [hw]; simp), if_neg (by rw [hr]; omega), hd, rdT_tail]
  simp only [h0, s2]
  rw [if_pos hm]
theorem line_read {s : BS} {w : Int} {m : Mk} {e : Int} (h : readM s w = (m, true, e)) : lineM m w = s ∧ mayM m = true ∧ wideM w = true ∧ e = 0 := by
  unfold readM at h
  split at h
  · simp at h
  · rename_i hw
    split at h
    · simp at h
    · rename_i hr
      have hw : wideM w = true := by simpa using hw
      obtain ⟨h1, h2⟩ := wide_iff.1 hw
      obtain ⟨g1, g2⟩ := run_split (s := s) (n := w.toNat) (by omega) (by omega)
      split at h
      · rename_i f l hf
        split at h
        · rename_i hm
          simp only [Prod.mk.injEq] at h
          obtain ⟨rfl, _, rfl⟩ := h
          refine ⟨?_, hm, hw, rfl⟩
          unfold lineM
          simp only
          rw [rdT_iff.1 hf]
          have : UInt8.ofNat ((s.getD 0 0).toNat : Int).toNat = s.getD 0 0 := by simp
          rw [this]
          exact g2.symm
        · simp at h
      · simp at h
end Go.Proofs.YtjfmigpahglajaaGreatDoor
set_option linter.unusedSimpArgs false
set_option linter.unusedVariables false
set_option maxRecDepth 100000
set_option maxHeartbeats 2000000
namespace Go.Proofs.YtjfmigpahglajaaGreatDoor
open Go
attribute [local irreducible] AW AVle ASle RowLe
def sHasPreL : Spec := Spec.f2 kS kS (fun a b => a.length ≤ 100000000000 ∧ b.length = 1) (fun a b => kB.enc (prB a b))
theorem okHasPreL : SpecOK Tryz.prog 177 sHasPreL := by
  refine SpecOK.f2 Tryz.func177 rfl (by decide) Tryz.results177 Tryz.ntmps177 (by decide) fun a b ⟨ha, h⟩ => ?_
  have hΓ : GOK Tryz.prog (gam []) := GOK.nil
  unfold prB
  refine AW.of hΓ mixed [] _ _ _ rfl ?_
  simp only [go_sem]
  refine ⟨fun _ => by omega, ?_⟩
  rw [h]
  by_cases g : a = []
  · subst g
    have : b ≠ [] := fun e => by subst e; cases h
    simp [Ne.symm this]
  · have : 0 < a.length := List.length_pos_iff.2 g
    rw [decide_eq_true (by omega), Bool.true_and]
def sRepeat : Spec := Spec.f2 kS kI (fun a n => a.length = 1 ∧ 0 ≤ n ∧ n ≤ 100000000000) (fun a n => kS.enc (List.replicate n.toNat (a.getD 0 0)))
theorem okRepeat : SpecOK Tryz.prog 155 sRepeat := by
  refine SpecOK.raw Tryz.func155 rfl (by decide) fun args hp w L vs hL ha => ?_
  match args, hp with
  | [x, y], hp =>
    obtain ⟨h1, h2, h3, h4, h5⟩ := hp
    cases ha with
    | cons hx hr => cases hr with
      | cons hy hr => cases hr with
        | nil =>
          have ex := okGet h1 hx
          have ey := okGet h2 hy
          obtain rfl := ex
          obtain rfl := ey
          rw [show sRepeat.res [x, y] = kS.enc (List.replicate (kI.dec y).toNat ((kS.dec x).getD 0 0)) from rfl]
          generalize kS.dec x = a at *
          generalize kI.dec y = n at *
          obtain ⟨k, rfl⟩ := Int.eq_ofNat_of_zero_le h4
          have hsz : (⟨a.toArray⟩ : ByteArray).size = 1 := by simpa [ByteArray.size] using h3
          refine (Tryz.strings_Repeat ⟨a.toArray⟩ k w (by omega) (by rw [hsz]; omega)).mono ?_
          rintro e w' ⟨rfl, hb⟩
          refine ⟨_, rfl, Fr.of_below hb _, ?_⟩
          obtain ⟨c, rfl⟩ : ∃ c, a = [c] := by
            match a, h3 with
            | [c], _ => exact ⟨c, rfl⟩
          show Value.string _ = Value.string _
          rw [show ([c] : List UInt8) = List.replicate 1 c from rfl, Lib.repeatL_replicate, Nat.mul_one]
          rfl
def sIsWidth : Spec := Spec.f1 kI (fun _ => True) (fun w => kB.enc (wideM w))
theorem okIsWidth : SpecOK Tryz.prog 89 sIsWidth := by
  refine SpecOK.f1 Tryz.func89 rfl (by decide) Tryz.results89 Tryz.ntmps89 (by decide) fun w _ => ?_
  have hΓ : GOK Tryz.prog (gam []) := GOK.nil
  refine AW.of hΓ mixed [] _ _ _ rfl ?_
  simp only [go_sem]
  rfl
def sIsLabel : Spec := Spec.f1 kS (fun _ => True) (fun l => kB.enc (plainB l))
theorem okIsLabel : SpecOK Tryz.prog 145 sIsLabel := by
  refine SpecOK.f1 Tryz.func145 rfl (by decide) Tryz.results145 Tryz.ntmps145 (by decide) fun l _ => ?_
  have hΓ : GOK Tryz.prog (gam [(136, sContains)]) := (.cons okContains .nil)
  refine AW.of hΓ mixed [] _ _ _ rfl ?_
  simp only [go_sem, sContains]
  rw [Bool.not_not]
def sMayBe : Spec := Spec.f1 (kA eMk) (fun _ => True) (fun m => kB.enc (mayM m))
theorem okMayBe : SpecOK Tryz.prog 114 sMayBe := by
  refine SpecOK.f1 Tryz.func114 rfl (by decide) Tryz.results114 Tryz.ntmps114 (by decide) fun m _ => ?_
  have hΓ : GOK Tryz.prog (gam [(145, sIsLabel)]) := (.cons okIsLabel .nil)
  obtain ⟨k, f, l⟩ := m
  by_cases h1 : k = 60
  · subst h1
    refine AW.of hΓ mixed [] _ _ _ rfl ?_
    simp only [go_sem, sIsLabel]
    rfl
  by_cases h2 : k = 124
  · subst h2
    refine AW.of hΓ mixed [] _ _ _ rfl ?_
    simp only [go_sem, sIsLabel]
    refine AW.fork ?_
    refine AW.of hΓ mixed [] _ _ _ rfl ?_
    simp only [go_sem, sIsLabel]
    refine AW.of hΓ mixed [] _ _ _ rfl ?_
    simp only [go_sem, sIsLabel]
    rfl
  by_cases h3 : k = 62
  · subst h3
    refine AW.of hΓ mixed [] _ _ _ rfl ?_
    simp only [go_sem, sIsLabel]
    refine AW.fork ?_
    refine AW.of hΓ mixed [] _ _ _ rfl ?_
    simp only [go_sem, sIsLabel]
    refine AW.of hΓ mixed [] _ _ _ rfl ?_
    simp only [go_sem, sIsLabel]
    rfl
  by_cases h4 : k = 61
  · subst h4
    refine AW.of hΓ mixed [] _ _ _ rfl ?_
    simp only [go_sem, sIsLabel]
    refine AW.fork ?_
    refine AW.of hΓ mixed [] _ _ _ rfl ?_
    simp only [go_sem, sIsLabel]
    refine AW.of hΓ mixed [] _ _ _ rfl ?_
    simp only [go_sem, sIsLabel]
    rfl
  · refine AW.of hΓ mixed [] _ _ _ rfl ?_
    simp only [go_sem, sIsLabel, h1, h2, h3, h4]
    refine AW.fork ?_
    refine AW.of hΓ mixed [] _ _ _ rfl ?_
    simp only [go_sem, sIsLabel, h1, h2, h3, h4]
    refine AW.of hΓ mixed [] _ _ _ rfl ?_
    simp only [go_sem, sIsLabel, h1, h2, h3, h4]
    simp [mayM, h1, h2, h3, h4]
def sCutSL : Spec := Spec.f2 kS kS (fun a b => a.length ≤ 100000000000 ∧ b = [10]) (fun a _ => tu2 (kS.enc (cutE a)) (kB.enc (endsL a)))
theorem okCutSL : SpecOK Tryz.prog 161 sCutSL := by
  refine SpecOK.f2 Tryz.func161 rfl (by decide) Tryz.results161 Tryz.ntmps161 (by decide) fun a b ⟨ha, h⟩ => ?_
  have hΓ : GOK Tryz.prog (gam [(147, sHasSufL)]) := (.cons okHasSufL .nil)
  subst h
  unfold cutE
  refine AW.of hΓ mixed [] _ _ _ rfl ?_
  simp only [go_sem, sHasSufL]
  have hp : endsL a = true → 0 < a.length := fun h => by
    cases a with
    | nil => cases h
    | cons _ _ => simp
  refine ⟨ha, fun h => ?_, fun h => ?_⟩
  · have h : endsL a = false := by simpa using h
    exact ⟨by rw [if_neg (by simp [h])], h.symm⟩
  · have h : endsL a = true := by simpa using h
    have := hp h
    refine ⟨by omega, by omega, ?_, h.symm⟩
    rw [if_pos h]
    congr 1
    omega
def sCutS : Spec := Spec.f2 kS kS (fun a b => a.length ≤ 100000000000 ∧ b = [10]) (fun a _ => tu2 (kS.enc (cutE a)) (kB.enc (endsL a)))
theorem okCutS : SpecOK Tryz.prog 143 sCutS := by
  refine SpecOK.f2 Tryz.func143 rfl (by decide) Tryz.results143 Tryz.ntmps143 (by decide) fun a b ⟨ha, h⟩ => ?_
  have hΓ : GOK Tryz.prog (gam [(161, sCutSL)]) := (.cons okCutSL .nil)
  subst h
  refine AW.of hΓ mixed [] _ _ _ rfl ?_
  simp only [go_sem, sCutSL]
  exact ha
def sCutPL : Spec := Spec.f2 kS kS (fun a b => a.length ≤ 100000000000 ∧ b.length = 1) (fun a b => tu2 (kS.enc (cutP a (b.getD 0 0))) (kB.enc (prB a b)))
theorem okCutPL : SpecOK Tryz.prog 162 sCutPL := by
  refine SpecOK.f2 Tryz.func162 rfl (by decide) Tryz.results162 Tryz.ntmps162 (by decide) fun a b ⟨ha, h⟩ => ?_
  have hΓ : GOK Tryz.prog (gam [(177, sHasPreL)]) := (.cons okHasPreL .nil)
  unfold cutP
  have hb : [b.getD 0 0] = b := by
    match b, h with
    | [c], _ => rfl
  refine AW.of hΓ mixed [] _ _ _ rfl ?_
  simp only [go_sem, sHasPreL, hb]
  refine ⟨⟨ha, h⟩, fun h => ?_, fun h => ?_⟩
  · have h : prB a b = false := by simpa using h
    exact ⟨by rw [if_neg (prB_no.1 h)], h.symm⟩
  · have h : prB a b = true := by simpa using h
    have h1 := (prB_iff a b).1 h
    have := congrArg List.length h1
    rw [List.length_take] at this
    refine ⟨by omega, ?_, h.symm⟩
    rw [if_pos h1, show b.length = 1 by assumption]
def sCutP : Spec := Spec.f2 kS kS (fun a b => a.length ≤ 100000000000 ∧ b.length = 1) (fun a b => tu2 (kS.enc (cutP a (b.getD 0 0))) (kB.enc (prB a b)))
theorem okCutP : SpecOK Tryz.prog 144 sCutP := by
  refine SpecOK.f2 Tryz.func144 rfl (by decide) Tryz.results144 Tryz.ntmps144 (by decide) fun a b ⟨ha, h⟩ => ?_
  have hΓ : GOK Tryz.prog (gam [(162, sCutPL)]) := (.cons okCutPL .nil)
  refine AW.of hΓ mixed [] _ _ _ rfl ?_
  simp only [go_sem, sCutPL]
  exact ⟨ha, h⟩
theorem mk_le {k : Int} {f : Bool} {l : BS} {c : Nat → AV} (h0 : c 0 = .val (.int .u8 k)) (h1 : c 1 = .val (.bool f)) (h2 : c 2 = .st l) : AVle (.ag 3 c) (.ag 3 (eMk.enc (k, f, l))) := AVle.ag fun j hj => AVle.of_eq (match j, hj with
  | 0, _ => h0
  | 1, _ => h1
  | 2, _ => h2)
def rdO (c : Int) (b : BS) : Mk × Bool := match rdI b with
  | some (f, l) => ((c, f, l), true)
  | none => (mk0, false)
theorem cutE_le (b : BS) : (cutE b).length ≤ b.length := by
  unfold cutE
  split
  · rw [List.length_take]; omega
  · exact Nat.le_refl _
theorem cutP_le (b : BS) (c : UInt8) : (cutP b c).length ≤ b.length := by
  unfold cutP
  split
  · rw [List.length_drop]; omega
  · exact Nat.le_refl _
def sRead1 : Spec := Spec.f2 kU kS (fun _ b => b.length ≤ 100000000000) (fun c b => tu2 ((kA eMk).enc (rdO c b).1) (kB.enc (rdO c b).2))
theorem okRead1 : SpecOK Tryz.prog 113 sRead1 := by
  refine SpecOK.f2 Tryz.func113 rfl (by decide) Tryz.results113 Tryz.ntmps113 (by decide) fun c b hb => ?_
  have hΓ : GOK Tryz.prog (gam [(143, sCutS), (144, sCutP)]) := (.cons okCutS (.cons okCutP .nil))
  have h1 := cutE_le b
  have h2 := cutP_le (cutE b) 33
  refine AW.of hΓ mixed [] _ _ _ rfl ?_
  simp only [go_sem, sCutS, sCutP]
  refine ⟨hb, by omega, by omega, fun h => by rw [h]; rfl, fun h => ?_, fun h => ?_⟩
  · have e : rdO c b = (mk0, false) := by
      have : rdI b = none := if_neg fun ⟨g1, g2⟩ => by
        rw [g1, g2] at h
        simp at h
      unfold rdO
      rw [this]
    rw [e]
    exact ⟨mk_le rfl rfl rfl, rfl⟩
  · have e : rdO c b = ((c, prB (cutE b) [33], cutP (cutP (cutE b) 33) 32), true) := by
      have : rdI b = some (prB (cutE b) [33], cutP (cutP (cutE b) 33) 32) := if_pos (by
        simp only [Bool.or_eq_false_iff, Bool.not_eq_false', decide_eq_false_iff_not, Decidable.not_not] at h
        exact h)
      unfold rdO
      rw [this]
    rw [e]
    exact ⟨mk_le rfl rfl rfl, rfl⟩
def sLineI : Spec := Spec.f2 (kA eMk) kI (fun m w => signI m.1 ∧ 0 ≤ w ∧ w ≤ 10000000000 ∧ m.2.2.length ≤ 10000000000) (fun m w => kS.enc (lineM m w))
theorem okLineI : SpecOK Tryz.prog 133 sLineI := by
  refine SpecOK.f2 Tryz.func133 rfl (by decide) Tryz.results133 Tryz.ntmps133 (by decide) fun m w ⟨hk, hw1, hw2, hl⟩ => ?_
  have hΓ : GOK Tryz.prog (gam [(155, sRepeat)]) := (.cons okRepeat .nil)
  obtain ⟨k, f, l⟩ := m
  simp only at hk hl
  have e1 : Utf8.encode (IntKind.i32.wrap k) = ⟨([UInt8.ofNat k.toNat] : List UInt8).toArray⟩ := by
    rcases hk with rfl | rfl | rfl | rfl <;> rfl
  cases f
  all_goals (
    by_cases h : l = []
    all_goals (
      refine AW.of hΓ mixed [] _ _ _ rfl ?_
      simp only [go_sem, sRepeat, h]
      refine AW.fork ?_
      refine AW.of hΓ mixed [] _ _ _ rfl ?_
      simp only [go_sem, sRepeat, h]
      refine AW.fork ?_
      refine AW.of hΓ mixed [] _ _ _ rfl ?_
      simp only [go_sem, sRepeat, h]
      try refine ⟨by omega, by omega, ?_⟩
      refine AW.fork (AW.regionO hΓ [false, false, false, true] ?_)
      simp only [go_sem, sRepeat, h]
      refine rune_wp rfl (by rw [Tryz.underlying21]; rfl) Tryz.underlying9 rfl e1 (Nat.lt_of_lt_of_le (by decide : 19 < 25) (Nat.le_refl _)) ?_
      simp only [go_sem, sRepeat, h]
      refine ⟨by omega, by omega, by omega, ?_⟩
      refine AW.of hΓ mixed [] _ _ _ rfl ?_
      simp only [go_sem, sRepeat, h]
      simp [lineM, tailM, h]))
def sReadM : Spec := Spec.f2 kS kI (fun l _ => l.length ≤ 100000000000) (fun l w => tu3 ((kA eMk).enc (readM l w).1) (kB.enc (readM l w).2.1) (kI.enc (readM l w).2.2))
theorem mk0_le {c : Nat → AV} (h0 : c 0 = .val (.int .u8 0)) (h1 : c 1 = .val (.bool false)) (h2 : c 2 = .st []) : AVle (.ag 3 c) (.ag 3 (eMk.enc mk0)) := mk_le h0 h1 h2
theorem okReadM : SpecOK Tryz.prog 64 sReadM := by
  refine SpecOK.f2 Tryz.func64 rfl (by decide) Tryz.results64 Tryz.ntmps64 (by decide) fun l w hl => ?_
  have hΓ : GOK Tryz.prog (gam [(89, sIsWidth), (112, sRun), (113, sRead1), (114, sMayBe)]) := (.cons okIsWidth (.cons okRun (.cons okRead1 (.cons okMayBe .nil))))
  by_cases hw : wideM w = false
  · refine AW.of hΓ mixed [200005] _ _ _ rfl ?_
    simp only [go_sem, sIsWidth, sRun, sRead1, sMayBe, hw]
    have e : readM l w = (mk0, false, 4) := if_pos hw
    rw [e]
    exact ⟨mk0_le rfl rfl rfl, rfl, rfl⟩
  have hw' : wideM w = true := by simpa using hw
  have hw2 := wide_iff.1 hw'
  by_cases hr : (runL l : Int) < w
  · have hr' : ((runL l : Int) < w) = True := eq_true hr
    refine AW.of hΓ mixed [200005] _ _ _ rfl ?_
    simp only [go_sem, sIsWidth, sRun, sRead1, sMayBe, hw', hr']
    have e : readM l w = (mk0, false, 0) := by unfold readM; rw [if_neg hw, if_pos hr]
    rw [e]
    exact ⟨hl, mk0_le rfl rfl rfl, rfl, rfl⟩
  · have hr' : ((runL l : Int) < w) = False := eq_false hr
    have hrl := runL_le l
    have e : readM l w = (match rdT (l.drop w.toNat) with
      | some (f, x) => if mayM ((l.getD 0 0).toNat, f, x) = true then (((l.getD 0 0).toNat, f, x), true, 0) else (mk0, false, 6)
      | none => (mk0, false, 6)) := by
      conv => lhs; unfold readM
      rw [if_neg hw, if_neg hr]
      all_goals rfl
    refine AW.of hΓ mixed [200005] _ _ _ rfl ?_
    simp only [go_sem, sIsWidth, sRun, sRead1, sMayBe, hw', hr']
    refine ⟨hl, AW.drawZ hΓ mixed 10 [11] [8, 11] [] (by decide +kernel) ?_⟩
    simp only [go_sem, sIsWidth, sRun, sRead1, sMayBe]
    have ro : rdO ((l.getD 0 0).toNat : Int) (l.drop w.toNat) = (match rdT (l.drop w.toNat) with
      | some (f, x) => (((l.getD 0 0).toNat, f, x), true)
      | none => (mk0, false)) := by
      unfold rdO
      rw [rdI_eq]
    cases hT : rdT (l.drop w.toNat) with
    | none =>
      rw [hT] at ro e
      dsimp only at ro e
      rw [ro, e]
      refine ⟨by omega, ⟨by omega, by omega, by omega⟩, by omega, fun h => by simp at h, fun _ => ⟨mk0_le rfl rfl rfl, rfl, rfl⟩, fun h => ?_⟩
      simp at h
    | some p =>
      obtain ⟨f, x⟩ := p
      rw [hT] at ro e
      dsimp only at ro e
      rw [ro]
      refine ⟨by omega, ⟨by omega, by omega, by omega⟩, by omega, fun _ => rfl, fun h => ?_, fun h => ?_⟩
      · have hm : ¬ mayM ((l.getD 0 0).toNat, f, x) = true := by simpa using h
        rw [e, if_neg hm]
        exact ⟨mk0_le rfl rfl rfl, rfl, rfl⟩
      · have hm : mayM ((l.getD 0 0).toNat, f, x) = true := by simpa using h
        rw [e, if_pos hm]
        exact ⟨mk_le rfl rfl rfl, rfl, rfl⟩
end Go.Proofs.YtjfmigpahglajaaGreatDoor
set_option linter.unusedVariables false
set_option maxRecDepth 100000
set_option maxHeartbeats 2000000
namespace Go.Proofs.YtjfmigpahglajaaGreatDoor
open Go Go.RowKit
theorem bldSize : (Tryz.prog.info? 149).map (·.size) = some 2 := by kernel_rfl
theorem bldLies : liesAt Tryz.prog Tryz.prog.depth 149 (2 / Tryz.prog.cellsOf 149) 0 149 1 = true := by kernel_rfl
theorem check_used (b : Nat) (w : World) (h0 : w.cell? ⟨b, 0, none⟩ = some (.pointer (some ⟨b, 0, none⟩))) :
    Calls Tryz.prog 135 #[.pointer (some ⟨b, 0, none⟩)] w fun e w' => e = .returned (.tuple #[]) ∧ w' = w := by
  obtain ⟨j, hj, _⟩ := Option.map_eq_some_iff.1 bldSize
  go_enter Tryz.func135, Tryz.ntmps135
  go_wp2
  rw [Lib.run_neq_ptr_same w _ Tryz.underlying146 hj]
  go_wp2
  go_end0
  exact ⟨rfl, rfl⟩
theorem check_fresh (b : Nat) (w : World) (h0 : w.cell? ⟨b, 0, none⟩ = some (.pointer none)) (hsh : w.shape? b = some (149, 2)) (hfz : w.frozen? ⟨b, 0, none⟩ = false) :
    Calls Tryz.prog 135 #[.pointer (some ⟨b, 0, none⟩)] w fun e w' => e = .returned (.tuple #[]) ∧ w' = w.setCell ⟨b, 0, none⟩ (.pointer (some ⟨b, 0, none⟩)) := by
  obtain ⟨j, hj, hjs⟩ := Option.map_eq_some_iff.1 bldSize
  go_enter Tryz.func135, Tryz.ntmps135
  go_wp2
  rw [Lib.run_to_unsafe w ⟨b, 0, none⟩ Tryz.underlying146 Tryz.underlying208 hj (by rw [hjs]; decide) hsh (Nat.zero_lt_succ 1)]
  simp only [Result.andThen]
  rw [Oper.upon_value]
  go_wp2
  rw [run_callFunc_extern Tryz.func156 (by kernel_rfl) (by kernel_rfl) (by kernel_rfl) (e := Extern.AbiNoEscape.same) (by kernel_rfl)]
  rw [Lib.run_noEscape]
  simp only [Result.andThen]
  rw [Oper.upon_value]
  go_wp2
  rw [Lib.run_from_unsafe w ⟨b, 0, none⟩ Tryz.underlying208 Tryz.underlying146 hj hsh bldLies]
  simp only [Result.andThen]
  rw [Oper.upon_value]
  go_wp2
  go_end0
  exact ⟨rfl, rfl⟩
theorem fr_freeze (w : World) (g n : Nat) : Fr (fun b => b = g) w (w.freeze ⟨g, 0, none⟩ n) := by
  unfold World.freeze
  split
  · exact Fr.refl _ _
  · exact ⟨rfl, rfl, rfl, by simp, fun k _ hk => by simp [Array.getElem?_modify, Ne.symm hk]⟩
theorem cellByte : Tryz.prog.cellsOf 5 = 1 := by kernel_rfl
theorem str_some (b g cap : Nat) (p : Value) (cur : Array Value) (l : List UInt8) (w : World) (hbk : w.heap[b]? = some (.cells #[p, .slice (some ⟨g, 0, none⟩) l.length cap] 149 (0, 0)))
    (hg : w.heap[g]? = some (.cells cur 5 (0, 0))) (h0 : l ≠ []) (hn : l.length ≤ cur.size) (hcap : cap ≠ 0) (h63 : l.length ≤ 9223372036854775807) (hc : ∀ (j : Nat) (x : UInt8), l[j]? = some x → cur[j]? = some (Value.int .u8 x.toNat)) :
    Calls Tryz.prog 93 #[.pointer (some ⟨b, 0, none⟩)] w fun e w' => e = .returned (.string ⟨l.toArray⟩) ∧ Fr (fun k => k = g) w w' := by
  have c1 : w.drew.cell? ⟨b, 1, none⟩ = some (.slice (some ⟨g, 0, none⟩) l.length cap) := by
    have : w.drew.heap[b]? = some (.cells #[p, .slice (some ⟨g, 0, none⟩) l.length cap] 149 (0, 0)) := hbk
    simp [World.cell?, this]
  have hSD : (Builtin.unsafeSliceData_ #[147] 191 #[.slice (some ⟨g, 0, none⟩) l.length cap]).run Tryz.prog w.drew = .ok (.pointer (some ⟨g, 0, none⟩)) w.drew :=
    Lib.run_unsafeSliceData_row _ _ _ _ _ _ hcap
  have hg' : w.drew.heap[g]? = some (.cells cur 5 (0, 0)) := hg
  have hUS : (Builtin.unsafeString_ #[191, 3] 9 #[.pointer (some ⟨g, 0, none⟩), .int .i64 l.length]).run Tryz.prog w.drew = .ok (.string ⟨l.toArray⟩) (w.drew.freeze ⟨g, 0, none⟩ l.length) := by
    refine Lib.run_unsafeString_row w.drew 191 3 9 5 Tryz.underlying191 cellByte g cur.size (by simp [World.shape?, hg']) l h0 hn h63 ?_
    intro j x hx
    have hj := hc j x hx
    rw [add_off, Nat.zero_add]
    simp only [World.cell?, hg']
    exact hj
  go_enter Tryz.func93, Tryz.ntmps93
  go_wp2
  go_region
  all_goals (go_wp2; go_ret; exact ⟨rfl, (Fr.refl _ w).drew.trans (fr_freeze _ _ _)⟩)
theorem str_none (b : Nat) (p : Value) (w : World) (hbk : w.heap[b]? = some (.cells #[p, .slice none 0 0] 149 (0, 0))) :
    Calls Tryz.prog 93 #[.pointer (some ⟨b, 0, none⟩)] w fun e w' => e = .returned (.string ⟨#[]⟩) ∧ Fr (fun _ => False) w w' := by
  have c1 : w.drew.cell? ⟨b, 1, none⟩ = some (.slice none 0 0) := by
    have : w.drew.heap[b]? = some (.cells #[p, .slice none 0 0] 149 (0, 0)) := hbk
    simp [World.cell?, this]
  have hSD : (Builtin.unsafeSliceData_ #[147] 191 #[.slice none 0 0]).run Tryz.prog w.drew = .ok (.pointer none) w.drew := rfl
  have hUS : ∀ (W : World) (q : Option Addr), (Builtin.unsafeString_ #[191, 3] 9 #[.pointer q, .int .i64 0]).run Tryz.prog W = .ok (.string .empty) W := fun W q => Lib.run_unsafeString_none W _ _ _ q
  go_enter Tryz.func93, Tryz.ntmps93
  go_wp2
  go_region
  all_goals (go_wp2; go_ret; exact ⟨rfl, (Fr.refl _ w).drew⟩)
end Go.Proofs.YtjfmigpahglajaaGreatDoor
set_option linter.unusedSimpArgs false
set_option linter.unusedVariables false
set_option maxRecDepth 100000
set_option maxHeartbeats 2000000
namespace Go.Proofs.YtjfmigpahglajaaGreatDoor
open Go
def bldC (f : Bool) (q v r u n : Nat) : Nat → AV := fun j => if j = 0 then (if f = true then .pt q v 0 else .val (.pointer none)) else .ow r u n
def sCheck : MSpec := fun args hp top nx K => ∃ (f : Bool) (q v r u n : Nat), args = [.pt q v 0] ∧ hp q = .box v 149 2 (bldC f q v r u n) ∧ K (.val (.tuple #[])) (updR hp q (.box v 149 2 (bldC true q v r u n))) top nx
theorem fr_setCell (w : World) (g o : Nat) (x : Value) : Fr (fun b => b = g) w (w.setCell ⟨g, o, none⟩ x) :=
  ⟨rfl, rfl, rfl, by simp [World.setCell], fun k _ hk => by simp [World.setCell, Array.getElem?_modify, Ne.symm hk]⟩
theorem okCheck : MethOK Tryz.prog 135 sCheck := by
  refine ⟨enters Tryz.func135 rfl (by decide), ?_⟩
  rintro args hp top nx K ⟨f, q, v, r, u, n, rfl, hrow, hK⟩ c η w vs hs hdead hargs
  cases hargs with
  | cons hx hr => cases hr with
    | nil =>
      obtain ⟨g, cap, hη, rfl⟩ := hx
      have hr := hs.rows q
      rw [hrow] at hr
      obtain ⟨b, cur, hb, hh, hsz, hc⟩ := hr _ _ hη
      obtain rfl : g = b := by simpa using hb
      obtain ⟨x0, hx0, ho0, hr0⟩ := hc 0 (by decide)
      have hblk : (hp q).blk η = some g := by rw [hrow]; simp [Row.blk, Row.ver, hη]
      have hcell : w.cell? ⟨g, 0, none⟩ = some x0 := by rw [cell_heap hh]; exact hx0
      cases f with
      | true =>
        have hr0 : ∃ g' cap', η v = some (some g', cap') ∧ x0 = .pointer (some ⟨g', 0, none⟩) := hr0
        obtain ⟨g', cap', h1, rfl⟩ := hr0
        rw [hη] at h1
        simp only [Option.some.injEq, Prod.mk.injEq] at h1
        obtain ⟨rfl, rfl⟩ := h1
        refine (check_used g w hcell).mono ?_
        rintro e w' ⟨rfl, rfl⟩
        have e : updR hp q (.box v 149 2 (bldC true q v r u n)) = hp := by
          rw [← hrow]
          funext p
          unfold updR
          split
          · rename_i h; rw [h]
          · rfl
        rw [e] at hK
        exact ⟨_, _, _, _, _, η, rfl, hK, hs, hdead, rfl⟩
      | false =>
        have hr0 : x0 = .pointer none := hr0
        subst hr0
        refine (check_fresh g w hcell (by simp [World.shape?, hh, hsz]) (by simp [World.frozen?, hh])).mono ?_
        rintro e w' ⟨rfl, rfl⟩
        have hf := fr_setCell w g 0 (.pointer (some ⟨g, 0, none⟩))
        have hO : ∀ k, k < w.heap.size → k = g → Lset c η hp k := fun k _ e => .inr ⟨q, by rw [e]; exact hblk⟩
        have hwr := hs.write (row := .box v 149 2 (bldC true q v r u n)) hblk (by rw [hrow]; rfl) hf (by
          intro g' cap' he
          rw [hη] at he
          simp only [Option.some.injEq, Prod.mk.injEq] at he
          obtain ⟨rfl, rfl⟩ := he
          refine ⟨g, cur.setIfInBounds 0 (.pointer (some ⟨g, 0, none⟩)), rfl, by simp [World.setCell, Array.getElem?_modify, hh], by simp [hsz], fun j hj => ?_⟩
          match j, hj with
          | 0, _ => exact ⟨_, by simp [hsz], rfl, g, cap, hη, rfl⟩
          | 1, _ =>
            obtain ⟨x1, hx1, ho1, hr1⟩ := hc 1 (by decide)
            exact ⟨x1, by rw [Array.getElem?_setIfInBounds_ne (by decide)]; exact hx1, ho1, Rep.keep hf hO (fun _ _ h => h) _ _ _ _ (Env.le_refl _) hr1⟩)
        refine ⟨_, _, _, _, _, η, rfl, hK, hwr.1, fun p hp' => ?_, rfl⟩
        by_cases e : p = q
        · subst e; rw [hdead p hp'] at hrow; cases hrow
        · rw [updR_ne _ _ e]; exact hdead p hp'
attribute [local irreducible] AW AVle ASle RowLe
def rowB (u : Nat) (l : List UInt8) : Row := .sl u 5 1 l.length (byteC l)
theorem rowB_app {nx n m : Nat} {l s : List UInt8} (hn : n = l.length) (hm : m = n + s.length) : RowLe (.sl nx 5 1 m (apC n (byteC l) (byteC s))) (rowB nx (l ++ s)) := by
  subst hn hm
  refine RowLe.sl (by simp) fun i hi j hj => AVle.of_eq ?_
  unfold apC byteC
  by_cases h : i < l.length
  · rw [if_pos h]
    simp [List.getD, List.getElem?_append_left h]
  · rw [if_neg h]
    simp [List.getD, List.getElem?_append_right (Nat.le_of_not_lt h)]
theorem bldC1 (f : Bool) (q v r u n : Nat) : bldC f q v r u n 1 = .ow r u n := rfl
def sWriteS0 : MSpec := fun args hp top nx K => ∃ (f : Bool) (v u : Nat) (l s : List UInt8), args = [.pt 0 v 0, .st s] ∧ hp = rws [(0, .box v 149 2 (bldC f 0 v 1 u l.length)), (1, rowB u l)] ∧ top = 2 ∧ l.length + s.length ≤ 100000000000 ∧
  ∀ u' nx', (u' = u ∨ nx ≤ u') → nx ≤ nx' → K (tu2 (.val (.int .i64 s.length)) (.val .nilIface)) (rws [(0, .box v 149 2 (bldC true 0 v 1 u' (l ++ s).length)), (1, rowB u' (l ++ s))]) 2 nx'
theorem okWriteS0 : MethOK Tryz.prog 92 sWriteS0 := by
  refine MethOK.mk Tryz.func92 rfl (by decide) Tryz.results92 Tryz.ntmps92 ?_
  rintro args hp top nx K ⟨f, v, u, l, s, rfl, rfl, rfl, hl, hK⟩
  have hΓ : GOK Tryz.prog (gam [(135, sCheck)]) := (.cons okCheck .nil)
  refine ⟨Nat.le_of_ble_eq_true rfl, AW.late ?_⟩
  refine AW.of hΓ mixed [1] _ _ _ rfl ?_
  simp only [go_sem, sCheck]
  refine ⟨f, 0, v, 1, u, l.length, rfl, rfl, ?_⟩
  refine AW.cut ⟨[(0, .pt 0 v 0), (1, .st s)], [(0, .box v 149 2 (bldC true 0 v 1 u l.length)), (1, rowB u l)], 19, 2, nx, []⟩ ?_ ?_
  · simp only [go_sem, sCheck]
    exact ⟨RowLe.refl _, RowLe.refl _⟩
  refine AW.fork (AW.regionO hΓ [false, false, false, false, false, false, true] ?_)
  simp only [go_sem, sCheck, bldC1]
  refine appS_wp rfl Tryz.underlying147 Tryz.underlying9 rfl rfl rfl (Nat.lt_of_lt_of_le (by decide : 14 < 19) (Nat.le_refl _)) ⟨cells5, by decide, by rw [bytes5]; decide, by rw [bytes5]; omega, _, zero5, rfl⟩ ?_
  simp only [go_sem, sCheck, bldC1]
  refine AW.of hΓ mixed [] _ _ _ rfl ?_
  simp only [go_sem, sCheck]
  refine ⟨_, toFitsV (fun p => p) (l := [(4, .val (.int .i64 s.length)), (5, .val .nilIface)]) (r := [(0, .box v 149 2 (bldC true 0 v 1 nx (l ++ s).length)), (1, rowB nx (l ++ s))]) (sz := 19) (top := 2) (nx := nx + 1) (df := []) ?_, ?_⟩
  · simp only [go_sem, sCheck]
    refine ⟨AVle.refl _, RowLe.box fun j hj => ?_, rowB_app rfl rfl⟩
    match j, hj with
    | 0, _ => exact AVle.refl _
    | 1, _ => exact AVle.refl _
  · simp only [go_sem, sCheck]
    have := hK nx (nx + 1) (.inr (Nat.le_refl _)) (by omega)
    rwa [List.length_append] at this
def sWriteS : MSpec := framed sWriteS0
theorem okWriteS : MethOK Tryz.prog 92 sWriteS := okWriteS0.frame
theorem rows_2 {hp : Nat → Row} {p q : Nat} {r s : Row} (h : RowLe (hp p) r) (h2 : RowLe (hp q) s) : ∀ (i o : Nat), [p, q][i]? = some o → RowLe (hp o) (rws [(0, r), (1, s)] i) := by
  intro i o hq
  match i with
  | 0 =>
    simp only [List.getElem?_cons_zero, Option.some.injEq] at hq
    subst hq
    exact h
  | 1 =>
    simp only [List.getElem?_cons_succ, List.getElem?_cons_zero, Option.some.injEq] at hq
    subst hq
    exact h2
  | i + 2 => simp at hq
theorem bld_le (f : Bool) (p q p' q' v u n : Nat) : RowLe (.box v 149 2 (bldC f p v q u n)) (.box v 149 2 (bldC f p' v q' u n)) := RowLe.box fun j hj => by
  match j, hj with
  | 0, _ =>
    cases f with
    | true => exact AVle.pt
    | false => exact AVle.refl _
  | 1, _ => exact AVle.ow
theorem write_go {f : Bool} {p q v u n : Nat} {l s : List UInt8} {hp : Nat → Row} {top nx : Nat} {K : AV → (Nat → Row) → Nat → Nat → Prop} (hn : n = l.length) (hpq : p ≠ q)
    (hr : RowLe (hp p) (.box v 149 2 (bldC f p v q u n))) (hr2 : RowLe (hp q) (rowB u l)) (ht : p < top ∧ q < top) (hl : l.length + s.length ≤ 100000000000)
    (hK : ∀ u' nx', (u' = u ∨ nx ≤ u') → nx ≤ nx' → K (tu2 (.val (.int .i64 s.length)) (.val .nilIface)) (updR (updR hp p (.box v 149 2 (bldC true p v q u' (l ++ s).length))) q (rowB u' (l ++ s))) top nx') :
    sWriteS [.pt p v 0, .st s] hp top nx K := by
  subst hn
  have e1 : (hp p).ver = some v := hr.vers.symm
  have e2 : (hp q).ver = some u := hr2.vers.symm
  refine ⟨[p, q], [.pt 0 v 0, .st s], rws [(0, .box v 149 2 (bldC f 0 v 1 u l.length)), (1, rowB u l)], by simp [hpq], by simp; omega, .cons AVle.pt (.cons (AVle.refl _) .nil), rows_2 (hr.trans (bld_le f p q 0 1 v u _)) hr2, fun i hi => rws_top (top := 2) (by simp) i (by simpa using hi), f, v, u, l, s, rfl, rfl, rfl, hl, fun u' nx' h1 h3 => ?_⟩
  refine ⟨_, _, AVle.refl _, fun i o ho => ?_, fun o ho => ?_, fun o ho w hv => ?_, hK u' nx' h1 h3⟩
  · match i with
    | 0 =>
      simp only [List.getElem?_cons_zero, Option.some.injEq] at ho
      subst ho
      rw [updR_ne _ _ hpq, updR_at]
      exact bld_le true 0 1 p q v u' _
    | 1 =>
      simp only [List.getElem?_cons_succ, List.getElem?_cons_zero, Option.some.injEq] at ho
      subst ho
      rw [updR_at]
      exact RowLe.refl _
    | i + 2 => simp at ho
  · simp only [List.mem_cons, List.not_mem_nil, or_false, not_or] at ho
    rw [updR_ne _ _ ho.2, updR_ne _ _ ho.1]
  · simp only [List.mem_cons, List.not_mem_nil, or_false] at ho
    rcases ho with rfl | rfl
    · rw [updR_ne _ _ hpq, updR_at] at hv
      have : some v = some w := hv
      obtain rfl := Option.some.inj this
      exact .inl e1
    · rw [updR_at] at hv
      have : some u' = some w := hv
      obtain rfl := Option.some.inj this
      rcases h1 with rfl | h1
      · exact .inl e2
      · exact .inr h1
theorem bld_len {f : Bool} {p v q u n m : Nat} (h : n = m) : RowLe (.box v 149 2 (bldC f p v q u n)) (.box v 149 2 (bldC f p v q u m)) := by
  subst h
  exact RowLe.refl _
theorem rowB_eq {u : Nat} {l m : List UInt8} (h : l = m) : RowLe (rowB u l) (rowB u m) := by
  subst h
  exact RowLe.refl _
def bld0 : Nat → AV := fun j => if j = 0 then .val (.pointer none) else .val (.slice none 0 0)
def sStr : MSpec := fun args hp top nx K => (∃ (f : Bool) (p v q u : Nat) (l : List UInt8), args = [.pt p v 0] ∧ hp p = .box v 149 2 (bldC f p v q u l.length) ∧ hp q = rowB u l ∧ l ≠ [] ∧ l.length ≤ 100000000000 ∧ K (.st l) (updR hp q .dead) top nx) ∨
  ∃ (p v : Nat), args = [.pt p v 0] ∧ hp p = .box v 149 2 bld0 ∧ K (.st []) hp top nx
theorem okStr : MethOK Tryz.prog 93 sStr := by
  refine ⟨enters Tryz.func93 rfl (by decide), ?_⟩
  intro args hp top nx K hS c η w vs hs hdead hargs
  rcases hS with ⟨f, p, v, q, u, l, rfl, hrow, hrow2, h0, hlen, hK⟩ | ⟨p, v, rfl, hrow, hK⟩
  · cases hargs with
    | cons hx hr => cases hr with
      | nil =>
        obtain ⟨b, cap, hη, rfl⟩ := hx
        have hr := hs.rows p
        rw [hrow] at hr
        obtain ⟨b', cur, hb, hh, hsz, hc⟩ := hr _ _ hη
        obtain rfl : b = b' := by simpa using hb
        obtain ⟨x0, hx0, _, _⟩ := hc 0 (by decide)
        obtain ⟨x1, hx1, _, hr1⟩ := hc 1 (by decide)
        obtain ⟨g, cap', hη', hv⟩ := hr1
        have hr2 := hs.rows q
        rw [hrow2] at hr2
        have hr2 := hr2 g cap' hη'
        have hpos : 0 < l.length := List.length_pos_iff.2 h0
        cases g with
        | none => exact absurd hv.1 (by omega)
        | some g =>
          obtain ⟨rfl, hcap⟩ := hv
          obtain ⟨cur2, hh2, hsz2, hn2, hm2, hc2⟩ := hr2
          have hcur : cur = #[x0, .slice (some ⟨g, 0, none⟩) l.length cap'] := by
            apply Array.ext
            · simp [hsz]
            · intro i h1 h2
              match i, h2 with
              | 0, _ => rw [Array.getElem?_eq_getElem h1] at hx0; exact Option.some.inj hx0
              | 1, _ => rw [Array.getElem?_eq_getElem h1] at hx1; exact Option.some.inj hx1
          have hblk : (hp q).blk η = some g := by rw [hrow2]; simp [rowB, Row.blk, Row.ver, hη']
          refine (str_some b g cap' x0 cur2 l w (by rw [hh, hcur]) hh2 h0 (by omega) (by omega) (by omega) fun j x hj => ?_).mono ?_
          · obtain ⟨hjl, rfl⟩ := List.getElem?_eq_some_iff.1 hj
            obtain ⟨y, hy, _, hry⟩ := hc2 j hjl 0 (by decide)
            have hry : y = .int .u8 (l.getD j 0).toNat := hry
            rw [Nat.mul_one, Nat.add_zero] at hy
            rw [hy, hry]
            simp [List.getD, hjl]
          · rintro e w' ⟨rfl, hf⟩
            obtain ⟨hs', _⟩ := hs.sink hblk hf
            refine ⟨_, _, _, _, _, η, rfl, hK, hs', fun o ho => ?_, rfl⟩
            by_cases e : o = q
            · subst e; rw [updR_at]
            · rw [updR_ne _ _ e]; exact hdead o ho
  · cases hargs with
    | cons hx hr => cases hr with
      | nil =>
        obtain ⟨b, cap, hη, rfl⟩ := hx
        have hr := hs.rows p
        rw [hrow] at hr
        obtain ⟨b', cur, hb, hh, hsz, hc⟩ := hr _ _ hη
        obtain rfl : b = b' := by simpa using hb
        obtain ⟨x0, hx0, _, _⟩ := hc 0 (by decide)
        obtain ⟨x1, hx1, _, hr1⟩ := hc 1 (by decide)
        have hr1 : x1 = .slice none 0 0 := hr1
        subst hr1
        have hcur : cur = #[x0, .slice none 0 0] := by
          apply Array.ext
          · simp [hsz]
          · intro i h1 h2
            match i, h2 with
            | 0, _ => rw [Array.getElem?_eq_getElem h1] at hx0; exact Option.some.inj hx0
            | 1, _ => rw [Array.getElem?_eq_getElem h1] at hx1; exact Option.some.inj hx1
        refine (str_none b x0 w (by rw [hh, hcur])).mono ?_
        rintro e w' ⟨rfl, hf⟩
        exact ⟨_, _, _, _, _, η, rfl, hK, hs.world hf, hdead, rfl⟩
end Go.Proofs.YtjfmigpahglajaaGreatDoor
set_option linter.unusedSimpArgs false
set_option linter.unusedVariables false
set_option maxRecDepth 100000
set_option maxHeartbeats 2000000
namespace Go.Proofs.YtjfmigpahglajaaGreatDoor
open Go
attribute [local irreducible] AW AVle ASle RowLe
theorem All2.same : ∀ (xs : List AV), All2 AVle xs xs
  | [] => .nil
  | x :: xs => .cons (AVle.refl x) (All2.same xs)
def sBld (dom : List AV → List UInt8 → AV → Prop) : MSpec := fun args hp top nx K => ∃ (f : Bool) (v u : Nat) (l : List UInt8) (xs : List AV) (a : List UInt8) (r : AV), args = .pt 0 v 0 :: xs ∧ dom xs a r ∧
  hp = rws [(0, .box v 149 2 (bldC f 0 v 1 u l.length)), (1, rowB u l)] ∧ top = 2 ∧ l.length + a.length ≤ 100000000000 ∧
  ∀ u' nx', (u' = u ∨ nx ≤ u') → nx ≤ nx' → K r (rws [(0, .box v 149 2 (bldC true 0 v 1 u' (l ++ a).length)), (1, rowB u' (l ++ a))]) 2 nx'
theorem bld_go {dom : List AV → List UInt8 → AV → Prop} {xs : List AV} {a : List UInt8} {z : AV} {f : Bool} {p q v u n : Nat} {l : List UInt8} {hp : Nat → Row} {top nx : Nat} {K : AV → (Nat → Row) → Nat → Nat → Prop} (hd : dom xs a z) (hn : n = l.length) (hpq : p ≠ q)
    (hr : RowLe (hp p) (.box v 149 2 (bldC f p v q u n))) (hr2 : RowLe (hp q) (rowB u l)) (ht : p < top ∧ q < top) (hl : l.length + a.length ≤ 100000000000)
    (hK : ∀ u' nx', (u' = u ∨ nx ≤ u') → nx ≤ nx' → K z (updR (updR hp p (.box v 149 2 (bldC true p v q u' (l ++ a).length))) q (rowB u' (l ++ a))) top nx') :
    framed (sBld dom) (.pt p v 0 :: xs) hp top nx K := by
  subst hn
  have e1 : (hp p).ver = some v := hr.vers.symm
  have e2 : (hp q).ver = some u := hr2.vers.symm
  refine ⟨[p, q], .pt 0 v 0 :: xs, rws [(0, .box v 149 2 (bldC f 0 v 1 u l.length)), (1, rowB u l)], by simp [hpq], by simp; omega, .cons AVle.pt (All2.same xs), rows_2 (hr.trans (bld_le f p q 0 1 v u _)) hr2, fun i hi => rws_top (top := 2) (by simp) i (by simpa using hi), f, v, u, l, xs, a, z, rfl, hd, rfl, rfl, hl, fun u' nx' h1 h3 => ?_⟩
  refine ⟨_, _, AVle.refl _, fun i o ho => ?_, fun o ho => ?_, fun o ho w hv => ?_, hK u' nx' h1 h3⟩
  · match i with
    | 0 =>
      simp only [List.getElem?_cons_zero, Option.some.injEq] at ho
      subst ho
      rw [updR_ne _ _ hpq, updR_at]
      exact bld_le true 0 1 p q v u' _
    | 1 =>
      simp only [List.getElem?_cons_succ, List.getElem?_cons_zero, Option.some.injEq] at ho
      subst ho
      rw [updR_at]
      exact RowLe.refl _
    | i + 2 => simp at ho
  · simp only [List.mem_cons, List.not_mem_nil, or_false, not_or] at ho
    rw [updR_ne _ _ ho.2, updR_ne _ _ ho.1]
  · simp only [List.mem_cons, List.not_mem_nil, or_false] at ho
    rcases ho with rfl | rfl
    · rw [updR_ne _ _ hpq, updR_at] at hv
      have : some v = some w := hv
      obtain rfl := Option.some.inj this
      exact .inl e1
    · rw [updR_at] at hv
      have : some u' = some w := hv
      obtain rfl := Option.some.inj this
      rcases h1 with rfl | h1
      · exact .inl e2
      · exact .inr h1
end Go.Proofs.YtjfmigpahglajaaGreatDoor
