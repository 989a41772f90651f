/-
  Part 3 of what the proof rests on: values that are told, code that is walked, what comes out.
-/
import Derived.Test.YtjfmigpahglajaaGreatDoorMg2
import Derived.WalkKit
import Derived.Lib.IndexLaws
import Derived.Lib.Join
import Derived.Shelf.Strings.Builder1
import Derived.Shelf.Strings.Builder2
import Derived.Shelf.Strings.OnBuilder
import Derived.Shelf.Small.Strs
import Derived.Shelf.Strings.BuilderF
import Derived.Shelf.Strings.Search1
import Derived.Shelf.Strings.Search2
import Derived.Shelf.Strings.Search3
import Derived.Shelf.Strings.Count
import Derived.Shelf.LaysM
import Derived.Shelf.Strings.Shaped
import Derived.Shelf.Strings.Prefix
import Derived.Shelf.Strings.Split
import Derived.Shelf.Bits.Mul64
import Derived.Shelf.Strings.Repeat
import Derived.Shelf.Unicode.DecodeSlow
import Derived.Test.YtjfmigpahglajaaGreatDoorProg
import Derived.Lib.AppendStr
import Derived.ProofKit
import Derived.OpenShut
import Derived.SizedLaws
set_option linter.unusedSimpArgs false
set_option maxRecDepth 100000
namespace Go.Proofs.YtjfmigpahglajaaGreatDoor
open Go
attribute [local irreducible] AW AVle ASle RowLe
def sAheadI : Spec := Spec.f2 (kL eI) (kL eI) (fun a b => a.length < 1000000000 ∧ b.length < 1000000000) (fun a b => kI.enc (ahd a b))
theorem idleAheadI : Idle Tryz.prog 190 := idle_recover Tryz.func190 (by decide) rfl rfl
theorem okAheadI : SpecOK Tryz.prog 182 sAheadI := by
  refine SpecOK.f2D idleAheadI Tryz.func182 rfl (by decide) Tryz.results182 Tryz.ntmps182 (by decide) fun a b hd => ?_
  have hΓ : GOK Tryz.prog (gam []) := GOK.nil
  refine AW.of hΓ mixed [] _ _ _ rfl ?_
  simp only [go_sem]
  refine AW.round (α := { i : Nat // i ≤ a.length ∧ i ≤ b.length ∧ ∀ k, k < i → a.getD k 0 = b.getD k 0 }) (fun i => ⟨[(0, sL eI a), (1, sL eI b), (4, .val (.int .i64 i.1))], [], 29, 0, 0, [⟨.fn (.func 190) #[], #[]⟩]⟩) (fun i => a.length - i.1) ⟨0, by simp⟩ ?_ ?_
  · simp only [go_sem]
  · rintro ⟨i, hi, hb, hk⟩
    refine AW.of hΓ mixed [] _ _ _ rfl ?_
    simp only [go_sem]
    repeat' (first | refine And.intro ?_ ?_ | intro h)
    all_goals (try omega)
    · refine ⟨⟨i + 1, by omega, by omega, fun k hk' => ?_⟩, by simp, by simp; omega⟩
      rcases Nat.lt_or_ge k i with h' | h'
      · exact hk k h'
      · obtain rfl : k = i := by omega
        exact h.2
    · exact congrArg _ (ahd_eq 0 i a b hi hb hk fun p q => h ⟨by omega, by omega⟩)

def sBehindI : Spec := Spec.f2 (kL eI) (kL eI) (fun a b => a.length < 1000000000 ∧ b.length < 1000000000) (fun a b => kI.enc (bhd a b))
theorem idleBehindI : Idle Tryz.prog 191 := idle_recover Tryz.func191 (by decide) rfl rfl
theorem okBehindI : SpecOK Tryz.prog 183 sBehindI := by
  refine SpecOK.f2D idleBehindI Tryz.func183 rfl (by decide) Tryz.results183 Tryz.ntmps183 (by decide) fun a b hd => ?_
  have hΓ : GOK Tryz.prog (gam []) := GOK.nil
  refine AW.of hΓ mixed [] _ _ _ rfl ?_
  simp only [go_sem]
  refine AW.round (α := { i : Nat // i ≤ a.length ∧ i ≤ b.length ∧ ∀ k, k < i → a.getD (a.length - 1 - k) 0 = b.getD (b.length - 1 - k) 0 }) (fun i => ⟨[(0, sL eI a), (1, sL eI b), (4, .val (.int .i64 i.1))], [], 37, 0, 0, [⟨.fn (.func 191) #[], #[]⟩]⟩) (fun i => a.length - i.1) ⟨0, by simp⟩ ?_ ?_
  · simp only [go_sem]
  · rintro ⟨i, hi, hb, hk⟩
    refine AW.of hΓ mixed [] _ _ _ rfl ?_
    simp only [go_sem]
    have e1 : (↑i : Int) < ↑a.length → ((a.length : Int) - 1 - i).toNat = a.length - 1 - i := fun h => by omega
    have e2 : (↑i : Int) < ↑b.length → ((b.length : Int) - 1 - i).toNat = b.length - 1 - i := fun h => by omega
    repeat' (first | refine And.intro ?_ ?_ | intro h)
    all_goals (try omega)
    · refine ⟨⟨i + 1, by omega, by omega, fun k hk' => ?_⟩, by simp, by simp; omega⟩
      rcases Nat.lt_or_ge k i with h' | h'
      · exact hk k h'
      · obtain rfl : k = i := by omega
        have := h.2
        rwa [e1 h.1.1, e2 h.1.2] at this
    · refine congrArg _ (bhd_eq 0 i a b hi hb hk fun p q => ?_)
      have := h ⟨by omega, by omega⟩
      rwa [e1 (by omega), e2 (by omega)] at this

def sEndsI : Spec := Spec.f2 (kL eI) (kL eI) (fun a b => a.length < 1000000000 ∧ b.length < 1000000000) (fun a b => tu2 (kI.enc (ahd a b)) (kI.enc (bhd (a.drop (ahd a b)) (b.drop (ahd a b)))))
theorem okEndsI : SpecOK Tryz.prog 172 sEndsI := by
  refine SpecOK.f2 Tryz.func172 rfl (by decide) Tryz.results172 Tryz.ntmps172 (by decide) fun a b hd => ?_
  have hΓ : GOK Tryz.prog (gam [(182, sAheadI), (183, sBehindI)]) := .cons okAheadI (.cons okBehindI .nil)
  refine AW.of hΓ mixed [] _ _ _ rfl ?_
  have h1 := ahd_le a b
  have p1 : (List.range (a.length - ahd a b)).map (fun i => a.getD (ahd a b + i) 0) = a.drop (ahd a b) := by rw [part_eq a 0 (by omega), List.take_of_length_le (by simp)]
  have p2 : (List.range (b.length - ahd a b)).map (fun i => b.getD (ahd a b + i) 0) = b.drop (ahd a b) := by rw [part_eq b 0 (by omega), List.take_of_length_le (by simp)]
  simp only [go_sem, sAheadI, sBehindI, p1, p2, List.length_drop]
  omega
def sAheadS : Spec := Spec.f2 (kL eS) (kL eS) (fun a b => a.length < 1000000000 ∧ b.length < 1000000000) (fun a b => kI.enc (ahd a b))
theorem idleAheadS : Idle Tryz.prog 154 := idle_recover Tryz.func154 (by decide) rfl rfl
theorem okAheadS : SpecOK Tryz.prog 132 sAheadS := by
  refine SpecOK.f2D idleAheadS Tryz.func132 rfl (by decide) Tryz.results132 Tryz.ntmps132 (by decide) fun a b hd => ?_
  have hΓ : GOK Tryz.prog (gam []) := GOK.nil
  refine AW.of hΓ mixed [] _ _ _ rfl ?_
  simp only [go_sem]
  refine AW.round (α := { i : Nat // i ≤ a.length ∧ i ≤ b.length ∧ ∀ k, k < i → a.getD k [] = b.getD k [] }) (fun i => ⟨[(0, sL eS a), (1, sL eS b), (4, .val (.int .i64 i.1))], [], 29, 0, 0, [⟨.fn (.func 154) #[], #[]⟩]⟩) (fun i => a.length - i.1) ⟨0, by simp⟩ ?_ ?_
  · simp only [go_sem]
  · rintro ⟨i, hi, hb, hk⟩
    refine AW.of hΓ mixed [] _ _ _ rfl ?_
    simp only [go_sem]
    repeat' (first | refine And.intro ?_ ?_ | intro h)
    all_goals (try omega)
    · refine ⟨⟨i + 1, by omega, by omega, fun k hk' => ?_⟩, by simp, by simp; omega⟩
      rcases Nat.lt_or_ge k i with h' | h'
      · exact hk k h'
      · obtain rfl : k = i := by omega
        exact h.2
    · exact congrArg _ (ahd_eq [] i a b hi hb hk fun p q => h ⟨by omega, by omega⟩)

def sBehindS : Spec := Spec.f2 (kL eS) (kL eS) (fun a b => a.length < 1000000000 ∧ b.length < 1000000000) (fun a b => kI.enc (bhd a b))
theorem idleBehindS : Idle Tryz.prog 188 := idle_recover Tryz.func188 (by decide) rfl rfl
theorem okBehindS : SpecOK Tryz.prog 175 sBehindS := by
  refine SpecOK.f2D idleBehindS Tryz.func175 rfl (by decide) Tryz.results175 Tryz.ntmps175 (by decide) fun a b hd => ?_
  have hΓ : GOK Tryz.prog (gam []) := GOK.nil
  refine AW.of hΓ mixed [] _ _ _ rfl ?_
  simp only [go_sem]
  refine AW.round (α := { i : Nat // i ≤ a.length ∧ i ≤ b.length ∧ ∀ k, k < i → a.getD (a.length - 1 - k) [] = b.getD (b.length - 1 - k) [] }) (fun i => ⟨[(0, sL eS a), (1, sL eS b), (4, .val (.int .i64 i.1))], [], 37, 0, 0, [⟨.fn (.func 188) #[], #[]⟩]⟩) (fun i => a.length - i.1) ⟨0, by simp⟩ ?_ ?_
  · simp only [go_sem]
  · rintro ⟨i, hi, hb, hk⟩
    refine AW.of hΓ mixed [] _ _ _ rfl ?_
    simp only [go_sem]
    have e1 : (↑i : Int) < ↑a.length → ((a.length : Int) - 1 - i).toNat = a.length - 1 - i := fun h => by omega
    have e2 : (↑i : Int) < ↑b.length → ((b.length : Int) - 1 - i).toNat = b.length - 1 - i := fun h => by omega
    repeat' (first | refine And.intro ?_ ?_ | intro h)
    all_goals (try omega)
    · refine ⟨⟨i + 1, by omega, by omega, fun k hk' => ?_⟩, by simp, by simp; omega⟩
      rcases Nat.lt_or_ge k i with h' | h'
      · exact hk k h'
      · obtain rfl : k = i := by omega
        have := h.2
        rwa [e1 h.1.1, e2 h.1.2] at this
    · refine congrArg _ (bhd_eq [] i a b hi hb hk fun p q => ?_)
      have := h ⟨by omega, by omega⟩
      rwa [e1 (by omega), e2 (by omega)] at this

def sEndsS : Spec := Spec.f2 (kL eS) (kL eS) (fun a b => a.length < 1000000000 ∧ b.length < 1000000000) (fun a b => tu2 (kI.enc (ahd a b)) (kI.enc (bhd (a.drop (ahd a b)) (b.drop (ahd a b)))))
theorem okEndsS : SpecOK Tryz.prog 159 sEndsS := by
  refine SpecOK.f2 Tryz.func159 rfl (by decide) Tryz.results159 Tryz.ntmps159 (by decide) fun a b hd => ?_
  have hΓ : GOK Tryz.prog (gam [(132, sAheadS), (175, sBehindS)]) := .cons okAheadS (.cons okBehindS .nil)
  refine AW.of hΓ mixed [] _ _ _ rfl ?_
  have h1 := ahd_le a b
  have p1 : (List.range (a.length - ahd a b)).map (fun i => a.getD (ahd a b + i) []) = a.drop (ahd a b) := by rw [part_eq a [] (by omega), List.take_of_length_le (by simp)]
  have p2 : (List.range (b.length - ahd a b)).map (fun i => b.getD (ahd a b + i) []) = b.drop (ahd a b) := by rw [part_eq b [] (by omega), List.take_of_length_le (by simp)]
  simp only [go_sem, sAheadS, sBehindS, p1, p2, List.length_drop]
  omega
def sEqS : Spec := Spec.f2 (kL eS) (kL eS) (fun a b => a.length < 1000000000 ∧ b.length < 1000000000) (fun a b => kB.enc (decide (a = b)))
theorem okEqS : SpecOK Tryz.prog 88 sEqS := by
  refine SpecOK.f2 Tryz.func88 rfl (by decide) Tryz.results88 Tryz.ntmps88 (by decide) fun a b hd => ?_
  have hΓ : GOK Tryz.prog (gam [(132, sAheadS)]) := .cons okAheadS .nil
  refine AW.of hΓ mixed [] _ _ _ rfl ?_
  simp only [go_sem, sAheadS]
  refine ⟨fun _ => hd, ?_⟩
  rw [Bool.eq_iff_iff]
  simp only [Bool.and_eq_true, decide_eq_true_eq]
  refine ⟨fun h => ahd_all (by omega) (by omega), fun h => ?_⟩
  subst h
  rw [ahd_self]
  exact ⟨rfl, rfl⟩

def sRefEndsS : Spec := Spec.f2 (kL eS) (kL eS) (fun a b => a.length < 1000000000 ∧ b.length < 1000000000) (fun a b => tu2 (kI.enc (ahd a b)) (kI.enc (bhd (a.drop (ahd a b)) (b.drop (ahd a b)))))
theorem okRefEndsS : SpecOK Tryz.prog 77 sRefEndsS := by
  refine SpecOK.f2 Tryz.func77 rfl (by decide) Tryz.results77 Tryz.ntmps77 (by decide) fun a b hd => ?_
  have hΓ : GOK Tryz.prog (gam []) := GOK.nil
  refine AW.of hΓ mixed [] _ _ _ rfl ?_
  simp only [go_sem]
  refine AW.round (α := { i : Nat // i ≤ a.length ∧ i ≤ b.length ∧ ∀ k, k < i → a.getD k [] = b.getD k [] }) (fun i => ⟨[(0, sL eS a), (1, sL eS b), (6, .val (.int .i64 i.1)), (7, .val (.int .i64 0))], [], 68, 0, 0, []⟩) (fun i => a.length - i.1) ⟨0, by simp⟩ ?_ ?_
  · simp only [go_sem]
  · rintro ⟨i, hi, hb, hk⟩
    refine AW.of hΓ mixed [] _ _ _ rfl ?_
    simp only [go_sem]
    repeat' (first | refine And.intro ?_ ?_ | intro h)
    all_goals (try omega)
    · refine ⟨⟨i + 1, by omega, by omega, fun k hk' => ?_⟩, by simp, by simp; omega⟩
      rcases Nat.lt_or_ge k i with h' | h'
      · exact hk k h'
      · obtain rfl : k = i := by omega
        exact h.2
    obtain rfl := ahd_eq [] i a b hi hb hk fun p q => h ⟨by omega, by omega⟩
    generalize hn : ahd a b = n at *
    refine AW.round (α := { m : Nat // n + m ≤ a.length ∧ n + m ≤ b.length ∧ ∀ k, k < m → a.getD (a.length - 1 - k) [] = b.getD (b.length - 1 - k) [] }) (fun m => ⟨[(0, sL eS a), (1, sL eS b), (6, .val (.int .i64 n)), (7, .val (.int .i64 m.1))], [], 68, 0, 0, []⟩) (fun m => a.length - m.1) ⟨0, by simpa using hi, by simpa using hb, by simp⟩ ?_ ?_
    · simp only [go_sem]
    · rintro ⟨m, ha', hb', hm⟩
      refine AW.of hΓ mixed [] _ _ _ rfl ?_
      simp only [go_sem]
      have e1 : (n : Int) + m < ↑a.length → ((a.length : Int) - 1 - m).toNat = a.length - 1 - m := fun h => by omega
      have e2 : (n : Int) + m < ↑b.length → ((b.length : Int) - 1 - m).toNat = b.length - 1 - m := fun h => by omega
      repeat' (first | refine And.intro ?_ ?_ | intro h)
      all_goals (try omega)
      · refine ⟨⟨m + 1, by omega, by omega, fun k hk' => ?_⟩, by simp, by simp; omega⟩
        rcases Nat.lt_or_ge k m with h' | h'
        · exact hm k h'
        · obtain rfl : k = m := by omega
          have := h.2
          rwa [e1 h.1.1, e2 h.1.2] at this
      · refine congrArg _ (bhd_drop [] a b n m hi hb ha' hb' hm fun p q => ?_)
        have := h ⟨by omega, by omega⟩
        rwa [e1 (by omega), e2 (by omega)] at this
end Go.Proofs.YtjfmigpahglajaaGreatDoor
namespace Go.Proofs.YtjfmigpahglajaaGreatDoor
open Go
def splitL : List UInt8 → List (List UInt8)
  | [] => []
  | c :: r => if c = 10 then [c] :: splitL r else match splitL r with
    | [] => [[c]]
    | l :: ls => (c :: l) :: ls
def spA : List UInt8 → List (List UInt8)
  | [] => [[]]
  | c :: r => if c = 10 then [c] :: spA r else match spA r with
    | [] => [[c]]
    | l :: ls => (c :: l) :: ls
theorem spA_ne (s : List UInt8) : spA s ≠ [] := by
  cases s with
  | nil => simp [spA]
  | cons c r =>
    unfold spA
    split
    · simp
    · split <;> simp
theorem splitL_cut : ∀ (p r : List UInt8), (10 : UInt8) ∉ p → splitL (p ++ 10 :: r) = (p ++ [10]) :: splitL r
  | [], r, _ => by simp [splitL]
  | c :: p, r, h => by
    simp only [List.mem_cons, not_or] at h
    rw [List.cons_append, splitL, if_neg (Ne.symm h.1), splitL_cut p r h.2]
    rfl
theorem splitL_one : ∀ (p : List UInt8), (10 : UInt8) ∉ p → p ≠ [] → splitL p = [p]
  | [], _, h => absurd rfl h
  | [c], h, _ => by
    simp only [List.mem_cons, List.not_mem_nil, or_false] at h
    simp [splitL, Ne.symm h]
  | c :: d :: p, h, _ => by
    simp only [List.mem_cons, not_or] at h
    rw [splitL, if_neg (Ne.symm h.1), splitL_one (d :: p) (by simp only [List.mem_cons, not_or]; exact h.2) (by simp)]
theorem spA_cut : ∀ (p r : List UInt8), (10 : UInt8) ∉ p → spA (p ++ 10 :: r) = (p ++ [10]) :: spA r
  | [], r, _ => by simp [spA]
  | c :: p, r, h => by
    simp only [List.mem_cons, not_or] at h
    rw [List.cons_append, spA, if_neg (Ne.symm h.1), spA_cut p r h.2]
    rfl
theorem spA_one : ∀ (p : List UInt8), (10 : UInt8) ∉ p → spA p = [p]
  | [], _ => rfl
  | c :: p, h => by
    simp only [List.mem_cons, not_or] at h
    rw [spA, if_neg (Ne.symm h.1), spA_one p h.2]
theorem idx_cases (x : List UInt8) : (Lib.indexByte x 10 = -1 ∧ (10 : UInt8) ∉ x) ∨ ∃ p r, x = p ++ 10 :: r ∧ (10 : UInt8) ∉ p ∧ Lib.indexByte x 10 = p.length := by
  rcases Int.lt_or_le (Lib.indexByte x 10) 0 with h | h
  · have := Lib.indexByte_ge x 10
    have e : Lib.indexByte x 10 = -1 := by omega
    refine .inl ⟨e, fun hm => ?_⟩
    obtain ⟨k, hk, hx⟩ := List.mem_iff_getElem.1 hm
    exact Lib.indexByte_none e k (by rw [List.getElem?_eq_getElem hk, hx])
  · obtain ⟨o, ho⟩ := Int.eq_ofNat_of_zero_le h
    obtain ⟨h1, h2⟩ := Lib.indexByte_some (o := o) ho
    obtain ⟨hl, hx⟩ := List.getElem?_eq_some_iff.1 h1
    refine .inr ⟨x.take o, x.drop (o + 1), ?_, fun hm => ?_, ?_⟩
    · conv => lhs; rw [← List.take_append_drop o x]
      rw [List.drop_eq_getElem_cons hl, hx]
    · obtain ⟨k, hk, hk'⟩ := List.mem_iff_getElem.1 hm
      have hk2 : k < o := by simp at hk; omega
      refine h2 k hk2 ?_
      rw [List.getElem_take] at hk'
      rw [List.getElem?_eq_getElem (by omega), hk']
    · rw [ho, List.length_take]
      have : min o x.length = o := by omega
      rw [this]
theorem splitL_nil_iff (s : List UInt8) : splitL s = [] ↔ s = [] := by
  cases s with
  | nil => simp [splitL]
  | cons c r =>
    unfold splitL
    split
    · simp
    · split <;> simp
theorem spA_split : ∀ (s : List UInt8), (spA s = splitL s ++ [[]]) ∨ (spA s = splitL s ∧ ∀ l ∈ splitL s, l ≠ [])
  | [] => .inl rfl
  | c :: r => by
    have ih := spA_split r
    unfold spA splitL
    by_cases h : c = 10
    · rw [if_pos h, if_pos h]
      rcases ih with e | ⟨e, hl⟩
      · exact .inl (by rw [e]; rfl)
      · refine .inr ⟨by rw [e], ?_⟩
        intro l hm
        rcases List.mem_cons.1 hm with rfl | hm
        · simp
        · exact hl l hm
    · rw [if_neg h, if_neg h]
      rcases ih with e | ⟨e, hl⟩
      · rw [e]
        cases hs : splitL r with
        | nil => exact .inr ⟨rfl, by simp⟩
        | cons l ls => exact .inl rfl
      · rw [e]
        refine .inr ⟨rfl, ?_⟩
        cases hs : splitL r with
        | nil => simp
        | cons l ls =>
          rw [hs] at hl
          intro x hm
          rcases List.mem_cons.1 hm with rfl | hm
          · simp
          · exact hl x (List.mem_cons_of_mem _ hm)
theorem splitL_ne : ∀ (s : List UInt8), ∀ l ∈ splitL s, l ≠ []
  | [] => by simp [splitL]
  | c :: r => by
    have ih := splitL_ne r
    unfold splitL
    split
    · intro l hm
      rcases List.mem_cons.1 hm with rfl | hm
      · simp
      · exact ih l hm
    · split
      · simp
      · rename_i l ls hs
        rw [hs] at ih
        intro x hm
        rcases List.mem_cons.1 hm with rfl | hm
        · simp
        · exact ih x (List.mem_cons_of_mem _ hm)
theorem splitL_flat : ∀ (s : List UInt8), (splitL s).flatten = s
  | [] => rfl
  | c :: r => by
    have ih := splitL_flat r
    unfold splitL
    split
    · simp [ih]
    · split
      · rename_i hs
        rw [hs] at ih
        simp at ih
        simp [ih]
      · rename_i l ls hs
        rw [hs] at ih
        simp only [List.flatten_cons] at ih ⊢
        simp [ih]
theorem splitL_append : ∀ (n : Nat) (a b : List UInt8), a.length ≤ n → (a = [] ∨ a.getLast? = some 10) → splitL (a ++ b) = splitL a ++ splitL b
  | n, a, b, hn, h => by
    rcases idx_cases a with ⟨_, hno⟩ | ⟨p, r, rfl, hp, _⟩
    · rcases h with rfl | h
      · rfl
      · exact absurd (List.mem_of_getLast? h) hno
    · cases n with
      | zero => simp at hn
      | succ n =>
        rw [List.append_assoc, List.cons_append, splitL_cut p _ hp, splitL_cut p r hp, List.cons_append]
        congr 1
        refine splitL_append n r b (by simp at hn; omega) ?_
        rcases h with h | h
        · simp at h
        · cases r with
          | nil => exact .inl rfl
          | cons c r => rw [List.getLast?_append, List.getLast?_cons_cons] at h; exact .inr (by simpa using h)
theorem splitL_len (s : List UInt8) : (splitL s).length ≤ s.length := by
  have h : ∀ l : List (List UInt8), (∀ x ∈ l, x ≠ []) → l.length ≤ l.flatten.length := by
    intro l
    induction l with
    | nil => simp
    | cons x l ih =>
      intro hx
      have h1 := ih fun y hy => hx y (List.mem_cons_of_mem _ hy)
      have h2 : 0 < x.length := List.length_pos_iff.2 (hx x (List.mem_cons_self ..))
      simp only [List.length_cons, List.flatten_cons, List.length_append]
      omega
  have := h (splitL s) (splitL_ne s)
  rwa [splitL_flat] at this
def oneL (x : List UInt8) : Bool := decide ((splitL x).length = 1)
def endsL (x : List UInt8) : Bool := decide (x.getLast? = some 10)
def wholeL : List (List UInt8) → Bool
  | [] => true
  | [x] => oneL x
  | x :: y :: r => oneL x && endsL x && wholeL (y :: r)
theorem wholeL_iff : ∀ (l : List (List UInt8)), wholeL l = true ↔ ∀ i, i < l.length → oneL (l.getD i []) = true ∧ (i + 1 < l.length → endsL (l.getD i []) = true)
  | [] => by simp [wholeL]
  | [x] => by
    unfold wholeL
    constructor
    · intro h i hi
      have : i = 0 := by simp at hi; omega
      subst this
      exact ⟨h, fun h => by simp at h⟩
    · intro h
      exact (h 0 (by simp)).1
  | x :: y :: r => by
    unfold wholeL
    rw [Bool.and_eq_true, Bool.and_eq_true, wholeL_iff (y :: r)]
    constructor
    · rintro ⟨⟨h1, h2⟩, h3⟩ i hi
      cases i with
      | zero => exact ⟨h1, fun _ => h2⟩
      | succ i =>
        have := h3 i (by simpa using hi)
        simp only [List.getD_cons_succ]
        exact ⟨this.1, fun h => this.2 (by simpa using h)⟩
    · intro h
      refine ⟨⟨(h 0 (by simp)).1, (h 0 (by simp)).2 (by simp)⟩, fun i hi => ?_⟩
      have := h (i + 1) (by simpa using hi)
      simp only [List.getD_cons_succ] at this
      exact ⟨this.1, fun h => this.2 (by simpa using h)⟩
theorem wholeL_split : ∀ (l : List (List UInt8)), wholeL l = true → splitL l.flatten = l
  | [], _ => rfl
  | [x], h => by
    simp only [wholeL, oneL, decide_eq_true_eq] at h
    simp only [List.flatten_cons, List.flatten_nil, List.append_nil]
    have hf := splitL_flat x
    match hs : splitL x, h with
    | [y], _ => rw [hs] at hf; simp at hf; rw [hf]
  | x :: y :: r, h => by
    simp only [wholeL, oneL, endsL, Bool.and_eq_true, decide_eq_true_eq] at h
    obtain ⟨⟨h1, h2⟩, h3⟩ := h
    rw [List.flatten_cons, splitL_append x.length x _ (Nat.le_refl _) (.inr h2), wholeL_split (y :: r) h3]
    have hf := splitL_flat x
    match hs : splitL x, h1 with
    | [z], _ => rw [hs] at hf; simp at hf; rw [hf]; rfl
theorem oneL_cut (p r : List UInt8) (hp : (10 : UInt8) ∉ p) : oneL (p ++ 10 :: r) = decide (r = []) := by
  unfold oneL
  rw [splitL_cut p r hp]
  simp [splitL_nil_iff]
theorem oneL_no (p : List UInt8) (hp : (10 : UInt8) ∉ p) : oneL p = decide (p ≠ []) := by
  unfold oneL
  by_cases h : p = []
  · subst h; rfl
  · rw [splitL_one p hp h]; simp [h]
theorem wholeL_splitL : ∀ (n : Nat) (s : List UInt8), s.length ≤ n → wholeL (splitL s) = true
  | n, s, hn => by
    rcases idx_cases s with ⟨_, hno⟩ | ⟨p, r, rfl, hp, _⟩
    · cases s with
      | nil => rfl
      | cons c s => rw [splitL_one _ hno (by simp)]; simp [wholeL, oneL_no _ hno]
    · cases n with
      | zero => simp at hn
      | succ n =>
        rw [splitL_cut p r hp]
        have ih := wholeL_splitL n r (by simp at hn; omega)
        have h1 : oneL (p ++ [10]) = true := by rw [oneL_cut p [] hp]; rfl
        cases hs : splitL r with
        | nil => exact h1
        | cons x l =>
          rw [hs] at ih
          simp [wholeL, h1, ih, endsL]
def runL : List UInt8 → Nat
  | [] => 0
  | c :: r => if c = 60 ∨ c = 124 ∨ c = 61 ∨ c = 62 then 1 + (r.takeWhile (· == c)).length else 0
def longL (l : List (List UInt8)) : Nat := l.foldl (fun n x => max n (runL x)) 0
theorem runL_le (x : List UInt8) : runL x ≤ x.length := by
  cases x with
  | nil => simp [runL]
  | cons c r =>
    have := (List.takeWhile_sublist (· == c) (l := r)).length_le
    rw [runL, List.length_cons]
    split
    · omega
    · omega
theorem takeWhile_at (c : UInt8) : ∀ (r : List UInt8) (n : Nat), n ≤ r.length → (∀ k, k < n → r.getD k 0 = c) → (n < r.length → r.getD n 0 ≠ c) → (r.takeWhile (· == c)).length = n
  | [], n, h, _, _ => by simp at h; simp [h]
  | x :: r, 0, _, _, h => by
    have := h (by simp)
    simp at this
    simp [this]
  | x :: r, n + 1, h, hk, hn => by
    have h0 := hk 0 (by omega)
    simp at h0
    subst h0
    rw [List.takeWhile_cons, if_pos (by simp), List.length_cons]
    rw [takeWhile_at x r n (by simpa using h) (fun k hk' => by simpa using hk (k + 1) (by omega)) (fun hl => by simpa using hn (by simpa using hl))]
def numL : List (List UInt8) → List (List UInt8) → List (List UInt8) × List Int
  | ks, [] => (ks, [])
  | ks, x :: l => ((numL (if x ∈ ks then ks else ks ++ [x]) l).1, (ks.idxOf x : Int) :: (numL (if x ∈ ks then ks else ks ++ [x]) l).2)
def numF : List (List UInt8) → List (List (List UInt8)) → List (List Int)
  | _, [] => []
  | ks, f :: fs => (numL ks f).2 :: numF (numL ks f).1 fs
theorem numL_len : ∀ (ks l : List (List UInt8)), (numL ks l).2.length = l.length
  | _, [] => rfl
  | ks, x :: l => by simp [numL, numL_len _ l]
theorem numF_len : ∀ (ks : List (List UInt8)) (fs : List (List (List UInt8))), (numF ks fs).length = fs.length
  | _, [] => rfl
  | ks, f :: fs => by simp [numF, numF_len _ fs]
theorem numL_app : ∀ (ks l m : List (List UInt8)), numL ks (l ++ m) = ((numL (numL ks l).1 m).1, (numL ks l).2 ++ (numL (numL ks l).1 m).2)
  | ks, [], m => by simp [numL]
  | ks, x :: l, m => by simp [numL, numL_app _ l m]
theorem numF_app : ∀ (ks : List (List UInt8)) (fs gs : List (List (List UInt8))), numF ks (fs ++ gs) = numF ks fs ++ numF (fs.foldl (fun k f => (numL k f).1) ks) gs
  | ks, [], gs => rfl
  | ks, f :: fs, gs => by simp [numF, numF_app _ fs gs]
theorem numL_ks : ∀ (ks l : List (List UInt8)), (numL ks l).1.length ≤ ks.length + l.length
  | ks, [] => by simp [numL]
  | ks, x :: l => by
    have := numL_ks (if x ∈ ks then ks else ks ++ [x]) l
    simp only [numL, List.length_cons]
    split at this <;> simp at this ⊢ <;> split <;> simp_all <;> omega
end Go.Proofs.YtjfmigpahglajaaGreatDoor
set_option linter.unusedSimpArgs false
set_option linter.unusedVariables false
set_option maxRecDepth 100000
set_option maxHeartbeats 2000000
namespace Go.Proofs.YtjfmigpahglajaaGreatDoor
open Go
attribute [local irreducible] AW AVle ASle RowLe
def sCloneS : MSpec := fun args hp top nx K => ∃ x l, args = [x] ∧ AVle x (sL eS l) ∧ l.length < 1000000000 ∧ ∀ ver nx', nx ≤ ver → ver < nx' → K (.ow top ver l.length) (updR hp top (rowL ver 9 eS l)) (top + 1) nx'
theorem okCloneS : MethOK Tryz.prog 87 sCloneS := by
  refine MethOK.mk Tryz.func87 rfl (by decide) Tryz.results87 Tryz.ntmps87 ?_
  rintro args hp top nx K ⟨x, l, rfl, hx, hl, hK⟩
  have hΓ : GOK Tryz.prog (gam []) := GOK.nil
  refine ⟨Nat.le_of_ble_eq_true rfl, ?_⟩
  refine AW.le (stM_le (.cons hx .nil)) ?_
  refine AW.of hΓ mixed [2, 99999] _ _ _ rfl ?_
  simp only [go_sem]
  refine ⟨fun h0 => ?_, ?_⟩
  · refine AW.adopt 2 9 1 (fun i => eS.enc (l.getD i [])) rfl ?_
    refine AW.of hΓ mixed [] _ _ _ rfl ?_
    simp only [go_sem]
    obtain rfl := List.length_eq_zero_iff.1 h0
    exact hK nx (nx + 1) (Nat.le_refl _) (Nat.lt_succ_self _)
  · exact ⟨by omega, hK nx (nx + 1) (Nat.le_refl _) (Nat.lt_succ_self _)⟩
end Go.Proofs.YtjfmigpahglajaaGreatDoor
namespace Go.Proofs.YtjfmigpahglajaaGreatDoor
def rgt (a b : List Int) : Int → Int → List (Int × Int) → Bool
  | _, _, [] => true
  | u, v, p :: l => decide (u < p.1 ∧ v < p.2 ∧ p.1 < a.length ∧ p.2 < b.length ∧ a.getD p.1.toNat 0 = b.getD p.2.toNat 0) && rgt a b p.1 p.2 l
end Go.Proofs.YtjfmigpahglajaaGreatDoor
set_option linter.unusedSimpArgs false
set_option linter.unusedVariables false
set_option maxRecDepth 100000
set_option maxHeartbeats 2000000
namespace Go.Proofs.YtjfmigpahglajaaGreatDoor
open Go
attribute [local irreducible] AW AVle ASle RowLe
theorem pp_sz : (eP eI eI).sz = 2 := rfl
theorem pp0 (p : Int × Int) : (eP eI eI).enc p 0 = .val (.int .i64 p.1) := rfl
theorem pp1 (p : Int × Int) : (eP eI eI).enc p 1 = .val (.int .i64 p.2) := rfl
theorem take_snocG {α : Type} (l : List α) (d : α) {i : Nat} (h : i < l.length) : l.take (i + 1) = l.take i ++ [l.getD i d] := by
  rw [List.take_succ_eq_append_getElem h, gd_lt l d h]
def sLcsFrom : Spec := Spec.f1 (kL (eP eI eI)) (fun l => l.length < 100000000) (fun l => sL (eP eI eI) l)
theorem okLcsFrom : SpecOK Tryz.prog 21 sLcsFrom := by
  refine SpecOK.f1 Tryz.func21 rfl (by decide) Tryz.results21 Tryz.ntmps21 (by decide) fun l hl => ?_
  have hΓ : GOK Tryz.prog (gam []) := GOK.nil
  refine AW.of hΓ mixed [] _ _ _ rfl ?_
  simp only [go_sem]
  refine AW.adopt 3 109 2 (fun i => (eP eI eI).enc (([] : List (Int × Int)).getD i (0, 0))) rfl ?_
  refine AW.round (α := { x : Nat × Nat × Nat // x.1 ≤ l.length })
    (fun x => ⟨[(0, sL (eP eI eI) l), (3, .ow 0 x.1.2.1 x.1.1), (4, .val (.int .i64 x.1.1))], [(0, rowL x.1.2.1 109 (eP eI eI) (l.take x.1.1))], 26, 1, x.1.2.2, []⟩) (fun x => l.length - x.1.1) ⟨(0, 0, 1), Nat.zero_le _⟩ ?_ ?_
  · simp only [go_sem]
    exact RowLe.refl _
  · rintro ⟨⟨i, v, nx⟩, hi⟩
    simp only at hi
    refine AW.of hΓ mixed [99999] _ _ _ rfl ?_
    simp only [go_sem, pp_sz, pp0, pp1]
    refine ⟨fun hlt => ⟨by omega, by omega, ⟨by omega, by omega⟩, by omega, ⟨(i + 1, nx, nx + 1), by dsimp only; omega⟩, ⟨Nat.le_refl _, ⟨⟨rfl, rfl⟩, rfl⟩, ?_⟩, by dsimp only; omega⟩, fun hge => ?_⟩
    · refine row_app1 (E := eP eI eI) (l := l.take i) (x := l.getD i (0, 0)) rfl (take_snocG l (0, 0) (by omega)) (by simp; omega) rfl (by simp) fun j hj => ?_
      match j, hj with
      | 0, _ => exact AVle.refl _
      | 1, _ => exact AVle.refl _
    · obtain rfl : i = l.length := by omega
      rw [List.take_length]
      refine ⟨?_, vw_all (E := eP eI eI) rfl rfl rfl⟩
      first | omega | exact ⟨by omega, fun i hi => ⟨rfl, rfl⟩⟩
theorem pp_d : (eP eI eI).dflt = ((0 : Int), (0 : Int)) := rfl
def lastP (l : List (Int × Int)) : Nat → Int × Int
  | 0 => (-1, -1)
  | i + 1 => l.getD i (0, 0)
def sLcsRefRight : Spec := Spec.f3 (kL eI) (kL eI) (kL (eP eI eI)) (fun a b l => a.length < 100000000 ∧ b.length < 100000000 ∧ l.length < 100000000) (fun a b l => kB.enc (rgt a b (-1) (-1) l))
theorem okLcsRefRight : SpecOK Tryz.prog 58 sLcsRefRight := by
  refine SpecOK.f3 Tryz.func58 rfl (by decide) Tryz.results58 Tryz.ntmps58 (by decide) fun a b l ⟨ha, hb, hl⟩ => ?_
  have hΓ : GOK Tryz.prog (gam []) := GOK.nil
  refine AW.of hΓ mixed [] _ _ _ rfl ?_
  simp only [go_sem, pp_sz]
  refine AW.round (α := { x : Nat × Nat // x.1 ≤ l.length ∧ rgt a b (-1) (-1) l = rgt a b (lastP l x.1).1 (lastP l x.1).2 (l.drop x.1) ∧ -1 ≤ (lastP l x.1).1 ∧ -1 ≤ (lastP l x.1).2 })
    (fun x => ⟨[(0, sL eI a), (1, sL eI b), (2, sL (eP eI eI) l), (7, .val (.int .i64 x.1.1))], [], 78, 0, x.1.2, []⟩) (fun x => l.length - x.1.1) ⟨(0, 0), Nat.zero_le _, rfl, Int.le_refl _, Int.le_refl _⟩ ?_ ?_
  · simp only [go_sem]
  · rintro ⟨⟨i, nx⟩, hi, hr, hu, hv⟩
    simp only at hi hr hu hv
    obtain ⟨u, v, huv⟩ : ∃ u v, lastP l i = (u, v) := ⟨_, _, rfl⟩
    rw [huv] at hr hu hv
    dsimp only at hr hu hv
    refine AW.of hΓ mixed [4, 99999] _ _ _ rfl ?_
    simp only [go_sem, pp_sz]
    refine ⟨fun hlt => ?_, fun hge => ?_⟩
    · obtain ⟨x, y, hxy⟩ : ∃ x y, l.getD i (0, 0) = (x, y) := ⟨_, _, rfl⟩
      have hd : l.drop i = (x, y) :: l.drop (i + 1) := by
        rw [List.drop_eq_getElem_cons (by omega), ← gd_lt l (0, 0) (by omega), hxy]
      rw [hd, rgt] at hr
      dsimp only at hr
      refine ⟨by omega, ?_⟩
      refine AW.cut ⟨[(0, sL eI a), (1, sL eI b), (2, sL (eP eI eI) l), (7, .val (.int .i64 i)), (8, .pt 0 nx 0)], [(0, .box nx 109 2 fun j => if j = 0 then .val (.int .i64 x) else .val (.int .i64 y))], 78, 1, nx + 1, []⟩ ?_ ?_
      · simp only [go_sem]
        refine RowLe.box fun j hj => AVle.of_eq ?_
        match j, hj with
        | 0, _ => show (eP eI eI).enc (l.getD i (0, 0)) 0 = _; rw [hxy]; rfl
        | 1, _ => show (eP eI eI).enc (l.getD i (0, 0)) 1 = _; rw [hxy]; rfl
      · by_cases c : 0 ≤ x ∧ x < a.length ∧ 0 ≤ y ∧ y < b.length
        · obtain ⟨c1, c2, c3, c4⟩ := c
          have c5 : ¬ (a.length : Int) ≤ x := by omega
          have c6 : ¬ (b.length : Int) ≤ y := by omega
          have c7 : ¬ x < 0 := by omega
          have c8 : ¬ y < 0 := by omega
          obtain ⟨g1, g2, hg⟩ : ∃ g1 g2, l.getD ((i : Int) - 1).toNat (0, 0) = (g1, g2) := ⟨_, _, rfl⟩
          have hk : 0 < i → g1 = u ∧ g2 = v := fun h0 => by
            cases i with
            | zero => omega
            | succ i =>
              have h1 : l.getD i (0, 0) = (u, v) := huv
              rw [show ((i + 1 : Nat) : Int) - 1 = (i : Nat) by omega, Int.toNat_natCast, h1] at hg
              exact ⟨(Prod.mk.inj hg).1.symm, (Prod.mk.inj hg).2.symm⟩
          have hz : i = 0 → u = -1 ∧ v = -1 := fun h0 => by
            subst h0
            exact ⟨(Prod.mk.inj huv).1.symm, (Prod.mk.inj huv).2.symm⟩
          refine AW.of hΓ mixed [99999] _ _ _ rfl ?_
          simp only [go_sem, c1, c2, c3, c4, c5, c6, c7, c8, decide_true, decide_false, Bool.or_false, Bool.not_false, Bool.false_or, true_and, forall_const, pp0, pp1, pp_sz, pp_d, hg]
          simp only [Bool.or_eq_true, decide_eq_true_eq, Bool.or_eq_false_iff, decide_eq_false_iff_not, Bool.not_eq_true', Decidable.not_not]
          have hl1 : lastP l (i + 1) = (x, y) := hxy
          refine ⟨fun h => ?_, fun h => ⟨fun _ => by omega, fun _ => by omega, fun _ => by omega, fun _ => by omega, fun h0 h1 => .inr (by rw [decide_eq_true h0, decide_eq_false h1]; rfl), fun ⟨h0, h1⟩ => ?_, fun h1 => ⟨by omega, ⟨(i + 1, nx + 1), by dsimp only; omega, ?_, by dsimp only; rw [hl1]; dsimp only; omega, by dsimp only; rw [hl1]; dsimp only; omega⟩, ⟨Nat.le_refl _, rfl⟩, by dsimp only; omega⟩⟩⟩
          · rw [hr, decide_eq_false (fun hh => h hh.2.2.2.2), Bool.false_and]
          · have := hk (by omega)
            rw [hr, decide_eq_false (fun hh => by omega), Bool.false_and]
          · dsimp only
            rw [hl1, hr, decide_eq_true, Bool.true_and]
            refine ⟨?_, ?_, c2, c4, h⟩
            · rcases Nat.eq_zero_or_pos i with h0 | h0
              · have := hz h0; omega
              · have := hk h0; have := h1 (by omega); omega
            · rcases Nat.eq_zero_or_pos i with h0 | h0
              · have := hz h0; omega
              · have := hk h0; have := h1 (by omega); omega
        · have d : (decide (x < 0) || decide ((a.length : Int) ≤ x) || decide (y < 0) || decide ((b.length : Int) ≤ y)) = true := by
            cases h : (decide (x < 0) || decide ((a.length : Int) ≤ x) || decide (y < 0) || decide ((b.length : Int) ≤ y)) with
            | true => rfl
            | false =>
              simp only [Bool.or_eq_false_iff, decide_eq_false_iff_not] at h
              omega
          have hr2 : rgt a b (-1) (-1) l = false := by
            rw [hr, decide_eq_false (fun h => c ⟨by omega, h.2.2.1, by omega, h.2.2.2.1⟩), Bool.false_and]
          refine AW.of hΓ mixed [6, 99999] _ _ _ rfl ?_
          simp only [go_sem]
          refine ⟨fun h => by simp [h], fun h => by rw [h]; rfl, fun h => by rw [h]; rfl, fun h => by rw [d] at h; exact absurd h (by decide), fun h => by rw [d] at h; exact absurd h (by decide), fun h => by rw [d] at h; exact absurd h (by decide), fun _ => ?_, fun h => by rw [d, Bool.true_or] at h; exact absurd h (by decide)⟩
          refine AW.of hΓ mixed [] _ _ _ rfl ?_
          simp only [go_sem]
          exact hr2.symm
    · obtain rfl : i = l.length := by omega
      rw [List.drop_length] at hr
      exact hr.symm
end Go.Proofs.YtjfmigpahglajaaGreatDoor
set_option linter.unusedSimpArgs false
set_option linter.unusedVariables false
set_option maxRecDepth 100000
namespace Go.Proofs.YtjfmigpahglajaaGreatDoor
open Go
attribute [local irreducible] AW AVle ASle RowLe
def sNumber : Spec := Spec.f1 (kL (eL eS)) (fun l => l.length ≤ 1000000 ∧ ∀ f ∈ l, f.length ≤ 10000000) (fun l => sL (eL eI) (numF [] l))
theorem numF_snoc (ks : List (List UInt8)) (fs : List (List (List UInt8))) (f : List (List UInt8)) : numF ks (fs ++ [f]) = numF ks fs ++ [(numL (fs.foldl (fun k f => (numL k f).1) ks) f).2] := by
  rw [numF_app]; rfl
theorem take_snoc {α : Type} (l : List α) (d : α) {i : Nat} (h : i < l.length) : l.take (i + 1) = l.take i ++ [l.getD i d] := by
  rw [List.take_add_one, gd_lt _ _ h]; simp [h]
theorem numL_snoc (ks f : List (List UInt8)) {k : Nat} (h : k < f.length) : numL ks (f.take (k + 1)) =
    (if f.getD k [] ∈ (numL ks (f.take k)).1 then (numL ks (f.take k)).1 else (numL ks (f.take k)).1 ++ [f.getD k []], (numL ks (f.take k)).2 ++ [((numL ks (f.take k)).1.idxOf (f.getD k []) : Int)]) := by
  rw [take_snoc f [] h, numL_app]
  simp [numL]
theorem okNumber : SpecOK Tryz.prog 96 sNumber := by
  refine SpecOK.f1 Tryz.func96 rfl (by decide) Tryz.results96 Tryz.ntmps96 (by decide) fun fs ⟨hl, hf⟩ => ?_
  have hΓ : GOK Tryz.prog (gam []) := GOK.nil
  refine AW.of hΓ mixed [] _ _ _ rfl ?_
  simp only [go_sem]
  refine ⟨by omega, ?_⟩
  refine AW.round (α := { x : Nat × Nat × Nat // x.1 ≤ fs.length ∧ x.2.1 < x.2.2 })
    (fun x => ⟨[(3, .mp 0 0), (4, .ow 1 x.1.2.1 x.1.1), (16, sL (eL eS) fs), (17, .val (.int .i64 fs.length)), (18, .val (.int .i64 x.1.1))],
      [(0, .mp 0 true ((fs.take x.1.1).foldl (fun k f => (numL k f).1) []).length (mapS ((fs.take x.1.1).foldl (fun k f => (numL k f).1) []))), (1, rowL x.1.2.1 75 (eL eI) (numF [] (fs.take x.1.1)))], 55, 2, x.1.2.2, []⟩) (fun x => fs.length - x.1.1) ⟨(0, 1, 2), by simp⟩ ?_ ?_
  · simp only [go_sem]
    refine ⟨RowLe.of_eq ?_, row_nil rfl⟩
    simp [mapS]
    funext k
    cases k <;> simp [mapS]
  · rintro ⟨⟨i, v, nx⟩, hi, hv⟩
    simp only at hi hv
    refine AW.of hΓ mixed [7] _ _ _ rfl ?_
    simp only [go_sem]
    refine ⟨fun hil => ?_, fun hil => ?_⟩
    · have hlt : i < fs.length := by omega
      have hfi := hf _ (gd_lt fs [] hlt ▸ List.getElem_mem hlt)
      generalize hfe : fs.getD i [] = f at *
      generalize hke : (fs.take i).foldl (fun k f => (numL k f).1) [] = ks0
      refine ⟨by omega, by omega, ?_⟩
      refine AW.to (fun x : { x : Nat // nx < x } => Sh.st ⟨[(3, .mp 0 0), (4, .ow 1 v i), (7, sL eI (numL ks0 f).2), (16, sL (eL eS) fs), (17, .val (.int .i64 fs.length)), (18, .val (.int .i64 i))],
        [(0, .mp 0 true (numL ks0 f).1.length (mapS (numL ks0 f).1)), (1, rowL v 75 (eL eI) (numF [] (fs.take i)))], 55, 3, x.1, []⟩) ?_ ?_
      · refine AW.block (AW.round (α := { x : Nat × Nat × Nat // x.1 ≤ f.length ∧ x.2.1 < x.2.2 ∧ nx < x.2.2 })
          (fun x => ⟨[(3, .mp 0 0), (4, .ow 1 v i), (7, .ow 2 x.1.2.1 x.1.1), (16, sL (eL eS) fs), (17, .val (.int .i64 fs.length)), (18, .val (.int .i64 i)), (25, sL eS f), (26, .val (.int .i64 f.length)), (27, .val (.int .i64 x.1.1))],
          [(0, .mp 0 true (numL ks0 (f.take x.1.1)).1.length (mapS (numL ks0 (f.take x.1.1)).1)), (1, rowL v 75 (eL eI) (numF [] (fs.take i))), (2, rowL x.1.2.1 3 eI (numL ks0 (f.take x.1.1)).2)], 55, 3, x.1.2.2, []⟩) (fun x => f.length - x.1.1) ⟨(0, nx, nx + 1), by simp⟩ ?_ ?_)
        · simp only [go_sem, hke]
          exact ⟨RowLe.of_eq (by simp [numL]), RowLe.refl _, row_nil (by simp [numL])⟩
        · rintro ⟨⟨k, u, nx'⟩, hk, hu, hnx⟩
          simp only at hk hu hnx
          have hlen : (numL ks0 (f.take k)).2.length = k := by rw [numL_len]; simp; omega
          have hkl : (numL ks0 (f.take k)).1.length ≤ ks0.length + k := by
            have := numL_ks ks0 (f.take k)
            simp at this; omega
          by_cases hkf : k < f.length
          · have hs := numL_snoc ks0 f hkf
            have hkc : (k : Int) < f.length := by omega
            generalize hx : f.getD k [] = x at *
            generalize (numL ks0 (f.take k)).1 = ks at *
            generalize (numL ks0 (f.take k)).2 = ns at *
            by_cases hb : x ∈ ks
            · rw [if_pos hb] at hs
              refine AW.of hΓ mixed [99999] _ _ _ rfl ?_
              simp only [go_sem, hb, hx, hkc]
              refine ⟨by omega, ⟨by omega, by omega⟩, by omega, ⟨(k + 1, nx', nx' + 1), by dsimp only; omega, by dsimp only; omega, by dsimp only; omega⟩, ⟨Nat.le_refl _, ⟨⟨rfl, rfl⟩, by dsimp only; omega⟩, ?_, RowLe.refl _, ?_⟩, by dsimp only; omega⟩
              · rw [hs]; exact RowLe.refl _
              · rw [hs]; exact row_app1 rfl rfl hlen.symm rfl rfl fun _ _ => AVle.refl _
            · rw [if_neg hb] at hs
              refine AW.of hΓ mixed [99999] _ _ _ rfl ?_
              simp only [go_sem, hb, hx, hkc]
              have hidx : ks.idxOf x = ks.length := List.idxOf_eq_length hb
              refine ⟨by omega, ⟨by omega, by omega⟩, by omega, ⟨(k + 1, nx', nx' + 1), by dsimp only; omega, by dsimp only; omega, by dsimp only; omega⟩, ⟨Nat.le_refl _, ⟨⟨rfl, rfl⟩, by dsimp only; omega⟩, ?_, RowLe.refl _, ?_⟩, by dsimp only; omega⟩
              · rw [hs, mapS_push ks x hb]; exact RowLe.of_eq (by simp)
              · rw [hs, hidx]; exact row_app1 rfl rfl hlen.symm rfl rfl fun _ _ => AVle.refl _
          · obtain rfl : k = f.length := by omega
            refine AW.of hΓ mixed [99999] _ _ _ rfl ?_
            simp only [go_sem]
            have hlf : (numL ks0 f).2.length = f.length := numL_len ks0 f
            refine ⟨⟨nx', hnx⟩, ASle.trans (ASle.freeze 2 u 3 1 _ _ rfl fun _ _ _ _ => rfl) (toFits ?_)⟩
            simp only [go_sem, hlf]
            exact ⟨vw_all rfl rfl hlf.symm, RowLe.refl _, RowLe.refl _⟩
      · rintro ⟨nx', hnx⟩
        simp only [go_sem]
        have hft : fs.take (i + 1) = fs.take i ++ [f] := by rw [take_snoc fs [] hlt, hfe]
        refine ⟨⟨by rw [numF_len]; simp; omega, by omega⟩, by omega, ⟨(i + 1, nx', nx' + 1), by dsimp only; omega, by dsimp only; omega⟩, ⟨Nat.le_refl _, ⟨⟨rfl, rfl⟩, by dsimp only; omega⟩, ?_, ?_⟩, by dsimp only; omega⟩
        · dsimp only
          rw [hft, List.foldl_append, hke]
          exact RowLe.refl _
        · dsimp only
          rw [hft, numF_snoc, hke]
          exact row_app1 rfl rfl (by rw [numF_len]; simp; omega) rfl (by simp [numF_len]) fun _ _ => AVle.refl _
    · obtain rfl : i = fs.length := by omega
      refine ⟨by rw [numF_len]; simp, ?_⟩
      rw [List.take_length]
      exact vw_all rfl rfl (by rw [numF_len])
theorem idx_at : ∀ (ks : List (List UInt8)) (x : List UInt8) (n : Nat), n ≤ ks.length → (∀ m, m < n → ks.getD m [] ≠ x) → (n < ks.length → ks.getD n [] = x) → n = ks.idxOf x
  | [], x, n, h, _, _ => by simp at h; simp [h]
  | y :: ks, x, 0, _, _, h => by
    have : y = x := by simpa using h (by simp)
    subst this
    simp
  | y :: ks, x, n + 1, h, hm, hn => by
    have h0 : y ≠ x := by simpa using hm 0 (by omega)
    have ih := idx_at ks x n (by simpa using h) (fun m h' => by simpa using hm (m + 1) (by omega)) fun hl => by simpa using hn (by simpa using hl)
    have hb : (y == x) = false := by simpa using h0
    rw [List.idxOf_cons, hb, ih]
    rfl
def sRefNumber : Spec := Spec.f1 (kL (eL eS)) (fun l => l.length ≤ 1000000 ∧ ∀ f ∈ l, f.length ≤ 1000000) (fun l => sL (eL eI) (numF [] l))
theorem okRefNumber : SpecOK Tryz.prog 34 sRefNumber := by
  refine SpecOK.f1 Tryz.func34 rfl (by decide) Tryz.results34 Tryz.ntmps34 (by decide) fun fs ⟨hl, hf⟩ => ?_
  have hΓ : GOK Tryz.prog (gam []) := GOK.nil
  refine AW.of hΓ mixed [] _ _ _ rfl ?_
  simp only [go_sem]
  refine AW.adopt 3 9 1 (fun _ _ => .any) rfl ?_
  refine AW.adopt 4 75 1 (fun _ _ => .any) rfl ?_
  refine AW.round (α := { x : Nat × Nat × Nat × Nat // x.1 ≤ fs.length ∧ x.2.1 < x.2.2.2 ∧ x.2.2.1 < x.2.2.2 ∧ ((fs.take x.1).foldl (fun k f => (numL k f).1) []).length ≤ x.1 * 1000000 })
    (fun x => ⟨[(0, sL (eL eS) fs), (3, .ow 0 x.1.2.1 ((fs.take x.1.1).foldl (fun k f => (numL k f).1) []).length), (4, .ow 1 x.1.2.2.1 x.1.1), (5, .val (.int .i64 x.1.1))],
      [(0, rowL x.1.2.1 9 eS ((fs.take x.1.1).foldl (fun k f => (numL k f).1) [])), (1, rowL x.1.2.2.1 75 (eL eI) (numF [] (fs.take x.1.1)))], 67, 2, x.1.2.2.2, []⟩) (fun x => fs.length - x.1.1) ⟨(0, 0, 1, 2), by simp⟩ ?_ ?_
  · simp only [go_sem]
    exact ⟨rfl, row_nil rfl, row_nil rfl⟩
  · rintro ⟨⟨i, v, u, nx⟩, hi, hv, hu, hks⟩
    simp only at hi hv hu hks
    refine AW.of hΓ mixed [7] _ _ _ rfl ?_
    simp only [go_sem]
    refine ⟨fun hil => ?_, fun hil => ?_⟩
    · have hlt : i < fs.length := by omega
      have hfi := hf _ (gd_lt fs [] hlt ▸ List.getElem_mem hlt)
      generalize hfe : fs.getD i [] = f at *
      obtain ⟨ks0, hke⟩ : ∃ ks0, (fs.take i).foldl (fun k f => (numL k f).1) [] = ks0 := ⟨_, rfl⟩
      have hks0 := hks
      rw [hke] at hks0
      refine AW.adopt 6 3 1 (fun _ _ => .any) rfl ?_
      refine AW.to (fun x : { x : Nat × Nat // nx < x.2 ∧ x.1 < x.2 } => Sh.st ⟨[(0, sL (eL eS) fs), (3, .ow 0 x.1.1 (numL ks0 f).1.length), (4, .ow 1 u i), (5, .val (.int .i64 i)), (6, sL eI (numL ks0 f).2)],
        [(0, rowL x.1.1 9 eS (numL ks0 f).1), (1, rowL u 75 (eL eI) (numF [] (fs.take i)))], 67, 3, x.1.2, []⟩) ?_ ?_
      · refine AW.block (AW.round (α := { x : Nat × Nat × Nat × Nat // x.1 ≤ f.length ∧ x.2.1 < x.2.2.2 ∧ x.2.2.1 < x.2.2.2 ∧ nx < x.2.2.2 })
          (fun x => ⟨[(0, sL (eL eS) fs), (3, .ow 0 x.1.2.1 (numL ks0 (f.take x.1.1)).1.length), (4, .ow 1 u i), (5, .val (.int .i64 i)), (6, .ow 2 x.1.2.2.1 x.1.1), (7, .val (.int .i64 x.1.1))],
          [(0, rowL x.1.2.1 9 eS (numL ks0 (f.take x.1.1)).1), (1, rowL u 75 (eL eI) (numF [] (fs.take i))), (2, rowL x.1.2.2.1 3 eI (numL ks0 (f.take x.1.1)).2)], 67, 3, x.1.2.2.2, []⟩) (fun x => f.length - x.1.1) ⟨(0, v, nx, nx + 1), by simp; omega⟩ ?_ ?_)
        · simp only [go_sem, hke]
          exact ⟨rfl, by simpa [numL] using RowLe.refl _, RowLe.refl _, row_nil rfl⟩
        · rintro ⟨⟨k, v', w, nx'⟩, hk, hv', hw, hnx⟩
          simp only at hk hv' hw hnx
          have hlen : (numL ks0 (f.take k)).2.length = k := by rw [numL_len]; simp; omega
          have hkl : (numL ks0 (f.take k)).1.length ≤ ks0.length + k := by
            have := numL_ks ks0 (f.take k)
            simp at this; omega
          by_cases hkf : k < f.length
          · have hs := numL_snoc ks0 f hkf
            have hkc : (k : Int) < f.length := by omega
            generalize hx : f.getD k [] = x at *
            refine AW.of hΓ mixed [10] _ _ _ rfl ?_
            simp only [go_sem, hkc, hx, hfe]
            generalize hks' : (numL ks0 (f.take k)).1 = ks at *
            generalize hns' : (numL ks0 (f.take k)).2 = ns at *
            have hidx : ks.idxOf x ≤ ks.length := List.idxOf_le_length
            refine ⟨by omega, ?_⟩
            refine AW.seqTo (fun _ : Unit => Sh.st ⟨[(0, sL (eL eS) fs), (3, .ow 0 v' ks.length), (4, .ow 1 u i), (5, .val (.int .i64 i)), (6, .ow 2 w k), (7, .val (.int .i64 k)), (8, .val (.int .i64 (ks.idxOf x)))],
              [(0, rowL v' 9 eS ks), (1, rowL u 75 (eL eI) (numF [] (fs.take i))), (2, rowL w 3 eI ns)], 67, 3, nx', []⟩) ?_ ?_
            · refine AW.block (AW.round (α := { n : Nat // n ≤ ks.length ∧ ∀ m, m < n → ks.getD m [] ≠ x })
                (fun n => ⟨[(0, sL (eL eS) fs), (3, .ow 0 v' ks.length), (4, .ow 1 u i), (5, .val (.int .i64 i)), (6, .ow 2 w k), (7, .val (.int .i64 k)), (8, .val (.int .i64 n.1))],
                [(0, rowL v' 9 eS ks), (1, rowL u 75 (eL eI) (numF [] (fs.take i))), (2, rowL w 3 eI ns)], 67, 3, nx', []⟩) (fun n => ks.length - n.1) ⟨0, Nat.zero_le _, fun m h => absurd h (Nat.not_lt_zero _)⟩ ?_ ?_)
              · simp only [go_sem]
                exact ⟨RowLe.refl _, RowLe.refl _, RowLe.refl _⟩
              · rintro ⟨n, hn, hm⟩
                refine AW.of hΓ mixed [99999] _ _ _ rfl ?_
                simp only [go_sem, hx, hfe]
                refine ⟨fun _ => by omega, fun _ => by omega, fun _ => by omega, fun _ => by omega, fun h => ?_, fun h => ?_⟩
                · refine ⟨by omega, ⟨n + 1, by omega, fun m hm' => ?_⟩, ⟨by dsimp only; omega, RowLe.refl _, RowLe.refl _, RowLe.refl _⟩, by dsimp only; omega⟩
                  rcases Nat.lt_or_ge m n with h' | h'
                  · exact hm m h'
                  · obtain rfl : m = n := by omega
                    exact h.2
                · have hne : n = ks.idxOf x := idx_at ks x n hn hm fun hl => Decidable.not_not.1 (h (by omega))
                  refine ⟨(), toFits ?_⟩
                  simp only [go_sem]
                  exact ⟨by omega, RowLe.refl _, RowLe.refl _, RowLe.refl _⟩
            · intro _
              by_cases hb : x ∈ ks
              · have hlt : ks.idxOf x < ks.length := List.idxOf_lt_length_of_mem hb
                have hne : ¬ ((ks.idxOf x : Int) = ks.length) := by omega
                rw [if_pos hb] at hs
                refine AW.of hΓ mixed [99999] _ _ _ rfl ?_
                simp only [go_sem, hne, hx, hfe]
                refine ⟨⟨by omega, by omega⟩, by omega, ⟨(k + 1, v', nx', nx' + 1), by dsimp only; omega, by dsimp only; omega, by dsimp only; omega, by dsimp only; omega⟩, ⟨Nat.le_refl _, ⟨⟨rfl, by dsimp only; rw [hs]⟩, ⟨rfl, rfl⟩, by dsimp only; omega⟩, ?_, RowLe.refl _, ?_⟩, by dsimp only; omega⟩
                · dsimp only; rw [hs]; exact RowLe.refl _
                · dsimp only; rw [hs]; exact row_app1 rfl rfl hlen.symm rfl rfl fun _ _ => AVle.refl _
              · have heq : ks.idxOf x = ks.length := List.idxOf_eq_length hb
                rw [if_neg hb] at hs
                refine AW.of hΓ mixed [99999] _ _ _ rfl ?_
                simp only [go_sem, heq, hx, hfe]
                refine ⟨by omega, by omega, by omega, ⟨by omega, by omega⟩, by omega, ⟨(k + 1, nx', nx' + 1, nx' + 1 + 1), by dsimp only; omega, by dsimp only; omega, by dsimp only; omega, by dsimp only; omega⟩, ⟨Nat.le_refl _, ⟨⟨rfl, by dsimp only; rw [hs]; simp⟩, ⟨rfl, rfl⟩, by dsimp only; omega⟩, ?_, RowLe.refl _, ?_⟩, by dsimp only; omega⟩
                · dsimp only; rw [hs]; exact row_app1 rfl rfl rfl rfl (by simp) fun _ _ => AVle.refl _
                · dsimp only; rw [hs, heq]; exact row_app1 rfl rfl hlen.symm rfl rfl fun _ _ => AVle.refl _
          · obtain rfl : k = f.length := by omega
            refine AW.of hΓ mixed [10] _ _ _ rfl ?_
            simp only [go_sem, hfe]
            have hlf : (numL ks0 f).2.length = f.length := numL_len ks0 f
            refine ⟨by omega, ⟨(v', nx'), hnx, hv'⟩, ASle.trans (ASle.freeze 2 w 3 1 _ _ rfl fun _ _ _ _ => rfl) (toFits ?_)⟩
            simp only [go_sem, hlf]
            exact ⟨vw_all rfl rfl hlf.symm, RowLe.refl _, RowLe.refl _⟩
      · rintro ⟨⟨v', nx'⟩, hnx, hvn⟩
        simp only at hnx hvn
        simp only [go_sem]
        have hft : fs.take (i + 1) = fs.take i ++ [f] := by rw [take_snoc fs [] hlt, hfe]
        have hfo : (fs.take (i + 1)).foldl (fun k f => (numL k f).1) [] = (numL ks0 f).1 := by rw [hft, List.foldl_append, hke]; rfl
        have hkl := numL_ks ks0 f
        refine ⟨⟨by rw [numF_len]; simp; omega, by omega⟩, by omega, ⟨(i + 1, v', nx', nx' + 1), by dsimp only; omega, by dsimp only; omega, by dsimp only; omega, by dsimp only; rw [hfo]; omega⟩, ⟨Nat.le_refl _, ⟨⟨rfl, by dsimp only; rw [hfo]⟩, ⟨rfl, rfl⟩, by dsimp only; omega⟩, ?_, ?_⟩, by dsimp only; omega⟩
        · dsimp only
          rw [hfo]
          exact RowLe.refl _
        · dsimp only
          rw [hft, numF_snoc, hke]
          exact row_app1 rfl rfl (by rw [numF_len]; simp; omega) rfl (by simp [numF_len]) fun _ _ => AVle.refl _
    · obtain rfl : i = fs.length := by omega
      refine ⟨by rw [numF_len]; simp, ?_⟩
      rw [List.take_length]
      exact vw_all rfl rfl (by rw [numF_len])
end Go.Proofs.YtjfmigpahglajaaGreatDoor
set_option linter.unusedSimpArgs false
set_option linter.unusedVariables false
set_option maxRecDepth 100000
set_option maxHeartbeats 2000000
namespace Go.Proofs.YtjfmigpahglajaaGreatDoor
open Go
attribute [local irreducible] AW AVle ASle RowLe
def cutL {α : Type} (a : List α) (i j : Nat) : List α := (a.take j).drop i
theorem cutL_len {α : Type} (a : List α) {i j : Nat} (h : j ≤ a.length) : (cutL a i j).length = j - i := by simp [cutL]; omega
theorem cut_map {a : List (List UInt8)} {i j : Nat} (h : j ≤ a.length) : cutL a i j = (List.range (j - i)).map fun t => a.getD (i + t) [] := by
  refine list_ext_getD [] (by rw [cutL_len a h]; simp) fun t ht => ?_
  rw [cutL_len a h] at ht
  simp [cutL, List.getD, ht, List.getElem?_take, show i + t < j by omega]
theorem cut_le {a : List (List UInt8)} {i j : Nat} (h : j ≤ a.length) : AVle (.sn (j - i) 1 fun t => eS.enc (a.getD (i + t) [])) (sL eS (cutL a i j)) :=
  sn_le (E := eS) (j - i) (fun t => a.getD (i + t) []) _ (cut_map h)
def numA (a b : List (List UInt8)) : List Int := (numF [] [a, b]).getD 0 []
def numB (a b : List (List UInt8)) : List Int := (numF [] [a, b]).getD 1 []
theorem numA_len (a b : List (List UInt8)) : (numA a b).length = a.length := by
  simp [numA, numF, numL_len]
theorem numB_len (a b : List (List UInt8)) : (numB a b).length = b.length := by
  simp [numB, numF, numL_len]
end Go.Proofs.YtjfmigpahglajaaGreatDoor
set_option linter.unusedSimpArgs false
set_option linter.unusedVariables false
set_option maxRecDepth 100000
set_option maxHeartbeats 2000000
namespace Go.Proofs.YtjfmigpahglajaaGreatDoor
open Go
attribute [local irreducible] AW AVle ASle RowLe
abbrev Sp := Int × Int
abbrev Ck := Bool × Sp × Sp × Sp
abbrev Pl := Int × Int × Int
abbrev eSp : El Sp := eP eI eI
abbrev eCk : El Ck := eP eB (eP eSp (eP eSp eSp))
abbrev ePl : El Pl := eP eI (eP eI eI)
theorem sp_le {a b : Int} {c : Nat → AV} (h0 : c 0 = .val (.int .i64 a)) (h1 : c 1 = .val (.int .i64 b)) : AVle (.ag 2 c) (.ag 2 (eSp.enc (a, b))) := AVle.ag fun j hj => AVle.of_eq (match j, hj with
  | 0, _ => h0
  | 1, _ => h1)
theorem pl_le {a b d : Int} {c : Nat → AV} (h0 : c 0 = .val (.int .i64 a)) (h1 : c 1 = .val (.int .i64 b)) (h2 : c 2 = .val (.int .i64 d)) : AVle (.ag 3 c) (.ag 3 (ePl.enc (a, b, d))) := AVle.ag fun j hj => AVle.of_eq (match j, hj with
  | 0, _ => h0
  | 1, _ => h1
  | 2, _ => h2)
theorem ck_le {s : Bool} {b1 b2 l1 l2 r1 r2 : Int} {c : Nat → AV} (h0 : c 0 = .val (.bool s)) (h1 : c 1 = .val (.int .i64 b1)) (h2 : c 2 = .val (.int .i64 b2)) (h3 : c 3 = .val (.int .i64 l1)) (h4 : c 4 = .val (.int .i64 l2)) (h5 : c 5 = .val (.int .i64 r1)) (h6 : c 6 = .val (.int .i64 r2)) :
    AVle (.ag 7 c) (.ag 7 (eCk.enc (s, (b1, b2), (l1, l2), r1, r2))) := AVle.ag fun j hj => AVle.of_eq (match j, hj with
  | 0, _ => h0
  | 1, _ => h1
  | 2, _ => h2
  | 3, _ => h3
  | 4, _ => h4
  | 5, _ => h5
  | 6, _ => h6)
def cutS (s : Sp) (l : List (List UInt8)) : List (List UInt8) := if s.1 < 0 ∨ (l.length : Int) < s.2 ∨ s.2 < s.1 then [] else cutL l s.1.toNat s.2.toNat
theorem cutS_le (s : Sp) (l : List (List UInt8)) : (cutS s l).length ≤ l.length := by
  unfold cutS
  by_cases h : s.1 < 0 ∨ (l.length : Int) < s.2 ∨ s.2 < s.1
  · rw [if_pos h]; simp
  · rw [if_neg h, cutL_len l (by omega)]; omega
def sCutK : Spec := Spec.f2 (kA eSp) (kL eS) (fun s l => l.length < 100000000) (fun s l => sL eS (cutS s l))
theorem okCutK : SpecOK Tryz.prog 43 sCutK := by
  refine SpecOK.f2 Tryz.func43 rfl (by decide) Tryz.results43 Tryz.ntmps43 (by decide) fun s l hl => ?_
  have hΓ : GOK Tryz.prog (gam [(87, sCloneS)]) := (.cons okCloneS .nil)
  obtain ⟨f, t⟩ := s
  unfold cutS
  refine AW.of hΓ mixed [] _ _ _ rfl ?_
  simp only [go_sem, sCloneS]
  refine ⟨fun h => by simp [h], fun h => by simp [h], fun h => ?_, fun h => ?_⟩
  · simp only [Bool.or_eq_true, decide_eq_true_eq, or_assoc] at h
    rw [if_pos h]
    exact AVle.em_sn
  · simp only [Bool.or_eq_false_iff, decide_eq_false_iff_not] at h
    refine ⟨by omega, _, cutL l f.toNat t.toNat, rfl, cut_le (by omega), by rw [cutL_len l (by omega)]; omega, fun ver nx' _ _ => ?_⟩
    rw [if_neg (by omega)]
    exact AVle.refl _
def sRefCutK : Spec := Spec.f2 (kA eSp) (kL eS) (fun s l => l.length < 100000000) (fun s l => sL eS (cutS s l))
theorem okRefCutK : SpecOK Tryz.prog 74 sRefCutK := by
  refine SpecOK.f2 Tryz.func74 rfl (by decide) Tryz.results74 Tryz.ntmps74 (by decide) fun s l hl => ?_
  have hΓ : GOK Tryz.prog (gam []) := GOK.nil
  obtain ⟨f, t⟩ := s
  unfold cutS
  refine AW.of hΓ mixed [] _ _ _ rfl ?_
  simp only [go_sem]
  refine ⟨fun h => by simp [h], fun h => by simp [h], fun h => ?_, fun h => ?_⟩
  · simp only [Bool.or_eq_true, decide_eq_true_eq, or_assoc] at h
    rw [if_pos h]
    exact AVle.em_sn
  · simp only [Bool.or_eq_false_iff, decide_eq_false_iff_not] at h
    rw [if_neg (by omega)]
    exact ⟨by omega, cut_le (by omega)⟩
def sSpanK : Spec := Spec.f1 (kA eSp) (fun _ => True) (fun s => (kA eSp).enc s)
theorem okSpanK : SpecOK Tryz.prog 111 sSpanK := by
  refine SpecOK.f1 Tryz.func111 rfl (by decide) Tryz.results111 Tryz.ntmps111 (by decide) fun s _ => ?_
  have hΓ : GOK Tryz.prog (gam []) := GOK.nil
  obtain ⟨f, t⟩ := s
  refine AW.of hΓ mixed [] _ _ _ rfl ?_
  simp only [go_sem]
  exact sp_le rfl rfl
def btw (p q : Pl) : Ck := (false, (p.1, q.1), (p.2.1, q.2.1), (p.2.2, q.2.2))
def sBetween : Spec := Spec.f2 (kA ePl) (kA ePl) (fun _ _ => True) (fun p q => (kA eCk).enc (btw p q))
theorem okBetween : SpecOK Tryz.prog 101 sBetween := by
  refine SpecOK.f2 Tryz.func101 rfl (by decide) Tryz.results101 Tryz.ntmps101 (by decide) fun p q _ => ?_
  have hΓ : GOK Tryz.prog (gam []) := GOK.nil
  obtain ⟨p1, p2, p3⟩ := p
  obtain ⟨q1, q2, q3⟩ := q
  unfold btw
  refine AW.of hΓ mixed [] _ _ _ rfl ?_
  simp only [go_sem]
  exact ck_le rfl rfl rfl rfl rfl rfl rfl
def nextP (p : Pl) : Pl := (p.1 + 1, p.2.1 + 1, p.2.2 + 1)
def okPl (p : Pl) : Prop := (-9223372036854775808 ≤ p.1 ∧ p.1 < 9223372036854775807) ∧ (-9223372036854775808 ≤ p.2.1 ∧ p.2.1 < 9223372036854775807) ∧ -9223372036854775808 ≤ p.2.2 ∧ p.2.2 < 9223372036854775807
def sNextP : Spec := Spec.f1 (kA ePl) okPl (fun p => (kA ePl).enc (nextP p))
theorem okNextP : SpecOK Tryz.prog 103 sNextP := by
  refine SpecOK.f1 Tryz.func103 rfl (by decide) Tryz.results103 Tryz.ntmps103 (by decide) fun p hp => ?_
  have hΓ : GOK Tryz.prog (gam []) := GOK.nil
  obtain ⟨p1, p2, p3⟩ := p
  obtain ⟨h1, h2, h3⟩ := hp
  simp only at h1 h2 h3
  unfold nextP
  refine AW.of hΓ mixed [] _ _ _ rfl ?_
  simp only [go_sem]
  exact ⟨by omega, by omega, by omega, pl_le rfl rfl rfl⟩
def sOneK : Spec := Spec.f1 (kA eCk) (fun _ => True) (fun c => (kA eCk).enc c)
theorem okOneK : SpecOK Tryz.prog 62 sOneK := by
  refine SpecOK.f1 Tryz.func62 rfl (by decide) Tryz.results62 Tryz.ntmps62 (by decide) fun c _ => ?_
  have hΓ : GOK Tryz.prog (gam [(111, sSpanK)]) := (.cons okSpanK .nil)
  obtain ⟨s, ⟨b1, b2⟩, ⟨l1, l2⟩, r1, r2⟩ := c
  refine AW.of hΓ mixed [200001] _ _ _ rfl ?_
  simp only [go_sem, sSpanK]
  refine AW.drawT hΓ mixed 12 [] (by decide +kernel) ?_
  simp only [go_sem, sSpanK]
  exact ck_le rfl rfl rfl rfl rfl rfl rfl
def classK (c : Ck) (b l r : List (List UInt8)) : Int := if c.1 = true then 0 else if cutS c.2.2.1 l = cutS c.2.1 b then 2 else if cutS c.2.2.2 r = cutS c.2.1 b then 1 else if cutS c.2.2.1 l = cutS c.2.2.2 r then 3 else 4
def sClassK : Spec := Spec.f4 (kA eCk) (kL eS) (kL eS) (kL eS) (fun c b l r => b.length < 100000000 ∧ l.length < 100000000 ∧ r.length < 100000000) (fun c b l r => kI.enc (classK c b l r))
theorem okClassK : SpecOK Tryz.prog 44 sClassK := by
  refine SpecOK.f4 Tryz.func44 rfl (by decide) Tryz.results44 Tryz.ntmps44 (by decide) fun c b l r ⟨hb, hl, hr⟩ => ?_
  have hΓ : GOK Tryz.prog (gam [(43, sCutK), (88, sEqS)]) := (.cons okCutK (.cons okEqS .nil))
  obtain ⟨s, ⟨b1, b2⟩, ⟨l1, l2⟩, r1, r2⟩ := c
  unfold classK
  dsimp only
  have g1 := cutS_le (b1, b2) b
  have g2 := cutS_le (l1, l2) l
  have g3 := cutS_le (r1, r2) r
  refine AW.of hΓ mixed [] _ _ _ rfl ?_
  simp only [go_sem, sCutK, sEqS]
  refine ⟨fun h => by rw [if_pos h], fun h => ⟨hb, hl, hr, by omega, fun h1 => by simp [h, h1], fun h1 => ⟨by omega, fun h2 => by simp [h, h1, h2], fun h2 => ⟨by omega, fun h3 => ?_, fun h3 => ?_⟩⟩⟩⟩
  · rw [if_neg (by simp [h]), if_neg h1, if_neg h2, if_pos h3]
  · rw [if_neg (by simp [h]), if_neg h1, if_neg h2, if_neg h3]
def sRefClassK : Spec := Spec.f4 (kA eCk) (kL eS) (kL eS) (kL eS) (fun c b l r => b.length < 100000000 ∧ l.length < 100000000 ∧ r.length < 100000000) (fun c b l r => kI.enc (classK c b l r))
theorem okRefClassK : SpecOK Tryz.prog 75 sRefClassK := by
  refine SpecOK.f4 Tryz.func75 rfl (by decide) Tryz.results75 Tryz.ntmps75 (by decide) fun c b l r ⟨hb, hl, hr⟩ => ?_
  have hΓ : GOK Tryz.prog (gam [(74, sRefCutK), (125, sSameS)]) := (.cons okRefCutK (.cons okSameS .nil))
  obtain ⟨s, ⟨b1, b2⟩, ⟨l1, l2⟩, r1, r2⟩ := c
  unfold classK
  dsimp only
  have g1 := cutS_le (b1, b2) b
  have g2 := cutS_le (l1, l2) l
  have g3 := cutS_le (r1, r2) r
  refine AW.of hΓ mixed [] _ _ _ rfl ?_
  simp only [go_sem, sRefCutK, sSameS]
  refine ⟨hb, hl, hr, fun h => by rw [if_pos h], fun h => ⟨by omega, fun h1 => by simp [h, h1], fun h1 => ?_⟩⟩
  have h1' : ¬ cutS (l1, l2) l = cutS (b1, b2) b := fun e => h1 e.symm
  refine ⟨by omega, fun h2 => by rw [if_neg (by simp [h]), if_neg h1', if_pos h2.symm], fun h2 => ?_⟩
  have h2' : ¬ cutS (r1, r2) r = cutS (b1, b2) b := fun e => h2 e.symm
  refine ⟨by omega, fun h3 => ?_, fun h3 => ?_⟩
  · rw [if_neg (by simp [h]), if_neg h1', if_neg h2', if_pos h3]
  · rw [if_neg (by simp [h]), if_neg h1', if_neg h2', if_neg h3]
end Go.Proofs.YtjfmigpahglajaaGreatDoor
set_option linter.unusedSimpArgs false
set_option linter.unusedVariables false
set_option maxRecDepth 100000
set_option maxHeartbeats 2000000
namespace Go.Proofs.YtjfmigpahglajaaGreatDoor
open Go
attribute [local irreducible] AW AVle ASle RowLe
def riseB (a b : Int) : Int → Int → List (Int × Int) → Bool
  | _, _, [] => true
  | u, v, p :: l => decide (u < p.1 ∧ v < p.2 ∧ p.1 < a ∧ p.2 < b) && riseB a b p.1 p.2 l
def sRises : Spec := Spec.f3 (kL (eP eI eI)) kI kI (fun l a b => l.length < 100000000) (fun l a b => kB.enc (riseB a b (-1) (-1) l))
theorem okRises : SpecOK Tryz.prog 99 sRises := by
  refine SpecOK.f3 Tryz.func99 rfl (by decide) Tryz.results99 Tryz.ntmps99 (by decide) fun l a b hl => ?_
  have hΓ : GOK Tryz.prog (gam []) := GOK.nil
  refine AW.of hΓ mixed [] _ _ _ rfl ?_
  simp only [go_sem, pp_sz]
  refine AW.round (α := { x : Nat × Int × Int × Nat // x.1 ≤ l.length ∧ riseB a b (-1) (-1) l = riseB a b x.2.1 x.2.2.1 (l.drop x.1) ∧ -1 ≤ x.2.1 ∧ -1 ≤ x.2.2.1 })
    (fun x => ⟨[(1, .val (.int .i64 a)), (2, .val (.int .i64 b)), (7, .pt 0 0 0), (11, sL (eP eI eI) l), (12, .val (.int .i64 l.length)), (13, .val (.int .i64 x.1.1))], [(0, .box 0 108 2 fun j => if j = 0 then .val (.int .i64 x.1.2.1) else .val (.int .i64 x.1.2.2.1))], 43, 1, x.1.2.2.2, []⟩) (fun x => l.length - x.1.1) ⟨(0, -1, -1, 1), Nat.zero_le _, rfl, Int.le_refl _, Int.le_refl _⟩ ?_ ?_
  · simp only [go_sem]
    refine RowLe.box fun j hj => AVle.of_eq ?_
    match j, hj with
    | 0, _ => rfl
    | 1, _ => rfl
  · rintro ⟨⟨i, u, v, nx⟩, hi, hr, hu, hv⟩
    simp only at hi hr hu hv
    refine AW.of hΓ mixed [4, 99999] _ _ _ rfl ?_
    simp only [go_sem, pp_sz]
    refine ⟨fun hlt => ?_, fun hge => ?_⟩
    · obtain ⟨x, y, hxy⟩ : ∃ x y, l.getD i (0, 0) = (x, y) := ⟨_, _, rfl⟩
      have hd : l.drop i = (x, y) :: l.drop (i + 1) := by
        rw [List.drop_eq_getElem_cons (by omega), ← gd_lt l (0, 0) (by omega), hxy]
      rw [hd, riseB] at hr
      dsimp only at hr
      refine ⟨by omega, ?_⟩
      refine AW.cut ⟨[(1, .val (.int .i64 a)), (2, .val (.int .i64 b)), (7, .pt 0 0 0), (9, .pt 1 nx 0), (11, sL (eP eI eI) l), (12, .val (.int .i64 l.length)), (13, .val (.int .i64 i))], [(0, .box 0 108 2 fun j => if j = 0 then .val (.int .i64 u) else .val (.int .i64 v)), (1, .box nx 108 2 fun j => if j = 0 then .val (.int .i64 x) else .val (.int .i64 y))], 43, 2, nx + 1, []⟩ ?_ ?_
      · simp only [go_sem]
        refine ⟨RowLe.refl _, RowLe.box fun j hj => AVle.of_eq ?_⟩
        match j, hj with
        | 0, _ => show (eP eI eI).enc (l.getD i (0, 0)) 0 = _; rw [hxy]; rfl
        | 1, _ => show (eP eI eI).enc (l.getD i (0, 0)) 1 = _; rw [hxy]; rfl
      · refine AW.of hΓ mixed [99999] _ _ _ rfl ?_
        simp only [go_sem]
        refine ⟨fun h => by simp [h], fun h => by rw [h]; rfl, fun h => by rw [h]; rfl, fun h => ?_, fun h => ?_⟩
        · simp only [Bool.or_eq_true, decide_eq_true_eq] at h
          rw [hr, decide_eq_false (by omega), Bool.false_and]
        · simp only [Bool.or_eq_false_iff, decide_eq_false_iff_not] at h
          rw [decide_eq_true (by omega), Bool.true_and] at hr
          exact ⟨by omega, ⟨(i + 1, x, y, nx + 1), by dsimp only; omega, hr, by dsimp only; omega, by dsimp only; omega⟩, ⟨Nat.le_refl _, by dsimp only; omega, box_st⟩, by dsimp only; omega⟩
    · obtain rfl : i = l.length := by omega
      rw [List.drop_length] at hr
      exact hr.symm
def sRefRises : Spec := Spec.f3 kI kI (kL (eP eI eI)) (fun a b l => l.length < 100000000) (fun a b l => kB.enc (riseB a b (-1) (-1) l))
theorem okRefRises : SpecOK Tryz.prog 72 sRefRises := by
  refine SpecOK.f3 Tryz.func72 rfl (by decide) Tryz.results72 Tryz.ntmps72 (by decide) fun a b l hl => ?_
  have hΓ : GOK Tryz.prog (gam []) := GOK.nil
  refine AW.of hΓ mixed [] _ _ _ rfl ?_
  simp only [go_sem, pp_sz]
  refine AW.round (α := { x : Nat × Nat // x.1 ≤ l.length ∧ riseB a b (-1) (-1) l = riseB a b (lastP l x.1).1 (lastP l x.1).2 (l.drop x.1) ∧ -1 ≤ (lastP l x.1).1 ∧ -1 ≤ (lastP l x.1).2 })
    (fun x => ⟨[(0, .val (.int .i64 a)), (1, .val (.int .i64 b)), (2, sL (eP eI eI) l), (7, .val (.int .i64 x.1.1))], [], 65, 0, x.1.2, []⟩) (fun x => l.length - x.1.1) ⟨(0, 0), Nat.zero_le _, rfl, Int.le_refl _, Int.le_refl _⟩ ?_ ?_
  · simp only [go_sem]
  · rintro ⟨⟨i, nx⟩, hi, hr, hu, hv⟩
    simp only at hi hr hu hv
    obtain ⟨u, v, huv⟩ : ∃ u v, lastP l i = (u, v) := ⟨_, _, rfl⟩
    rw [huv] at hr hu hv
    dsimp only at hr hu hv
    refine AW.of hΓ mixed [4, 99999] _ _ _ rfl ?_
    simp only [go_sem, pp_sz]
    refine ⟨fun hlt => ?_, fun hge => ?_⟩
    · obtain ⟨x, y, hxy⟩ : ∃ x y, l.getD i (0, 0) = (x, y) := ⟨_, _, rfl⟩
      have hd : l.drop i = (x, y) :: l.drop (i + 1) := by
        rw [List.drop_eq_getElem_cons (by omega), ← gd_lt l (0, 0) (by omega), hxy]
      rw [hd, riseB] at hr
      dsimp only at hr
      refine ⟨by omega, ?_⟩
      refine AW.cut ⟨[(0, .val (.int .i64 a)), (1, .val (.int .i64 b)), (2, sL (eP eI eI) l), (7, .val (.int .i64 i)), (8, .pt 0 nx 0)], [(0, .box nx 109 2 fun j => if j = 0 then .val (.int .i64 x) else .val (.int .i64 y))], 65, 1, nx + 1, []⟩ ?_ ?_
      · simp only [go_sem]
        refine RowLe.box fun j hj => AVle.of_eq ?_
        match j, hj with
        | 0, _ => show (eP eI eI).enc (l.getD i (0, 0)) 0 = _; rw [hxy]; rfl
        | 1, _ => show (eP eI eI).enc (l.getD i (0, 0)) 1 = _; rw [hxy]; rfl
      · by_cases c : 0 ≤ x ∧ x < a ∧ 0 ≤ y ∧ y < b
        · obtain ⟨c1, c2, c3, c4⟩ := c
          have c5 : ¬ a ≤ x := by omega
          have c6 : ¬ b ≤ y := by omega
          have c7 : ¬ x < 0 := by omega
          have c8 : ¬ y < 0 := by omega
          obtain ⟨g1, g2, hg⟩ : ∃ g1 g2, l.getD ((i : Int) - 1).toNat (0, 0) = (g1, g2) := ⟨_, _, rfl⟩
          have hk : 0 < i → g1 = u ∧ g2 = v := fun h0 => by
            cases i with
            | zero => omega
            | succ i =>
              have h1 : l.getD i (0, 0) = (u, v) := huv
              rw [show ((i + 1 : Nat) : Int) - 1 = (i : Nat) by omega, Int.toNat_natCast, h1] at hg
              exact ⟨(Prod.mk.inj hg).1.symm, (Prod.mk.inj hg).2.symm⟩
          have hz : i = 0 → u = -1 ∧ v = -1 := fun h0 => by
            subst h0
            exact ⟨(Prod.mk.inj huv).1.symm, (Prod.mk.inj huv).2.symm⟩
          refine AW.of hΓ mixed [99999] _ _ _ rfl ?_
          simp only [go_sem, c1, c2, c3, c4, c5, c6, c7, c8, decide_true, decide_false, Bool.or_false, Bool.not_false, Bool.false_or, true_and, forall_const, pp0, pp1, pp_sz, pp_d, hg]
          have hl1 : lastP l (i + 1) = (x, y) := hxy
          refine ⟨fun _ => by omega, fun _ => by omega, fun _ => by omega, fun _ => by omega, fun h0 h1 => by rw [decide_eq_true h0, decide_eq_false h1]; rfl, fun ⟨h0, h1⟩ => ?_, fun h1 => ⟨by omega, ⟨(i + 1, nx + 1), by dsimp only; omega, ?_, by dsimp only; rw [hl1]; dsimp only; omega, by dsimp only; rw [hl1]; dsimp only; omega⟩, ⟨Nat.le_refl _, by dsimp only; omega⟩, by dsimp only; omega⟩⟩
          · simp only [Bool.or_eq_true, decide_eq_true_eq] at h1
            have := hk (by omega)
            rw [hr, decide_eq_false (by omega), Bool.false_and]
          · simp only [Bool.or_eq_false_iff, decide_eq_false_iff_not] at h1
            dsimp only
            rw [hl1, hr, decide_eq_true, Bool.true_and]
            rcases Nat.eq_zero_or_pos i with h0 | h0
            · have := hz h0; omega
            · have := hk h0; have := h1 (by omega); omega
        · have d : (decide (x < 0) || decide (a ≤ x) || decide (y < 0) || decide (b ≤ y)) = true := by
            cases h : (decide (x < 0) || decide (a ≤ x) || decide (y < 0) || decide (b ≤ y)) with
            | true => rfl
            | false =>
              simp only [Bool.or_eq_false_iff, decide_eq_false_iff_not] at h
              omega
          have hr2 : riseB a b (-1) (-1) l = false := by
            rw [hr, decide_eq_false (fun h => c ⟨by omega, h.2.2.1, by omega, h.2.2.2⟩), Bool.false_and]
          refine AW.of hΓ mixed [6, 99999] _ _ _ rfl ?_
          simp only [go_sem]
          refine ⟨fun h => by simp [h], fun h => by rw [h]; rfl, fun h => by rw [h]; rfl, fun h => by rw [d] at h; exact absurd h.1 (by decide), fun h => by rw [d] at h; exact absurd h.1 (by decide), fun h => by rw [d] at h; exact absurd h.1.1 (by decide), fun h => by rw [d] at h; exact absurd h.1.1 (by decide),
            fun h => by rw [d] at h; exact absurd h.1 (by decide), fun h => by rw [d] at h; exact absurd h (by decide), fun h => by rw [d] at h; exact absurd h (by decide), fun _ => ?_, fun h => by rw [d, Bool.true_or] at h; exact absurd h (by decide)⟩
          refine AW.of hΓ mixed [] _ _ _ rfl ?_
          simp only [go_sem]
          exact hr2.symm
    · obtain rfl : i = l.length := by omega
      rw [List.drop_length] at hr
      exact hr.symm
def atL : List (Int × Int) → Int → Int
  | [], _ => -1
  | p :: l, x => if p.1 = x then p.2 else atL l x
def sAtL : Spec := Spec.f2 (kL (eP eI eI)) kI (fun l x => l.length < 100000000) (fun l x => kI.enc (atL l x))
theorem okAtL : SpecOK Tryz.prog 73 sAtL := by
  refine SpecOK.f2 Tryz.func73 rfl (by decide) Tryz.results73 Tryz.ntmps73 (by decide) fun l x hl => ?_
  have hΓ : GOK Tryz.prog (gam []) := GOK.nil
  refine AW.of hΓ mixed [] _ _ _ rfl ?_
  simp only [go_sem, pp_sz]
  refine AW.round (α := { y : Nat × Nat // y.1 ≤ l.length ∧ atL l x = atL (l.drop y.1) x })
    (fun y => ⟨[(0, sL (eP eI eI) l), (1, .val (.int .i64 x)), (5, .val (.int .i64 y.1.1))], [], 24, 0, y.1.2, []⟩) (fun y => l.length - y.1.1) ⟨(0, 0), Nat.zero_le _, rfl⟩ ?_ ?_
  · simp only [go_sem]
  · rintro ⟨⟨i, nx⟩, hi, hr⟩
    simp only at hi hr
    refine AW.of hΓ mixed [99999] _ _ _ rfl ?_
    simp only [go_sem, pp_sz, pp_d, pp0, pp1]
    refine ⟨fun hlt => ?_, fun hge => ?_⟩
    · have hd : l.drop i = l.getD i (0, 0) :: l.drop (i + 1) := by
        rw [List.drop_eq_getElem_cons (by omega), ← gd_lt l (0, 0) (by omega)]
      rw [hd, atL] at hr
      refine ⟨by omega, fun h => ⟨by omega, ?_⟩, fun h => ⟨by omega, ⟨(i + 1, nx), by dsimp only; omega, ?_⟩, ⟨Nat.le_refl _, by dsimp only; omega⟩, by dsimp only; omega⟩⟩
      · rw [hr, if_pos h]
      · rw [if_neg h] at hr
        exact hr
    · obtain rfl : i = l.length := by omega
      rw [List.drop_length] at hr
      exact hr.symm
end Go.Proofs.YtjfmigpahglajaaGreatDoor
set_option linter.unusedSimpArgs false
set_option linter.unusedVariables false
set_option maxRecDepth 100000
set_option maxHeartbeats 2000000
namespace Go.Proofs.YtjfmigpahglajaaGreatDoor
open Go
attribute [local irreducible] AW AVle ASle RowLe
def bothF : List (Int × Int) → List (Int × Int) → List Pl
  | [], _ => []
  | _ :: _, [] => []
  | p :: l, q :: r => if p.1 < q.1 then bothF l (q :: r) else if q.1 < p.1 then bothF (p :: l) r else (p.1, p.2, q.2) :: bothF l r
  termination_by l r => l.length + r.length
theorem both_nil (l : List (Int × Int)) : bothF l [] = [] := by cases l <;> simp [bothF]
theorem both_nil' (r : List (Int × Int)) : bothF [] r = [] := by simp [bothF]
def sBoth : Spec := Spec.f2 (kL (eP eI eI)) (kL (eP eI eI)) (fun l r => l.length < 100000000 ∧ r.length < 100000000) (fun l r => sL ePl (bothF l r))
theorem okBoth : SpecOK Tryz.prog 100 sBoth := by
  refine SpecOK.f2 Tryz.func100 rfl (by decide) Tryz.results100 Tryz.ntmps100 (by decide) fun l r ⟨hl, hr⟩ => ?_
  have hΓ : GOK Tryz.prog (gam []) := GOK.nil
  refine AW.of hΓ mixed [200004] _ _ _ rfl ?_
  simp only [go_sem, pp_sz]
  refine AW.adopt 5 161 3 (fun i => ePl.enc (([] : List Pl).getD i (0, 0, 0))) rfl ?_
  refine AW.round (α := { x : Nat × Nat × List Pl × Nat × Nat // x.1 ≤ l.length ∧ x.2.1 ≤ r.length ∧ x.2.2.1.length ≤ x.1 ∧ bothF l r = x.2.2.1 ++ bothF (l.drop x.1) (r.drop x.2.1) })
    (fun x => ⟨[(0, sL (eP eI eI) l), (1, sL (eP eI eI) r), (5, .ow 0 x.1.2.2.2.1 x.1.2.2.1.length), (6, .val (.int .i64 x.1.1)), (7, .val (.int .i64 x.1.2.1))], [(0, rowL x.1.2.2.2.1 161 ePl x.1.2.2.1)], 70, 1, x.1.2.2.2.2, []⟩) (fun x => l.length + r.length - x.1.1 - x.1.2.1) ⟨(0, 0, [], 0, 1), Nat.zero_le _, Nat.zero_le _, Nat.le_refl _, rfl⟩ ?_ ?_
  · simp only [go_sem, pp_sz]
    exact RowLe.refl _
  · rintro ⟨⟨i, j, out, v, nx⟩, hi, hj, ho, hb⟩
    simp only at hi hj ho hb
    refine AW.of hΓ mixed [200004, 99999] _ _ _ rfl ?_
    simp only [go_sem, pp_sz, pp_d, pp0, pp1]
    refine ⟨fun ⟨h1, h2⟩ => ?_, fun h => ?_⟩
    · have hdl : l.drop i = l.getD i (0, 0) :: l.drop (i + 1) := by
        rw [List.drop_eq_getElem_cons (by omega), ← gd_lt l (0, 0) (by omega)]
      have hdr : r.drop j = r.getD j (0, 0) :: r.drop (j + 1) := by
        rw [List.drop_eq_getElem_cons (by omega), ← gd_lt r (0, 0) (by omega)]
      refine ⟨by omega, by omega, fun c => ?_, fun c => ⟨by omega, by omega, fun c2 => ?_, fun c2 => ?_⟩⟩
      · rw [hdl, hdr, bothF, if_pos c, ← hdr] at hb
        exact ⟨by omega, ⟨(i + 1, j, out, v, nx), by dsimp only; omega, by dsimp only; omega, by dsimp only; omega, hb⟩, ⟨Nat.le_refl _, ⟨⟨rfl, rfl⟩, by dsimp only; omega, rfl⟩, RowLe.refl _⟩, by dsimp only; omega⟩
      · rw [hdl, hdr, bothF, if_neg c, if_pos c2, ← hdl] at hb
        exact ⟨by omega, ⟨(i, j + 1, out, v, nx), by dsimp only; omega, by dsimp only; omega, by dsimp only; omega, hb⟩, ⟨Nat.le_refl _, ⟨⟨rfl, rfl⟩, rfl, by dsimp only; omega⟩, RowLe.refl _⟩, by dsimp only; omega⟩
      · rw [hdl, hdr, bothF, if_neg c, if_neg c2] at hb
        refine AW.drawT hΓ mixed 18 [] (by decide +kernel) ?_
        simp only [go_sem, pp_sz, pp_d, pp0, pp1]
        refine ⟨by omega, by omega, by omega, by omega, by omega, by omega, ⟨(i + 1, j + 1, out ++ [((l.getD i (0, 0)).1, (l.getD i (0, 0)).2, (r.getD j (0, 0)).2)], nx, nx + 1), by dsimp only; omega, by dsimp only; omega, by simp; omega, by dsimp only; rw [hb, List.append_assoc]; rfl⟩, ⟨Nat.le_refl _, ⟨⟨rfl, by simp⟩, by dsimp only; omega, by dsimp only; omega⟩, ?_⟩, by dsimp only; omega⟩
        refine row_app1 (E := ePl) rfl rfl rfl rfl (by simp) fun k hk => ?_
        match k, hk with
        | 0, _ => exact AVle.refl _
        | 1, _ => exact AVle.refl _
        | 2, _ => exact AVle.refl _
    · have e : bothF (l.drop i) (r.drop j) = [] := by
        rcases Nat.lt_or_ge i l.length with c | c
        · rw [show r.drop j = [] from List.drop_eq_nil_of_le (by omega)]
          exact both_nil _
        · rw [show l.drop i = [] from List.drop_eq_nil_of_le (by omega)]
          exact both_nil' _
      rw [e, List.append_nil] at hb
      rw [hb]
      exact vw_all (E := ePl) rfl rfl rfl
theorem ckEq (x y : Ck) : (decide (x.1 = y.1) && (decide (x.2.1.1 = y.2.1.1) && decide (x.2.1.2 = y.2.1.2) && (decide (x.2.2.1.1 = y.2.2.1.1) && decide (x.2.2.1.2 = y.2.2.1.2) && (decide (x.2.2.2.1 = y.2.2.2.1) && decide (x.2.2.2.2 = y.2.2.2.2))))) = decide (x = y) := by
  obtain ⟨s, ⟨b1, b2⟩, ⟨l1, l2⟩, r1, r2⟩ := x
  obtain ⟨s', ⟨b1', b2'⟩, ⟨l1', l2'⟩, r1', r2'⟩ := y
  rw [Bool.eq_iff_iff]
  simp only [Bool.and_eq_true, decide_eq_true_eq, Prod.mk.injEq]
def sSameK : Spec := Spec.f2 (kL eCk) (kL eCk) (fun a b => a.length < 1000000000 ∧ b.length < 1000000000) (fun a b => kB.enc (decide (a = b)))
theorem okSameK : SpecOK Tryz.prog 24 sSameK := by
  refine SpecOK.f2 Tryz.func24 rfl (by decide) Tryz.results24 Tryz.ntmps24 (by decide) fun a b ⟨ha, hb⟩ => ?_
  have hΓ : GOK Tryz.prog (gam []) := GOK.nil
  refine AW.of hΓ mixed [] _ _ _ rfl ?_
  simp only [go_sem]
  refine ⟨fun h e => h (by rw [e]), fun h => ?_⟩
  have hab : a.length = b.length := by omega
  refine AW.round (α := { x : Nat × Nat // x.1 ≤ a.length ∧ ∀ k, k < x.1 → a.getD k eCk.dflt = b.getD k eCk.dflt })
    (fun x => ⟨[(0, sL eCk a), (1, sL eCk b), (5, .val (.int .i64 x.1.1))], [], 26, 0, x.1.2, []⟩) (fun x => a.length - x.1.1) ⟨(0, 0), Nat.zero_le _, fun k hk => absurd hk (Nat.not_lt_zero _)⟩ ?_ ?_
  · simp only [go_sem]
  · rintro ⟨⟨i, nx⟩, hi, he⟩
    simp only at hi he
    refine AW.of hΓ mixed [99999] _ _ _ rfl ?_
    simp only [go_sem]
    rw [ckEq]
    refine ⟨fun hlt => ⟨by omega, by omega, fun hn e => ?_, fun hn => ⟨by omega, ⟨(i + 1, nx), by dsimp only; omega, fun k hk => ?_⟩, ⟨Nat.le_refl _, by dsimp only; omega⟩, by dsimp only; omega⟩⟩, fun hge => ?_⟩
    · rw [e, decide_eq_true rfl] at hn
      cases hn
    · dsimp only at hk
      rcases Nat.lt_or_ge k i with h' | h'
      · exact he k h'
      · obtain rfl : k = i := by omega
        simpa using hn
    · exact list_ext_getD eCk.dflt hab fun k hk => he k (by omega)
def sFromK : Spec := Spec.f1 (kL eCk) (fun l => l.length < 100000000) (fun l => sL eCk l)
theorem okFromK : SpecOK Tryz.prog 25 sFromK := by
  refine SpecOK.f1 Tryz.func25 rfl (by decide) Tryz.results25 Tryz.ntmps25 (by decide) fun l hl => ?_
  have hΓ : GOK Tryz.prog (gam [(62, sOneK)]) := (.cons okOneK .nil)
  refine AW.of hΓ mixed [] _ _ _ rfl ?_
  simp only [go_sem, sOneK]
  refine AW.adopt 3 115 7 (fun i => eCk.enc (([] : List Ck).getD i eCk.dflt)) rfl ?_
  refine AW.round (α := { x : Nat × Nat × Nat // x.1 ≤ l.length })
    (fun x => ⟨[(0, sL eCk l), (3, .ow 0 x.1.2.1 x.1.1), (4, .val (.int .i64 x.1.1))], [(0, rowL x.1.2.1 115 eCk (l.take x.1.1))], 20, 1, x.1.2.2, []⟩) (fun x => l.length - x.1.1) ⟨(0, 0, 1), Nat.zero_le _⟩ ?_ ?_
  · simp only [go_sem, sOneK]
    exact RowLe.refl _
  · rintro ⟨⟨i, v, nx⟩, hi⟩
    simp only at hi
    refine AW.of hΓ mixed [99999] _ _ _ rfl ?_
    simp only [go_sem, sOneK]
    refine ⟨fun hlt => ⟨by omega, by omega, by omega, ⟨(i + 1, nx, nx + 1), by dsimp only; omega⟩, ⟨Nat.le_refl _, ⟨⟨rfl, rfl⟩, by dsimp only; omega⟩, ?_⟩, by dsimp only; omega⟩, fun hge => ?_⟩
    · refine row_app1 (E := eCk) (x := l.getD i eCk.dflt) rfl (take_snocG l eCk.dflt (by omega)) (by simp; omega) rfl (by simp) fun j hj => AVle.refl _
    · obtain rfl : i = l.length := by omega
      rw [List.take_length]
      exact ⟨by simp, vw_all (E := eCk) rfl rfl rfl⟩
end Go.Proofs.YtjfmigpahglajaaGreatDoor
set_option linter.unusedSimpArgs false
set_option linter.unusedVariables false
namespace Go.Proofs.YtjfmigpahglajaaGreatDoor
open Go
theorem ASle.still {st : AS} (s q v e m : Nat) (c : Nat → AV) (hs : st.fr s = .pt q v 0) (hrow : st.hp q = .box v e m c) (hfl : ∀ j, j < m → (c j).flat = true) :
    ASle st ⟨updA st.fr s (.ps m c), updR st.hp q .dead, st.sz, st.top, st.nx, st.df⟩ := by
  intro ct η a w h
  have hver : ∀ p u, (updR st.hp q .dead p).ver = some u → (st.hp p).ver = some u ∧ p ≠ q := fun p u hv => by
    by_cases e : p = q
    · subst e; rw [updR_at] at hv; cases hv
    · rw [updR_ne _ _ e] at hv; exact ⟨hv, e⟩
  have hblk : ∀ p b, (updR st.hp q .dead p).blk η = some b → (st.hp p).blk η = some b ∧ p ≠ q := fun p b hb => by
    by_cases e : p = q
    · subst e; rw [updR_at] at hb; cases hb
    · rw [updR_ne _ _ e] at hb; exact ⟨hb, e⟩
  have hL : ∀ b, Lset ct η (updR st.hp q .dead) b → Lset ct η st.hp b := by
    rintro b (hl | ⟨p, hp⟩)
    · exact .inl hl
    · exact .inr ⟨p, (hblk p b hp).1⟩
  have less : ∀ {x u}, Rep w η (Lset ct η st.hp) x u → Rep w η (Lset ct η (updR st.hp q .dead)) x u := fun h => Rep.less (fun b _ hb => hL b hb) h
  have lessN : ∀ {x u}, Rep w noEnv (Lset ct η st.hp) x u → Rep w noEnv (Lset ct η (updR st.hp q .dead)) x u := fun h => Rep.less (fun b _ hb => hL b hb) h
  refine ⟨η, ⟨⟨h.hs.fr, h.hs.lx, fun p => ?_, fun p p' u hp hq => h.hs.vers p p' u (hver p u hp).1 (hver p' u hq).1, fun p u hp => h.hs.bnd p u (hver p u hp).1,
    fun p p' b hp hq => h.hs.disj p p' b (hblk p b hp).1 (hblk p' b hq).1, fun p b hp => h.hs.own p b (hblk p b hp).1, h.hs.fresh, h.hs.env⟩, fun p hp => ?_, h.size,
    fun t => ?_, h.defs⟩⟩
  · show RowOK w η (Lset ct η (updR st.hp q .dead)) (if p = q then .dead else st.hp p)
    by_cases e : p = q
    · rw [if_pos e]; trivial
    · rw [if_neg e]
      exact RowOK.less hL (h.hs.rows p)
  · show (if p = q then Row.dead else st.hp p) = .dead
    by_cases e : p = q
    · rw [if_pos e]
    · rw [if_neg e]
      exact h.dead p hp
  · by_cases et : t = s
    · subst et
      show Rep w η (Lset ct η (updR st.hp q .dead)) (if t = t then .ps m c else st.fr t) _
      rw [if_pos rfl]
      have hr := h.slots t
      rw [hs] at hr
      obtain ⟨g, cap, hη, hv⟩ := hr
      have hrr := h.hs.rows q
      rw [hrow] at hrr
      obtain ⟨b, cur, hg, hh, hsz, hc⟩ := hrr (some g) cap hη
      have hg : g = b := Option.some.inj hg
      subst hg
      have hbk : (st.hp q).blk η = some g := by rw [hrow]; simp [Row.blk, Row.ver, hη]
      refine ⟨g, 0, hv, fun _ => ?_, fun j hj => ?_⟩
      · rintro (hl | ⟨p', hp'⟩)
        · exact (h.hs.own q g hbk).2.1 hl
        · obtain ⟨h1, h2⟩ := hblk p' g hp'
          exact h2 (h.hs.disj p' q g h1 hbk)
      · obtain ⟨u, hu, h1, hrep⟩ := hc j hj
        exact ⟨u, by rw [cell_heap hh, Nat.zero_add]; exact hu, h1, lessN (flat_rep (hfl j hj) hrep)⟩
    · show Rep w η (Lset ct η (updR st.hp q .dead)) (if t = s then .ps m c else st.fr t) _
      rw [if_neg et]
      exact less (h.slots t)
theorem AW.still {P : Program} {x : Code} {Q : Exit → AS → Prop} {st : AS} (s q v e m : Nat) (c : Nat → AV) (hs : st.fr s = .pt q v 0) (hrow : st.hp q = .box v e m c) (hfl : ∀ j, j < m → (c j).flat = true)
    (k : AW P x Q ⟨updA st.fr s (.ps m c), updR st.hp q .dead, st.sz, st.top, st.nx, st.df⟩) : AW P x Q st := AW.le (ASle.still s q v e m c hs hrow hfl) k
section
variable {α β γ δ ε ζ : Type}
def Spec.f5 (A : Kd α) (B : Kd β) (C : Kd γ) (D : Kd δ) (E : Kd ε) (dom : α → β → γ → δ → ε → Prop) (out : α → β → γ → δ → ε → AV) : Spec where
  pre | [x, y, z, u, v] => A.ok x ∧ B.ok y ∧ C.ok z ∧ D.ok u ∧ E.ok v ∧ dom (A.dec x) (B.dec y) (C.dec z) (D.dec u) (E.dec v)
      | _ => False
  res | [x, y, z, u, v] => out (A.dec x) (B.dec y) (C.dec z) (D.dec u) (E.dec v)
      | _ => .any
variable {P : Program} {f : FuncId} {fn : Func} {code : Code} {l : List ResultVar}
theorem SpecOK.f5 {A : Kd α} {B : Kd β} {C : Kd γ} {D : Kd δ} {E : Kd ε} {dom : α → β → γ → δ → ε → Prop} {out : α → β → γ → δ → ε → AV} (hf : P.funcs[f]? = some fn) (hb : fn.body = some code) (hn : (fn.name == "runtime.NumGoroutine") = false) (hl : fn.results = l.toArray) {n : Nat} (ht : fn.ntmps = n) (hm : 5 ≤ n)
    (h : ∀ a b c d e, dom a b c d e → AW P code (retQ P l (out a b c d e)) (st0 n [A.enc a, B.enc b, C.enc c, D.enc d, E.enc e])) : SpecOK P f (Spec.f5 A B C D E dom out) := by
  subst ht
  refine SpecOK.mk hf hb hn hl fun args hp => ?_
  match args, hp with
  | [x, y, z, u, v], hp => exact ⟨hm, AW.le (st0_le (.cons hp.1 (.cons hp.2.1 (.cons hp.2.2.1 (.cons hp.2.2.2.1 (.cons hp.2.2.2.2.1 .nil)))))) (h _ _ _ _ _ hp.2.2.2.2.2)⟩
end
attribute [go_sem] Spec.f5
end Go.Proofs.YtjfmigpahglajaaGreatDoor
set_option linter.unusedSimpArgs false
set_option linter.unusedVariables false
set_option maxRecDepth 100000
set_option maxHeartbeats 2000000
namespace Go.Proofs.YtjfmigpahglajaaGreatDoor
open Go
attribute [local irreducible] AW AVle ASle RowLe
def stretchF (l : List Ck) (p : Pl) : List Ck :=
  match l.getLast? with
  | some c => if c.1 = true then l.dropLast ++ [(true, (c.2.1.1, p.1 + 1), (c.2.2.1.1, p.2.1 + 1), (c.2.2.2.1, p.2.2 + 1))] else l ++ [(true, (p.1, p.1 + 1), (p.2.1, p.2.1 + 1), (p.2.2, p.2.2 + 1))]
  | none => l ++ [(true, (p.1, p.1 + 1), (p.2.1, p.2.1 + 1), (p.2.2, p.2.2 + 1))]
theorem stretch_snoc (m : List Ck) (c : Ck) (p : Pl) : stretchF (m ++ [c]) p = if c.1 = true then m ++ [(true, (c.2.1.1, p.1 + 1), (c.2.2.1.1, p.2.1 + 1), (c.2.2.2.1, p.2.2 + 1))] else m ++ [c] ++ [(true, (p.1, p.1 + 1), (p.2.1, p.2.1 + 1), (p.2.2, p.2.2 + 1))] := by
  simp [stretchF]
theorem stretch_nil (p : Pl) : stretchF [] p = [(true, (p.1, p.1 + 1), (p.2.1, p.2.1 + 1), (p.2.2, p.2.2 + 1))] := rfl
theorem snocD {α : Type} (m : List α) (c d : α) : (m ++ [c]).getD m.length d = c := by simp [List.getD]
def sStretch0 : MSpec := fun args hp top nx K => ∃ (l : List Ck) (v : Nat) (p : Pl), args = [.ow 0 v l.length, (kA ePl).enc p] ∧ hp = rws [(0, rowL v 63 eCk l)] ∧ top = 1 ∧ l.length < 100000000 ∧ okPl p ∧
  ∀ v' nx', (v' = v ∨ nx ≤ v') → nx ≤ nx' → K (.ow 0 v' (stretchF l p).length) (rws [(0, rowL v' 63 eCk (stretchF l p))]) 1 nx'
theorem okStretch0 : MethOK Tryz.prog 102 sStretch0 := by
  refine MethOK.mk Tryz.func102 rfl (by decide) Tryz.results102 Tryz.ntmps102 ?_
  rintro args hp top nx K ⟨l, v, p, rfl, rfl, rfl, hl, hp, hK⟩
  have hΓ : GOK Tryz.prog (gam [(103, sNextP), (101, sBetween)]) := (.cons okNextP (.cons okBetween .nil))
  refine ⟨Nat.le_of_ble_eq_true rfl, AW.late ?_⟩
  have hp' := hp
  obtain ⟨p1, p2, p3⟩ := p
  obtain ⟨q1, q2, q3⟩ := hp'
  simp only at q1 q2 q3
  have hn : nextP (p1, p2, p3) = (p1 + 1, p2 + 1, p3 + 1) := rfl
  have hb : btw (p1, p2, p3) (p1 + 1, p2 + 1, p3 + 1) = (false, (p1, p1 + 1), (p2, p2 + 1), (p3, p3 + 1)) := rfl
  rcases l.eq_nil_or_concat with rfl | ⟨m, c, hms⟩
  · refine AW.of hΓ mixed [200005, 99999] _ _ _ rfl ?_
    simp only [go_sem, sNextP, sBetween, hn, hb]
    refine ⟨hp, _, toFitsV (fun p => p) (l := [(4, .ow 0 (nx + 1 + 1 + 1) 1)]) (r := [(0, rowL (nx + 1 + 1 + 1) 63 eCk (stretchF [] (p1, p2, p3)))]) (sz := 53) (top := 1) (nx := nx + 1 + 1 + 1 + 1) (df := []) ?_, ?_⟩
    · simp only [go_sem, sNextP, sBetween]
      rw [stretch_nil]
      refine row_app1 (E := eCk) (l := []) rfl rfl rfl rfl rfl fun j hj => ?_
      match j, hj with
      | 0, _ => exact AVle.refl _
      | 1, _ => exact AVle.refl _
      | 2, _ => exact AVle.refl _
      | 3, _ => exact AVle.refl _
      | 4, _ => exact AVle.refl _
      | 5, _ => exact AVle.refl _
      | 6, _ => exact AVle.refl _
    · simp only [go_sem, sNextP, sBetween]
      exact hK (nx + 1 + 1 + 1) (nx + 1 + 1 + 1 + 1) (.inr (by omega)) (by omega)
  · rw [List.concat_eq_append] at hms
    subst hms
    have e1 : (((m.length + 1 : Nat) : Int) - 1) = (m.length : Int) := by omega
    have e2 : (0 ≤ (m.length : Int)) = True := eq_true (by omega)
    have hlm : m.length + 1 < 100000000 := by simpa using hl
    obtain ⟨s, ⟨b1, b2⟩, ⟨l1, l2⟩, r1, r2⟩ := c
    cases s with
    | true =>
      refine AW.of hΓ mixed [200005, 99999] _ _ _ rfl ?_
      simp only [go_sem, sNextP, sBetween, hn, hb, snocD, e1, e2]
      refine ⟨hp, by omega, by omega, by omega, by omega, ?_⟩
      refine AW.still 5 2 (nx + 1) 161 3 _ rfl rfl (fun j hj => match j, hj with | 0, _ => rfl | 1, _ => rfl | 2, _ => rfl) ?_
      refine AW.drawZ hΓ mixed 12 [13, 14, 15, 17, 18, 19] [3, 4, 5, 6, 7, 8, 13, 14, 15, 17, 18, 19] [] (by decide +kernel) ?_
      simp only [go_sem, sNextP, sBetween, hn, hb, snocD, e1, e2]
      refine ⟨by omega, by omega, by omega, _, toFitsV (fun p => p) (l := [(4, .ow 0 v (m.length + 1))]) (r := [(0, rowL v 63 eCk (stretchF (m ++ [(true, (b1, b2), (l1, l2), r1, r2)]) (p1, p2, p3)))]) (sz := 53) (top := 1) (nx := nx + 1 + 1) (df := []) ?_, ?_⟩
      · simp only [go_sem, sNextP, sBetween]
        rw [stretch_snoc, if_pos rfl]
        refine RowLe.sl (by simp) fun i hi j hj => ?_
        simp only [stE]
        by_cases e : i = m.length
        · subst e
          rw [snocD, snocD]
          match j, hj with
          | 0, _ => simp; exact AVle.refl _
          | 1, _ => simp; exact AVle.refl _
          | 2, _ => simp; exact AVle.refl _
          | 3, _ => simp; exact AVle.refl _
          | 4, _ => simp; exact AVle.refl _
          | 5, _ => simp; exact AVle.refl _
          | 6, _ => simp; exact AVle.refl _
        · rw [if_neg (fun h => e h.1), if_neg (fun h => e h.1), if_neg (fun h => e h.1)]
          have e3 : ∀ c : Ck, (m ++ [c]).getD i eCk.dflt = m.getD i eCk.dflt := fun c => by simp [List.getD, List.getElem?_append_left (show i < m.length by omega)]
          rw [e3, e3]
          exact AVle.refl _
      · simp only [go_sem, sNextP, sBetween]
        have := hK v (nx + 1 + 1) (.inl rfl) (by omega)
        rwa [show (stretchF (m ++ [(true, (b1, b2), (l1, l2), r1, r2)]) (p1, p2, p3)).length = m.length + 1 by rw [stretch_snoc, if_pos rfl]; simp] at this
    | false =>
      refine AW.of hΓ mixed [200005, 99999] _ _ _ rfl ?_
      simp only [go_sem, sNextP, sBetween, hn, hb, snocD, e1, e2]
      refine ⟨hp, by omega, by omega, by omega, by omega, _, toFitsV (fun p => p) (l := [(4, .ow 0 (nx + 1 + 1 + 1) (m.length + 1 + 1))]) (r := [(0, rowL (nx + 1 + 1 + 1) 63 eCk (stretchF (m ++ [(false, (b1, b2), (l1, l2), r1, r2)]) (p1, p2, p3)))]) (sz := 53) (top := 1) (nx := nx + 1 + 1 + 1 + 1) (df := []) ?_, ?_⟩
      · simp only [go_sem, sNextP, sBetween]
        rw [stretch_snoc, if_neg (fun h => by cases h)]
        refine row_app1 (E := eCk) rfl rfl (by simp) rfl (by simp) fun j hj => ?_
        match j, hj with
        | 0, _ => exact AVle.refl _
        | 1, _ => exact AVle.refl _
        | 2, _ => exact AVle.refl _
        | 3, _ => exact AVle.refl _
        | 4, _ => exact AVle.refl _
        | 5, _ => exact AVle.refl _
        | 6, _ => exact AVle.refl _
      · simp only [go_sem, sNextP, sBetween]
        have := hK (nx + 1 + 1 + 1) (nx + 1 + 1 + 1 + 1) (.inr (by omega)) (by omega)
        rwa [show (stretchF (m ++ [(false, (b1, b2), (l1, l2), r1, r2)]) (p1, p2, p3)).length = m.length + 1 + 1 by rw [stretch_snoc, if_neg (fun h => by cases h)]; simp] at this
end Go.Proofs.YtjfmigpahglajaaGreatDoor
set_option linter.unusedSimpArgs false
set_option linter.unusedVariables false
set_option maxRecDepth 100000
set_option maxHeartbeats 2000000
namespace Go.Proofs.YtjfmigpahglajaaGreatDoor
open Go
attribute [local irreducible] AW AVle ASle RowLe
def sStretch : MSpec := framed sStretch0
theorem okStretch : MethOK Tryz.prog 102 sStretch := okStretch0.frame
theorem stretch_go {l : List Ck} {v q n : Nat} {p : Pl} {x : AV} {hp : Nat → Row} {top nx : Nat} {K : AV → (Nat → Row) → Nat → Nat → Prop} (hn : n = l.length) (hx : AVle x ((kA ePl).enc p)) (hr : RowLe (hp q) (rowL v 63 eCk l)) (ht : q < top) (hl : l.length < 100000000) (hp0 : okPl p)
    (hK : ∀ v' nx', nx ≤ nx' → K (.ow q v' (stretchF l p).length) (updR hp q (rowL v' 63 eCk (stretchF l p))) top nx') : sStretch [.ow q v n, x] hp top nx K := by
  subst hn
  have hver : (hp q).ver = some v := hr.vers.symm
  refine ⟨[q], [.ow 0 v l.length, (kA ePl).enc p], rws [(0, rowL v 63 eCk l)], by simp, by simpa using ht, .cons AVle.ow (.cons hx .nil), one_row hr, fun i hi => rws_top (top := 1) (by simp) i (by simpa using hi), l, v, p, rfl, rfl, rfl, hl, hp0, fun v' nx' h1 h3 => ?_⟩
  refine ⟨.ow q v' (stretchF l p).length, _, AVle.ow, fun i r hr => ?_, fun r hr => ?_, fun r hr w hw => ?_, hK v' nx' h3⟩
  · cases i with
    | zero =>
      simp only [List.getElem?_cons_zero, Option.some.injEq] at hr
      subst hr
      rw [updR_at]
      exact RowLe.refl _
    | succ i => simp at hr
  · rw [updR_ne _ _ (by simpa using hr)]
  · simp only [List.mem_singleton] at hr
    subst hr
    rw [updR_at] at hw
    have : some v' = some w := hw
    obtain rfl := Option.some.inj this
    rcases h1 with rfl | h1
    · exact .inl hver
    · exact .inr h1
theorem plEq (p1 p2 p3 t1 t2 t3 : Int) : (decide (p1 = t1) && (decide (p2 = t2) && decide (p3 = t3))) = decide (((p1, p2, p3) : Pl) = (t1, t2, t3)) := by
  rw [Bool.eq_iff_iff]
  simp only [Bool.and_eq_true, decide_eq_true_eq, Prod.mk.injEq]
def ofK (ends : Pl) : List Pl → List Ck → Pl → List Ck
  | [], s, t => if t = ends then s else s ++ [btw t ends]
  | p :: M, s, t => ofK ends M (stretchF (if p = t then s else s ++ [btw t p]) p) (nextP p)
theorem rise_mem {a b : Int} : ∀ {l : List (Int × Int)} {u v : Int}, riseB a b u v l = true → ∀ p ∈ l, u < p.1 ∧ v < p.2 ∧ p.1 < a ∧ p.2 < b
  | q :: l, u, v, h, p, hp => by
    rw [riseB, Bool.and_eq_true, decide_eq_true_eq] at h
    rcases List.mem_cons.1 hp with rfl | hp
    · exact h.1
    · have := rise_mem h.2 p hp
      omega
theorem both_mem : ∀ (n : Nat) (l r : List (Int × Int)), l.length + r.length ≤ n → ∀ x ∈ bothF l r, ∃ p ∈ l, ∃ q ∈ r, p.1 = q.1 ∧ x = (p.1, p.2, q.2)
  | _, [], r, _, x, hx => by rw [both_nil'] at hx; cases hx
  | _, p :: l, [], _, x, hx => by rw [both_nil] at hx; cases hx
  | 0, _ :: _, _ :: _, h, _, _ => by simp at h
  | n + 1, p :: l, q :: r, h, x, hx => by
    simp only [List.length_cons] at h
    rw [bothF] at hx
    by_cases c : p.1 < q.1
    · rw [if_pos c] at hx
      obtain ⟨p', hp, q', hq, e⟩ := both_mem n l (q :: r) (by simp only [List.length_cons]; omega) x hx
      exact ⟨p', List.mem_cons_of_mem _ hp, q', hq, e⟩
    · rw [if_neg c] at hx
      by_cases c2 : q.1 < p.1
      · rw [if_pos c2] at hx
        obtain ⟨p', hp, q', hq, e⟩ := both_mem n (p :: l) r (by simp only [List.length_cons]; omega) x hx
        exact ⟨p', hp, q', List.mem_cons_of_mem _ hq, e⟩
      · rw [if_neg c2] at hx
        rcases List.mem_cons.1 hx with rfl | hx
        · exact ⟨p, List.mem_cons_self .., q, List.mem_cons_self .., by omega, rfl⟩
        · obtain ⟨p', hp, q', hq, e⟩ := both_mem n l r (by omega) x hx
          exact ⟨p', List.mem_cons_of_mem _ hp, q', List.mem_cons_of_mem _ hq, e⟩
theorem both_len : ∀ (n : Nat) (l r : List (Int × Int)), l.length + r.length ≤ n → (bothF l r).length ≤ l.length
  | _, [], r, _ => by rw [both_nil']; simp
  | _, p :: l, [], _ => by rw [both_nil]; simp
  | 0, _ :: _, _ :: _, h => by simp at h
  | n + 1, p :: l, q :: r, h => by
    simp only [List.length_cons] at h
    rw [bothF]
    by_cases c : p.1 < q.1
    · rw [if_pos c]
      have := both_len n l (q :: r) (by simp only [List.length_cons]; omega)
      simp only [List.length_cons]; omega
    · rw [if_neg c]
      by_cases c2 : q.1 < p.1
      · rw [if_pos c2]
        exact both_len n (p :: l) r (by simp only [List.length_cons]; omega)
      · rw [if_neg c2]
        have := both_len n l r (by omega)
        simp only [List.length_cons]; omega
theorem stretch_len (l : List Ck) (p : Pl) : (stretchF l p).length ≤ l.length + 1 := by
  rcases l.eq_nil_or_concat with rfl | ⟨m, c, rfl⟩
  · simp [stretch_nil]
  · rw [List.concat_eq_append, stretch_snoc]
    by_cases h : c.1 = true
    · rw [if_pos h]; simp
    · rw [if_neg h]; simp
def fitK (a b c : Int) (l r : List (Int × Int)) : Bool := decide (0 ≤ a ∧ 0 ≤ b ∧ 0 ≤ c) && (riseB a b (-1) (-1) l && riseB a c (-1) (-1) r)
def sOfK : Spec := Spec.f5 kI kI kI (kL (eP eI eI)) (kL (eP eI eI)) (fun a b c l r => a < 100000000 ∧ b < 100000000 ∧ c < 100000000 ∧ l.length < 10000000 ∧ r.length < 10000000)
  (fun a b c l r => if fitK a b c l r then tu2 (sL eCk (ofK (a, b, c) (bothF l r) [] (0, 0, 0))) (kI.enc 0) else tu2 .em (kI.enc 12))
theorem okOfK : SpecOK Tryz.prog 53 sOfK := by
  refine SpecOK.f5 Tryz.func53 rfl (by decide) Tryz.results53 Tryz.ntmps53 (by decide) fun a b c l r ⟨ha, hb, hc, hl, hr⟩ => ?_
  have hΓ : GOK Tryz.prog (gam [(99, sRises), (100, sBoth), (101, sBetween), (102, sStretch), (103, sNextP)]) := (.cons okRises (.cons okBoth (.cons okBetween (.cons okStretch (.cons okNextP .nil)))))
  rcases hf : fitK a b c l r with _ | _
  · have hbad : (decide (a < 0) || decide (b < 0) || decide (c < 0) || !riseB a b (-1) (-1) l || !riseB a c (-1) (-1) r) = true := by
      cases h : (decide (a < 0) || decide (b < 0) || decide (c < 0) || !riseB a b (-1) (-1) l || !riseB a c (-1) (-1) r) with
      | true => rfl
      | false =>
        simp only [Bool.or_eq_false_iff, decide_eq_false_iff_not, Bool.not_eq_false'] at h
        obtain ⟨⟨⟨⟨h1, h2⟩, h3⟩, h4⟩, h5⟩ := h
        have : fitK a b c l r = true := by
          unfold fitK
          rw [h4, h5, decide_eq_true (by omega)]
          rfl
        rw [this] at hf
        cases hf
    refine AW.of hΓ mixed [5] _ _ _ rfl ?_
    simp only [go_sem, sRises, sBoth, sBetween, sStretch, sNextP, pp_sz, hf]
    refine ⟨fun h => by simp [h], fun h => by rw [h]; rfl, fun _ => by omega, fun h => by rw [h]; rfl, fun _ => by omega, fun h => by rw [h]; rfl, fun h => by rw [hbad] at h; cases h⟩
  · have hf' := hf
    unfold fitK at hf'
    simp only [Bool.and_eq_true, decide_eq_true_eq] at hf'
    obtain ⟨⟨a0, b0, c0⟩, g1, g2⟩ := hf'
    have d1 : (a < 0) = False := eq_false (by omega)
    have d2 : (b < 0) = False := eq_false (by omega)
    have d3 : (c < 0) = False := eq_false (by omega)
    refine AW.of hΓ mixed [5] _ _ _ rfl ?_
    simp only [go_sem, sRises, sBoth, sBetween, sStretch, sNextP, pp_sz, hf, d1, d2, d3, g1, g2]
    refine ⟨by omega, by omega, by omega, ?_⟩
    refine AW.adopt 12 63 7 (fun i => eCk.enc (([] : List Ck).getD i eCk.dflt)) rfl ?_
    have hM : ∀ p ∈ bothF l r, (0 ≤ p.1 ∧ p.1 < a) ∧ (0 ≤ p.2.1 ∧ p.2.1 < b) ∧ 0 ≤ p.2.2 ∧ p.2.2 < c := fun p hp => by
      obtain ⟨x, hx, y, hy, _, rfl⟩ := both_mem _ l r (Nat.le_refl _) p hp
      have h1 := rise_mem g1 x hx
      have h2 := rise_mem g2 y hy
      exact ⟨by dsimp only; omega, by dsimp only; omega, by dsimp only; omega⟩
    have hMl := both_len _ l r (Nat.le_refl _)
    generalize hMe : bothF l r = M at *
    refine AW.block (AW.round (α := { x : Nat × List Ck × Pl × Nat × Nat × Nat × Nat // x.1 ≤ M.length ∧ x.2.1.length ≤ 2 * x.1 ∧ ofK (a, b, c) M [] (0, 0, 0) = ofK (a, b, c) (M.drop x.1) x.2.1 x.2.2.1 })
      (fun x => ⟨[(12, .ow 2 x.1.2.2.2.2.2.1 x.1.2.1.length), (13, .pt 0 x.1.2.2.2.1 0), (14, .pt 1 x.1.2.2.2.2.1 0), (48, sL ePl M), (49, .val (.int .i64 M.length)), (50, .val (.int .i64 x.1.1))],
        [(0, .box x.1.2.2.2.1 161 3 (ePl.enc x.1.2.2.1)), (1, .box x.1.2.2.2.2.1 161 3 (ePl.enc (a, b, c))), (2, rowL x.1.2.2.2.2.2.1 63 eCk x.1.2.1)], 80, 3, x.1.2.2.2.2.2.2, []⟩) (fun x => M.length - x.1.1) ⟨(0, [], (0, 0, 0), 0, 1, 2, 3), Nat.zero_le _, Nat.le_refl _, rfl⟩ ?_ ?_)
    · simp only [go_sem, sRises, sBoth, sBetween, sStretch, sNextP]
      refine ⟨RowLe.box fun j hj => ?_, RowLe.box fun j hj => ?_, RowLe.refl _⟩
      · match j, hj with
        | 0, _ => exact AVle.refl _
        | 1, _ => exact AVle.refl _
        | 2, _ => exact AVle.refl _
      · match j, hj with
        | 0, _ => exact AVle.refl _
        | 1, _ => exact AVle.refl _
        | 2, _ => exact AVle.refl _
    · rintro ⟨⟨i, s, ⟨t1, t2, t3⟩, va, vb, v, nx⟩, hi, hs, he⟩
      simp only at hi hs he
      refine AW.of hΓ mixed [8, 99999] _ _ _ rfl ?_
      simp only [go_sem, sRises, sBoth, sBetween, sStretch, sNextP]
      refine ⟨fun hil => ?_, fun hil => ?_⟩
      · have hlt : i < M.length := by omega
        obtain ⟨p1, p2, p3, hp⟩ : ∃ p1 p2 p3, M.getD i ePl.dflt = (p1, p2, p3) := ⟨_, _, _, rfl⟩
        have hd : M.drop i = (p1, p2, p3) :: M.drop (i + 1) := by
          rw [List.drop_eq_getElem_cons hlt, ← gd_lt M ePl.dflt hlt, hp]
        have hpb := hM (p1, p2, p3) (by rw [← hp, gd_lt M _ hlt]; exact List.getElem_mem _)
        simp only at hpb
        rw [hd, ofK] at he
        refine ⟨by omega, ?_⟩
        obtain ⟨s', hs'⟩ : ∃ s', (if (p1, p2, p3) = (t1, t2, t3) then s else s ++ [btw (t1, t2, t3) (p1, p2, p3)]) = s' := ⟨_, rfl⟩
        have hsl : s'.length ≤ s.length + 1 := by
          rw [← hs']
          split
          · omega
          · simp
        rw [hs'] at he
        refine AW.to (fun x : Nat × Nat => Sh.st ⟨[(12, .ow 2 x.1 s'.length), (13, .pt 0 va 0), (14, .pt 1 vb 0), (16, .pt 3 nx 0), (48, sL ePl M), (49, .val (.int .i64 M.length)), (50, .val (.int .i64 i))],
          [(0, .box va 161 3 (ePl.enc (p1, p2, p3))), (1, .box vb 161 3 (ePl.enc (a, b, c))), (2, rowL x.1 63 eCk s'), (3, .box nx 161 3 (ePl.enc (p1, p2, p3)))], 80, 4, x.2, []⟩) ?_ ?_
        · refine AW.of hΓ mixed [99999] _ _ _ rfl ?_
          simp only [go_sem, sRises, sBoth, sBetween, sStretch, sNextP, hp]
          rw [plEq]
          refine ⟨fun h => ⟨by omega, ⟨(nx + 1, nx + 1 + 1), toFits ?_⟩⟩, fun h => ⟨(v, nx + 1), toFits ?_⟩⟩
          · have hne : ¬ ((p1, p2, p3) : Pl) = (t1, t2, t3) := fun e => by rw [decide_eq_true e] at h; cases h
            rw [if_neg hne] at hs'
            subst hs'
            simp only [go_sem, sRises, sBoth, sBetween, sStretch, sNextP]
            refine ⟨RowLe.box fun j hj => ?_, RowLe.refl _, row_app1 (E := eCk) rfl rfl rfl rfl (by simp) fun j hj => AVle.refl _, RowLe.box fun j hj => ?_⟩
            · match j, hj with
              | 0, _ => exact AVle.refl _
              | 1, _ => exact AVle.refl _
              | 2, _ => exact AVle.refl _
            · match j, hj with
              | 0, _ => exact AVle.refl _
              | 1, _ => exact AVle.refl _
              | 2, _ => exact AVle.refl _
          · have heq : ((p1, p2, p3) : Pl) = (t1, t2, t3) := of_decide_eq_true (by simpa only [Bool.not_eq_false'] using h)
            rw [if_pos heq] at hs'
            subst hs'
            obtain ⟨rfl, rfl, rfl⟩ : p1 = t1 ∧ p2 = t2 ∧ p3 = t3 := by simpa using heq
            simp only [go_sem, sRises, sBoth, sBetween, sStretch, sNextP]
            refine ⟨RowLe.refl _, RowLe.refl _, RowLe.refl _, RowLe.box fun j hj => ?_⟩
            match j, hj with
            | 0, _ => exact AVle.refl _
            | 1, _ => exact AVle.refl _
            | 2, _ => exact AVle.refl _
        · rintro ⟨v', nx'⟩
          simp only [go_sem, sRises, sBoth, sBetween, sStretch, sNextP]
          have hok : okPl (p1, p2, p3) := ⟨by dsimp only; omega, by dsimp only; omega, by dsimp only; omega⟩
          have hsl2 := stretch_len s' (p1, p2, p3)
          refine stretch_go (q := 2) (l := s') (p := (p1, p2, p3)) rfl (AVle.refl _) (RowLe.refl _) (by decide) (by omega) hok fun v2 n2 h2 => ?_
          generalize stretchF s' (p1, p2, p3) = s2 at *
          simp only [go_sem, sRises, sBoth, sBetween, sStretch, sNextP]
          refine ⟨hok, by omega, ⟨(i + 1, s2, nextP (p1, p2, p3), va, vb, v2, n2), by dsimp only; omega, by dsimp only; omega, he⟩, ⟨Nat.le_refl _, ⟨⟨rfl, rfl⟩, rfl, rfl, by dsimp only; omega⟩, RowLe.box fun j hj => ?_, RowLe.refl _, RowLe.refl _⟩, by dsimp only; omega⟩
          match j, hj with
          | 0, _ => exact AVle.refl _
          | 1, _ => exact AVle.refl _
          | 2, _ => exact AVle.refl _
      · obtain rfl : i = M.length := by omega
        rw [List.drop_length, ofK] at he
        refine AW.seqTo (fun x : Nat × Nat => Sh.st ⟨[(12, .ow 2 x.1 (ofK (a, b, c) M [] (0, 0, 0)).length)], [(2, rowL x.1 63 eCk (ofK (a, b, c) M [] (0, 0, 0)))], 80, 3, x.2, []⟩) ?_ ?_
        · refine AW.of hΓ mixed [] _ _ _ rfl ?_
          simp only [go_sem, sRises, sBoth, sBetween, sStretch, sNextP]
          rw [plEq]
          refine ⟨fun h => ⟨by omega, ⟨(nx, nx + 1), toFits ?_⟩⟩, fun h => ⟨(v, nx), toFits ?_⟩⟩
          · have hne : ¬ ((t1, t2, t3) : Pl) = (a, b, c) := fun e => by rw [decide_eq_true e] at h; cases h
            rw [if_neg hne] at he
            rw [he]
            simp only [go_sem, sRises, sBoth, sBetween, sStretch, sNextP]
            exact row_app1 (E := eCk) rfl rfl rfl rfl (by simp) fun j hj => AVle.refl _
          · have heq : ((t1, t2, t3) : Pl) = (a, b, c) := of_decide_eq_true (by simpa only [Bool.not_eq_false'] using h)
            rw [if_pos heq] at he
            rw [he]
            simp only [go_sem, sRises, sBoth, sBetween, sStretch, sNextP]
            exact RowLe.refl _
        · rintro ⟨v', nx'⟩
          refine AW.of hΓ mixed [] _ _ _ rfl ?_
          simp only [go_sem, sRises, sBoth, sBetween, sStretch, sNextP]
          exact vw_all (E := eCk) rfl rfl rfl
end Go.Proofs.YtjfmigpahglajaaGreatDoor
set_option linter.unusedSimpArgs false
set_option linter.unusedVariables false
namespace Go.Proofs.YtjfmigpahglajaaGreatDoor
theorem at_skip {p : Int × Int} {l : List (Int × Int)} {x : Int} (h : p.1 ≠ x) : atL (p :: l) x = atL l x := by rw [atL, if_neg h]
theorem at_head {p : Int × Int} {l : List (Int × Int)} : atL (p :: l) p.1 = p.2 := by rw [atL, if_pos rfl]
theorem rise_tail {a b u v : Int} {p : Int × Int} {l : List (Int × Int)} (h : riseB a b u v (p :: l) = true) : (u < p.1 ∧ v < p.2 ∧ p.1 < a ∧ p.2 < b) ∧ riseB a b p.1 p.2 l = true := by
  rw [riseB, Bool.and_eq_true, decide_eq_true_eq] at h
  exact h
theorem at_in {a b : Int} : ∀ {l : List (Int × Int)} {u v : Int}, riseB a b u v l = true → ∀ x, atL l x ≠ -1 → u < x ∧ x < a ∧ v < atL l x ∧ atL l x < b
  | [], _, _, _, x, hx => absurd rfl hx
  | p :: l, u, v, h, x, hx => by
    obtain ⟨h1, h2⟩ := rise_tail h
    by_cases e : p.1 = x
    · subst e
      rw [at_head] at hx ⊢
      omega
    · rw [at_skip e] at hx ⊢
      have := at_in h2 x hx
      omega
theorem at_low {a b : Int} {l : List (Int × Int)} {u v : Int} (h : riseB a b u v l = true) {x : Int} (hx : x ≤ u) : atL l x = -1 := by
  by_cases e : atL l x = -1
  · exact e
  · have := at_in h x e
    omega
theorem at_mono {a b : Int} : ∀ {l : List (Int × Int)} {u v : Int}, riseB a b u v l = true → ∀ x y, x < y → atL l x ≠ -1 → atL l y ≠ -1 → atL l x < atL l y
  | [], _, _, _, x, _, _, hx, _ => absurd rfl hx
  | p :: l, u, v, h, x, y, hxy, hx, hy => by
    obtain ⟨h1, h2⟩ := rise_tail h
    by_cases e : p.1 = x
    · subst e
      rw [at_skip (x := y) (show p.1 ≠ y by omega)] at hy ⊢
      rw [at_head]
      exact (at_in h2 y hy).2.2.1
    · rw [at_skip e] at hx ⊢
      by_cases e2 : p.1 = y
      · have := at_in h2 x hx
        omega
      · rw [at_skip e2] at hy ⊢
        exact at_mono h2 x y hxy hx hy
def fP (l r : List (Int × Int)) (x : Nat) : Option Pl := if atL l x = -1 ∨ atL r x = -1 then none else some ((x : Int), atL l x, atL r x)
def mF (l r : List (Int × Int)) : Nat → Nat → List Pl
  | 0, _ => []
  | n + 1, o => (fP l r o).toList ++ mF l r n (o + 1)
theorem mF_congr {l r l' r' : List (Int × Int)} : ∀ (n o : Nat), (∀ x, o ≤ x → fP l r x = fP l' r' x) → mF l r n o = mF l' r' n o
  | 0, _, _ => rfl
  | n + 1, o, h => by rw [mF, mF, h o (Nat.le_refl _), mF_congr n (o + 1) fun x hx => h x (by omega)]
theorem mF_none {l r : List (Int × Int)} {n o : Nat} (h : fP l r o = none) : mF l r (n + 1) o = mF l r n (o + 1) := by rw [mF, h]; rfl
theorem mF_some {l r : List (Int × Int)} {n o : Nat} {p : Pl} (h : fP l r o = some p) : mF l r (n + 1) o = p :: mF l r n (o + 1) := by rw [mF, h]; rfl
theorem both_mF {b c : Int} : ∀ (n o : Nat) (l r : List (Int × Int)) (u v : Int), riseB ((o + n : Nat) : Int) b ((o : Int) - 1) u l = true → riseB ((o + n : Nat) : Int) c ((o : Int) - 1) v r = true → -1 ≤ u → -1 ≤ v → bothF l r = mF l r n o
  | 0, o, l, r, u, v, hl, hr, _, _ => by
    cases l with
    | nil => rw [both_nil']; rfl
    | cons p l =>
      have := (rise_tail hl).1
      omega
  | n + 1, o, l, r, u, v, hl, hr, hu, hv => by
    have eo : ((o + (n + 1) : Nat) : Int) = ((o + 1 + n : Nat) : Int) := by omega
    have e1 : ((o + 1 : Nat) : Int) - 1 = (o : Int) := by omega
    match l, r, hl, hr with
    | [], r, _, _ =>
      have hf : ∀ x, fP [] r x = none := fun x => by unfold fP; rw [if_pos (.inl rfl)]
      rw [both_nil', mF_none (hf o)]
      have : ∀ n o, mF [] r n o = [] := fun n => by
        induction n with
        | zero => exact fun _ => rfl
        | succ n ih => exact fun o => by rw [mF_none (hf o), ih]
      exact (this n (o + 1)).symm
    | p :: l, [], _, _ =>
      have hf : ∀ x, fP (p :: l) [] x = none := fun x => by unfold fP; rw [if_pos (.inr rfl)]
      rw [both_nil, mF_none (hf o)]
      have : ∀ n o, mF (p :: l) [] n o = [] := fun n => by
        induction n with
        | zero => exact fun _ => rfl
        | succ n ih => exact fun o => by rw [mF_none (hf o), ih]
      exact (this n (o + 1)).symm
    | p :: l, q :: r, hl, hr =>
      obtain ⟨h1, h2⟩ := rise_tail hl
      obtain ⟨h3, h4⟩ := rise_tail hr
      have lift : ∀ {d w : Int} {s : List (Int × Int)} {t : Int}, riseB ((o + (n + 1) : Nat) : Int) d w t s = true → (o : Int) ≤ w → riseB ((o + 1 + n : Nat) : Int) d ((o + 1 : Nat) - 1 : Int) t s = true := by
        intro d w s t h hw
        cases s with
        | nil => rfl
        | cons z s =>
          obtain ⟨g1, g2⟩ := rise_tail h
          rw [riseB, Bool.and_eq_true, decide_eq_true_eq, ← eo]
          exact ⟨by omega, g2⟩
      have keep : ∀ {d : Int} {z : Int × Int} {s : List (Int × Int)} {t : Int}, riseB ((o + (n + 1) : Nat) : Int) d ((o : Int) - 1) t (z :: s) = true → (o : Int) < z.1 → riseB ((o + 1 + n : Nat) : Int) d ((o + 1 : Nat) - 1 : Int) t (z :: s) = true := by
        intro d z s t h hz
        obtain ⟨g1, g2⟩ := rise_tail h
        rw [riseB, Bool.and_eq_true, decide_eq_true_eq, ← eo]
        exact ⟨by omega, g2⟩
      rw [bothF]
      by_cases cp : p.1 = o
      · by_cases cq : q.1 = o
        · rw [if_neg (by omega), if_neg (by omega)]
          have hf : fP (p :: l) (q :: r) o = some (p.1, p.2, q.2) := by
            unfold fP
            rw [← cp, at_head, cp, ← cq, at_head, if_neg (by omega)]
          rw [mF_some hf, both_mF n (o + 1) l r p.2 q.2 (lift h2 (by omega)) (lift h4 (by omega)) (by omega) (by omega)]
          congr 1
          exact mF_congr n (o + 1) fun x hx => by unfold fP; rw [at_skip (by omega), at_skip (by omega)]
        · rw [if_pos (by omega)]
          have hf : fP (p :: l) (q :: r) o = none := by
            unfold fP
            rw [if_pos (.inr (by rw [at_skip cq]; exact at_low h4 (by omega)))]
          rw [mF_none hf, both_mF n (o + 1) l (q :: r) p.2 v (lift h2 (by omega)) (keep hr (by omega)) (by omega) hv]
          exact mF_congr n (o + 1) fun x hx => by unfold fP; rw [at_skip (l := l) (by omega)]
      · by_cases cq : q.1 = o
        · rw [if_neg (by omega), if_pos (by omega)]
          have hf : fP (p :: l) (q :: r) o = none := by
            unfold fP
            rw [if_pos (.inl (by rw [at_skip cp]; exact at_low h2 (by omega)))]
          rw [mF_none hf, both_mF n (o + 1) (p :: l) r u q.2 (keep hl (by omega)) (lift h4 (by omega)) hu (by omega)]
          exact mF_congr n (o + 1) fun x hx => by unfold fP; rw [at_skip (l := r) (by omega)]
        · have hf : fP (p :: l) (q :: r) o = none := by
            unfold fP
            rw [if_pos (.inl (by rw [at_skip cp]; exact at_low h2 (by omega)))]
          rw [mF_none hf, ← both_mF n (o + 1) (p :: l) (q :: r) u v (keep hl (by omega)) (keep hr (by omega)) hu hv, bothF]
theorem both_all {a : Nat} {b c : Int} {l r : List (Int × Int)} (hl : riseB a b (-1) (-1) l = true) (hr : riseB a c (-1) (-1) r = true) : bothF l r = mF l r a 0 :=
  both_mF a 0 l r (-1) (-1) (by rw [Nat.zero_add]; exact hl) (by rw [Nat.zero_add]; exact hr) (Int.le_refl _) (Int.le_refl _)
def lastSt (s : List Ck) : Bool := match s.getLast? with
  | some c => c.1
  | none => false
theorem stretch_new {s : List Ck} {p : Pl} (h : lastSt s = false) : stretchF s p = s ++ [(true, (p.1, p.1 + 1), (p.2.1, p.2.1 + 1), (p.2.2, p.2.2 + 1))] := by
  rcases s.eq_nil_or_concat with rfl | ⟨m, c, rfl⟩
  · rfl
  · rw [List.concat_eq_append] at h ⊢
    have hc : c.1 = false := by simpa [lastSt] using h
    rw [stretch_snoc, if_neg (by rw [hc]; decide)]
theorem last_snoc (s : List Ck) (c : Ck) : lastSt (s ++ [c]) = c.1 := by simp [lastSt]
theorem of_run {ends : Pl} {l r : List (Int × Int)} {s : List Ck} (hs : lastSt s = false) (n o : Nat) (a b : Int) : ∀ k, 0 < k → k ≤ n → (∀ j, j < k → fP l r (o + j) = some (((o + j : Nat) : Int), a + j, b + j)) →
    ofK ends (mF l r n o) s ((o : Int), a, b) = ofK ends (mF l r (n - k) (o + k)) (s ++ [(true, ((o : Int), ((o + k : Nat) : Int)), (a, a + k), (b, b + k))]) (((o + k : Nat) : Int), a + k, b + k)
  | 0, h, _, _ => absurd h (by decide)
  | 1, _, hn, hf => by
    obtain ⟨n, rfl⟩ : ∃ m, n = m + 1 := ⟨n - 1, by omega⟩
    have h0 := hf 0 (by decide)
    simp only [Nat.add_zero, Int.natCast_zero, Int.add_zero, Int.ofNat_zero] at h0
    have h0 : fP l r o = some ((o : Int), a, b) := by simpa using h0
    rw [mF_some h0, ofK, if_pos rfl, stretch_new hs]
    simp only [Nat.add_sub_cancel]
    rfl
  | k + 2, _, hn, hf => by
    rw [of_run hs n o a b (k + 1) (by omega) (by omega) fun j hj => hf j (by omega)]
    have h1 := hf (k + 1) (by omega)
    obtain ⟨m, hm⟩ : ∃ m, n - (k + 1) = m + 1 := ⟨n - (k + 2), by omega⟩
    have hm2 : n - (k + 2) = m := by omega
    rw [hm, hm2, mF_some h1, ofK, if_pos rfl, stretch_snoc, if_pos rfl]
    have e1 : ((o + (k + 1) : Nat) : Int) + 1 = ((o + (k + 2) : Nat) : Int) := by omega
    have e2 : ∀ z : Int, z + ((k + 1 : Nat) : Int) + 1 = z + ((k + 2 : Nat) : Int) := fun z => by omega
    simp only [nextP, e1, e2]
    rfl
theorem mF_skip {l r : List (Int × Int)} (n o : Nat) : ∀ k, k ≤ n → (∀ j, j < k → fP l r (o + j) = none) → mF l r n o = mF l r (n - k) (o + k)
  | 0, _, _ => rfl
  | k + 1, hn, hf => by
    rw [mF_skip n o k (by omega) fun j hj => hf j (by omega)]
    obtain ⟨m, hm⟩ : ∃ m, n - k = m + 1 := ⟨n - (k + 1), by omega⟩
    rw [hm, mF_none (hf k (by omega)), show n - (k + 1) = m by omega]
    rfl
theorem of_gap {ends p t : Pl} {M : List Pl} {s : List Ck} (h : p ≠ t) : ofK ends (p :: M) s t = ofK ends (p :: M) (s ++ [btw t p]) p := by
  rw [ofK, ofK, if_neg h, if_pos rfl]
end Go.Proofs.YtjfmigpahglajaaGreatDoor
set_option linter.unusedSimpArgs false
set_option linter.unusedVariables false
namespace Go.Proofs.YtjfmigpahglajaaGreatDoor
def fromP (c : Ck) : Pl := (c.2.1.1, c.2.2.1.1, c.2.2.2.1)
def toP (c : Ck) : Pl := (c.2.1.2, c.2.2.1.2, c.2.2.2.2)
def leP (p q : Pl) : Prop := p.1 ≤ q.1 ∧ p.2.1 ≤ q.2.1 ∧ p.2.2 ≤ q.2.2
def chF : Pl → Option Bool → List Ck → Pl → Prop
  | t, _, [], e => t = e
  | t, o, c :: l, e => fromP c = t ∧ leP t (toP c) ∧ t ≠ toP c ∧ o ≠ some c.1 ∧ chF (toP c) (some c.1) l e
def lastO : Option Bool → List Ck → Option Bool
  | o, [] => o
  | _, c :: l => lastO (some c.1) l
theorem lastO_snoc (c : Ck) : ∀ (o : Option Bool) (s : List Ck), lastO o (s ++ [c]) = some c.1
  | _, [] => rfl
  | _, d :: s => lastO_snoc c (some d.1) s
theorem ch_snoc {e : Pl} {c : Ck} : ∀ {t : Pl} {o : Option Bool} {s : List Ck}, chF t o (s ++ [c]) e ↔ chF t o s (fromP c) ∧ leP (fromP c) (toP c) ∧ fromP c ≠ toP c ∧ lastO o s ≠ some c.1 ∧ toP c = e
  | t, o, [] => by
    show (fromP c = t ∧ leP t (toP c) ∧ t ≠ toP c ∧ o ≠ some c.1 ∧ toP c = e) ↔ (t = fromP c ∧ leP (fromP c) (toP c) ∧ fromP c ≠ toP c ∧ o ≠ some c.1 ∧ toP c = e)
    constructor
    · rintro ⟨rfl, h⟩; exact ⟨rfl, h⟩
    · rintro ⟨rfl, h⟩; exact ⟨rfl, h⟩
  | t, o, d :: s => by
    have ih := ch_snoc (e := e) (c := c) (t := toP d) (o := some d.1) (s := s)
    show (fromP d = t ∧ leP t (toP d) ∧ t ≠ toP d ∧ o ≠ some d.1 ∧ chF (toP d) (some d.1) (s ++ [c]) e) ↔ ((fromP d = t ∧ leP t (toP d) ∧ t ≠ toP d ∧ o ≠ some d.1 ∧ chF (toP d) (some d.1) s (fromP c)) ∧ leP (fromP c) (toP c) ∧ fromP c ≠ toP c ∧ lastO (some d.1) s ≠ some c.1 ∧ toP c = e)
    rw [ih]
    constructor
    · rintro ⟨h1, h2, h3, h4, h5, h6⟩; exact ⟨⟨h1, h2, h3, h4, h5⟩, h6⟩
    · rintro ⟨⟨h1, h2, h3, h4, h5⟩, h6⟩; exact ⟨h1, h2, h3, h4, h5, h6⟩
theorem leP_trans {p q r : Pl} (h : leP p q) (k : leP q r) : leP p r := ⟨Int.le_trans h.1 k.1, Int.le_trans h.2.1 k.2.1, Int.le_trans h.2.2 k.2.2⟩
theorem leP_refl (p : Pl) : leP p p := ⟨Int.le_refl _, Int.le_refl _, Int.le_refl _⟩
theorem ch_le : ∀ {t : Pl} {o : Option Bool} {s : List Ck} {e : Pl}, chF t o s e → leP t e
  | t, _, [], _, h => by rw [show t = _ from h]; exact leP_refl _
  | _, _, _ :: _, _, ⟨_, h2, _, _, h5⟩ => leP_trans h2 (ch_le h5)
def upM (ends : Pl) : Pl → List Pl → Prop
  | t, [] => leP t ends
  | t, p :: M => leP t p ∧ upM ends (nextP p) M
theorem both_up {a b c : Int} : ∀ (n : Nat) (l r : List (Int × Int)) (u v u' w : Int) (t : Pl), l.length + r.length ≤ n → riseB a b u v l = true → riseB a c u' w r = true → (t.1 ≤ u + 1 ∨ t.1 ≤ u' + 1) → t.2.1 ≤ v + 1 → t.2.2 ≤ w + 1 → leP t (a, b, c) → upM (a, b, c) t (bothF l r)
  | _, [], r, _, _, _, _, t, _, _, _, _, _, _, h => by rw [both_nil']; exact h
  | _, p :: l, [], _, _, _, _, t, _, _, _, _, _, _, h => by rw [both_nil]; exact h
  | 0, _ :: _, _ :: _, _, _, _, _, _, h, _, _, _, _, _, _ => by simp at h
  | n + 1, p :: l, q :: r, u, v, u', w, t, h, hl, hr, h1, h2, h3, h4 => by
    simp only [List.length_cons] at h
    obtain ⟨l1, l2⟩ := rise_tail hl
    obtain ⟨r1, r2⟩ := rise_tail hr
    rw [bothF]
    by_cases e1 : p.1 < q.1
    · rw [if_pos e1]
      exact both_up n l (q :: r) p.1 p.2 u' w t (by simp only [List.length_cons]; omega) l2 hr (by omega) (by omega) h3 h4
    · by_cases e2 : q.1 < p.1
      · rw [if_neg e1, if_pos e2]
        exact both_up n (p :: l) r u v q.1 q.2 t (by simp only [List.length_cons]; omega) hl r2 (by omega) h2 (by omega) h4
      · rw [if_neg e1, if_neg e2]
        refine ⟨⟨?_, ?_, ?_⟩, both_up n l r p.1 p.2 q.1 q.2 _ (by omega) l2 r2 (.inl (Int.le_refl _)) (Int.le_refl _) (Int.le_refl _) ⟨?_, ?_, ?_⟩⟩
        · show t.1 ≤ p.1
          omega
        · show t.2.1 ≤ p.2
          omega
        · show t.2.2 ≤ q.2
          omega
        · show p.1 + 1 ≤ a
          omega
        · show p.2 + 1 ≤ b
          omega
        · show q.2 + 1 ≤ c
          omega
theorem nextP_ne (p q : Pl) (h : leP p q) : p ≠ nextP q := fun e => by
  have h1 : p.1 = q.1 + 1 := congrArg Prod.fst e
  have := h.1
  omega
theorem le_nextP (p : Pl) : leP p (nextP p) := ⟨Int.le_of_lt (Int.lt_succ _), Int.le_of_lt (Int.lt_succ _), Int.le_of_lt (Int.lt_succ _)⟩
theorem ch_stretch {s : List Ck} {t : Pl} (h : chF (0, 0, 0) none s t) : chF (0, 0, 0) none (stretchF s t) (nextP t) ∧ lastO none (stretchF s t) = some true := by
  rcases s.eq_nil_or_concat with rfl | ⟨m, c, rfl⟩
  · have h : (0, 0, 0) = t := h
    subst h
    exact ⟨⟨rfl, le_nextP _, nextP_ne _ _ (leP_refl _), by simp, rfl⟩, rfl⟩
  · rw [List.concat_eq_append] at h ⊢
    rw [stretch_snoc]
    by_cases hc : c.1 = true
    · rw [if_pos hc]
      obtain ⟨h1, h2, h3, h4, h5⟩ := ch_snoc.1 h
      refine ⟨ch_snoc.2 ⟨h1, ?_, ?_, ?_, rfl⟩, lastO_snoc _ _ _⟩
      · exact leP_trans (h5 ▸ h2) (le_nextP t)
      · exact nextP_ne _ t (h5 ▸ h2)
      · rw [hc] at h4; exact h4
    · rw [if_neg hc]
      refine ⟨ch_snoc.2 ⟨h, le_nextP t, nextP_ne _ t (leP_refl _), ?_, rfl⟩, lastO_snoc _ _ _⟩
      rw [lastO_snoc]
      intro e
      exact hc (Option.some.inj e)
theorem ch_of (ends : Pl) : ∀ (M : List Pl) (s : List Ck) (t : Pl), chF (0, 0, 0) none s t → lastO none s ≠ some false → upM ends t M → chF (0, 0, 0) none (ofK ends M s t) ends
  | [], s, t, h, hl, hu => by
    rw [ofK]
    by_cases e : t = ends
    · rw [if_pos e, ← e]; exact h
    · rw [if_neg e]
      exact ch_snoc.2 ⟨h, hu, e, hl, rfl⟩
  | p :: M, s, t, h, hl, hu => by
    rw [ofK]
    by_cases e : p = t
    · rw [if_pos e, e]
      obtain ⟨h1, h2⟩ := ch_stretch h
      exact ch_of ends M _ _ h1 (by rw [h2]; simp) (e ▸ hu.2)
    · rw [if_neg e]
      obtain ⟨h1, h2⟩ := ch_stretch (s := s ++ [btw t p]) (t := p) (ch_snoc.2 ⟨h, hu.1, fun e2 => e e2.symm, hl, rfl⟩)
      exact ch_of ends M _ _ h1 (by rw [h2]; simp) hu.2
theorem ch_all {a b c : Int} {l r : List (Int × Int)} (h : fitK a b c l r = true) : chF (0, 0, 0) none (ofK (a, b, c) (bothF l r) [] (0, 0, 0)) (a, b, c) := by
  unfold fitK at h
  simp only [Bool.and_eq_true, decide_eq_true_eq] at h
  obtain ⟨⟨h1, h2, h3⟩, h4, h5⟩ := h
  exact ch_of (a, b, c) _ _ _ rfl (by simp [lastO]) (both_up _ l r (-1) (-1) (-1) (-1) (0, 0, 0) (Nat.le_refl _) h4 h5 (.inl (Int.le_refl _)) (Int.le_refl _) (Int.le_refl _) ⟨h1, h2, h3⟩)
end Go.Proofs.YtjfmigpahglajaaGreatDoor
set_option linter.unusedVariables false
namespace Go.Proofs.YtjfmigpahglajaaGreatDoor
open Go
abbrev BS := List UInt8
instance : DecidableEq (BS × BS × BS × BS × Bool) := inferInstance
instance : DecidableEq (Bool × BS × BS × BS × BS × Bool) := inferInstance
abbrev Pt := BS × BS × BS × Bool × BS × BS × BS × BS × Bool
instance : DecidableEq Pt := inferInstance
abbrev ePt : El Pt := eP eS (eP eS (eP eS (eP eB (eP eS (eP eS (eP eS (eP eS eB)))))))
abbrev eLb : El (BS × BS × BS) := eP eS (eP eS eS)
@[reducible] def hkP (p : Pt) : Bool := p.2.2.2.1
@[reducible] def txP (p : Pt) : BS := p.2.2.2.2.1
def textP (t : BS) : Pt := ([], [], [], false, t, [], [], [], false)
def isTextD (p : Pt) : Bool := decide (p = textP (txP p))
def plainB (s : BS) : Bool := decide ((10 : UInt8) ∉ s)
def plainD (p : Pt) : Bool := plainB p.1 && (plainB p.2.1 && plainB p.2.2.1)
theorem plain_app (a b : BS) : plainB (a ++ b) = (plainB a && plainB b) := by
  unfold plainB
  rw [Bool.eq_iff_iff]
  simp [not_or]
theorem plain_ix (s : BS) : decide (0 ≤ Lib.indexByte s 10) = !plainB s := by
  unfold plainB
  rcases idx_cases s with ⟨h1, h2⟩ | ⟨p, r, rfl, h2, h1⟩
  · rw [h1]
    simp [h2]
  · rw [h1]
    simp
def confD (p : Pt) : Bool := p.2.2.2.1 && (decide (p.2.2.2.2.1 = []) && ((p.2.2.2.2.2.2.2.2 || (decide (p.2.2.2.2.2.2.1 = []) && decide (p.2.1 = []))) && plainD p))
def aheadD (p : Pt) (another : Bool) : Bool := isTextD p && (decide (txP p ≠ []) && (!another || endsL (txP p)))
def okAt (d : List Pt) (i : Nat) : Bool := (hkP (d.getD i ePt.dflt) || (decide (i = 0) || hkP (d.getD (i - 1) ePt.dflt))) && (confD (d.getD i ePt.dflt) || aheadD (d.getD i ePt.dflt) (decide (i + 1 < d.length)))
def rightD (d : List Pt) : Bool := decide (∀ i, i < d.length → okAt d i = true)
def conflD (d : List Pt) : Nat := (d.filter hkP).length
def longT (l : List BS) : Nat := l.foldl (fun n s => max n (longL (splitL s))) 0
theorem longT_snoc (l : List BS) (x : BS) : longT (l ++ [x]) = max (longT l) (longL (splitL x)) := by
  unfold longT
  rw [List.foldl_append]
  rfl
def fourP (p : Pt) : List BS := [p.2.2.2.2.1, p.2.2.2.2.2.1, p.2.2.2.2.2.2.1, p.2.2.2.2.2.2.2.1]
def fitsD (d : List Pt) (w : Int) : Bool := decide (1 ≤ w) && decide (∀ p ∈ d, (longT (fourP p) : Int) < w)
def withD (d : List Pt) (ts : List BS) : List Pt := if ts.flatten = [] then d else d ++ [textP ts.flatten]
def ofGo : List Pt → List Pt → List BS → List Pt
  | [], d, ts => withD d ts
  | p :: l, d, ts => if isTextD p = true then ofGo l d (ts ++ [txP p]) else ofGo l (withD d ts ++ [p]) []
def ofD (l : List Pt) : List Pt := ofGo l [] []
theorem isText_textP (t : BS) : isTextD (textP t) = true := decide_eq_true rfl
theorem isText_eq {p : Pt} (h : isTextD p = true) : p = textP (txP p) := of_decide_eq_true h
def joinR (out : List Pt) (p : Pt) : List Pt :=
  if isTextD p = true then
    if txP p = [] then out else
      match out.getLast? with
      | some q => if isTextD q = true then out.dropLast ++ [textP (txP q ++ txP p)] else out ++ [p]
      | none => out ++ [p]
  else out ++ [p]
theorem join_no {out : List Pt} {p : Pt} (h : isTextD p = false) : joinR out p = out ++ [p] := by unfold joinR; rw [if_neg (by simp [h])]
theorem join_em {out : List Pt} {p : Pt} (h : isTextD p = true) (h2 : txP p = []) : joinR out p = out := by unfold joinR; rw [if_pos h, if_pos h2]
theorem joinR_nil {p : Pt} (h2 : ¬ (isTextD p = true ∧ txP p = [])) : joinR [] p = [p] := by
  unfold joinR
  by_cases h : isTextD p = true
  · rw [if_pos h, if_neg fun e => h2 ⟨h, e⟩]
    rfl
  · rw [if_neg h]
    rfl
theorem join_two {m : List Pt} {q p : Pt} (h : isTextD p = true) (h2 : txP p ≠ []) (hq : isTextD q = true) : joinR (m ++ [q]) p = m ++ [textP (txP q ++ txP p)] := by
  unfold joinR
  rw [if_pos h, if_neg h2]
  simp [hq]
theorem join_new {m : List Pt} {q p : Pt} (h2 : ¬ (isTextD p = true ∧ txP p = [])) (hq : isTextD q = false) : joinR (m ++ [q]) p = m ++ [q] ++ [p] := by
  unfold joinR
  by_cases h : isTextD p = true
  · rw [if_pos h, if_neg fun e => h2 ⟨h, e⟩]
    simp [hq]
  · rw [if_neg h]
theorem with_nil (d : List Pt) : withD d [] = d := rfl
theorem with_join {d : List Pt} {ts : List BS} {p : Pt} (hd : ∀ q, d.getLast? = some q → isTextD q = false) (hp : isTextD p = true) : withD d (ts ++ [txP p]) = joinR (withD d ts) p := by
  have e := isText_eq hp
  by_cases h0 : txP p = []
  · rw [join_em hp h0]
    unfold withD
    rw [h0]
    simp
  · unfold withD
    have hf : ¬ (ts ++ [txP p]).flatten = [] := by simp [h0]
    rw [if_neg hf]
    by_cases h1 : ts.flatten = []
    · rw [if_pos h1]
      have ef : (ts ++ [txP p]).flatten = txP p := by simp [h1]
      rw [ef, ← e]
      rcases d.eq_nil_or_concat with rfl | ⟨m, q, rfl⟩
      · rw [joinR_nil fun h => h0 h.2]
        rfl
      · rw [List.concat_eq_append] at hd ⊢
        rw [join_new (fun h => h0 h.2) (hd q (by simp))]
    · rw [if_neg h1, join_two hp h0 (isText_textP _)]
      simp [textP, txP]
theorem of_go : ∀ (l d : List Pt) (ts : List BS), (∀ q, d.getLast? = some q → isTextD q = false) → ofGo l d ts = l.foldl joinR (withD d ts)
  | [], d, ts, _ => rfl
  | p :: l, d, ts, hd => by
    rw [ofGo, List.foldl_cons]
    cases h : isTextD p with
    | true => rw [if_pos rfl, of_go l d _ hd, with_join hd h]
    | false =>
      rw [if_neg (by simp), of_go l _ [] (fun q hq => by
        rw [List.getLast?_append] at hq
        simp at hq
        rw [← hq]; exact h), with_nil, join_no h]
theorem ofD_eq (l : List Pt) : ofD l = l.foldl joinR [] := of_go l [] [] (fun q h => by cases h)
def sumT (l : List Pt) : Nat := (l.map fun p => (txP p).length).sum
theorem sumT_app (l m : List Pt) : sumT (l ++ m) = sumT l + sumT m := by simp [sumT]
theorem sumT_one (p : Pt) : sumT [p] = (txP p).length := by simp [sumT]
theorem sumT_take (l : List Pt) (i : Nat) : sumT (l.take i) ≤ sumT l := by
  have := sumT_app (l.take i) (l.drop i)
  rw [List.take_append_drop] at this
  omega
theorem join_sum (out : List Pt) (p : Pt) : sumT (joinR out p) ≤ sumT out + (txP p).length ∧ (joinR out p).length ≤ out.length + 1 := by
  have hn : sumT (out ++ [p]) ≤ sumT out + (txP p).length ∧ (out ++ [p]).length ≤ out.length + 1 := by rw [sumT_app, sumT_one]; simp
  cases hp : isTextD p with
  | false => rw [join_no hp]; exact hn
  | true =>
    by_cases h0 : txP p = []
    · rw [join_em hp h0]; omega
    · rcases out.eq_nil_or_concat with rfl | ⟨m, q, rfl⟩
      · rw [joinR_nil fun e => h0 e.2]; exact hn
      · rw [List.concat_eq_append] at *
        cases hqt : isTextD q with
        | false => rw [join_new (fun e => h0 e.2) hqt]; exact hn
        | true =>
          rw [join_two hp h0 hqt, sumT_app, sumT_app, sumT_one, sumT_one]
          simp [textP, txP]
          omega
theorem fold_sum : ∀ (l out : List Pt), sumT (l.foldl joinR out) ≤ sumT out + sumT l ∧ (l.foldl joinR out).length ≤ out.length + l.length
  | [], out => by simp [sumT]
  | p :: l, out => by
    have h1 := fold_sum l (joinR out p)
    have h2 := join_sum out p
    have e : sumT (p :: l) = (txP p).length + sumT l := by simp [sumT]
    rw [List.foldl_cons, e, List.length_cons]
    omega
theorem ofD_sum (l : List Pt) : sumT (ofD l) ≤ sumT l ∧ (ofD l).length ≤ l.length := by
  have := fold_sum l []
  rw [← ofD_eq] at this
  simpa [sumT] using this
end Go.Proofs.YtjfmigpahglajaaGreatDoor
set_option linter.unusedSimpArgs false
set_option linter.unusedVariables false
set_option maxRecDepth 100000
namespace Go.Proofs.YtjfmigpahglajaaGreatDoor
open Go
def okS (l : List Pt) (i : Nat) : Bool := (hkP (l.getD i ePt.dflt) || (decide (i = 0) || hkP (l.getD (i - 1) ePt.dflt))) && (confD (l.getD i ePt.dflt) || aheadD (l.getD i ePt.dflt) true)
def SrP (l : List Pt) : Prop := ∀ i, i < l.length → okS l i = true
theorem ahead_any {p : Pt} (b : Bool) (h : aheadD p true = true) : aheadD p b = true := by
  unfold aheadD at *
  simp only [Bool.and_eq_true, Bool.not_true, Bool.false_or] at h
  rw [h.1, h.2.1, h.2.2]
  simp
theorem ok_of {l : List Pt} {i : Nat} (h : okS l i = true) : okAt l i = true := by
  unfold okS at h
  unfold okAt
  simp only [Bool.and_eq_true] at h ⊢
  refine ⟨h.1, ?_⟩
  have h3 := h.2
  rw [Bool.or_eq_true] at h3 ⊢
  rcases h3 with h2 | h2
  · exact .inl h2
  · exact .inr (ahead_any _ h2)
theorem SrP.right {l : List Pt} (h : SrP l) : rightD l = true := decide_eq_true fun i hi => ok_of (h i hi)
theorem okS_app {l : List Pt} {p : Pt} {i : Nat} (h : i < l.length) : okS (l ++ [p]) i = okS l i := by
  have e : ∀ k, k < l.length → (l ++ [p]).getD k ePt.dflt = l.getD k ePt.dflt := fun k hk => by simp [List.getD, List.getElem?_append_left hk]
  unfold okS
  rw [e i h]
  rcases Nat.eq_zero_or_pos i with rfl | h0
  · simp
  · rw [e (i - 1) (by omega)]
theorem snocPt (l : List Pt) (p : Pt) : (l ++ [p]).getD l.length ePt.dflt = p := by simp [List.getD]
theorem prevD (l : List Pt) (p : Pt) (h : 0 < l.length) : (l ++ [p]).getD (l.length - 1) ePt.dflt = l.getD (l.length - 1) ePt.dflt := by
  simp [List.getD, List.getElem?_append_left (show l.length - 1 < l.length by omega)]
theorem SrP.left {l : List Pt} {p : Pt} (h : SrP (l ++ [p])) : SrP l := fun i hi => by
  have := h i (by simp; omega)
  rwa [okS_app hi] at this
theorem SrP.snoc {l : List Pt} {p : Pt} (h : SrP l) (hp : okS (l ++ [p]) l.length = true) : SrP (l ++ [p]) := fun i hi => by
  rcases Nat.lt_or_ge i l.length with g | g
  · rw [okS_app g]; exact h i g
  · obtain rfl : i = l.length := by simp at hi; omega
    exact hp
theorem right_snoc {l : List Pt} {p : Pt} (h : SrP l) (hp : okAt (l ++ [p]) l.length = true) : rightD (l ++ [p]) = true := decide_eq_true fun i hi => by
  rcases Nat.lt_or_ge i l.length with g | g
  · exact ok_of (by rw [okS_app g]; exact h i g)
  · obtain rfl : i = l.length := by simp at hi; omega
    exact hp
theorem conf_hk {p : Pt} (h : confD p = true) : hkP p = true := by
  unfold confD at h
  simp only [Bool.and_eq_true] at h
  exact h.1
theorem text_noHk {p : Pt} (h : isTextD p = true) : hkP p = false := by
  rw [isText_eq h]
  rfl
theorem conf_noText {p : Pt} (h : confD p = true) : isTextD p = false := by
  cases c : isTextD p with
  | false => rfl
  | true => have := text_noHk c; rw [conf_hk h] at this; cases this
theorem SrP.last {l : List Pt} {q : Pt} (h : SrP (l ++ [q])) (hq : isTextD q = false) : hkP q = true := by
  have := h l.length (by simp)
  unfold okS at this
  rw [snocPt] at this
  simp only [Bool.and_eq_true, Bool.or_eq_true] at this
  rcases this.2 with h2 | h2
  · exact conf_hk h2
  · unfold aheadD at h2
    rw [hq] at h2
    cases h2
theorem okS_text {l : List Pt} {t : BS} (h : SrP l) (h0 : t ≠ []) (he : endsL t = true) (hl : ∀ q, l.getLast? = some q → isTextD q = false) : okS (l ++ [textP t]) l.length = true := by
  unfold okS
  rw [snocPt]
  have hk : (decide (l.length = 0) || hkP ((l ++ [textP t]).getD (l.length - 1) ePt.dflt)) = true := by
    rcases l.eq_nil_or_concat with rfl | ⟨m, q, rfl⟩
    · rfl
    · rw [List.concat_eq_append] at *
      rw [prevD _ _ (by simp)]
      have : (m ++ [q]).getD ((m ++ [q]).length - 1) ePt.dflt = q := by simp [List.getD]
      rw [this, h.last (hl q (by simp)), Bool.or_true]
  rw [hk, Bool.or_true, Bool.true_and]
  unfold aheadD
  rw [isText_textP]
  have e : txP (textP t) = t := rfl
  rw [e, he, decide_eq_true h0]
  simp
theorem okAt_text {l : List Pt} {t : BS} (h : SrP l) (h0 : t ≠ []) (hl : ∀ q, l.getLast? = some q → isTextD q = false) : okAt (l ++ [textP t]) l.length = true := by
  unfold okAt
  rw [snocPt]
  have hk : (decide (l.length = 0) || hkP ((l ++ [textP t]).getD (l.length - 1) ePt.dflt)) = true := by
    rcases l.eq_nil_or_concat with rfl | ⟨m, q, rfl⟩
    · rfl
    · rw [List.concat_eq_append] at *
      rw [prevD _ _ (by simp)]
      have : (m ++ [q]).getD ((m ++ [q]).length - 1) ePt.dflt = q := by simp [List.getD]
      rw [this, h.last (hl q (by simp)), Bool.or_true]
  rw [hk, Bool.or_true, Bool.true_and]
  unfold aheadD
  rw [isText_textP, decide_eq_false (show ¬ l.length + 1 < (l ++ [textP t]).length by simp)]
  have e : txP (textP t) = t := rfl
  rw [e, decide_eq_true h0]
  simp
theorem okS_conf {l : List Pt} {p : Pt} (h : confD p = true) : okS (l ++ [p]) l.length = true := by
  unfold okS
  rw [snocPt, conf_hk h, h]
  rfl
theorem join_cases (out : List Pt) (p : Pt) (hp : isTextD p = true) : (txP p = [] ∧ joinR out p = out) ∨
    (txP p ≠ [] ∧ ((∃ m q, out = m ++ [q] ∧ isTextD q = true ∧ joinR out p = m ++ [textP (txP q ++ txP p)]) ∨ ((∀ q, out.getLast? = some q → isTextD q = false) ∧ joinR out p = out ++ [p]))) := by
  by_cases h0 : txP p = []
  · exact .inl ⟨h0, join_em hp h0⟩
  · refine .inr ⟨h0, ?_⟩
    rcases out.eq_nil_or_concat with rfl | ⟨m, q, rfl⟩
    · exact .inr ⟨(fun q h => by cases h), joinR_nil fun e => h0 e.2⟩
    · rw [List.concat_eq_append]
      cases hq : isTextD q with
      | true => exact .inl ⟨m, q, rfl, hq, join_two hp h0 hq⟩
      | false =>
        refine .inr ⟨fun q' h => ?_, join_new (fun e => h0 e.2) hq⟩
        simp at h
        rw [← h]; exact hq
theorem SrP.text {m : List Pt} {q : Pt} (h : SrP (m ++ [q])) (hq : isTextD q = true) : ∀ q', m.getLast? = some q' → isTextD q' = false := fun q' hq' => by
  have := h m.length (by simp)
  unfold okS at this
  rw [snocPt, text_noHk hq] at this
  simp only [Bool.and_eq_true, Bool.or_eq_true, Bool.false_eq_true, false_or, decide_eq_true_eq] at this
  rcases m.eq_nil_or_concat with rfl | ⟨m', q2, rfl⟩
  · cases hq'
  · rw [List.concat_eq_append] at *
    simp at hq'
    subst hq'
    rcases this.1 with h1 | h1
    · simp at h1
    · rw [prevD _ _ (by simp)] at h1
      have e : (m' ++ [q2]).getD ((m' ++ [q2]).length - 1) ePt.dflt = q2 := by simp [List.getD]
      rw [e] at h1
      cases c : isTextD q2 with
      | false => rfl
      | true => rw [text_noHk c] at h1; cases h1
theorem ends_app {a b : BS} (h0 : b ≠ []) : endsL (a ++ b) = endsL b := by
  unfold endsL
  rcases b.eq_nil_or_concat with rfl | ⟨m, c, rfl⟩
  · exact absurd rfl h0
  · rw [List.concat_eq_append, ← List.append_assoc, List.getLast?_concat, List.getLast?_concat]
theorem join_Sr {out : List Pt} {p : Pt} (h : SrP out) (hp : confD p = true ∨ (isTextD p = true ∧ (txP p = [] ∨ endsL (txP p) = true))) : SrP (joinR out p) := by
  rcases hp with hp | ⟨hp, he⟩
  · rw [join_no (conf_noText hp)]
    exact h.snoc (okS_conf hp)
  · rcases join_cases out p hp with ⟨_, e⟩ | ⟨h0, ⟨m, q, rfl, hq, e⟩ | ⟨hl, e⟩⟩
    · rw [e]; exact h
    · rw [e]
      have he := he.resolve_left h0
      exact h.left.snoc (okS_text h.left (by simp [h0]) (by rw [ends_app h0]; exact he) (h.text hq))
    · rw [e]
      have he := he.resolve_left h0
      rw [isText_eq hp]
      exact h.snoc (okS_text h h0 he hl)
theorem join_right {out : List Pt} {p : Pt} (h : SrP out) (hp : confD p = true ∨ isTextD p = true) : rightD (joinR out p) = true := by
  rcases hp with hp | hp
  · exact (join_Sr h (.inl hp)).right
  · rcases join_cases out p hp with ⟨_, e⟩ | ⟨h0, ⟨m, q, rfl, hq, e⟩ | ⟨hl, e⟩⟩
    · rw [e]; exact h.right
    · rw [e]
      exact right_snoc h.left (okAt_text h.left (by simp [h0]) (h.text hq))
    · rw [e, isText_eq hp]
      exact right_snoc h (okAt_text h h0 hl)
theorem fold_Sr : ∀ (l out : List Pt), SrP out → (∀ p ∈ l, confD p = true ∨ (isTextD p = true ∧ (txP p = [] ∨ endsL (txP p) = true))) → SrP (l.foldl joinR out)
  | [], _, h, _ => h
  | p :: l, out, h, hl => fold_Sr l _ (join_Sr h (hl p (List.mem_cons_self ..))) fun q hq => hl q (List.mem_cons_of_mem p hq)
theorem of_right {l : List Pt} (h1 : ∀ p ∈ l, confD p = true ∨ isTextD p = true) (h2 : ∀ p ∈ l.dropLast, confD p = true ∨ (isTextD p = true ∧ (txP p = [] ∨ endsL (txP p) = true))) : rightD (ofD l) = true := by
  rw [ofD_eq]
  rcases l.eq_nil_or_concat with rfl | ⟨m, p, rfl⟩
  · rfl
  · rw [List.concat_eq_append] at *
    rw [List.dropLast_concat] at h2
    rw [List.foldl_append]
    exact join_right (fold_Sr m [] (fun i hi => by simp at hi) h2) (h1 p (by simp))
theorem of_conflG : ∀ (l out : List Pt), conflD (l.foldl joinR out) = conflD out + conflD l
  | [], out => by simp [conflD]
  | p :: l, out => by
    have key : conflD (joinR out p) = conflD out + conflD [p] := by
      have hap : ∀ a b : List Pt, conflD (a ++ b) = conflD a + conflD b := fun a b => by simp [conflD]
      cases hp : isTextD p with
      | false => rw [join_no hp, hap]
      | true =>
        have h1 : ∀ t : BS, conflD [textP t] = 0 := fun t => rfl
        have h2 : conflD [p] = 0 := by rw [isText_eq hp]; rfl
        rcases join_cases out p hp with ⟨_, e⟩ | ⟨h0, ⟨m, q, rfl, hq, e⟩ | ⟨hl, e⟩⟩
        · rw [e, h2]; rfl
        · have h3 : conflD [q] = 0 := by rw [isText_eq hq]; rfl
          rw [e, hap, hap, h1, h2, h3]
        · rw [e, hap]
    have hap : conflD (p :: l) = conflD [p] + conflD l := by
      rw [show p :: l = [p] ++ l from rfl]
      unfold conflD
      rw [List.filter_append, List.length_append]
    rw [List.foldl_cons, of_conflG l, key, hap]
    omega
theorem of_confl (l : List Pt) : conflD (ofD l) = conflD l := by
  rw [ofD_eq, of_conflG]
  simp [conflD]
end Go.Proofs.YtjfmigpahglajaaGreatDoor
set_option linter.unusedSimpArgs false
set_option linter.unusedVariables false
namespace Go.Proofs.YtjfmigpahglajaaGreatDoor
theorem idx_in {l m : List BS} {x : BS} (h : x ∈ l) : (l ++ m).idxOf x = l.idxOf x := by rw [List.idxOf_append, if_pos h]
theorem idx_out {l m : List BS} {x : BS} (h : ¬ x ∈ l) : (l ++ m).idxOf x = m.idxOf x + l.length := by rw [List.idxOf_append, if_neg h]
theorem numL_fin : ∀ (l ks : List BS), ks.Nodup → (numL ks l).1.Nodup ∧ (∃ m, (numL ks l).1 = ks ++ m) ∧ (∀ x ∈ l, x ∈ (numL ks l).1) ∧ (numL ks l).2 = l.map fun x => (((numL ks l).1.idxOf x : Nat) : Int)
  | [], ks, h => ⟨h, ⟨[], by simp [numL]⟩, fun _ h => by simp at h, rfl⟩
  | x :: l, ks, h => by
    have hk : (if x ∈ ks then ks else ks ++ [x]).Nodup := by
      split
      · exact h
      · rename_i hx
        rw [List.nodup_append]
        refine ⟨h, by simp, fun a ha b hb e => ?_⟩
        simp at hb
        exact hx (by rw [← hb, ← e]; exact ha)
    have hx : x ∈ (if x ∈ ks then ks else ks ++ [x]) := by
      split
      · assumption
      · simp
    have hi : (if x ∈ ks then ks else ks ++ [x]).idxOf x = ks.idxOf x := by
      split
      · rfl
      · rename_i hx
        rw [idx_out hx, List.idxOf_cons_self, List.idxOf_eq_length hx, Nat.zero_add]
    have hm : ∃ m, (if x ∈ ks then ks else ks ++ [x]) = ks ++ m := by
      split
      · exact ⟨[], by simp⟩
      · exact ⟨[x], rfl⟩
    obtain ⟨i1, ⟨m, i2⟩, i3, i4⟩ := numL_fin l (if x ∈ ks then ks else ks ++ [x]) hk
    obtain ⟨m', hm⟩ := hm
    simp only [numL]
    refine ⟨i1, ⟨m' ++ m, by rw [i2, hm, List.append_assoc]⟩, fun y hy => ?_, ?_⟩
    · rcases List.mem_cons.1 hy with rfl | hy
      · rw [i2]; exact List.mem_append_left _ hx
      · exact i3 y hy
    · rw [List.map_cons, i4]
      congr 1
      rw [i2, idx_in hx, hi]
theorem idx_inj {K : List BS} {x y : BS} (hx : x ∈ K) (hy : y ∈ K) (h : K.idxOf x = K.idxOf y) : x = y := by
  have h1 := List.idxOf_lt_length_of_mem hx
  have h2 := List.idxOf_lt_length_of_mem hy
  have e1 : K[K.idxOf x] = x := List.getElem_idxOf h1
  have e2 : K[K.idxOf y] = y := List.getElem_idxOf h2
  rw [← e1, ← e2]
  congr 1
theorem num_three (a b c : List BS) : ∃ φ : BS → Int, numF [] [a, b, c] = [a.map φ, b.map φ, c.map φ] ∧ ∀ x y, (x ∈ a ∨ x ∈ b ∨ x ∈ c) → (y ∈ a ∨ y ∈ b ∨ y ∈ c) → φ x = φ y → x = y := by
  obtain ⟨a1, ⟨ma, a2⟩, a3, a4⟩ := numL_fin a [] List.nodup_nil
  obtain ⟨b1, ⟨mb, b2⟩, b3, b4⟩ := numL_fin b (numL [] a).1 a1
  obtain ⟨c1, ⟨mc, c2⟩, c3, c4⟩ := numL_fin c (numL (numL [] a).1 b).1 b1
  generalize hKa : (numL [] a).1 = Ka at *
  generalize hKb : (numL Ka b).1 = Kb at *
  generalize hKc : (numL Kb c).1 = Kc at *
  have ea : ∀ x ∈ a, Kc.idxOf x = Ka.idxOf x := fun x hx => by
    rw [c2, idx_in (by rw [b2]; exact List.mem_append_left _ (a3 x hx)), b2, idx_in (a3 x hx)]
  have eb : ∀ x ∈ b, Kc.idxOf x = Kb.idxOf x := fun x hx => by
    rw [c2, idx_in (b3 x hx)]
  have hin : ∀ x, (x ∈ a ∨ x ∈ b ∨ x ∈ c) → x ∈ Kc := fun x hx => by
    rcases hx with h | h | h
    · rw [c2, b2]; exact List.mem_append_left _ (List.mem_append_left _ (a3 x h))
    · rw [c2]; exact List.mem_append_left _ (b3 x h)
    · exact c3 x h
  refine ⟨fun x => ((Kc.idxOf x : Nat) : Int), ?_, fun x y hx hy e => idx_inj (hin x hx) (hin y hy) (Int.ofNat.inj e)⟩
  simp only [numF]
  rw [hKa, hKb, a4, b4, c4]
  congr 1
  · exact List.map_congr_left fun x hx => by rw [ea x hx]
  · congr 1
    exact List.map_congr_left fun x hx => by rw [eb x hx]
theorem rgt_rise {a b : List Int} : ∀ {l : List (Int × Int)} {u v : Int}, rgt a b u v l = true → riseB a.length b.length u v l = true
  | [], _, _, _ => rfl
  | p :: l, u, v, h => by
    rw [rgt, Bool.and_eq_true, decide_eq_true_eq] at h
    rw [riseB, rgt_rise h.2, Bool.and_true, decide_eq_true_eq]
    exact ⟨h.1.1, h.1.2.1, h.1.2.2.1, h.1.2.2.2.1⟩
theorem rgt_mem {a b : List Int} : ∀ {l : List (Int × Int)} {u v : Int}, rgt a b u v l = true → ∀ p ∈ l, u < p.1 ∧ v < p.2 ∧ p.1 < a.length ∧ p.2 < b.length ∧ a.getD p.1.toNat 0 = b.getD p.2.toNat 0
  | q :: l, u, v, h, p, hp => by
    rw [rgt, Bool.and_eq_true, decide_eq_true_eq] at h
    rcases List.mem_cons.1 hp with rfl | hp
    · exact h.1
    · obtain ⟨g1, g2, g3⟩ := rgt_mem h.2 p hp
      exact ⟨by omega, by omega, g3⟩
theorem map_getD {α : Type} (φ : BS → α) (d : α) {l : List BS} {k : Nat} (h : k < l.length) : (l.map φ).getD k d = φ (l.getD k []) := by
  rw [gd_lt _ _ (by simpa using h), gd_lt _ _ h, List.getElem_map]
theorem getD_mem {l : List BS} {k : Nat} (h : k < l.length) : l.getD k [] ∈ l := by
  rw [gd_lt _ _ h]
  exact List.getElem_mem h
abbrev Fl := List BS × List BS × List BS
def atP (f : Fl) (p : Pl) : Prop := (0 ≤ p.1 ∧ p.1 < f.1.length) ∧ (0 ≤ p.2.1 ∧ p.2.1 < f.2.1.length) ∧ (0 ≤ p.2.2 ∧ p.2.2 < f.2.2.length) ∧ f.2.1.getD p.2.1.toNat [] = f.1.getD p.1.toNat [] ∧ f.2.2.getD p.2.2.toNat [] = f.1.getD p.1.toNat []
def mtch (f : Fl) (l r : List (Int × Int)) : Prop := rgt ((numF [] [f.1, f.2.1, f.2.2]).getD 0 []) ((numF [] [f.1, f.2.1, f.2.2]).getD 1 []) (-1) (-1) l = true ∧ rgt ((numF [] [f.1, f.2.1, f.2.2]).getD 0 []) ((numF [] [f.1, f.2.1, f.2.2]).getD 2 []) (-1) (-1) r = true
theorem mtch_fit {f : Fl} {l r : List (Int × Int)} (h : mtch f l r) : fitK f.1.length f.2.1.length f.2.2.length l r = true := by
  obtain ⟨φ, e, _⟩ := num_three f.1 f.2.1 f.2.2
  unfold mtch at h
  rw [e] at h
  have h1 := rgt_rise h.1
  have h2 := rgt_rise h.2
  simp only [List.getD_cons_zero, List.getD_cons_succ, List.length_map] at h1 h2
  unfold fitK
  rw [h1, h2]
  simp
theorem mtch_at {f : Fl} {l r : List (Int × Int)} (h : mtch f l r) : ∀ p ∈ bothF l r, atP f p := fun x hx => by
  obtain ⟨p, hp, q, hq, e1, rfl⟩ := both_mem _ l r (Nat.le_refl _) x hx
  obtain ⟨φ, e, inj⟩ := num_three f.1 f.2.1 f.2.2
  unfold mtch at h
  rw [e] at h
  obtain ⟨a1, a2, a3, a4, a5⟩ := rgt_mem h.1 p hp
  obtain ⟨b1, b2, b3, b4, b5⟩ := rgt_mem h.2 q hq
  simp only [List.getD_cons_zero, List.getD_cons_succ, List.length_map] at a3 a4 a5 b3 b4 b5
  have k1 : p.1.toNat < f.1.length := by omega
  have k2 : p.2.toNat < f.2.1.length := by omega
  have k3 : q.2.toNat < f.2.2.length := by omega
  rw [map_getD φ 0 k1, map_getD φ 0 k2] at a5
  rw [← e1, map_getD φ 0 k1, map_getD φ 0 k3] at b5
  refine ⟨⟨show (0 : Int) ≤ p.1 by omega, a3⟩, ⟨show (0 : Int) ≤ p.2 by omega, a4⟩, ⟨show (0 : Int) ≤ q.2 by omega, b4⟩, ?_, ?_⟩
  · exact (inj _ _ (.inl (getD_mem k1)) (.inr (.inl (getD_mem k2))) a5).symm
  · exact (inj _ _ (.inl (getD_mem k1)) (.inr (.inr (getD_mem k3))) b5).symm
def addP (p : Pl) (n : Nat) : Pl := (p.1 + n, p.2.1 + n, p.2.2 + n)
def goodC (f : Fl) (c : Ck) : Prop := c.1 = true → ∃ n : Nat, toP c = addP (fromP c) n ∧ ∀ k, k < n → atP f (addP (fromP c) k)
theorem good_stretch {f : Fl} {s : List Ck} {p : Pl} (h : ∀ c ∈ s, goodC f c) (hc : chF (0, 0, 0) none s p) (hp : atP f p) : ∀ c ∈ stretchF s p, goodC f c := by
  have one : goodC f (true, (p.1, p.1 + 1), (p.2.1, p.2.1 + 1), (p.2.2, p.2.2 + 1)) := fun _ => ⟨1, rfl, fun k hk => by
    obtain rfl : k = 0 := by omega
    have : addP p 0 = p := by simp [addP]
    show atP f (addP p 0)
    rw [this]
    exact hp⟩
  rcases s.eq_nil_or_concat with rfl | ⟨m, d, rfl⟩
  · rw [stretch_nil]
    intro c hc
    simp only [List.mem_singleton] at hc
    subst hc
    exact one
  · rw [List.concat_eq_append] at h hc ⊢
    rw [stretch_snoc]
    by_cases hd : d.1 = true
    · rw [if_pos hd]
      obtain ⟨_, _, _, _, e⟩ := ch_snoc.1 hc
      obtain ⟨n, e2, g⟩ := h d (by simp) hd
      intro c hc
      rcases List.mem_append.1 hc with hc | hc
      · exact h c (by simp [hc])
      · simp only [List.mem_singleton] at hc
        subst hc
        rw [e] at e2
        refine fun _ => ⟨n + 1, ?_, fun k hk => ?_⟩
        · rw [e2]
          show (_, _, _) = (_, _, _)
          simp only [addP, fromP, Int.natCast_add, Int.add_assoc]
          rfl
        · show atP f (addP (fromP d) k)
          rcases Nat.lt_or_ge k n with g1 | g1
          · exact g k g1
          · obtain rfl : k = n := by omega
            rw [← e2]
            exact hp
    · rw [if_neg hd]
      intro c hc
      rcases List.mem_append.1 hc with hc | hc
      · exact h c hc
      · simp only [List.mem_singleton] at hc
        subst hc
        exact one
theorem good_of {f : Fl} (ends : Pl) : ∀ (M : List Pl) (s : List Ck) (t : Pl), chF (0, 0, 0) none s t → lastO none s ≠ some false → upM ends t M → (∀ p ∈ M, atP f p) → (∀ c ∈ s, goodC f c) → ∀ c ∈ ofK ends M s t, goodC f c
  | [], s, t, h, hl, hu, hM, hs => by
    rw [ofK]
    by_cases e : t = ends
    · rw [if_pos e]; exact hs
    · rw [if_neg e]
      intro c hc
      rcases List.mem_append.1 hc with hc | hc
      · exact hs c hc
      · simp only [List.mem_singleton] at hc
        subst hc
        exact fun h => by cases h
  | p :: M, s, t, h, hl, hu, hM, hs => by
    rw [ofK]
    by_cases e : p = t
    · rw [if_pos e, e]
      obtain ⟨h1, h2⟩ := ch_stretch h
      exact good_of ends M _ _ h1 (by rw [h2]; simp) (e ▸ hu.2) (fun q hq => hM q (List.mem_cons_of_mem _ hq)) (good_stretch hs h (e ▸ hM p (List.mem_cons_self ..)))
    · rw [if_neg e]
      have hc := ch_snoc (e := p) (c := btw t p) (t := (0, 0, 0)) (o := none) (s := s) |>.2 ⟨h, hu.1, fun e2 => e e2.symm, hl, rfl⟩
      obtain ⟨h1, h2⟩ := ch_stretch (s := s ++ [btw t p]) (t := p) hc
      refine good_of ends M _ _ h1 (by rw [h2]; simp) hu.2 (fun q hq => hM q (List.mem_cons_of_mem _ hq)) (good_stretch (fun c hc => ?_) hc (hM p (List.mem_cons_self ..)))
      rcases List.mem_append.1 hc with hc | hc
      · exact hs c hc
      · simp only [List.mem_singleton] at hc
        subst hc
        exact fun h => by cases h
def cksF (f : Fl) (l r : List (Int × Int)) : List Ck := ofK (f.1.length, f.2.1.length, f.2.2.length) (bothF l r) [] (0, 0, 0)
def endP (f : Fl) : Pl := (f.1.length, f.2.1.length, f.2.2.length)
theorem cks_ch {f : Fl} {l r : List (Int × Int)} (h : mtch f l r) : chF (0, 0, 0) none (cksF f l r) (endP f) := ch_all (mtch_fit h)
theorem cks_good {f : Fl} {l r : List (Int × Int)} (h : mtch f l r) : ∀ c ∈ cksF f l r, goodC f c := by
  have hf := mtch_fit h
  unfold fitK at hf
  simp only [Bool.and_eq_true, decide_eq_true_eq] at hf
  obtain ⟨⟨h1, h2, h3⟩, h4, h5⟩ := hf
  exact good_of (endP f) _ _ _ rfl (by simp [lastO]) (both_up _ l r (-1) (-1) (-1) (-1) (0, 0, 0) (Nat.le_refl _) h4 h5 (.inl (Int.le_refl _)) (Int.le_refl _) (Int.le_refl _) ⟨h1, h2, h3⟩) (mtch_at h) (fun c hc => by simp at hc)
def cutB (f : Fl) (c : Ck) : List BS := cutS c.2.1 f.1
def cutO (f : Fl) (c : Ck) : List BS := cutS c.2.2.1 f.2.1
def cutT (f : Fl) (c : Ck) : List BS := cutS c.2.2.2 f.2.2
theorem cutS_in {s : Sp} {l : List BS} (h1 : 0 ≤ s.1) (h2 : s.1 ≤ s.2) (h3 : s.2 ≤ l.length) : cutS s l = cutL l s.1.toNat s.2.toNat := by
  unfold cutS
  rw [if_neg (by omega)]
theorem cutL_len' {α : Type} (a : List α) {i j : Nat} (h : j ≤ a.length) : (cutL a i j).length = j - i := by simp [cutL]; omega
theorem cutL_at {a : List BS} {i j k : Nat} (h : k < j - i) (hj : j ≤ a.length) : (cutL a i j).getD k [] = a.getD (i + k) [] := by
  simp [cutL, List.getD, List.getElem?_take, show i + k < j by omega]
theorem cutL_mem {a : List BS} {i j : Nat} {x : BS} (hj : j ≤ a.length) (h : x ∈ cutL a i j) : ∃ k, i ≤ k ∧ k < j ∧ x = a.getD k [] := by
  obtain ⟨k, hk, e⟩ := List.getElem_of_mem h
  have hk' : k < j - i := by rw [cutL_len' a hj] at hk; exact hk
  refine ⟨i + k, by omega, by omega, ?_⟩
  rw [← cutL_at hk' hj, gd_lt _ _ hk, e]
structure Cmp (g : Ck → Sp) (h : Pl → Int) : Prop where
  fro : ∀ c, (g c).1 = h (fromP c)
  too : ∀ c, (g c).2 = h (toP c)
  mono : ∀ p q, leP p q → h p ≤ h q
  add : ∀ p (n : Nat), h (addP p n) = h p + n
  zero : h (0, 0, 0) = 0
theorem cmpB : Cmp (fun c => c.2.1) (fun p => p.1) := ⟨fun _ => rfl, fun _ => rfl, fun _ _ h => h.1, fun _ _ => rfl, rfl⟩
theorem cmpO : Cmp (fun c => c.2.2.1) (fun p => p.2.1) := ⟨fun _ => rfl, fun _ => rfl, fun _ _ h => h.2.1, fun _ _ => rfl, rfl⟩
theorem cmpT : Cmp (fun c => c.2.2.2) (fun p => p.2.2) := ⟨fun _ => rfl, fun _ => rfl, fun _ _ h => h.2.2, fun _ _ => rfl, rfl⟩
theorem cutL_join {α : Type} (a : List α) {i j k : Nat} (h1 : i ≤ j) (h2 : j ≤ k) : cutL a i j ++ cutL a j k = cutL a i k := by
  unfold cutL
  have e : a.take j = (a.take k).take j := by rw [List.take_take]; congr 1; omega
  rw [e]
  generalize a.take k = b
  rw [List.drop_take]
  have : b.drop j = (b.drop i).drop (j - i) := by rw [List.drop_drop]; congr 1; omega
  rw [this, List.take_append_drop]
theorem span_join {g : Ck → Sp} {h : Pl → Int} (hg : Cmp g h) {l : List BS} : ∀ {L : List Ck} {t : Pl} {o : Option Bool} {e : Pl}, chF t o L e → 0 ≤ h t → h e ≤ l.length → (L.map fun c => cutS (g c) l).flatten = cutL l (h t).toNat (h e).toNat
  | [], t, _, e, hc, _, _ => by
    have : t = e := hc
    subst this
    simp [cutL]
  | c :: L, t, o, e, ⟨h1, h2, h3, h4, h5⟩, h6, h7 => by
    have m1 := hg.mono _ _ h2
    have m2 := hg.mono _ _ (ch_le h5)
    rw [List.map_cons, List.flatten_cons, span_join hg h5 (by omega) h7, cutS_in (by rw [hg.fro, h1]; exact h6) (by rw [hg.fro, hg.too, h1]; exact m1) (by rw [hg.too]; omega), hg.fro, hg.too, h1]
    exact cutL_join l (by omega) (by omega)
theorem span_all {g : Ck → Sp} {h : Pl → Int} (hg : Cmp g h) {l : List BS} {L : List Ck} {e : Pl} (hc : chF (0, 0, 0) none L e) (he : h e = l.length) : (L.map fun c => cutS (g c) l).flatten = l := by
  rw [span_join hg hc (by rw [hg.zero]; exact Int.le_refl _) (by omega), hg.zero, he]
  simp [cutL]
theorem ch_in : ∀ {L : List Ck} {t : Pl} {o : Option Bool} {e : Pl}, chF t o L e → ∀ c ∈ L, leP t (fromP c) ∧ leP (fromP c) (toP c) ∧ leP (toP c) e
  | c :: L, t, o, e, ⟨h1, h2, h3, h4, h5⟩, d, hd => by
    rcases List.mem_cons.1 hd with rfl | hd
    · exact ⟨by rw [h1]; exact leP_refl _, by rw [h1]; exact h2, ch_le h5⟩
    · obtain ⟨g1, g2, g3⟩ := ch_in h5 d hd
      exact ⟨leP_trans h2 g1, g2, g3⟩
def inF (f : Fl) (c : Ck) : Prop := leP (0, 0, 0) (fromP c) ∧ leP (fromP c) (toP c) ∧ leP (toP c) (endP f)
theorem cutB_in {f : Fl} {c : Ck} (h : inF f c) : cutB f c = cutL f.1 c.2.1.1.toNat c.2.1.2.toNat := cutS_in h.1.1 h.2.1.1 h.2.2.1
theorem cutO_in {f : Fl} {c : Ck} (h : inF f c) : cutO f c = cutL f.2.1 c.2.2.1.1.toNat c.2.2.1.2.toNat := cutS_in h.1.2.1 h.2.1.2.1 h.2.2.2.1
theorem cutT_in {f : Fl} {c : Ck} (h : inF f c) : cutT f c = cutL f.2.2 c.2.2.2.1.toNat c.2.2.2.2.toNat := cutS_in h.1.2.2 h.2.1.2.2 h.2.2.2.2
theorem good_same {f : Fl} {c : Ck} (h : inF f c) (hg : goodC f c) (hs : c.1 = true) : cutO f c = cutB f c ∧ cutT f c = cutB f c := by
  obtain ⟨n, e, g⟩ := hg hs
  have e1 : c.2.1.2 = c.2.1.1 + n := congrArg (fun p : Pl => p.1) e
  have e2 : c.2.2.1.2 = c.2.2.1.1 + n := congrArg (fun p : Pl => p.2.1) e
  have e3 : c.2.2.2.2 = c.2.2.2.1 + n := congrArg (fun p : Pl => p.2.2) e
  have a1 : (0 : Int) ≤ c.2.1.1 := h.1.1
  have a2 : (0 : Int) ≤ c.2.2.1.1 := h.1.2.1
  have a3 : (0 : Int) ≤ c.2.2.2.1 := h.1.2.2
  have b1 : c.2.1.2 ≤ f.1.length := h.2.2.1
  have b2 : c.2.2.1.2 ≤ f.2.1.length := h.2.2.2.1
  have b3 : c.2.2.2.2 ≤ f.2.2.length := h.2.2.2.2
  rw [cutB_in h, cutO_in h, cutT_in h]
  have l1 := cutL_len' f.1 (i := c.2.1.1.toNat) (j := c.2.1.2.toNat) (by omega)
  have l2 := cutL_len' f.2.1 (i := c.2.2.1.1.toNat) (j := c.2.2.1.2.toNat) (by omega)
  have l3 := cutL_len' f.2.2 (i := c.2.2.2.1.toNat) (j := c.2.2.2.2.toNat) (by omega)
  have key : ∀ k, k < n → f.2.1.getD (c.2.2.1.1.toNat + k) [] = f.1.getD (c.2.1.1.toNat + k) [] ∧ f.2.2.getD (c.2.2.2.1.toNat + k) [] = f.1.getD (c.2.1.1.toNat + k) [] := fun k hk => by
    obtain ⟨_, _, _, g4, g5⟩ := g k hk
    have q1 : (addP (fromP c) k).1.toNat = c.2.1.1.toNat + k := by show (c.2.1.1 + (k : Int)).toNat = _; omega
    have q2 : (addP (fromP c) k).2.1.toNat = c.2.2.1.1.toNat + k := by show (c.2.2.1.1 + (k : Int)).toNat = _; omega
    have q3 : (addP (fromP c) k).2.2.toNat = c.2.2.2.1.toNat + k := by show (c.2.2.2.1 + (k : Int)).toNat = _; omega
    rw [q1, q2] at g4
    rw [q1, q3] at g5
    exact ⟨g4, g5⟩
  constructor
  · refine list_ext_getD [] (by omega) fun k hk => ?_
    rw [cutL_at (by omega) (by omega), cutL_at (by omega) (by omega)]
    exact (key k (by omega)).1
  · refine list_ext_getD [] (by omega) fun k hk => ?_
    rw [cutL_at (by omega) (by omega), cutL_at (by omega) (by omega)]
    exact (key k (by omega)).2
def wholeF (f : Fl) : Prop := wholeL f.1 = true ∧ wholeL f.2.1 = true ∧ wholeL f.2.2 = true
theorem whole_ends {l : List BS} (h : wholeL l = true) {k : Nat} (hk : k + 1 < l.length) : endsL (l.getD k []) = true := ((wholeL_iff l).1 h k (by omega)).2 hk
def allEnd (f : Fl) (c : Ck) : Prop := ∀ x, x ∈ cutB f c ∨ x ∈ cutO f c ∨ x ∈ cutT f c → endsL x = true
theorem cut_ends {l : List BS} (hw : wholeL l = true) {i j : Nat} (h : j < l.length) : ∀ x ∈ cutL l i j, endsL x = true := fun x hx => by
  obtain ⟨k, h1, h2, rfl⟩ := cutL_mem (by omega) hx
  exact whole_ends hw (by omega)
theorem ch_ends {f : Fl} (hw : wholeF f) : ∀ (L : List Ck) (t : Pl) (o : Option Bool), chF t o L (endP f) → leP (0, 0, 0) t → (∀ c ∈ L, goodC f c) → ∀ c ∈ L.dropLast, allEnd f c
  | [], _, _, _, _, _, _, h => by simp at h
  | [c], _, _, _, _, _, _, h => by simp at h
  | c :: d :: L, t, o, hc, h0, hg, x, hx => by
    have hx : x = c ∨ x ∈ (d :: L).dropLast := by simpa using hx
    obtain ⟨h1, h2, h3, h4, h5⟩ := hc
    have h5' := h5
    obtain ⟨k1, k2, k3, k4, k5⟩ := h5
    rcases hx with rfl | hx
    · have hin : inF f x := ⟨by rw [h1]; exact h0, by rw [h1]; exact h2, ch_le h5'⟩
      have hle := ch_le k5
      have z1 : (0 : Int) ≤ (toP x).1 := Int.le_trans h0.1 h2.1
      have z2 : (0 : Int) ≤ (toP x).2.1 := Int.le_trans h0.2.1 h2.2.1
      have z3 : (0 : Int) ≤ (toP x).2.2 := Int.le_trans h0.2.2 h2.2.2
      have w1 : (toP x).1 ≤ (toP d).1 := k2.1
      have w2 : (toP x).2.1 ≤ (toP d).2.1 := k2.2.1
      have w3 : (toP x).2.2 ≤ (toP d).2.2 := k2.2.2
      have v1 : (toP d).1 ≤ f.1.length := hle.1
      have v2 : (toP d).2.1 ≤ f.2.1.length := hle.2.1
      have v3 : (toP d).2.2 ≤ f.2.2.length := hle.2.2
      cases hs : x.1 with
      | true =>
        obtain ⟨e1, e2⟩ := good_same hin (hg x (by simp)) hs
        have hall : ∀ y ∈ cutB f x, endsL y = true := by
          by_cases c1 : (toP x).1 < (toP d).1
          · rw [cutB_in hin]
            exact cut_ends hw.1 (by show (toP x).1.toNat < _; omega)
          · by_cases c2 : (toP x).2.1 < (toP d).2.1
            · rw [← e1, cutO_in hin]
              exact cut_ends hw.2.1 (by show (toP x).2.1.toNat < _; omega)
            · by_cases c3 : (toP x).2.2 < (toP d).2.2
              · rw [← e2, cutT_in hin]
                exact cut_ends hw.2.2 (by show (toP x).2.2.toNat < _; omega)
              · exact absurd (show toP x = toP d from Prod.ext (by omega) (Prod.ext (by omega) (by omega))) k3
        intro y hy
        rw [e1, e2] at hy
        rcases hy with hy | hy | hy
        · exact hall y hy
        · exact hall y hy
        · exact hall y hy
      | false =>
        have hd : d.1 = true := by
          cases hd : d.1 with
          | true => rfl
          | false => rw [hs, hd] at k4; exact absurd rfl k4
        obtain ⟨n, e, _⟩ := hg d (by simp) hd
        rw [k1] at e
        have hn : 0 < n := by
          rcases Nat.eq_zero_or_pos n with rfl | h
          · exact absurd (show toP x = toP d by rw [e]; simp [addP]) k3
          · exact h
        have u1 : (toP d).1 = (toP x).1 + n := congrArg (fun p : Pl => p.1) e
        have u2 : (toP d).2.1 = (toP x).2.1 + n := congrArg (fun p : Pl => p.2.1) e
        have u3 : (toP d).2.2 = (toP x).2.2 + n := congrArg (fun p : Pl => p.2.2) e
        intro y hy
        rcases hy with hy | hy | hy
        · rw [cutB_in hin] at hy
          exact cut_ends hw.1 (by show (toP x).1.toNat < _; omega) y hy
        · rw [cutO_in hin] at hy
          exact cut_ends hw.2.1 (by show (toP x).2.1.toNat < _; omega) y hy
        · rw [cutT_in hin] at hy
          exact cut_ends hw.2.2 (by show (toP x).2.2.toNat < _; omega) y hy
    · exact ch_ends hw (d :: L) (toP c) (some c.1) h5' (leP_trans h0 h2) (fun e he => hg e (List.mem_cons_of_mem _ he)) x hx
end Go.Proofs.YtjfmigpahglajaaGreatDoor
set_option linter.unusedSimpArgs false
set_option linter.unusedVariables false
namespace Go.Proofs.YtjfmigpahglajaaGreatDoor
def clsF (f : Fl) (c : Ck) : Int := classK c f.1 f.2.1 f.2.2
def hoistF (st : Int) (l r : List BS) : Nat × Nat := if st = 2 then (ahd l r, bhd (l.drop (ahd l r)) (r.drop (ahd l r))) else (0, 0)
theorem hoist_le (st : Int) (l r : List BS) : (hoistF st l r).1 + (hoistF st l r).2 ≤ l.length ∧ (hoistF st l r).1 + (hoistF st l r).2 ≤ r.length := by
  unfold hoistF
  split
  · have h1 := ahd_le l r
    have h2 := bhd_le (l.drop (ahd l r)) (r.drop (ahd l r))
    simp only [List.length_drop] at h2
    simp only
    omega
  · simp
def confP (f : Fl) (c : Ck) (st : Int) (lb : BS × BS × BS) : Pt :=
  (lb.1, (if st = 0 then [] else lb.2.1), lb.2.2, true, [], (cutL (cutO f c) (hoistF st (cutO f c) (cutT f c)).1 ((cutO f c).length - (hoistF st (cutO f c) (cutT f c)).2)).flatten,
    (if st = 0 then [] else (cutB f c).flatten), (cutL (cutT f c) (hoistF st (cutO f c) (cutT f c)).1 ((cutT f c).length - (hoistF st (cutO f c) (cutT f c)).2)).flatten, decide (st ≠ 0))
def confL (f : Fl) (c : Ck) (st : Int) (lb : BS × BS × BS) : List Pt :=
  [textP ((cutO f c).take (hoistF st (cutO f c) (cutT f c)).1).flatten, confP f c st lb, textP ((cutO f c).drop ((cutO f c).length - (hoistF st (cutO f c) (cutT f c)).2)).flatten]
def sideF (f : Fl) (c : Ck) (k fav : Int) : List BS := if k = 0 then cutB f c else if k = 2 then cutT f c else if k = 4 ∧ fav = 3 then cutT f c else cutO f c
def ckPs (f : Fl) (st : Int) (lb : BS × BS × BS) (fav : Int) (c : Ck) : List Pt := if clsF f c = 4 ∧ fav = 0 then confL f c st lb else [textP (sideF f c (clsF f c) fav).flatten]
def styOK (n : Int) : Bool := decide (n = 0) || (decide (n = 1) || decide (n = 2))
def favOK (n : Int) : Bool := decide (n = 0) || (decide (n = 1) || decide (n = 3))
def plainLb (lb : BS × BS × BS) : Bool := plainB lb.1 && (plainB lb.2.1 && plainB lb.2.2)
def docF (f : Fl) (L : List Ck) (st : Int) (lb : BS × BS × BS) (fav : Int) : List Pt × Int :=
  if (styOK st && favOK fav) = false then ([], 5) else if plainLb lb = false then ([], 3) else (ofD (L.flatMap (ckPs f st lb fav)), 0)
def cntF (f : Fl) (L : List Ck) : Nat := (L.filter fun c => decide (clsF f c = 4)).length
theorem flat_ends {l : List BS} (h : ∀ x ∈ l, endsL x = true) : l.flatten = [] ∨ endsL l.flatten = true := by
  rcases l.eq_nil_or_concat with rfl | ⟨m, x, rfl⟩
  · exact .inl rfl
  · right
    rw [List.concat_eq_append, List.flatten_append]
    have hx := h x (by simp)
    have : [x].flatten = x := by simp
    rw [this, ends_app (fun e => by rw [e] at hx; simp [endsL] at hx)]
    exact hx
theorem confP_ok {f : Fl} {c : Ck} {st : Int} {lb : BS × BS × BS} (h : plainLb lb = true) : confD (confP f c st lb) = true := by
  unfold plainLb at h
  simp only [Bool.and_eq_true] at h
  unfold confD confP plainD
  simp only [Bool.and_eq_true, Bool.or_eq_true, decide_eq_true_eq]
  refine ⟨trivial, trivial, ?_, h.1, ?_, h.2.2⟩
  · by_cases e : st = 0
    · rw [if_pos e, if_pos e]
      exact .inr ⟨rfl, rfl⟩
    · exact .inl e
  · split
    · rfl
    · exact h.2.1
theorem ckPs_or {f : Fl} {st : Int} {lb : BS × BS × BS} {fav : Int} (h : plainLb lb = true) (c : Ck) : ∀ p ∈ ckPs f st lb fav c, confD p = true ∨ isTextD p = true := by
  unfold ckPs
  split
  · intro p hp
    unfold confL at hp
    simp only [List.mem_cons, List.not_mem_nil, or_false] at hp
    rcases hp with rfl | rfl | rfl
    · exact .inr (isText_textP _)
    · exact .inl (confP_ok h)
    · exact .inr (isText_textP _)
  · intro p hp
    simp only [List.mem_singleton] at hp
    subst hp
    exact .inr (isText_textP _)
theorem side_end {f : Fl} {c : Ck} (h : allEnd f c) (k fav : Int) : ∀ x ∈ sideF f c k fav, endsL x = true := by
  intro x hx
  unfold sideF at hx
  split at hx
  · exact h x (.inl hx)
  · split at hx
    · exact h x (.inr (.inr hx))
    · split at hx
      · exact h x (.inr (.inr hx))
      · exact h x (.inr (.inl hx))
theorem ckPs_end {f : Fl} {st : Int} {lb : BS × BS × BS} {fav : Int} {c : Ck} (hp : plainLb lb = true) (h : allEnd f c) : ∀ p ∈ ckPs f st lb fav c, confD p = true ∨ (isTextD p = true ∧ (txP p = [] ∨ endsL (txP p) = true)) := by
  unfold ckPs
  split
  · intro p hpm
    unfold confL at hpm
    simp only [List.mem_cons, List.not_mem_nil, or_false] at hpm
    rcases hpm with rfl | rfl | rfl
    · exact .inr ⟨isText_textP _, flat_ends fun x hx => h x (.inr (.inl (List.mem_of_mem_take hx)))⟩
    · exact .inl (confP_ok hp)
    · exact .inr ⟨isText_textP _, flat_ends fun x hx => h x (.inr (.inl (List.mem_of_mem_drop hx)))⟩
  · intro p hpm
    simp only [List.mem_singleton] at hpm
    subst hpm
    exact .inr ⟨isText_textP _, flat_ends (side_end h _ _)⟩
theorem cls_cases (f : Fl) (c : Ck) : (clsF f c = 0 ∧ c.1 = true) ∨ (c.1 = false ∧ (clsF f c = 2 ∧ cutO f c = cutB f c ∨ clsF f c = 1 ∧ cutT f c = cutB f c ∨ clsF f c = 3 ∧ cutO f c = cutT f c ∨ clsF f c = 4 ∧ cutO f c ≠ cutB f c ∧ cutT f c ≠ cutB f c ∧ cutO f c ≠ cutT f c)) := by
  unfold clsF classK
  cases h : c.1 with
  | true => exact .inl ⟨rfl, rfl⟩
  | false =>
    refine .inr ⟨rfl, ?_⟩
    rw [if_neg (by simp)]
    by_cases h1 : cutS c.2.2.1 f.2.1 = cutS c.2.1 f.1
    · rw [if_pos h1]; exact .inl ⟨rfl, h1⟩
    · rw [if_neg h1]
      by_cases h2 : cutS c.2.2.2 f.2.2 = cutS c.2.1 f.1
      · rw [if_pos h2]; exact .inr (.inl ⟨rfl, h2⟩)
      · rw [if_neg h2]
        by_cases h3 : cutS c.2.2.1 f.2.1 = cutS c.2.2.2 f.2.2
        · rw [if_pos h3]; exact .inr (.inr (.inl ⟨rfl, h3⟩))
        · rw [if_neg h3]; exact .inr (.inr (.inr ⟨rfl, h1, h2, h3⟩))
theorem cls_four {f : Fl} {c : Ck} (h : clsF f c = 4) : cutO f c ≠ cutT f c := by
  rcases cls_cases f c with ⟨h1, _⟩ | ⟨_, ⟨h1, _⟩ | ⟨h1, _⟩ | ⟨h1, _⟩ | ⟨_, _, _, h2⟩⟩
  · omega
  · omega
  · omega
  · omega
  · exact h2
theorem ahead_end {f : Fl} (hw : wholeF f) {c : Ck} (hin : inF f c) (hne : cutO f c ≠ cutT f c) : ∀ x ∈ (cutO f c).take (ahd (cutO f c) (cutT f c)), endsL x = true := by
  intro x hx
  have hle := ahd_le (cutO f c) (cutT f c)
  have hsp := (ahd_spec [] (cutO f c) (cutT f c)).1
  have b2 : c.2.2.1.2 ≤ f.2.1.length := hin.2.2.2.1
  have b3 : c.2.2.2.2 ≤ f.2.2.length := hin.2.2.2.2
  have a2 : (0 : Int) ≤ c.2.2.1.1 := hin.1.2.1
  have a3 : (0 : Int) ≤ c.2.2.2.1 := hin.1.2.2
  obtain ⟨k, hk, e⟩ := List.getElem_of_mem hx
  rw [List.length_take] at hk
  rw [List.getElem_take] at e
  have e' : (cutO f c).getD k [] = x := by rw [gd_lt _ _ (by omega)]; exact e
  have lO : (cutO f c).length = c.2.2.1.2.toNat - c.2.2.1.1.toNat := by rw [cutO_in hin]; exact cutL_len' _ (by omega)
  have lT : (cutT f c).length = c.2.2.2.2.toNat - c.2.2.2.1.toNat := by rw [cutT_in hin]; exact cutL_len' _ (by omega)
  rcases Nat.lt_or_ge (ahd (cutO f c) (cutT f c)) (cutO f c).length with g | g
  · rw [← e', cutO_in hin, cutL_at (by omega) (by omega)]
    exact whole_ends hw.2.1 (by omega)
  · rcases Nat.lt_or_ge (ahd (cutO f c) (cutT f c)) (cutT f c).length with g2 | g2
    · rw [← e', hsp k (by omega), cutT_in hin, cutL_at (by omega) (by omega)]
      exact whole_ends hw.2.2 (by omega)
    · exact absurd (ahd_all (by omega) (by omega)) hne
theorem ckPs_ne (f : Fl) (st : Int) (lb : BS × BS × BS) (fav : Int) (c : Ck) : ckPs f st lb fav c ≠ [] := by
  unfold ckPs
  split
  · simp [confL]
  · simp
theorem ckPs_last {f : Fl} (hw : wholeF f) {st : Int} {lb : BS × BS × BS} {fav : Int} {c : Ck} (hp : plainLb lb = true) (hin : inF f c) : ∀ p ∈ (ckPs f st lb fav c).dropLast, confD p = true ∨ (isTextD p = true ∧ (txP p = [] ∨ endsL (txP p) = true)) := by
  unfold ckPs
  split
  · rename_i hc
    intro p hpm
    unfold confL at hpm
    have hpm : p = textP ((cutO f c).take (hoistF st (cutO f c) (cutT f c)).1).flatten ∨ p = confP f c st lb := by simpa using hpm
    rcases hpm with rfl | rfl
    · refine .inr ⟨isText_textP _, flat_ends fun x hx => ?_⟩
      unfold hoistF at hx
      split at hx
      · exact ahead_end hw hin (cls_four hc.1) x hx
      · simp at hx
    · exact .inl (confP_ok hp)
  · intro p hpm
    simp at hpm
theorem dropLast_app {α : Type} (a b : List α) (h : b ≠ []) : (a ++ b).dropLast = a ++ b.dropLast := by
  rw [List.dropLast_append_of_ne_nil h]
theorem doc_right {f : Fl} (hw : wholeF f) {L : List Ck} (hc : chF (0, 0, 0) none L (endP f)) (hg : ∀ c ∈ L, goodC f c) {st : Int} {lb : BS × BS × BS} {fav : Int} (hp : plainLb lb = true) : rightD (ofD (L.flatMap (ckPs f st lb fav))) = true := by
  refine of_right (fun p h => ?_) (fun p h => ?_)
  · obtain ⟨c, _, hc2⟩ := List.mem_flatMap.1 h
    exact ckPs_or hp c p hc2
  · have hends := ch_ends hw L (0, 0, 0) none hc (leP_refl _) hg
    have hin := ch_in hc
    rcases L.eq_nil_or_concat with rfl | ⟨m, c, rfl⟩
    · simp at h
    · rw [List.concat_eq_append] at h hends hin
      rw [List.flatMap_append, dropLast_app _ _ (by simpa using ckPs_ne f st lb fav c)] at h
      rcases List.mem_append.1 h with h | h
      · obtain ⟨d, hd, hd2⟩ := List.mem_flatMap.1 h
        exact ckPs_end hp (hends d (by simpa using hd)) p hd2
      · have h : p ∈ (ckPs f st lb fav c).dropLast := by simpa using h
        exact ckPs_last hw hp (hin c (by simp)) p h
theorem confl_app (a b : List Pt) : conflD (a ++ b) = conflD a + conflD b := by simp [conflD]
theorem ckPs_confl (f : Fl) (st : Int) (lb : BS × BS × BS) (c : Ck) : conflD (ckPs f st lb 0 c) = if clsF f c = 4 then 1 else 0 := by
  unfold ckPs
  by_cases h : clsF f c = 4
  · rw [if_pos ⟨h, rfl⟩, if_pos h]
    rfl
  · rw [if_neg (fun e => h e.1), if_neg h]
    rfl
theorem cnt_cons (f : Fl) (c : Ck) (L : List Ck) : cntF f (c :: L) = (if clsF f c = 4 then 1 else 0) + cntF f L := by
  unfold cntF
  rw [List.filter_cons]
  by_cases h : clsF f c = 4
  · rw [if_pos (by simpa using h), if_pos h, List.length_cons]; omega
  · rw [if_neg (by simpa using h), if_neg h]; omega
theorem cnt_snoc (f : Fl) (c : Ck) (L : List Ck) : cntF f (L ++ [c]) = cntF f L + (if clsF f c = 4 then 1 else 0) := by
  unfold cntF
  rw [List.filter_append, List.length_append]
  congr 1
  rw [List.filter_cons]
  by_cases h : clsF f c = 4
  · rw [if_pos (by simpa using h), if_pos h]; rfl
  · rw [if_neg (by simpa using h), if_neg h]; rfl
theorem doc_confl (f : Fl) (st : Int) (lb : BS × BS × BS) : ∀ L : List Ck, conflD (L.flatMap (ckPs f st lb 0)) = cntF f L
  | [] => rfl
  | c :: L => by
    rw [List.flatMap_cons, confl_app, ckPs_confl, doc_confl f st lb L, cnt_cons]
theorem ckPs_fav (f : Fl) (st : Int) (lb : BS × BS × BS) {fav : Int} (h : fav ≠ 0) (c : Ck) : ckPs f st lb fav c = [textP (sideF f c (clsF f c) fav).flatten] := by
  unfold ckPs
  rw [if_neg (fun e => h e.2)]
theorem map_fav (f : Fl) (st : Int) (lb : BS × BS × BS) {fav : Int} (h : fav ≠ 0) (L : List Ck) : L.flatMap (ckPs f st lb fav) = (L.map fun c => (sideF f c (clsF f c) fav).flatten).map textP := by
  induction L with
  | nil => rfl
  | cons c L ih => rw [List.flatMap_cons, ckPs_fav f st lb h, ih]; rfl
theorem of_texts : ∀ (ts : List BS) (d : List Pt) (acc : List BS), ofGo (ts.map textP) d acc = withD d (acc ++ ts)
  | [], d, acc => by rw [List.map_nil, ofGo, List.append_nil]
  | t :: ts, d, acc => by
    rw [List.map_cons, ofGo, if_pos (isText_textP t), of_texts ts d (acc ++ [txP (textP t)])]
    congr 1
    rw [List.append_assoc]
    rfl
def favT (f : Fl) (L : List Ck) (fav : Int) : BS := (L.map fun c => sideF f c (clsF f c) fav).flatten.flatten
theorem flat_map {l : List (List BS)} : (l.map List.flatten).flatten = l.flatten.flatten := by
  induction l with
  | nil => rfl
  | cons a l ih => rw [List.map_cons, List.flatten_cons, List.flatten_cons, List.flatten_append, ih]
theorem doc_fav (f : Fl) (st : Int) (lb : BS × BS × BS) {fav : Int} (h : fav ≠ 0) (L : List Ck) : ofD (L.flatMap (ckPs f st lb fav)) = if favT f L fav = [] then [] else [textP (favT f L fav)] := by
  rw [map_fav f st lb h]
  show ofGo _ [] [] = _
  rw [of_texts]
  have e : ([] ++ L.map fun c => (sideF f c (clsF f c) fav).flatten).flatten = favT f L fav := by
    unfold favT
    rw [← flat_map, List.map_map]
    rfl
  unfold withD
  rw [e]
  rfl
end Go.Proofs.YtjfmigpahglajaaGreatDoor
set_option linter.unusedSimpArgs false
set_option linter.unusedVariables false
set_option maxRecDepth 100000
set_option maxHeartbeats 2000000
namespace Go.Proofs.YtjfmigpahglajaaGreatDoor
open Go
attribute [local irreducible] AW AVle ASle RowLe
@[go_sem] theorem kCell_str (l : Array UInt8) : kCell (.string ⟨l⟩) = .st l.toList := rfl
theorem ends_drop (a : List UInt8) : (decide (1 ≤ (a.length : Int)) && decide (List.drop ((a.length : Int) - 1).toNat a = [10])) = endsL a := by
  unfold endsL
  have e : ((a.length : Int) - 1).toNat = a.length - 1 := by omega
  rw [e, Bool.eq_iff_iff]
  simp only [Bool.and_eq_true, decide_eq_true_eq]
  rcases a.eq_nil_or_concat with rfl | ⟨m, c, rfl⟩
  · simp
  · rw [List.concat_eq_append]
    have e2 : (m ++ [c]).length - 1 = m.length := by simp
    rw [e2, List.drop_left]
    simp
    omega
def sHasSufL : Spec := Spec.f2 kS kS (fun a b => a.length ≤ 100000000000 ∧ b = [10]) (fun a _ => kB.enc (endsL a))
theorem okHasSufL : SpecOK Tryz.prog 147 sHasSufL := by
  refine SpecOK.f2 Tryz.func147 rfl (by decide) Tryz.results147 Tryz.ntmps147 (by decide) fun a b ⟨ha, h⟩ => ?_
  have hΓ : GOK Tryz.prog (gam []) := GOK.nil
  subst h
  refine AW.of hΓ mixed [] _ _ _ rfl ?_
  simp only [go_sem]
  exact ⟨by omega, by omega, ends_drop a⟩
def sHasSuf : Spec := Spec.f2 kS kS (fun a b => a.length ≤ 100000000000 ∧ b = [10]) (fun a _ => kB.enc (endsL a))
theorem okHasSuf : SpecOK Tryz.prog 117 sHasSuf := by
  refine SpecOK.f2 Tryz.func117 rfl (by decide) Tryz.results117 Tryz.ntmps117 (by decide) fun a b ⟨ha, h⟩ => ?_
  have hΓ : GOK Tryz.prog (gam [(147, sHasSufL)]) := (.cons okHasSufL .nil)
  subst h
  refine AW.of hΓ mixed [] _ _ _ rfl ?_
  simp only [go_sem, sHasSufL]
  exact ha
theorem isText_iff (ll bl rl : BS) (h : Bool) (t l b r : BS) (hb : Bool) : isTextD (ll, bl, rl, h, t, l, b, r, hb) = true ↔ ll = [] ∧ bl = [] ∧ rl = [] ∧ h = false ∧ l = [] ∧ b = [] ∧ r = [] ∧ hb = false := by
  simp [isTextD, textP, txP]
def sIsText : Spec := Spec.f1 (kA ePt) (fun _ => True) (fun p => kB.enc (isTextD p))
theorem okIsText : SpecOK Tryz.prog 119 sIsText := by
  refine SpecOK.f1 Tryz.func119 rfl (by decide) Tryz.results119 Tryz.ntmps119 (by decide) fun p _ => ?_
  have hΓ : GOK Tryz.prog (gam []) := GOK.nil
  obtain ⟨ll, bl, rl, h, t, l, b, r, hb⟩ := p
  refine AW.of hΓ mixed [] _ _ _ rfl ?_
  simp only [go_sem]
  rw [Bool.eq_iff_iff, isText_iff]
  simp only [Bool.and_eq_true, decide_eq_true_eq, and_assoc]
def sRefText : Spec := Spec.f1 (kA ePt) (fun _ => True) (fun p => kB.enc (isTextD p))
theorem okRefText : SpecOK Tryz.prog 126 sRefText := by
  refine SpecOK.f1 Tryz.func126 rfl (by decide) Tryz.results126 Tryz.ntmps126 (by decide) fun p _ => ?_
  have hΓ : GOK Tryz.prog (gam []) := GOK.nil
  obtain ⟨ll, bl, rl, h, t, l, b, r, hb⟩ := p
  refine AW.of hΓ mixed [] _ _ _ rfl ?_
  simp only [go_sem]
  rw [Bool.eq_iff_iff, isText_iff]
  simp only [Bool.and_eq_true, decide_eq_true_eq, and_assoc]
theorem pt_le {ll bl rl : BS} {h : Bool} {t l b r : BS} {hb : Bool} {c : Nat → AV} (h0 : c 0 = .st ll) (h1 : c 1 = .st bl) (h2 : c 2 = .st rl) (h3 : c 3 = .val (.bool h)) (h4 : c 4 = .st t) (h5 : c 5 = .st l) (h6 : c 6 = .st b) (h7 : c 7 = .st r) (h8 : c 8 = .val (.bool hb)) :
    AVle (.ag 9 c) (.ag 9 (ePt.enc (ll, bl, rl, h, t, l, b, r, hb))) := AVle.ag fun j hj => AVle.of_eq (match j, hj with
  | 0, _ => h0
  | 1, _ => h1
  | 2, _ => h2
  | 3, _ => h3
  | 4, _ => h4
  | 5, _ => h5
  | 6, _ => h6
  | 7, _ => h7
  | 8, _ => h8)
def sOneD : Spec := Spec.f1 (kA ePt) (fun _ => True) (fun p => (kA ePt).enc p)
theorem okOneD : SpecOK Tryz.prog 61 sOneD := by
  refine SpecOK.f1 Tryz.func61 rfl (by decide) Tryz.results61 Tryz.ntmps61 (by decide) fun p _ => ?_
  have hΓ : GOK Tryz.prog (gam []) := GOK.nil
  obtain ⟨ll, bl, rl, h, t, l, b, r, hb⟩ := p
  refine AW.of hΓ mixed [] _ _ _ rfl ?_
  simp only [go_sem]
  exact pt_le rfl rfl rfl rfl rfl rfl rfl rfl rfl
theorem ptEq (x y : Pt) : (decide (x.1 = y.1) && (decide (x.2.1 = y.2.1) && (decide (x.2.2.1 = y.2.2.1) && (decide (x.2.2.2.1 = y.2.2.2.1) && (decide (x.2.2.2.2.1 = y.2.2.2.2.1) && (decide (x.2.2.2.2.2.1 = y.2.2.2.2.2.1) && (decide (x.2.2.2.2.2.2.1 = y.2.2.2.2.2.2.1) && (decide (x.2.2.2.2.2.2.2.1 = y.2.2.2.2.2.2.2.1) && decide (x.2.2.2.2.2.2.2.2 = y.2.2.2.2.2.2.2.2))))))))) = decide (x = y) := by
  obtain ⟨ll, bl, rl, h, t, l, b, r, hb⟩ := x
  obtain ⟨ll', bl', rl', h', t', l', b', r', hb'⟩ := y
  rw [Bool.eq_iff_iff]
  simp only [Bool.and_eq_true, decide_eq_true_eq, Prod.mk.injEq]
def sSameD : Spec := Spec.f2 (kL ePt) (kL ePt) (fun a b => a.length < 1000000000 ∧ b.length < 1000000000) (fun a b => kB.enc (decide (a = b)))
theorem okSameD : SpecOK Tryz.prog 22 sSameD := by
  refine SpecOK.f2 Tryz.func22 rfl (by decide) Tryz.results22 Tryz.ntmps22 (by decide) fun a b ⟨ha, hb⟩ => ?_
  have hΓ : GOK Tryz.prog (gam []) := GOK.nil
  refine AW.of hΓ mixed [] _ _ _ rfl ?_
  simp only [go_sem]
  refine ⟨fun h e => h (by rw [e]), fun h => ?_⟩
  have hab : a.length = b.length := by omega
  refine AW.round (α := { x : Nat × Nat // x.1 ≤ a.length ∧ ∀ k, k < x.1 → a.getD k ePt.dflt = b.getD k ePt.dflt })
    (fun x => ⟨[(0, sL ePt a), (1, sL ePt b), (5, .val (.int .i64 x.1.1))], [], 26, 0, x.1.2, []⟩) (fun x => a.length - x.1.1) ⟨(0, 0), Nat.zero_le _, fun k hk => absurd hk (Nat.not_lt_zero _)⟩ ?_ ?_
  · simp only [go_sem]
  · rintro ⟨⟨i, nx⟩, hi, he⟩
    simp only at hi he
    refine AW.of hΓ mixed [99999] _ _ _ rfl ?_
    simp only [go_sem]
    rw [ptEq]
    refine ⟨fun hlt => ⟨by omega, by omega, fun hn e => ?_, fun hn => ⟨by omega, ⟨(i + 1, nx), by dsimp only; omega, fun k hk => ?_⟩, ⟨Nat.le_refl _, by dsimp only; omega⟩, by dsimp only; omega⟩⟩, fun hge => ?_⟩
    · rw [e, decide_eq_true rfl] at hn
      cases hn
    · dsimp only at hk
      rcases Nat.lt_or_ge k i with h' | h'
      · exact he k h'
      · obtain rfl : k = i := by omega
        simpa using hn
    · exact list_ext_getD ePt.dflt hab fun k hk => he k (by omega)
def sFromD : Spec := Spec.f1 (kL ePt) (fun l => l.length < 100000000) (fun l => sL ePt l)
theorem okFromD : SpecOK Tryz.prog 23 sFromD := by
  refine SpecOK.f1 Tryz.func23 rfl (by decide) Tryz.results23 Tryz.ntmps23 (by decide) fun l hl => ?_
  have hΓ : GOK Tryz.prog (gam [(61, sOneD)]) := (.cons okOneD .nil)
  refine AW.of hΓ mixed [] _ _ _ rfl ?_
  simp only [go_sem, sOneD]
  refine AW.adopt 3 44 9 (fun i => ePt.enc (([] : List Pt).getD i ePt.dflt)) rfl ?_
  refine AW.round (α := { x : Nat × Nat × Nat // x.1 ≤ l.length })
    (fun x => ⟨[(0, sL ePt l), (3, .ow 0 x.1.2.1 x.1.1), (4, .val (.int .i64 x.1.1))], [(0, rowL x.1.2.1 44 ePt (l.take x.1.1))], 20, 1, x.1.2.2, []⟩) (fun x => l.length - x.1.1) ⟨(0, 0, 1), Nat.zero_le _⟩ ?_ ?_
  · simp only [go_sem, sOneD]
    exact RowLe.refl _
  · rintro ⟨⟨i, v, nx⟩, hi⟩
    simp only at hi
    refine AW.of hΓ mixed [99999] _ _ _ rfl ?_
    simp only [go_sem, sOneD]
    refine ⟨fun hlt => ⟨by omega, by omega, by omega, ⟨(i + 1, nx, nx + 1), by dsimp only; omega⟩, ⟨Nat.le_refl _, ⟨⟨rfl, rfl⟩, by dsimp only; omega⟩, ?_⟩, by dsimp only; omega⟩, fun hge => ?_⟩
    · refine row_app1 (E := ePt) (x := l.getD i ePt.dflt) rfl (take_snoc l ePt.dflt (by omega)) (by simp; omega) rfl (by simp) fun j hj => AVle.refl _
    · obtain rfl : i = l.length := by omega
      rw [List.take_length]
      exact ⟨by simp, vw_all (E := ePt) rfl rfl rfl⟩
theorem sumT_mem {l : List Pt} {p : Pt} (h : p ∈ l) : (txP p).length ≤ sumT l := by
  induction l with
  | nil => cases h
  | cons t l ih =>
    have e : sumT (t :: l) = (txP t).length + sumT l := by simp [sumT]
    rcases List.mem_cons.1 h with rfl | h
    · omega
    · have := ih h
      omega
theorem pt_eta (p : Pt) : (p.1, p.2.1, p.2.2.1, p.2.2.2.1, p.2.2.2.2.1, p.2.2.2.2.2.1, p.2.2.2.2.2.2.1, p.2.2.2.2.2.2.2.1, p.2.2.2.2.2.2.2.2) = p := rfl
theorem stE_text {m : List Pt} {q : Pt} {x : BS} (hq : isTextD q = true) : ∀ i, i < m.length + 1 → ∀ j, j < 9 → AVle (stE (fun i => ePt.enc ((m ++ [q]).getD i ePt.dflt)) m.length 4 1 (fun _ => AV.st x) i j) (ePt.enc ((m ++ [textP x]).getD i ePt.dflt) j) := fun i hi j hj => by
  simp only [stE]
  by_cases e : i = m.length
  · subst e
    have e1 : ∀ c : Pt, (m ++ [c]).getD m.length ePt.dflt = c := fun c => by simp [List.getD]
    rw [e1, e1, isText_eq hq]
    match j, hj with
    | 0, _ => rw [if_neg (by omega)]; exact AVle.refl _
    | 1, _ => rw [if_neg (by omega)]; exact AVle.refl _
    | 2, _ => rw [if_neg (by omega)]; exact AVle.refl _
    | 3, _ => rw [if_neg (by omega)]; exact AVle.refl _
    | 4, _ => rw [if_pos ⟨rfl, by omega, by omega⟩]; exact AVle.refl _
    | 5, _ => rw [if_neg (by omega)]; exact AVle.refl _
    | 6, _ => rw [if_neg (by omega)]; exact AVle.refl _
    | 7, _ => rw [if_neg (by omega)]; exact AVle.refl _
    | 8, _ => rw [if_neg (by omega)]; exact AVle.refl _
  · rw [if_neg (fun h => e h.1)]
    have e3 : ∀ c : Pt, (m ++ [c]).getD i ePt.dflt = m.getD i ePt.dflt := fun c => by simp [List.getD, List.getElem?_append_left (show i < m.length by omega)]
    rw [e3, e3]
    exact AVle.refl _
theorem snocP (m : List Pt) (c d : Pt) : (m ++ [c]).getD m.length d = c := by simp [List.getD]
def sRefOf : Spec := Spec.f1 (kL ePt) (fun l => l.length < 100000000 ∧ sumT l ≤ 1000000000) (fun l => sL ePt (ofD l))
theorem okRefOf : SpecOK Tryz.prog 79 sRefOf := by
  refine SpecOK.f1 Tryz.func79 rfl (by decide) Tryz.results79 Tryz.ntmps79 (by decide) fun l ⟨hl, hs⟩ => ?_
  have hΓ : GOK Tryz.prog (gam [(126, sRefText)]) := (.cons okRefText .nil)
  refine AW.of hΓ mixed [] _ _ _ rfl ?_
  simp only [go_sem, sRefText]
  refine AW.adopt 3 44 9 (fun i => ePt.enc (([] : List Pt).getD i ePt.dflt)) rfl ?_
  refine AW.round (α := { x : Nat × List Pt × Nat × Nat // x.1 ≤ l.length ∧ x.2.1 = (l.take x.1).foldl joinR [] })
    (fun x => ⟨[(0, sL ePt l), (3, .ow 0 x.1.2.2.1 x.1.2.1.length), (4, .val (.int .i64 x.1.1))], [(0, rowL x.1.2.2.1 44 ePt x.1.2.1)], 69, 1, x.1.2.2.2, []⟩) (fun x => l.length - x.1.1) ⟨(0, [], 0, 1), Nat.zero_le _, rfl⟩ ?_ ?_
  · simp only [go_sem, sRefText]
    exact RowLe.refl _
  · rintro ⟨⟨i, out, v, nx⟩, hi, ho⟩
    simp only at hi ho
    rcases Nat.lt_or_ge i l.length with hlt | hge
    · have hsum := fold_sum (l.take i) []
      rw [← ho] at hsum
      have hst := sumT_take l i
      have hpl : (txP (l.getD i ePt.dflt)).length ≤ sumT l := by
        rw [gd_lt l _ hlt]
        exact sumT_mem (List.getElem_mem _)
      have hstep : (l.take (i + 1)).foldl joinR [] = joinR out (l.getD i ePt.dflt) := by
        rw [take_snoc l ePt.dflt hlt, List.foldl_append, ← ho]
        rfl
      have hlen : out.length ≤ i := by
        have := hsum.2
        simp at this
        omega
      have hlI : ((i : Int) < (l.length : Nat)) = True := eq_true (by omega)
      generalize hp : l.getD i ePt.dflt = p at *
      rcases out.eq_nil_or_concat with rfl | ⟨m, q, hms⟩
      · refine AW.of hΓ mixed [99999] _ _ _ rfl ?_
        simp only [go_sem, sRefText, hp, hlI, pt_eta]
        refine ⟨by omega, fun _ => by omega, fun h => ⟨by omega, ⟨(i + 1, [], v, nx), by dsimp only; omega, by dsimp only; rw [hstep, join_em h.1 h.2]⟩, ⟨Nat.le_refl _, ⟨⟨rfl, rfl⟩, by dsimp only; omega⟩, RowLe.refl _⟩, by dsimp only; omega⟩,
          fun h => ⟨by omega, by omega, by omega, ⟨(i + 1, [p], nx, nx + 1), by dsimp only; omega, by dsimp only; rw [hstep, joinR_nil fun hh => h hh.1 hh.2]⟩, ⟨Nat.le_refl _, ⟨⟨rfl, rfl⟩, by dsimp only; omega⟩, ?_⟩, by dsimp only; omega⟩⟩
        exact row_app1 (E := ePt) (l := []) (x := p) rfl rfl rfl rfl rfl fun j hj => AVle.refl _
      · rw [List.concat_eq_append] at hms
        subst hms
        have e1 : (((m.length + 1 : Nat) : Int) - 1) = (m.length : Int) := by omega
        have e2 : (0 ≤ (m.length : Int)) = True := eq_true (by omega)
        have e3 : (0 < ((m.length + 1 : Nat) : Int)) = True := eq_true (by omega)
        have hlm : m.length + 1 ≤ i := by simpa using hlen
        have hq : (txP q).length ≤ sumT l := by
          have h1 := sumT_app m [q]
          rw [sumT_one] at h1
          have h2 := hsum.1
          simp only [sumT, List.map_nil, List.sum_nil] at h2
          simp only [sumT] at *
          omega
        have hpq : (txP q).length + (txP p).length ≤ 9223372036854775807 := by omega
        refine AW.of hΓ mixed [99999] _ _ _ rfl ?_
        simp only [go_sem, sRefText, hp, hlI, e1, e2, e3, snocP, pt_eta]
        refine ⟨by omega, fun _ => by omega, fun h => ⟨by omega, ⟨(i + 1, m ++ [q], v, nx), by dsimp only; omega, by dsimp only; rw [hstep, join_em h.1 h.2]⟩, ⟨Nat.le_refl _, ⟨⟨rfl, by simp⟩, by dsimp only; omega⟩, RowLe.sl (by simp) fun _ _ _ _ => AVle.refl _⟩, by dsimp only; omega⟩,
          fun h => ⟨by omega, fun _ => by omega, fun _ => by omega, fun _ => by omega, fun h2 => ?_, fun h2 => ?_⟩⟩
        · have hj := join_two (m := m) h2.1 (h h2.1) h2.2
          refine ⟨by omega, by omega, by omega, by omega, by omega, hpq, by omega, by omega, by omega, ⟨(i + 1, m ++ [textP (txP q ++ txP p)], v, nx), by dsimp only; omega, by dsimp only; rw [hstep, hj]⟩, ⟨Nat.le_refl _, ⟨⟨rfl, by simp⟩, by dsimp only; omega⟩, ?_⟩, by dsimp only; omega⟩
          exact RowLe.sl (by simp) (stE_text h2.2)
        · have hj : joinR (m ++ [q]) p = m ++ [q] ++ [p] := by
            cases hp2 : isTextD p with
            | false => exact join_no hp2
            | true => exact join_new (fun hh => h hp2 hh.2) (h2 hp2)
          refine ⟨by omega, by omega, by omega, ⟨(i + 1, m ++ [q] ++ [p], nx, nx + 1), by dsimp only; omega, by dsimp only; rw [hstep, hj]⟩, ⟨Nat.le_refl _, ⟨⟨rfl, by simp⟩, by dsimp only; omega⟩, ?_⟩, by dsimp only; omega⟩
          exact row_app1 (E := ePt) (l := m ++ [q]) (x := p) rfl rfl (by simp) rfl (by simp) fun j hj => AVle.refl _
    · have hlI : ((i : Int) < (l.length : Nat)) = False := eq_false (by omega)
      obtain rfl : i = l.length := by omega
      refine AW.of hΓ mixed [99999] _ _ _ rfl ?_
      simp only [go_sem, sRefText, hlI]
      rw [List.take_length, ← ofD_eq] at ho
      rw [← ho]
      exact vw_all (E := ePt) rfl rfl rfl
end Go.Proofs.YtjfmigpahglajaaGreatDoor
namespace Go.Proofs
open Go.Shelf
def Tryz.lays156_ren : Go.Shelf.Ren := ⟨fun | 156 => 86 | 165 => 131 | 166 => 92 | 169 => 93 | 240 => 135 | 241 => 153 | 276 => 156 | 277 => 167 | n => n, fun | 31 => 69 | 9 => 9 | 3 => 3 | 4 => 4 | 0 => 0 | 20 => 20 | 72 => 149 | 76 => 153 | 70 => 146 | 37 => 147 | 75 => 152 | 127 => 191 | 164 => 208 | 5 => 5 | 80 => 155 | n => n, fun | n => n⟩
theorem Tryz.lays156 : Go.Proofs.Lays.n156 Tryz.prog Tryz.lays156_ren := {
  mixed := by kernel_rfl
  f156 := Tryz.func86.trans (congrArg some (by kernel_rfl))
  f165 := Tryz.func131.trans (congrArg some (by kernel_rfl))
  f166 := Tryz.func92.trans (congrArg some (by kernel_rfl))
  f169 := Tryz.func93.trans (congrArg some (by kernel_rfl))
  f240 := Tryz.func135.trans (congrArg some (by kernel_rfl))
  f241 := Tryz.func153.trans (congrArg some (by kernel_rfl))
  f276 := Tryz.func156.trans (congrArg some (by kernel_rfl))
  f277 := Tryz.func167.trans (congrArg some (by kernel_rfl))
  t0 := Tryz.underlying0
  a0 := Tryz.isAgg0
  z0 := Tryz.sizeOf0
  v0 := Tryz.zeroValue0
  t3 := Tryz.underlying3
  a3 := Tryz.isAgg3
  z3 := Tryz.sizeOf3
  v3 := Tryz.zeroValue3
  t4 := Tryz.underlying4
  a4 := Tryz.isAgg4
  z4 := Tryz.sizeOf4
  v4 := Tryz.zeroValue4
  t9 := Tryz.underlying9
  a9 := Tryz.isAgg9
  z9 := Tryz.sizeOf9
  v9 := Tryz.zeroValue9
  t20 := Tryz.underlying20
  a20 := Tryz.isAgg20
  z20 := Tryz.sizeOf20
  v20 := Tryz.zeroValue20
  t31 := Tryz.underlying69
  a31 := Tryz.isAgg69
  z31 := Tryz.sizeOf69
  v31 := Tryz.zeroValue69
  t37 := Tryz.underlying147
  a37 := Tryz.isAgg147
  z37 := Tryz.sizeOf147
  v37 := Tryz.zeroValue147
  t70 := Tryz.underlying146
  a70 := Tryz.isAgg146
  z70 := Tryz.sizeOf146
  v70 := Tryz.zeroValue146
  t72 := Tryz.underlying149
  a72 := Tryz.isAgg149
  z72 := Tryz.sizeOf149
  v72 := Tryz.zeroValue149
  t75 := Tryz.underlying152
  a75 := Tryz.isAgg152
  z75 := Tryz.sizeOf152
  v75 := Tryz.zeroValue152
  t76 := Tryz.underlying153
  a76 := Tryz.isAgg153
  z76 := Tryz.sizeOf153
  v76 := Tryz.zeroValue153
  t127 := Tryz.underlying191
  a127 := Tryz.isAgg191
  z127 := Tryz.sizeOf191
  v127 := Tryz.zeroValue191
  t164 := Tryz.underlying208
  a164 := Tryz.isAgg208
  z164 := Tryz.sizeOf208
  v164 := Tryz.zeroValue208 }
theorem Tryz.Builder_Extra_156 : Builder.Extra Tryz.prog Tryz.lays156_ren := {
  sizeBuilder := by kernel_rfl
  liesBuilder := by kernel_rfl
  t5 := Tryz.underlying5
  a5 := Tryz.isAgg5
  z5 := Tryz.sizeOf5
  v5 := Tryz.zeroValue5
  infoByte := by kernel_rfl
  cellsByte := by kernel_rfl
  sizeByte := by kernel_rfl
  neB5 := by decide }
open Go.RowKit in
theorem Tryz.strings_Join_none (a : Option Addr) (c : Nat) (sep : ByteArray) (w : World) :
    Calls Tryz.prog 86 #[.slice a 0 c, .string sep] w fun e w' => e = .returned (.string ⟨#[]⟩) ∧ w' = w := Any.strings_Join_none Tryz.lays156 Tryz.Builder_Extra_156 a c sep w
open Go.RowKit in
theorem Tryz.strings_Join (bk o c : Nat) (xs : List ByteArray) (sep : ByteArray) (w : World) (hcells : ∀ (j : Nat) x, xs[j]? = some x → w.cell? ⟨bk, o + j, none⟩ = some (.string x)) (hbk : bk < w.heap.size) (hN : xs.length ≤ 140737488355328) (hcap : xs.length ≤ c) (hlen : (Lib.join (xs.map (·.data.toList)) sep.data.toList).length ≤ 140737488355328) :
    Calls Tryz.prog 86 #[.slice (some ⟨bk, o, none⟩) xs.length c, .string sep] w fun e w' => e = .returned (.string ⟨(Lib.join (xs.map (·.data.toList)) sep.data.toList).toArray⟩) ∧ Below w.heap.size w w' := Any.strings_Join Tryz.lays156 Tryz.Builder_Extra_156 bk o c xs sep w hcells hbk hN hcap hlen
def Tryz.lays137_ren : Go.Shelf.Ren := ⟨fun | 137 => 142 | 217 => 160 | 266 => 176 | n => n, fun | 9 => 9 | 5 => 5 | 3 => 3 | n => n, fun | n => n⟩
theorem Tryz.lays137 : Go.Proofs.Lays.n137 Tryz.prog Tryz.lays137_ren := {
  mixed := by kernel_rfl
  f137 := Tryz.func142.trans (congrArg some (by kernel_rfl))
  f217 := Tryz.func160.trans (congrArg some (by kernel_rfl))
  f266 := Tryz.func176.trans (congrArg some (by kernel_rfl))
  t3 := Tryz.underlying3
  a3 := Tryz.isAgg3
  z3 := Tryz.sizeOf3
  v3 := Tryz.zeroValue3
  t5 := Tryz.underlying5
  a5 := Tryz.isAgg5
  z5 := Tryz.sizeOf5
  v5 := Tryz.zeroValue5
  t9 := Tryz.underlying9
  a9 := Tryz.isAgg9
  z9 := Tryz.sizeOf9
  v9 := Tryz.zeroValue9 }
open Go.RowKit in
theorem Tryz.strings_IndexByte (s : ByteArray) (c : Int) (w : World) :
    Calls Tryz.prog 142 #[.string s, .int .u8 c] w fun e w' => e = .returned (.int .i64 (Lib.indexByte s.data.toList c.toNat.toUInt8)) ∧ w' = w := Any.strings_IndexByte Tryz.lays137 s c w
def Tryz.lays143_ren : Go.Shelf.Ren := ⟨fun | 143 => 152 | 219 => 166 | 217 => 160 | 225 => 179 | 224 => 180 | 267 => 181 | 266 => 176 | 314 => 189 | n => n, fun | 9 => 9 | 3 => 3 | 4 => 4 | 5 => 5 | 46 => 183 | 146 => 201 | 51 => 200 | n => n, fun | 1 => 0 | n => n⟩
theorem Tryz.lays143 : Go.Proofs.Lays.n143 Tryz.prog Tryz.lays143_ren := {
  mixed := by kernel_rfl
  f143 := Tryz.func152.trans (congrArg some (by kernel_rfl))
  f217 := Tryz.func160.trans (congrArg some (by kernel_rfl))
  f219 := Tryz.func166.trans (congrArg some (by kernel_rfl))
  f224 := Tryz.func180.trans (congrArg some (by kernel_rfl))
  f225 := Tryz.func179.trans (congrArg some (by kernel_rfl))
  f266 := Tryz.func176.trans (congrArg some (by kernel_rfl))
  f267 := Tryz.func181.trans (congrArg some (by kernel_rfl))
  f314 := Tryz.func189.trans (congrArg some (by kernel_rfl))
  t3 := Tryz.underlying3
  a3 := Tryz.isAgg3
  z3 := Tryz.sizeOf3
  v3 := Tryz.zeroValue3
  t4 := Tryz.underlying4
  a4 := Tryz.isAgg4
  z4 := Tryz.sizeOf4
  v4 := Tryz.zeroValue4
  t5 := Tryz.underlying5
  a5 := Tryz.isAgg5
  z5 := Tryz.sizeOf5
  v5 := Tryz.zeroValue5
  t9 := Tryz.underlying9
  a9 := Tryz.isAgg9
  z9 := Tryz.sizeOf9
  v9 := Tryz.zeroValue9
  t46 := Tryz.underlying183
  a46 := Tryz.isAgg183
  z46 := Tryz.sizeOf183
  v46 := Tryz.zeroValue183
  t51 := Tryz.underlying200
  a51 := Tryz.isAgg200
  z51 := Tryz.sizeOf200
  v51 := Tryz.zeroValue200
  t146 := Tryz.underlying201
  a146 := Tryz.isAgg201
  z146 := Tryz.sizeOf201
  v146 := Tryz.zeroValue201
  g1 := by kernel_rfl }
open Go.RowKit Go.Lib in
theorem Tryz.strings_Index_one (s : ByteArray) (c : UInt8) (w : World) :
    Calls Tryz.prog 152 #[.string s, .string ⟨#[c]⟩] w fun e w' => e = .returned (.int .i64 (Lib.indexByte s.data.toList c)) ∧ w' = w := Any.strings_Index_one Tryz.lays143 s c w
def Tryz.lays138_ren : Go.Shelf.Ren := ⟨fun | 138 => 151 | 195 => 163 | 218 => 165 | 143 => 152 | 219 => 166 | 217 => 160 | 225 => 179 | 224 => 180 | 267 => 181 | 266 => 176 | 314 => 189 | n => n, fun | 9 => 9 | 3 => 3 | 4 => 4 | 5 => 5 | 0 => 0 | 46 => 183 | 146 => 201 | 51 => 200 | n => n, fun | 1 => 0 | n => n⟩
theorem Tryz.lays138 : Go.Proofs.Lays.n138 Tryz.prog Tryz.lays138_ren := {
  mixed := by kernel_rfl
  f138 := Tryz.func151.trans (congrArg some (by kernel_rfl))
  f143 := Tryz.func152.trans (congrArg some (by kernel_rfl))
  f195 := Tryz.func163.trans (congrArg some (by kernel_rfl))
  f217 := Tryz.func160.trans (congrArg some (by kernel_rfl))
  f218 := Tryz.func165.trans (congrArg some (by kernel_rfl))
  f219 := Tryz.func166.trans (congrArg some (by kernel_rfl))
  f224 := Tryz.func180.trans (congrArg some (by kernel_rfl))
  f225 := Tryz.func179.trans (congrArg some (by kernel_rfl))
  f266 := Tryz.func176.trans (congrArg some (by kernel_rfl))
  f267 := Tryz.func181.trans (congrArg some (by kernel_rfl))
  f314 := Tryz.func189.trans (congrArg some (by kernel_rfl))
  t0 := Tryz.underlying0
  a0 := Tryz.isAgg0
  z0 := Tryz.sizeOf0
  v0 := Tryz.zeroValue0
  t3 := Tryz.underlying3
  a3 := Tryz.isAgg3
  z3 := Tryz.sizeOf3
  v3 := Tryz.zeroValue3
  t4 := Tryz.underlying4
  a4 := Tryz.isAgg4
  z4 := Tryz.sizeOf4
  v4 := Tryz.zeroValue4
  t5 := Tryz.underlying5
  a5 := Tryz.isAgg5
  z5 := Tryz.sizeOf5
  v5 := Tryz.zeroValue5
  t9 := Tryz.underlying9
  a9 := Tryz.isAgg9
  z9 := Tryz.sizeOf9
  v9 := Tryz.zeroValue9
  t46 := Tryz.underlying183
  a46 := Tryz.isAgg183
  z46 := Tryz.sizeOf183
  v46 := Tryz.zeroValue183
  t51 := Tryz.underlying200
  a51 := Tryz.isAgg200
  z51 := Tryz.sizeOf200
  v51 := Tryz.zeroValue200
  t146 := Tryz.underlying201
  a146 := Tryz.isAgg201
  z146 := Tryz.sizeOf201
  v146 := Tryz.zeroValue201
  g1 := by kernel_rfl }
open Go.RowKit Go.Lib in
theorem Tryz.strings_Count_one (s : ByteArray) (c : UInt8) (w : World) :
    Calls Tryz.prog 151 #[.string s, .string ⟨#[c]⟩] w fun e w' => e = .returned (.int .i64 (Lib.countByte s.data.toList c)) ∧ w' = w := Any.strings_Count_one Tryz.lays138 s c w
open Go.RowKit Go.Lib in
def Tryz.lays105_ren : Go.Shelf.Ren := ⟨fun | 105 => 155 | 212 => 124 | 99 => 168 | 165 => 131 | 166 => 92 | 170 => 169 | 169 => 93 | 263 => 148 | 264 => 149 | 206 => 177 | 240 => 135 | 241 => 153 | 276 => 156 | 277 => 167 | n => n, fun | 9 => 9 | 3 => 3 | 4 => 4 | 20 => 20 | 0 => 0 | 46 => 183 | 109 => 184 | 5 => 5 | 72 => 149 | 76 => 153 | 51 => 200 | 146 => 201 | 53 => 90 | 148 => 203 | 70 => 146 | 37 => 147 | 75 => 152 | 127 => 191 | 164 => 208 | 80 => 155 | n => n, fun | n => n⟩
theorem Tryz.lays105 : Go.Proofs.Lays.n105 Tryz.prog Tryz.lays105_ren := {
  mixed := by kernel_rfl
  f99 := Tryz.func168.trans (congrArg some (by kernel_rfl))
  f105 := Tryz.func155.trans (congrArg some (by kernel_rfl))
  f165 := Tryz.func131.trans (congrArg some (by kernel_rfl))
  f166 := Tryz.func92.trans (congrArg some (by kernel_rfl))
  f169 := Tryz.func93.trans (congrArg some (by kernel_rfl))
  f170 := Tryz.func169.trans (congrArg some (by kernel_rfl))
  f206 := Tryz.func177.trans (congrArg some (by kernel_rfl))
  f212 := Tryz.func124.trans (congrArg some (by kernel_rfl))
  f240 := Tryz.func135.trans (congrArg some (by kernel_rfl))
  f241 := Tryz.func153.trans (congrArg some (by kernel_rfl))
  f263 := Tryz.func148.trans (congrArg some (by kernel_rfl))
  f264 := Tryz.func149.trans (congrArg some (by kernel_rfl))
  f276 := Tryz.func156.trans (congrArg some (by kernel_rfl))
  f277 := Tryz.func167.trans (congrArg some (by kernel_rfl))
  t0 := Tryz.underlying0
  a0 := Tryz.isAgg0
  z0 := Tryz.sizeOf0
  v0 := Tryz.zeroValue0
  t3 := Tryz.underlying3
  a3 := Tryz.isAgg3
  z3 := Tryz.sizeOf3
  v3 := Tryz.zeroValue3
  t4 := Tryz.underlying4
  a4 := Tryz.isAgg4
  z4 := Tryz.sizeOf4
  v4 := Tryz.zeroValue4
  t5 := Tryz.underlying5
  a5 := Tryz.isAgg5
  z5 := Tryz.sizeOf5
  v5 := Tryz.zeroValue5
  t9 := Tryz.underlying9
  a9 := Tryz.isAgg9
  z9 := Tryz.sizeOf9
  v9 := Tryz.zeroValue9
  t20 := Tryz.underlying20
  a20 := Tryz.isAgg20
  z20 := Tryz.sizeOf20
  v20 := Tryz.zeroValue20
  t37 := Tryz.underlying147
  a37 := Tryz.isAgg147
  z37 := Tryz.sizeOf147
  v37 := Tryz.zeroValue147
  t46 := Tryz.underlying183
  a46 := Tryz.isAgg183
  z46 := Tryz.sizeOf183
  v46 := Tryz.zeroValue183
  t51 := Tryz.underlying200
  a51 := Tryz.isAgg200
  z51 := Tryz.sizeOf200
  v51 := Tryz.zeroValue200
  t53 := Tryz.underlying90
  a53 := Tryz.isAgg90
  z53 := Tryz.sizeOf90
  v53 := Tryz.zeroValue90
  t70 := Tryz.underlying146
  a70 := Tryz.isAgg146
  z70 := Tryz.sizeOf146
  v70 := Tryz.zeroValue146
  t72 := Tryz.underlying149
  a72 := Tryz.isAgg149
  z72 := Tryz.sizeOf149
  v72 := Tryz.zeroValue149
  t75 := Tryz.underlying152
  a75 := Tryz.isAgg152
  z75 := Tryz.sizeOf152
  v75 := Tryz.zeroValue152
  t76 := Tryz.underlying153
  a76 := Tryz.isAgg153
  z76 := Tryz.sizeOf153
  v76 := Tryz.zeroValue153
  t109 := Tryz.underlying184
  a109 := Tryz.isAgg184
  z109 := Tryz.sizeOf184
  v109 := Tryz.zeroValue184
  t127 := Tryz.underlying191
  a127 := Tryz.isAgg191
  z127 := Tryz.sizeOf191
  v127 := Tryz.zeroValue191
  t146 := Tryz.underlying201
  a146 := Tryz.isAgg201
  z146 := Tryz.sizeOf201
  v146 := Tryz.zeroValue201
  t148 := Tryz.underlying203
  a148 := Tryz.isAgg203
  z148 := Tryz.sizeOf203
  v148 := Tryz.zeroValue203
  t164 := Tryz.underlying208
  a164 := Tryz.isAgg208
  z164 := Tryz.sizeOf208
  v164 := Tryz.zeroValue208 }
theorem Tryz.Builder_Extra_105 : Builder.Extra Tryz.prog Tryz.lays105_ren := {
  sizeBuilder := by kernel_rfl
  liesBuilder := by kernel_rfl
  t5 := Tryz.underlying5
  a5 := Tryz.isAgg5
  z5 := Tryz.sizeOf5
  v5 := Tryz.zeroValue5
  infoByte := by kernel_rfl
  cellsByte := by kernel_rfl
  sizeByte := by kernel_rfl
  neB5 := by decide }
open Go.RowKit Go.Lib in
theorem Tryz.strings_Repeat (s : ByteArray) (c : Nat) (w : World) (hc : c ≤ 9223372036854775807) (hlen : s.size * c ≤ 140737488355328) :
    Calls Tryz.prog 155 #[.string s, .int .i64 c] w fun e w' => e = .returned (.string ⟨(Lib.repeatL s.data.toList c).toArray⟩) ∧ Below w.heap.size w w' := Any.strings_Repeat Tryz.lays105 Tryz.Builder_Extra_105 s c w hc hlen
end Go.Proofs
set_option linter.unusedSimpArgs false
set_option linter.unusedVariables false
set_option maxRecDepth 100000
namespace Go.Proofs.YtjfmigpahglajaaGreatDoor
open Go
attribute [local irreducible] AW AVle ASle RowLe
def sIndex1 : Spec := Spec.f2 kS kS (fun _ b => b = [10]) (fun a _ => kI.enc (Lib.indexByte a 10))
theorem okIndex1 : SpecOK Tryz.prog 152 sIndex1 := by
  refine SpecOK.ss Tryz.func152 rfl (by decide) fun a b hd w => ?_
  subst hd
  refine (Tryz.strings_Index_one ⟨a.toArray⟩ 10 w).mono ?_
  rintro e w' ⟨rfl, rfl⟩
  exact ⟨_, rfl, Fr.refl _ _, fun _ => rfl⟩
def sCount1 : Spec := Spec.f2 kS kS (fun _ b => b = [10]) (fun a _ => kI.enc (a.count 10 : Nat))
theorem okCount1 : SpecOK Tryz.prog 151 sCount1 := by
  refine SpecOK.ss Tryz.func151 rfl (by decide) fun a b hd w => ?_
  subst hd
  refine (Tryz.strings_Count_one ⟨a.toArray⟩ 10 w).mono ?_
  rintro e w' ⟨rfl, rfl⟩
  exact ⟨_, rfl, Fr.refl _ _, fun _ => rfl⟩

theorem spA_step {r : List UInt8} (h : (10 : UInt8) ∈ r) : ∃ m : Nat, Lib.indexByte r 10 = m ∧ m + 1 ≤ r.length ∧ spA r = r.take (m + 1) :: spA (r.drop (m + 1)) ∧ (r.drop (m + 1)).count 10 + 1 = r.count 10 := by
  rcases idx_cases r with ⟨_, h'⟩ | ⟨p, q, rfl, hp, hm⟩
  · exact absurd h h'
  · have e0 : p ++ 10 :: q = (p ++ [10]) ++ q := by simp
    have el : p.length + 1 = (p ++ [10]).length := by simp
    have e1 : (p ++ 10 :: q).take (p.length + 1) = p ++ [10] := by rw [e0, el, List.take_left]
    have e2 : (p ++ 10 :: q).drop (p.length + 1) = q := by rw [e0, el, List.drop_left]
    refine ⟨p.length, hm, by simp, ?_, ?_⟩
    · rw [e1, e2, spA_cut p q hp]
    · rw [e2, List.count_append, List.count_eq_zero.2 hp]
      simp
def sGenSplit : Spec := Spec.f4 kS kS kI kI (fun s b k n => s.length ≤ 100000000 ∧ b = [10] ∧ k = 1 ∧ n = -1) (fun s _ _ _ => sL eS (spA s))
theorem okGenSplit : SpecOK Tryz.prog 130 sGenSplit := by
  refine SpecOK.f4 Tryz.func130 rfl (by decide) Tryz.results130 Tryz.ntmps130 (by decide) fun s b k n ⟨hs, hb, hk, hn⟩ => ?_
  have hΓ : GOK Tryz.prog (gam [(152, sIndex1), (151, sCount1)]) := (.cons okIndex1 (.cons okCount1 .nil))
  subst hb hk hn
  have hc : s.count 10 ≤ s.length := List.count_le_length
  have hn : min ((s.count 10 : Int) + 1) ((s.length : Int) + 1) = (s.count 10 : Nat) + 1 := by omega
  refine AW.of hΓ mixed [99999] _ _ _ rfl ?_
  simp only [go_sem, sIndex1, sCount1, hn]
  refine ⟨by omega, by omega, by omega, by omega, ?_⟩
  refine AW.round (α := { x : List (List UInt8) × List UInt8 // x.1 ++ spA x.2 = spA s ∧ x.1.length + x.2.count 10 = s.count 10 ∧ x.2.length ≤ s.length })
    (fun x => ⟨[(0, .st x.1.2), (1, .st [10]), (2, .val (.int .i64 1)), (3, .val (.int .i64 (s.count 10 : Nat))), (9, .ow 0 0 (s.count 10 + 1)), (10, .val (.int .i64 x.1.1.length))],
      [(0, rowL 0 9 eS (x.1.1 ++ List.replicate (x.1.2.count 10 + 1) []))], 66, 1, 1, []⟩) (fun x => s.count 10 - x.1.1.length) ⟨([], s), by simp, by simp, Nat.le_refl _⟩ ?_ ?_
  · simp only [go_sem, sIndex1, sCount1]
    exact row_make rfl rfl (by simp) zC_S
  · rintro ⟨⟨acc, r⟩, h1, h2, h3⟩
    simp only at h1 h2 h3
    refine AW.of hΓ mixed [] _ _ _ rfl ?_
    simp only [go_sem, sIndex1, sCount1]
    have hcr : r.count 10 ≤ r.length := List.count_le_length
    refine ⟨fun hi => ?_, fun hi => ?_⟩
    · obtain ⟨m, hm1, hm2, hm3, hm4⟩ := spA_step (List.count_pos_iff.1 (by omega : 0 < r.count 10))
      rw [hm1, toNat_add1]
      refine ⟨fun h => absurd h (by omega), fun _ => ?_⟩
      refine ⟨by omega, by omega, by omega, by omega, by omega, by omega, by omega, ⟨(acc ++ [r.take (m + 1)], r.drop (m + 1)), ?_, ?_, ?_⟩, ⟨⟨rfl, ?_⟩, ?_⟩, ?_⟩
      · simp [← h1, hm3]
      · simp; omega
      · simp; omega
      · simp
      · refine row_set (l := acc ++ List.replicate (r.count 10 + 1) []) rfl ?_ (by simp) (by simp <;> omega) (fun j _ => AVle.refl _)
        have e : ∀ x : List UInt8, (List.replicate (r.count 10 + 1) []).set 0 x = x :: List.replicate (r.count 10) [] := fun x => by rw [List.replicate_succ]; rfl
        rw [List.set_append_right _ _ (Nat.le_refl _), Nat.sub_self, e, ← hm4]
        simp
      · simp; omega
    · have h0 : r.count 10 = 0 := by omega
      have hno : (10 : UInt8) ∉ r := List.count_eq_zero.1 h0
      refine ⟨by omega, by omega, by omega, by omega, ⟨by omega, fun i _ => stE_flat (fun _ _ => rfl) (fun _ => rfl) i 0⟩, ?_⟩
      refine sn_set rfl rfl ?_ (by simp <;> omega) (fun j _ => AVle.refl _)
      rw [← h1, spA_one r hno, h0, List.set_append_right _ _ (Nat.le_refl _), Nat.sub_self]
      exact (List.take_of_length_le (by simp)).symm
def sSplitAfter : Spec := Spec.f2 kS kS (fun s b => s.length ≤ 100000000 ∧ b = [10]) (fun s _ => sL eS (spA s))
theorem okSplitAfter : SpecOK Tryz.prog 85 sSplitAfter := by
  refine SpecOK.f2 Tryz.func85 rfl (by decide) Tryz.results85 Tryz.ntmps85 (by decide) fun s b ⟨hs, hb⟩ => ?_
  have hΓ : GOK Tryz.prog (gam [(130, sGenSplit)]) := (.cons okGenSplit .nil)
  subst hb
  refine AW.of hΓ mixed [] _ _ _ rfl ?_
  simp only [go_sem, sGenSplit]
  exact hs
def sSplit : Spec := Spec.f1 kS (fun s => s.length ≤ 100000000) (fun s => sL eS (splitL s))
theorem okSplit : SpecOK Tryz.prog 41 sSplit := by
  refine SpecOK.f1 Tryz.func41 rfl (by decide) Tryz.results41 Tryz.ntmps41 (by decide) fun s hs => ?_
  have hΓ : GOK Tryz.prog (gam [(85, sSplitAfter)]) := (.cons okSplitAfter .nil)
  have hl := splitL_len s
  rcases spA_split s with e | ⟨e, hn⟩
  · refine AW.of hΓ mixed [99999] _ _ _ rfl ?_
    simp only [go_sem, sSplitAfter, e]
    have e1 : (((splitL s).length + 1 : Nat) : Int) - 1 = (splitL s).length := by omega
    have e2 : (splitL s ++ [[]]).getD (splitL s).length [] = [] := by simp [List.getD]
    rw [e1, Int.toNat_natCast]
    refine ⟨hs, by omega, by omega, fun _ => ⟨by omega, vw_row rfl rfl (by simp) (by simp)⟩, fun h => absurd e2 h⟩
  · have hne : splitL s ≠ [] := e ▸ spA_ne s
    have hpos : 0 < (splitL s).length := List.length_pos_iff.2 hne
    refine AW.of hΓ mixed [99999] _ _ _ rfl ?_
    simp only [go_sem, sSplitAfter, e]
    have e1 : (((splitL s).length : Nat) : Int) - 1 = ((splitL s).length - 1 : Nat) := by omega
    rw [e1, Int.toNat_natCast]
    refine ⟨hs, by omega, by omega, fun h => absurd h (hn _ ?_)⟩
    rw [gd_lt _ _ (by omega)]
    exact List.getElem_mem _
def okLs (l : List (List UInt8)) : Prop := l.length ≤ 100000000 ∧ l.flatten.length ≤ 100000000000
theorem flat_len (l : List (List UInt8)) (i : Nat) : (l.getD i []).length ≤ l.flatten.length := by
  rcases Nat.lt_or_ge i l.length with h | h
  · rw [gd_lt _ _ h]
    exact (List.sublist_flatten_of_mem (List.getElem_mem h)).length_le
  · simp [List.getD, List.getElem?_eq_none h]
theorem join_nil (xs : List (List UInt8)) : Lib.join xs [] = xs.flatten := by
  cases xs with
  | nil => rfl
  | cons x r => rw [Lib.join_cons]; simp [Lib.joinTail]
def sJoinS : Spec := Spec.f2 (kL eS) kS (fun l b => l.length ≤ 100000000 ∧ l.flatten.length ≤ 100000000000 ∧ b = []) (fun l _ => kS.enc l.flatten)
theorem okJoinS : SpecOK Tryz.prog 86 sJoinS := by
  refine SpecOK.raw Tryz.func86 rfl (by decide) fun args hp w L vs hL ha => ?_
  match args, hp with
  | [x, y], hp =>
    obtain ⟨h1, h2, h3, h4, h5⟩ := hp
    cases ha with
    | cons hx hr => cases hr with
      | cons hy hr => cases hr with
        | nil =>
          have ex := okGet h1 hx
          have ey := okGet h2 hy
          show Calls _ _ _ _ fun e w' => ∃ v, e = .returned v ∧ Fr (fun _ => False) w w' ∧ Rep w' noEnv L (kS.enc ((kL eS).dec x).flatten) v
          generalize (kL eS).dec x = l at *
          rw [h5] at ey
          obtain ⟨a, cap, rfl, hcap, hc⟩ := ex
          obtain rfl := ey
          rcases Nat.eq_zero_or_pos l.length with h0 | h0
          · rw [h0]
            refine (Tryz.strings_Join_none a cap ⟨#[]⟩ w).mono ?_
            rintro e w' ⟨rfl, rfl⟩
            have : l = [] := List.length_eq_zero_iff.1 h0
            subst this
            exact ⟨_, rfl, Fr.refl _ _, rfl⟩
          · obtain ⟨b, off, rfl, hb, hcells⟩ := hc h0 (by decide)
            have hget : ∀ (j : Nat) y, (l.map fun y => (⟨y.toArray⟩ : ByteArray))[j]? = some y → w.cell? ⟨b, off + j, none⟩ = some (.string y) := fun j y hj => by
              rw [List.getElem?_map] at hj
              cases hl : l[j]? with
              | none => rw [hl] at hj; cases hj
              | some z =>
                rw [hl] at hj
                simp only [Option.map_some, Option.some.injEq] at hj
                subst hj
                obtain ⟨hlt, _⟩ := List.getElem?_eq_some_iff.1 hl
                obtain ⟨u, hu, _, hrep⟩ := hcells j hlt 0 (by decide)
                have e : l.getD j eS.dflt = z := by simp [List.getD, hl]
                have hrep : Rep w noEnv L (eS.enc (l.getD j eS.dflt) 0) u := hrep
                rw [e] at hrep
                have : u = .string ⟨z.toArray⟩ := hrep
                subst this
                simpa [eS_sz] using hu
            have e1 : (l.map fun y => (⟨y.toArray⟩ : ByteArray)).map (·.data.toList) = l := by simp [Function.comp_def]
            have hbs : b < w.heap.size := by
              obtain ⟨u, hu, _⟩ := hcells 0 h0 0 (by decide)
              exact World.block_lt_of_cell? w _ hu
            have hJ := Tryz.strings_Join b off cap (l.map fun y => ⟨y.toArray⟩) ⟨#[]⟩ w hget hbs (by simp; omega) (by simpa using hcap) (by rw [e1]; show (Lib.join l []).length ≤ _; rw [join_nil]; omega)
            rw [e1, List.length_map] at hJ
            refine hJ.mono ?_
            rintro e w' ⟨rfl, hbel⟩
            refine ⟨_, rfl, Fr.of_below hbel _, ?_⟩
            show Value.string ⟨(Lib.join l []).toArray⟩ = .string ⟨l.flatten.toArray⟩
            rw [join_nil]
def sJoin : Spec := Spec.f1 (kL eS) okLs (fun l => kS.enc l.flatten)
theorem okJoin : SpecOK Tryz.prog 42 sJoin := by
  refine SpecOK.f1 Tryz.func42 rfl (by decide) Tryz.results42 Tryz.ntmps42 (by decide) fun l ⟨h1, h2⟩ => ?_
  have hΓ : GOK Tryz.prog (gam [(86, sJoinS)]) := (.cons okJoinS .nil)
  refine AW.of hΓ mixed [] _ _ _ rfl ?_
  simp only [go_sem, sJoinS]
  exact ⟨h1, h2⟩
end Go.Proofs.YtjfmigpahglajaaGreatDoor
set_option linter.unusedSimpArgs false
set_option linter.unusedVariables false
set_option maxRecDepth 100000
namespace Go.Proofs.YtjfmigpahglajaaGreatDoor
open Go
attribute [local irreducible] AW AVle ASle RowLe
def sRun : Spec := Spec.f1 kS (fun l => l.length ≤ 100000000000) (fun l => kI.enc (runL l))
def sIndexByte : Spec := Spec.f2 kS kU (fun _ _ => True) (fun a c => kI.enc (Lib.indexByte a c.toNat.toUInt8))
theorem okIndexByte : SpecOK Tryz.prog 142 sIndexByte := by
  refine SpecOK.raw Tryz.func142 rfl (by decide) fun args hp w L vs hL ha => ?_
  match args, hp with
  | [x, y], hp =>
    obtain ⟨h1, h2, h3⟩ := hp
    cases ha with
    | cons hx hr => cases hr with
      | cons hy hr => cases hr with
        | nil =>
          have ex := okGet h1 hx
          have ey := okGet h2 hy
          obtain rfl := ex
          obtain rfl := ey
          refine (Tryz.strings_IndexByte _ _ w).mono ?_
          rintro e w' ⟨rfl, rfl⟩
          exact ⟨_, rfl, Fr.refl _ _, rfl⟩
theorem ix_iff (c : UInt8) : Lib.indexByte [60, 124, 61, 62] c.toNat.toUInt8 < 0 ↔ ¬ (c = 60 ∨ c = 124 ∨ c = 61 ∨ c = 62) := by
  have e : c.toNat.toUInt8 = c := by simp
  rw [e]
  constructor
  · intro h0 h1
    rcases h1 with rfl | rfl | rfl | rfl <;> exact absurd h0 (by decide)
  · intro h0
    rcases Int.lt_or_le (Lib.indexByte [60, 124, 61, 62] c) 0 with h1 | h1
    · exact h1
    · obtain ⟨o, ho⟩ := Int.eq_ofNat_of_zero_le h1
      have := (Lib.indexByte_some (o := o) ho).1
      have hm := List.mem_of_getElem? this
      simp only [List.mem_cons, List.not_mem_nil, or_false] at hm
      exact absurd hm h0
theorem run_head (l : List UInt8) (h : l ≠ []) : (Lib.indexByte [60, 124, 61, 62] (l.getD 0 0).toNat.toUInt8 < 0 → runL l = 0) ∧
    (¬ Lib.indexByte [60, 124, 61, 62] (l.getD 0 0).toNat.toUInt8 < 0 → ∀ n, 1 ≤ n → n ≤ l.length → (∀ k, k < n → l.getD k 0 = l.getD 0 0) → (n < l.length → l.getD n 0 ≠ l.getD 0 0) → n = runL l) := by
  cases l with
  | nil => exact absurd rfl h
  | cons c r =>
    have e : ∀ c : UInt8, c.toNat.toUInt8 = c := fun c => by simp
    simp only [List.getD_cons_zero, e]
    have hc : Lib.indexByte [60, 124, 61, 62] c < 0 ↔ ¬ (c = 60 ∨ c = 124 ∨ c = 61 ∨ c = 62) := by
      constructor
      · intro h0 h1
        rcases h1 with rfl | rfl | rfl | rfl <;> exact absurd h0 (by decide)
      · intro h0
        rcases Int.lt_or_le (Lib.indexByte [60, 124, 61, 62] c) 0 with h1 | h1
        · exact h1
        · obtain ⟨o, ho⟩ := Int.eq_ofNat_of_zero_le h1
          have := (Lib.indexByte_some (o := o) ho).1
          have hm := List.mem_of_getElem? this
          simp only [List.mem_cons, List.not_mem_nil, or_false] at hm
          exact absurd hm h0
    refine ⟨fun h0 => ?_, fun h0 n h1 h2 h3 h4 => ?_⟩
    · rw [runL, if_neg (hc.1 h0)]
    · rw [runL, if_pos (Decidable.not_not.1 fun hh => h0 (hc.2 hh))]
      obtain ⟨m, rfl⟩ : ∃ m, n = m + 1 := ⟨n - 1, by omega⟩
      rw [takeWhile_at c r m (by simpa using h2) (fun k hk => by simpa using h3 (k + 1) (by omega)) (fun hm => by simpa using h4 (by simpa using hm))]
      omega
theorem okRun : SpecOK Tryz.prog 112 sRun := by
  refine SpecOK.f1 Tryz.func112 rfl (by decide) Tryz.results112 Tryz.ntmps112 (by decide) fun l hl => ?_
  have hΓ : GOK Tryz.prog (gam [(142, sIndexByte)]) := (.cons okIndexByte .nil)
  by_cases h : l = []
  · subst h
    refine AW.of hΓ mixed [99999] _ _ _ rfl ?_
    simp only [go_sem, sIndexByte]
    rfl
  · obtain ⟨r1, r2⟩ := run_head l h
    have hpos : 0 < l.length := List.length_pos_iff.2 h
    refine AW.of hΓ mixed [99999] _ _ _ rfl ?_
    simp only [go_sem, sIndexByte, h]
    refine ⟨by omega, fun h0 => by rw [r1 h0]; rfl, fun h0 => ?_⟩
    refine AW.round (α := { n : Nat // 1 ≤ n ∧ n ≤ l.length ∧ ∀ k, k < n → l.getD k 0 = l.getD 0 0 }) (fun n => ⟨[(0, .st l), (3, .val (.int .i64 n.1))], [], 27, 0, 0, []⟩) (fun n => l.length - n.1) ⟨1, Nat.le_refl _, hpos, fun k hk => by rw [show k = 0 by omega]⟩ ?_ ?_
    · simp only [go_sem, sIndexByte]
    · rintro ⟨n, h1, h2, h3⟩
      refine AW.of hΓ mixed [99999] _ _ _ rfl ?_
      simp only [go_sem, sIndexByte]
      refine ⟨fun _ => by omega, fun _ => by omega, fun ⟨ha, hb⟩ => ⟨by omega, ⟨n + 1, by omega, by omega, fun k hk => ?_⟩, by dsimp only; omega⟩, fun hh => ?_⟩
      · rcases Nat.lt_or_ge k n with h' | h'
        · exact h3 k h'
        · obtain rfl : k = n := by omega
          exact hb
      · rw [r2 h0 n h1 h2 h3 fun hl => hh (by omega)]
def sRefRun : Spec := Spec.f1 kS (fun l => l.length ≤ 100000000000) (fun l => kI.enc (runL l))
theorem okRefRun : SpecOK Tryz.prog 141 sRefRun := by
  refine SpecOK.f1 Tryz.func141 rfl (by decide) Tryz.results141 Tryz.ntmps141 (by decide) fun l hl => ?_
  have hΓ : GOK Tryz.prog (gam []) := GOK.nil
  by_cases h : l = []
  · subst h
    refine AW.of hΓ mixed [99999] _ _ _ rfl ?_
    simp only [go_sem]
    rfl
  · obtain ⟨r1, r2⟩ := run_head l h
    have hpos : 0 < l.length := List.length_pos_iff.2 h
    have hix : Lib.indexByte [60, 124, 61, 62] (l.getD 0 0).toNat.toUInt8 < 0 ↔ (((¬l.getD 0 0 = 60 ∧ ¬l.getD 0 0 = 124) ∧ ¬l.getD 0 0 = 61) ∧ ¬l.getD 0 0 = 62) := by
      rw [ix_iff]
      generalize l.getD 0 0 = c
      simp [not_or, and_assoc]
    refine AW.of hΓ mixed [99999] _ _ _ rfl ?_
    simp only [go_sem, h]
    refine ⟨by omega, fun _ => by omega, fun _ => by omega, fun _ => by omega, fun h0 => by rw [r1 (hix.2 h0)]; rfl, fun h0 => ?_⟩
    have h0 : ¬ Lib.indexByte [60, 124, 61, 62] (l.getD 0 0).toNat.toUInt8 < 0 := fun hh => h0 (hix.1 hh).1 (hix.1 hh).2
    refine AW.round (α := { n : Nat // n ≤ l.length ∧ ∀ k, k < n → l.getD k 0 = l.getD 0 0 }) (fun n => ⟨[(0, .st l), (3, .val (.int .i64 n.1))], [], 41, 0, 0, []⟩) (fun n => l.length - n.1) ⟨0, Nat.zero_le _, fun k hk => absurd hk (Nat.not_lt_zero _)⟩ ?_ ?_
    · simp only [go_sem]
    · rintro ⟨n, h2, h3⟩
      refine AW.of hΓ mixed [99999] _ _ _ rfl ?_
      simp only [go_sem]
      refine ⟨fun _ => by omega, fun _ => by omega, fun ⟨ha, hb⟩ => ⟨by omega, ⟨n + 1, by omega, fun k hk => ?_⟩, by dsimp only; omega⟩, fun hh => ?_⟩
      · rcases Nat.lt_or_ge k n with h' | h'
        · exact h3 k h'
        · obtain rfl : k = n := by omega
          exact hb
      · have h1 : 1 ≤ n := by
          rcases Nat.eq_zero_or_pos n with e | e
          · subst e; exact absurd rfl (hh (by omega))
          · exact e
        rw [r2 h0 n h1 h2 h3 fun hl => hh (by omega)]
theorem longL_snoc (l : List (List UInt8)) (x : List UInt8) : longL (l ++ [x]) = max (longL l) (runL x) := by
  unfold longL
  rw [List.foldl_append]
  rfl
def sLongest : Spec := Spec.f1 (kL (eL eS)) (fun l => l.length ≤ 100000000 ∧ ∀ f ∈ l, okLs f) (fun l => kI.enc (longL l.flatten))
theorem okLongest : SpecOK Tryz.prog 139 sLongest := by
  refine SpecOK.f1 Tryz.func139 rfl (by decide) Tryz.results139 Tryz.ntmps139 (by decide) fun fs ⟨hl, hf⟩ => ?_
  have hΓ : GOK Tryz.prog (gam [(112, sRun)]) := (.cons okRun .nil)
  refine AW.of hΓ mixed [] _ _ _ rfl ?_
  simp only [go_sem, sRun]
  refine AW.round (α := { i : Nat // i ≤ fs.length }) (fun i => ⟨[(3, .val (.int .i64 (longL (fs.take i.1).flatten))), (8, sL (eL eS) fs), (9, .val (.int .i64 fs.length)), (10, .val (.int .i64 i.1))], [], 27, 0, 0, []⟩) (fun i => fs.length - i.1) ⟨0, by simp⟩ ?_ ?_
  · simp only [go_sem, sRun]
    rfl
  · rintro ⟨i, hi⟩
    refine AW.of hΓ mixed [5] _ _ _ rfl ?_
    simp only [go_sem, sRun]
    refine ⟨fun hil => ?_, fun hil => ?_⟩
    · have hlt : i < fs.length := by omega
      have hfi := hf _ (gd_lt fs [] hlt ▸ List.getElem_mem hlt)
      have hft : (fs.take (i + 1)).flatten = (fs.take i).flatten ++ fs.getD i [] := by rw [take_snoc fs [] hlt]; simp
      generalize hfe : fs.getD i [] = f at *
      obtain ⟨hf1, hf2⟩ := hfi
      refine ⟨by omega, ?_⟩
      refine AW.to (fun _ : Unit => Sh.st ⟨[(3, .val (.int .i64 (longL ((fs.take i).flatten ++ f)))), (8, sL (eL eS) fs), (9, .val (.int .i64 fs.length)), (10, .val (.int .i64 i))], [], 27, 0, 0, []⟩) ?_ ?_
      · refine AW.block (AW.round (α := { k : Nat // k ≤ f.length }) (fun k => ⟨[(3, .val (.int .i64 (longL ((fs.take i).flatten ++ f.take k.1)))), (8, sL (eL eS) fs), (9, .val (.int .i64 fs.length)), (10, .val (.int .i64 i)), (14, sL eS f), (15, .val (.int .i64 f.length)), (16, .val (.int .i64 k.1))], [], 27, 0, 0, []⟩) (fun k => f.length - k.1) ⟨0, by simp⟩ ?_ ?_)
        · simp only [go_sem, sRun]
          simp
        · rintro ⟨k, hk⟩
          refine AW.of hΓ mixed [99999] _ _ _ rfl ?_
          simp only [go_sem, sRun]
          refine ⟨fun hkf => ?_, fun hkf => ?_⟩
          · have hkl : k < f.length := by omega
            have hfl := flat_len f k
            refine ⟨by omega, by omega, by omega, ⟨k + 1, by omega⟩, ⟨?_, by dsimp only; omega⟩, by dsimp only; omega⟩
            dsimp only
            rw [take_snoc f [] hkl, ← List.append_assoc, longL_snoc]
            omega
          · obtain rfl : k = f.length := by omega
            refine ⟨(), toFits ?_⟩
            simp only [go_sem, sRun]
      · intro _
        simp only [go_sem, sRun]
        exact ⟨by omega, ⟨i + 1, by omega⟩, ⟨by dsimp only; rw [hft], by dsimp only; omega⟩, by dsimp only; omega⟩
    · obtain rfl : i = fs.length := by omega
      rw [List.take_length]
def sRefLongest : Spec := Spec.f1 (kL eS) okLs (fun l => kI.enc (longL l))
theorem okRefLongest : SpecOK Tryz.prog 110 sRefLongest := by
  refine SpecOK.f1 Tryz.func110 rfl (by decide) Tryz.results110 Tryz.ntmps110 (by decide) fun l ⟨hl, hf⟩ => ?_
  have hΓ : GOK Tryz.prog (gam [(141, sRefRun)]) := (.cons okRefRun .nil)
  refine AW.of hΓ mixed [] _ _ _ rfl ?_
  simp only [go_sem, sRefRun]
  refine AW.round (α := { i : Nat // i ≤ l.length }) (fun i => ⟨[(0, sL eS l), (3, .val (.int .i64 (longL (l.take i.1)))), (4, .val (.int .i64 i.1))], [], 19, 0, 0, []⟩) (fun i => l.length - i.1) ⟨0, by simp⟩ ?_ ?_
  · simp only [go_sem, sRefRun]
    rfl
  · rintro ⟨i, hi⟩
    refine AW.of hΓ mixed [99999] _ _ _ rfl ?_
    simp only [go_sem, sRefRun]
    refine ⟨fun hil => ?_, fun hil => ?_⟩
    · have hlt : i < l.length := by omega
      have hfl := flat_len l i
      refine ⟨by omega, by omega, by omega, ⟨i + 1, by omega⟩, ⟨?_, by dsimp only; omega⟩, by dsimp only; omega⟩
      dsimp only
      rw [take_snoc l [] hlt, longL_snoc]
      omega
    · obtain rfl : i = l.length := by omega
      rw [List.take_length]
theorem split_step {s : List UInt8} {a i : Nat} (h1 : a ≤ i) (h2 : i < s.length) (h3 : ∀ k, a ≤ k → k < i → s.getD k 0 ≠ 10) (h4 : s.getD i 0 = 10 ∨ i + 1 = s.length) :
    splitL (s.drop a) = (s.take (i + 1)).drop a :: splitL (s.drop (i + 1)) := by
  have e1 : s.drop a = (s.take i).drop a ++ s.getD i 0 :: s.drop (i + 1) := by
    have : s = s.take i ++ s.getD i 0 :: s.drop (i + 1) := by
      rw [gd_lt _ _ h2, ← List.drop_eq_getElem_cons h2, List.take_append_drop]
    conv => lhs; rw [this]
    rw [List.drop_append_of_le_length (by simp; omega)]
  have e2 : (s.take (i + 1)).drop a = (s.take i).drop a ++ [s.getD i 0] := by
    rw [take_snoc s 0 h2, List.drop_append_of_le_length (by simp; omega)]
  have hno : (10 : UInt8) ∉ (s.take i).drop a := by
    intro hm
    obtain ⟨k, hk, hx⟩ := List.mem_iff_getElem.1 hm
    simp only [List.length_drop, List.length_take] at hk
    rw [List.getElem_drop, List.getElem_take] at hx
    exact h3 (a + k) (by omega) (by omega) (by rw [gd_lt _ _ (by omega)]; exact hx)
  rw [e1, e2]
  by_cases hc : s.getD i 0 = 10
  · rw [hc, splitL_cut _ _ hno]
  · have hl : i + 1 = s.length := h4.resolve_left hc
    rw [hl, List.drop_length]
    have : (10 : UInt8) ∉ (s.take i).drop a ++ [s.getD i 0] := by
      simp only [List.mem_append, List.mem_singleton, not_or]
      exact ⟨hno, fun h => hc h.symm⟩
    rw [splitL_one _ this (by simp)]
    rfl
def sRefSplit : Spec := Spec.f1 kS (fun l => l.length ≤ 100000000) (fun l => sL eS (splitL l))
theorem okRefSplit : SpecOK Tryz.prog 33 sRefSplit := by
  refine SpecOK.f1 Tryz.func33 rfl (by decide) Tryz.results33 Tryz.ntmps33 (by decide) fun s hs => ?_
  have hΓ : GOK Tryz.prog (gam []) := GOK.nil
  refine AW.of hΓ mixed [] _ _ _ rfl ?_
  simp only [go_sem]
  refine AW.adopt 3 9 1 (fun _ _ => .any) rfl ?_
  refine AW.round (α := { x : Nat × Nat × List (List UInt8) × Nat × Nat // x.2.1 ≤ x.1 ∧ x.1 ≤ s.length ∧ x.2.2.1 ++ splitL (s.drop x.2.1) = splitL s ∧ (∀ k, x.2.1 ≤ k → k < x.1 → s.getD k 0 ≠ 10) ∧ (x.1 = s.length → x.2.1 = s.length) ∧ x.2.2.1.length ≤ x.1 })
    (fun x => ⟨[(0, .st s), (3, .ow 0 x.1.2.2.2.1 x.1.2.2.1.length), (4, .val (.int .i64 x.1.2.1)), (5, .val (.int .i64 x.1.1))], [(0, rowL x.1.2.2.2.1 9 eS x.1.2.2.1)], 34, 1, x.1.2.2.2.2, []⟩) (fun x => s.length - x.1.1) ⟨(0, 0, [], 0, 1), by simp⟩ ?_ ?_
  · simp only [go_sem]
    exact row_nil rfl
  · rintro ⟨⟨i, from_, out, v, nx⟩, h1, h2, h3, h4, h5, h6⟩
    simp only at h1 h2 h3 h4 h5 h6
    refine AW.of hΓ mixed [99999] _ _ _ rfl ?_
    simp only [go_sem]
    refine ⟨fun hil => ?_, fun hil => ?_⟩
    · have hlt : i < s.length := by omega
      refine ⟨by omega, fun _ => by omega, fun h => by simpa using h, fun hb => ?_, fun hb => ?_⟩
      · have hst := split_step h1 hlt h4 (by simp only [Bool.or_eq_true, decide_eq_true_eq] at hb; rcases hb with hb | hb; exact .inl hb; exact .inr (by omega))
        refine ⟨by omega, by omega, by omega, by omega, by omega, ⟨(i + 1, i + 1, out ++ [(s.take (i + 1)).drop from_], nx, nx + 1), ?_⟩, ⟨Nat.le_refl _, ⟨⟨rfl, by simp⟩, by dsimp only; omega, by dsimp only; omega⟩, ?_⟩, by dsimp only; omega⟩
        · dsimp only
          refine ⟨Nat.le_refl _, by omega, ?_, fun k ha hb => by omega, fun h => h, by simp; omega⟩
          rw [← h3, hst]
          simp
        · exact row_app1 rfl rfl rfl rfl (by simp) fun _ _ => AVle.refl _
      · simp only [Bool.or_eq_false_iff, decide_eq_false_iff_not] at hb
        refine ⟨by omega, ⟨(i + 1, from_, out, v, nx), ?_⟩, ⟨Nat.le_refl _, ⟨⟨rfl, rfl⟩, rfl, by dsimp only; omega⟩, RowLe.refl _⟩, by dsimp only; omega⟩
        dsimp only
        refine ⟨by omega, by omega, h3, fun k ha hk => ?_, fun h => by omega, by omega⟩
        rcases Nat.lt_or_ge k i with h' | h'
        · exact h4 k ha h'
        · obtain rfl : k = i := by omega
          exact hb.1
    · obtain rfl : i = s.length := by omega
      obtain rfl := h5 rfl
      rw [List.drop_length] at h3
      have h3 : out = splitL s := by simpa [splitL] using h3
      rw [h3]
      exact vw_all rfl rfl rfl
def sRefJoin : Spec := Spec.f1 (kL eS) okLs (fun l => kS.enc l.flatten)
theorem okRefJoin : SpecOK Tryz.prog 78 sRefJoin := by
  refine SpecOK.f1 Tryz.func78 rfl (by decide) Tryz.results78 Tryz.ntmps78 (by decide) fun l ⟨hl, hf⟩ => ?_
  have hΓ : GOK Tryz.prog (gam []) := GOK.nil
  refine AW.of hΓ mixed [] _ _ _ rfl ?_
  simp only [go_sem]
  refine AW.round (α := { i : Nat // i ≤ l.length }) (fun i => ⟨[(0, sL eS l), (3, .st (l.take i.1).flatten), (4, .val (.int .i64 i.1))], [], 18, 0, 0, []⟩) (fun i => l.length - i.1) ⟨0, by simp⟩ ?_ ?_
  · simp only [go_sem]
    rfl
  · rintro ⟨i, hi⟩
    refine AW.of hΓ mixed [99999] _ _ _ rfl ?_
    simp only [go_sem]
    refine ⟨fun hil => ?_, fun hil => ?_⟩
    · have hlt : i < l.length := by omega
      have hft : (l.take (i + 1)).flatten = (l.take i).flatten ++ l.getD i [] := by rw [take_snoc l [] hlt]; simp
      have hle : l.flatten = (l.take (i + 1)).flatten ++ (l.drop (i + 1)).flatten := by rw [← List.flatten_append, List.take_append_drop]
      have hle := congrArg List.length hle
      rw [hft, List.length_append, List.length_append] at hle
      exact ⟨by omega, by omega, by omega, ⟨i + 1, by omega⟩, ⟨by dsimp only; rw [hft], by dsimp only; omega⟩, by dsimp only; omega⟩
    · obtain rfl : i = l.length := by omega
      rw [List.take_length]
def sRefEnds : Spec := Spec.f1 kS (fun l => l.length ≤ 100000000000) (fun l => kB.enc (endsL l))
theorem okRefEnds : SpecOK Tryz.prog 128 sRefEnds := by
  refine SpecOK.f1 Tryz.func128 rfl (by decide) Tryz.results128 Tryz.ntmps128 (by decide) fun l hl => ?_
  have hΓ : GOK Tryz.prog (gam []) := GOK.nil
  refine AW.of hΓ mixed [] _ _ _ rfl ?_
  simp only [go_sem]
  refine ⟨fun _ => by omega, fun _ => by omega, ?_⟩
  unfold endsL
  rcases Nat.eq_zero_or_pos l.length with h | h
  · obtain rfl := List.length_eq_zero_iff.1 h
    rfl
  · have e : ((l.length : Int) - 1).toNat = l.length - 1 := by omega
    rw [e, List.getLast?_eq_getElem?, gd_lt _ _ (by omega), List.getElem?_eq_getElem (by omega)]
    simp [h]
end Go.Proofs.YtjfmigpahglajaaGreatDoor
set_option linter.unusedSimpArgs false
set_option linter.unusedVariables false
set_option maxRecDepth 100000
set_option maxHeartbeats 2000000
namespace Go.Proofs.YtjfmigpahglajaaGreatDoor
open Go
attribute [local irreducible] AW AVle ASle RowLe
def sContains : Spec := Spec.f2 kS kS (fun _ b => b = [10]) (fun a _ => kB.enc (!plainB a))
theorem okContains : SpecOK Tryz.prog 136 sContains := by
  refine SpecOK.f2 Tryz.func136 rfl (by decide) Tryz.results136 Tryz.ntmps136 (by decide) fun a b h => ?_
  have hΓ : GOK Tryz.prog (gam [(152, sIndex1)]) := (.cons okIndex1 .nil)
  subst h
  refine AW.of hΓ mixed [] _ _ _ rfl ?_
  simp only [go_sem, sIndex1]
  exact plain_ix a
def sPlainL : Spec := Spec.f1 (kA eLb) (fun l => l.1.length ≤ 1000000000 ∧ l.2.1.length ≤ 1000000000 ∧ l.2.2.length ≤ 1000000000) (fun l => kB.enc (plainB l.1 && (plainB l.2.1 && plainB l.2.2)))
theorem okPlainL : SpecOK Tryz.prog 95 sPlainL := by
  refine SpecOK.f1 Tryz.func95 rfl (by decide) Tryz.results95 Tryz.ntmps95 (by decide) fun l ⟨h1, h2, h3⟩ => ?_
  have hΓ : GOK Tryz.prog (gam [(136, sContains)]) := (.cons okContains .nil)
  obtain ⟨a, b, c⟩ := l
  simp only at h1 h2 h3
  refine AW.of hΓ mixed [] _ _ _ rfl ?_
  simp only [go_sem, sContains, plain_app]
  refine ⟨by omega, by omega, ?_⟩
  rw [Bool.not_not, Bool.and_assoc]
def okPt (p : Pt) : Prop := (p.1.length ≤ 1000000000 ∧ p.2.1.length ≤ 1000000000 ∧ p.2.2.1.length ≤ 1000000000) ∧ (txP p).length ≤ 100000000 ∧ p.2.2.2.2.2.1.length ≤ 100000000 ∧ p.2.2.2.2.2.2.1.length ≤ 100000000 ∧ p.2.2.2.2.2.2.2.1.length ≤ 100000000
def sIsConf : Spec := Spec.f1 (kA ePt) okPt (fun p => kB.enc (confD p))
theorem okIsConf : SpecOK Tryz.prog 121 sIsConf := by
  refine SpecOK.f1 Tryz.func121 rfl (by decide) Tryz.results121 Tryz.ntmps121 (by decide) fun p ⟨⟨h1, h2, h3⟩, _⟩ => ?_
  have hΓ : GOK Tryz.prog (gam [(95, sPlainL)]) := (.cons okPlainL .nil)
  obtain ⟨ll, bl, rl, h, t, l, b, r, hb⟩ := p
  simp only at h1 h2 h3
  refine AW.of hΓ mixed [] _ _ _ rfl ?_
  simp only [go_sem, sPlainL]
  refine ⟨fun h h' => ?_, fun _ => ⟨h1, h2, h3⟩, ?_⟩
  · rw [h.1, h.2, h']
    rfl
  · unfold confD plainD
    simp only [Bool.and_assoc]
def sAhead : Spec := Spec.f2 (kA ePt) kB (fun p _ => okPt p) (fun p b => kB.enc (aheadD p b))
theorem okAhead : SpecOK Tryz.prog 122 sAhead := by
  refine SpecOK.f2 Tryz.func122 rfl (by decide) Tryz.results122 Tryz.ntmps122 (by decide) fun p an ⟨_, h1, _⟩ => ?_
  have hΓ : GOK Tryz.prog (gam [(119, sIsText), (117, sHasSuf)]) := (.cons okIsText (.cons okHasSuf .nil))
  obtain ⟨ll, bl, rl, h, t, l, b, r, hb⟩ := p
  simp only [txP] at h1
  refine AW.of hΓ mixed [] _ _ _ rfl ?_
  simp only [go_sem, sIsText, sHasSuf]
  refine ⟨fun _ => by omega, fun h h' => ?_, ?_⟩
  · rw [h.1, decide_eq_true h.2]
    simpa using h'
  · unfold aheadD
    simp only [Bool.and_assoc]
theorem right_no {l : List Pt} {i : Nat} (h : i < l.length) (h2 : okAt l i = false) : rightD l = false := decide_eq_false fun hh => by
  rw [hh i h] at h2
  cases h2
theorem right_yes {l : List Pt} (h : ∀ i, i < l.length → okAt l i = true) : rightD l = true := decide_eq_true h
def sRightD : Spec := Spec.f1 (kL ePt) (fun l => l.length < 100000000 ∧ ∀ p ∈ l, okPt p) (fun l => kB.enc (rightD l))
theorem okRightD : SpecOK Tryz.prog 68 sRightD := by
  refine SpecOK.f1 Tryz.func68 rfl (by decide) Tryz.results68 Tryz.ntmps68 (by decide) fun l ⟨hl, hp⟩ => ?_
  have hΓ : GOK Tryz.prog (gam [(121, sIsConf), (122, sAhead)]) := (.cons okIsConf (.cons okAhead .nil))
  refine AW.of hΓ mixed [] _ _ _ rfl ?_
  simp only [go_sem, sIsConf, sAhead]
  refine AW.round (α := { x : Nat × Nat × Nat // x.1 ≤ l.length ∧ ∀ k, k < x.1 → okAt l k = true })
    (fun x => ⟨[(0, sL ePt l), (5, sL ePt l), (6, .val (.int .i64 l.length)), (7, .val (.int .i64 x.1.1))], [], 42, x.1.2.2, x.1.2.1, []⟩) (fun x => l.length - x.1.1) ⟨(0, 0, 0), Nat.zero_le _, fun k hk => absurd hk (Nat.not_lt_zero _)⟩ ?_ ?_
  · simp only [go_sem, sIsConf, sAhead]
  · rintro ⟨⟨i, nx, tp⟩, hi, hk⟩
    simp only at hi hk
    rcases Nat.lt_or_ge i l.length with hlt | hge
    · have hlI : ((i : Int) < (l.length : Nat)) = True := eq_true (by omega)
      have e1 : ((i : Int) - 1).toNat = i - 1 := by omega
      have e2 : ((i : Int) < (l.length : Nat) - 1) = (i + 1 < l.length) := propext (by omega)
      have e3 : (0 < (i : Int)) = (0 < i) := propext (by omega)
      have hok : okAt l i = ((hkP (l.getD i ePt.dflt) || (decide (i = 0) || hkP (l.getD (i - 1) ePt.dflt))) && (confD (l.getD i ePt.dflt) || aheadD (l.getD i ePt.dflt) (decide (i + 1 < l.length)))) := rfl
      have hpi : okPt (l.getD i ePt.dflt) := by
        rw [gd_lt l _ hlt]
        exact hp _ (List.getElem_mem _)
      generalize hpe : l.getD i ePt.dflt = p at *
      refine AW.of hΓ mixed [99999] _ _ _ rfl ?_
      simp only [go_sem, sIsConf, sAhead, hlI, e1, e2, e3, hpe, pt_eta]
      generalize hqe : l.getD (i - 1) ePt.dflt = q at *
      refine ⟨by omega, fun _ => by omega, fun _ => by omega, fun h => ?_, fun h => ⟨hpi, fun _ => by omega, fun _ => hpi, fun h2 => ?_, fun h2 => ⟨by omega, ⟨(i + 1, nx + 1, 0), by dsimp only; omega, fun k hk' => ?_⟩, ⟨Nat.le_refl _, by dsimp only; omega⟩, by dsimp only; omega⟩⟩⟩
      · refine (right_no hlt ?_).symm
        obtain ⟨⟨h1, h2⟩, h3⟩ := h
        simp only [Bool.not_eq_true'] at h1 h3
        rw [hok]
        simp only [hkP, h1, h3, decide_eq_false (show ¬ i = 0 by omega)]
        rfl
      · refine (right_no hlt ?_).symm
        simp only [Bool.not_eq_true'] at h2
        rw [hok, h2.1, h2.2, Bool.or_self, Bool.and_false]
      · dsimp only at hk'
        rcases Nat.lt_or_ge k i with h' | h'
        · exact hk k h'
        · obtain rfl : k = i := by omega
          rw [hok, Bool.and_eq_true]
          refine ⟨?_, ?_⟩
          · simp only [hkP, Bool.or_eq_true, decide_eq_true_eq]
            by_cases c : p.2.2.2.1 = true
            · exact .inl c
            · by_cases c2 : k = 0
              · exact .inr (.inl c2)
              · have := h ⟨by simpa using c, by omega⟩
                exact .inr (.inr (by simpa using this))
          · cases c : confD p with
            | true => rfl
            | false =>
              have := h2 (by rw [c]; rfl)
              simpa using this
    · have hlI : ((i : Int) < (l.length : Nat)) = False := eq_false (by omega)
      refine AW.of hΓ mixed [99999] _ _ _ rfl ?_
      simp only [go_sem, sIsConf, sAhead, hlI]
      exact (right_yes fun k hk' => hk k (by omega)).symm
theorem foldMax_le {α : Type} {m : Nat} (f : α → Nat) : ∀ (l : List α) (n : Nat), n ≤ m → (∀ x ∈ l, f x ≤ m) → l.foldl (fun n x => max n (f x)) n ≤ m
  | [], n, h, _ => h
  | x :: l, n, h, h2 => foldMax_le f l (max n (f x)) (Nat.max_le.2 ⟨h, h2 x (List.mem_cons_self ..)⟩) fun y hy => h2 y (List.mem_cons_of_mem _ hy)
theorem longL_le {l : List BS} {m : Nat} (h : ∀ x ∈ l, x.length ≤ m) : longL l ≤ m := foldMax_le runL l 0 (Nat.zero_le _) fun x hx => Nat.le_trans (runL_le x) (h x hx)
theorem split_mem {s x : BS} (h : x ∈ splitL s) : x.length ≤ s.length := by
  have := (List.sublist_flatten_of_mem h).length_le
  rwa [splitL_flat] at this
theorem longT_le {l : List BS} {m : Nat} (h : ∀ x ∈ l, x.length ≤ m) : longT l ≤ m := foldMax_le (fun s => longL (splitL s)) l 0 (Nat.zero_le _) fun x hx => Nat.le_trans (longL_le fun y hy => split_mem hy) (h x hx)
theorem okLs_split {s : BS} (h : s.length ≤ 100000000) : okLs (splitL s) := by
  refine ⟨?_, ?_⟩
  · have := splitL_len s
    omega
  · rw [splitL_flat]
    omega
def sLongestD : Spec := Spec.f1 (kL eS) (fun l => l.length < 100000000 ∧ ∀ s ∈ l, s.length ≤ 100000000) (fun l => kI.enc (longT l))
theorem okLongestD : SpecOK Tryz.prog 98 sLongestD := by
  refine SpecOK.f1 Tryz.func98 rfl (by decide) Tryz.results98 Tryz.ntmps98 (by decide) fun l ⟨hl, hs⟩ => ?_
  have hΓ : GOK Tryz.prog (gam [(41, sSplit), (139, sLongest)]) := (.cons okSplit (.cons okLongest .nil))
  refine AW.of hΓ mixed [] _ _ _ rfl ?_
  simp only [go_sem, sSplit, sLongest]
  refine AW.round (α := { x : Nat × Nat × Nat // x.1 ≤ l.length })
    (fun x => ⟨[(3, .val (.int .i64 (longT (l.take x.1.1)))), (6, sL eS l), (7, .val (.int .i64 l.length)), (8, .val (.int .i64 x.1.1))], [], 20, x.1.2.2, x.1.2.1, []⟩) (fun x => l.length - x.1.1) ⟨(0, 0, 0), Nat.zero_le _⟩ ?_ ?_
  · simp only [go_sem, sSplit, sLongest]
    rfl
  · rintro ⟨⟨i, nx, tp⟩, hi⟩
    simp only at hi
    refine AW.of hΓ mixed [99999] _ _ _ rfl ?_
    simp only [go_sem, sSplit, sLongest]
    refine ⟨fun hlt => ?_, fun hge => ?_⟩
    · have hlt' : i < l.length := by omega
      have h1 : (l.getD i []).length ≤ 100000000 := by
        rw [gd_lt l _ hlt']
        exact hs _ (List.getElem_mem _)
      have e := longT_snoc (l.take i) (l.getD i [])
      rw [← take_snoc l [] hlt'] at e
      refine ⟨by omega, h1, okLs_split h1, by omega, ⟨(i + 1, nx, 0), by dsimp only; omega⟩, ⟨Nat.le_refl _, ?_, by dsimp only; omega⟩, by dsimp only; omega⟩
      dsimp only
      rw [e, show ([splitL (l.getD i [])] : List (List BS)).flatten = splitL (l.getD i []) by simp]
      omega
    · obtain rfl : i = l.length := by omega
      rw [List.take_length]
def sWidthD : Spec := Spec.f2 kI (kL eS) (fun _ l => l.length < 100000000 ∧ ∀ s ∈ l, s.length ≤ 100000000) (fun n l => kI.enc (max n ((longT l : Nat) + 1)))
theorem okWidthD : SpecOK Tryz.prog 52 sWidthD := by
  refine SpecOK.f2 Tryz.func52 rfl (by decide) Tryz.results52 Tryz.ntmps52 (by decide) fun n l ⟨hl, hs⟩ => ?_
  have hΓ : GOK Tryz.prog (gam [(98, sLongestD)]) := (.cons okLongestD .nil)
  refine AW.of hΓ mixed [] _ _ _ rfl ?_
  simp only [go_sem, sLongestD]
  have := longT_le hs
  exact ⟨⟨hl, hs⟩, by omega, by omega⟩
def sFitsD : Spec := Spec.f2 (kL ePt) kI (fun l _ => l.length < 100000000 ∧ ∀ p ∈ l, okPt p) (fun l w => kB.enc (fitsD l w))
theorem okFitsD : SpecOK Tryz.prog 90 sFitsD := by
  refine SpecOK.f2 Tryz.func90 rfl (by decide) Tryz.results90 Tryz.ntmps90 (by decide) fun l w ⟨hl, hp⟩ => ?_
  have hΓ : GOK Tryz.prog (gam [(98, sLongestD)]) := (.cons okLongestD .nil)
  refine AW.of hΓ mixed [] _ _ _ rfl ?_
  simp only [go_sem, sLongestD]
  refine ⟨fun h => (by unfold fitsD; rw [decide_eq_false (by omega)]; rfl), fun h => ?_⟩
  refine AW.round (α := { x : Nat × Nat × Nat // x.1 ≤ l.length ∧ ∀ k, k < x.1 → (longT (fourP (l.getD k ePt.dflt)) : Int) < w })
    (fun x => ⟨[(1, .val (.int .i64 w)), (9, sL ePt l), (10, .val (.int .i64 l.length)), (11, .val (.int .i64 x.1.1))], [], 28, x.1.2.2, x.1.2.1, []⟩) (fun x => l.length - x.1.1) ⟨(0, 0, 0), Nat.zero_le _, fun k hk => absurd hk (Nat.not_lt_zero _)⟩ ?_ ?_
  · simp only [go_sem, sLongestD]
  · rintro ⟨⟨i, nx, tp⟩, hi, hk⟩
    simp only at hi hk
    refine AW.of hΓ mixed [99999] _ _ _ rfl ?_
    simp only [go_sem, sLongestD]
    have e4 : ∀ p : Pt, [p.2.2.2.2.1, p.2.2.2.2.2.1, p.2.2.2.2.2.2.1, p.2.2.2.2.2.2.2.1] = fourP p := fun _ => rfl
    simp only [e4]
    refine ⟨fun hlt => ?_, fun hge => ?_⟩
    · have hlt' : i < l.length := by omega
      have hm : l.getD i ePt.dflt ∈ l := by
        rw [gd_lt l _ hlt']
        exact List.getElem_mem _
      have h4 := (hp _ hm).2
      refine ⟨by omega, ⟨h4.1, h4.2.1, h4.2.2.1, h4.2.2.2⟩, fun hw => ?_, fun hw => ⟨by omega, ⟨(i + 1, nx + 1, 0), by dsimp only; omega, fun k hk' => ?_⟩, ⟨Nat.le_refl _, by dsimp only; omega⟩, by dsimp only; omega⟩⟩
      · unfold fitsD
        rw [decide_eq_false (p := ∀ p ∈ l, _) (fun hh => by have := hh _ hm; omega), Bool.and_false]
      · dsimp only at hk'
        rcases Nat.lt_or_ge k i with h' | h'
        · exact hk k h'
        · obtain rfl : k = i := by omega
          omega
    · unfold fitsD
      rw [decide_eq_true (by omega), decide_eq_true (p := ∀ p ∈ l, _) fun p hp' => ?_]
      · rfl
      · obtain ⟨k, hk', rfl⟩ := List.getElem_of_mem hp'
        have := hk k (by omega)
        rwa [gd_lt l _ hk'] at this
end Go.Proofs.YtjfmigpahglajaaGreatDoor
set_option linter.unusedSimpArgs false
set_option linter.unusedVariables false
set_option maxRecDepth 100000
set_option maxHeartbeats 2000000
namespace Go.Proofs.YtjfmigpahglajaaGreatDoor
open Go
attribute [local irreducible] AW AVle ASle RowLe
def sRefPlain1 : Spec := Spec.f1 kS (fun l => l.length ≤ 100000000000) (fun l => kB.enc (plainB l))
theorem okRefPlain1 : SpecOK Tryz.prog 109 sRefPlain1 := by
  refine SpecOK.f1 Tryz.func109 rfl (by decide) Tryz.results109 Tryz.ntmps109 (by decide) fun l hl => ?_
  have hΓ : GOK Tryz.prog (gam []) := GOK.nil
  refine AW.of hΓ mixed [] _ _ _ rfl ?_
  simp only [go_sem]
  refine AW.round (α := { x : Nat × Nat × Nat // x.1 ≤ l.length ∧ ∀ k, k < x.1 → l.getD k 0 ≠ 10 }) (fun x => ⟨[(0, .st l), (3, .val (.int .i64 x.1.1))], [], 14, x.1.2.2, x.1.2.1, []⟩) (fun x => l.length - x.1.1) ⟨(0, 0, 0), Nat.zero_le _, fun k hk => absurd hk (Nat.not_lt_zero _)⟩ ?_ ?_
  · simp only [go_sem]
  · rintro ⟨⟨i, nx, tp⟩, hi, hk⟩
    simp only at hi hk
    refine AW.of hΓ mixed [99999] _ _ _ rfl ?_
    simp only [go_sem]
    refine ⟨fun hlt => ⟨by omega, fun h10 => ?_, fun hn => ⟨by omega, ⟨(i + 1, nx, tp), by dsimp only; omega, fun k hk' => ?_⟩, ⟨Nat.le_refl _, by dsimp only; omega⟩, by dsimp only; omega⟩⟩, fun hge => ?_⟩
    · refine (decide_eq_false fun hh => hh ?_).symm
      rw [← h10, gd_lt l _ (by omega)]
      exact List.getElem_mem _
    · dsimp only at hk'
      rcases Nat.lt_or_ge k i with h' | h'
      · exact hk k h'
      · obtain rfl : k = i := by omega
        exact hn
    · have hno : ¬ (10 : UInt8) ∈ l := fun hm => ?_
      · unfold plainB
        rw [decide_eq_true hno]
      obtain ⟨k, hk1, hk2⟩ := List.getElem_of_mem hm
      exact hk k (by omega) (by rw [gd_lt l _ hk1]; exact hk2)
def sRefPlain : Spec := Spec.f1 (kA ePt) (fun p => p.1.length ≤ 100000000 ∧ p.2.1.length ≤ 100000000 ∧ p.2.2.1.length ≤ 100000000) (fun p => kB.enc (plainD p))
theorem okRefPlain : SpecOK Tryz.prog 56 sRefPlain := by
  refine SpecOK.f1 Tryz.func56 rfl (by decide) Tryz.results56 Tryz.ntmps56 (by decide) fun p ⟨h1, h2, h3⟩ => ?_
  have hΓ : GOK Tryz.prog (gam [(109, sRefPlain1)]) := (.cons okRefPlain1 .nil)
  obtain ⟨ll, bl, rl, h, t, l, b, r, hb⟩ := p
  simp only at h1 h2 h3
  refine AW.of hΓ mixed [] _ _ _ rfl ?_
  simp only [go_sem, sRefPlain1]
  refine ⟨by omega, fun _ => by omega, fun _ => by omega, ?_⟩
  unfold plainD
  rw [Bool.and_assoc]
def oneR (p : Pt) : Bool := if hkP p = true then decide (p.2.2.2.2.1 = []) && (p.2.2.2.2.2.2.2.2 || (decide (p.2.2.2.2.2.2.1 = []) && decide (p.2.1 = []))) else isTextD p
def okRef (l : List Pt) (i : Nat) : Bool := (oneR (l.getD i ePt.dflt) && plainD (l.getD i ePt.dflt)) && (hkP (l.getD i ePt.dflt) || !(decide (txP (l.getD i ePt.dflt) = []) || (decide (0 < i) && !hkP (l.getD (i - 1) ePt.dflt)) || (decide (i + 1 < l.length) && !endsL (txP (l.getD i ePt.dflt)))))
theorem okAt_ref (l : List Pt) (i : Nat) : okAt l i = okRef l i := by
  unfold okAt okRef
  generalize l.getD i ePt.dflt = p
  generalize hkP (l.getD (i - 1) ePt.dflt) = q
  obtain ⟨ll, bl, rl, h, t, lf, b, r, hb⟩ := p
  have e0 : (decide (0 < i)) = !(decide (i = 0)) := by
    by_cases c : i = 0
    · simp [c]
    · simp [c]; omega
  rw [e0]
  generalize decide (i = 0) = z
  generalize decide (i + 1 < l.length) = an
  cases h with
  | true =>
    have e1 : aheadD (ll, bl, rl, true, t, lf, b, r, hb) an = false := by
      unfold aheadD
      rw [show isTextD (ll, bl, rl, true, t, lf, b, r, hb) = false by
        cases c : isTextD (ll, bl, rl, true, t, lf, b, r, hb) with
        | false => rfl
        | true => have := (isText_iff ll bl rl true t lf b r hb).1 c; simp at this]
      rfl
    have e2 : oneR (ll, bl, rl, true, t, lf, b, r, hb) = (decide (t = []) && (hb || (decide (b = []) && decide (bl = [])))) := rfl
    have e3 : confD (ll, bl, rl, true, t, lf, b, r, hb) = (decide (t = []) && ((hb || (decide (b = []) && decide (bl = []))) && plainD (ll, bl, rl, true, t, lf, b, r, hb))) := rfl
    rw [e1, e2, e3]
    simp [hkP, Bool.and_assoc]
  | false =>
    have e3 : confD (ll, bl, rl, false, t, lf, b, r, hb) = false := rfl
    have e2 : oneR (ll, bl, rl, false, t, lf, b, r, hb) = isTextD (ll, bl, rl, false, t, lf, b, r, hb) := rfl
    rw [e2, e3]
    unfold aheadD
    simp only [hkP, txP]
    cases c : isTextD (ll, bl, rl, false, t, lf, b, r, hb) with
    | false => simp
    | true =>
      obtain ⟨rfl, rfl, rfl, _⟩ := (isText_iff ll bl rl false t lf b r hb).1 c
      have e4 : plainD ([], [], [], false, t, lf, b, r, hb) = true := rfl
      rw [e4]
      by_cases ht : t = []
      · simp [ht]
      · generalize endsL t = e
        simp only [ht]
        cases z <;> cases q <;> cases an <;> cases e <;> simp [ht]
theorem right_ref (l : List Pt) : rightD l = decide (∀ i, i < l.length → okRef l i = true) := by
  unfold rightD
  simp only [okAt_ref]
def sRefOne : Spec := Spec.f1 (kA ePt) (fun _ => True) (fun p => kB.enc (oneR p))
theorem okRefOne : SpecOK Tryz.prog 127 sRefOne := by
  refine SpecOK.f1 Tryz.func127 rfl (by decide) Tryz.results127 Tryz.ntmps127 (by decide) fun p _ => ?_
  have hΓ : GOK Tryz.prog (gam []) := GOK.nil
  obtain ⟨ll, bl, rl, h, t, lf, b, r, hb⟩ := p
  cases h with
  | true =>
    have e2 : oneR (ll, bl, rl, true, t, lf, b, r, hb) = (decide (t = []) && (hb || (decide (b = []) && decide (bl = [])))) := rfl
    rw [e2]
    refine AW.of hΓ mixed [] _ _ _ rfl ?_
    simp only [go_sem]
    exact ⟨fun ⟨h1, h2⟩ h3 => by rw [decide_eq_true h1, h2, h3]; rfl, fun h1 h2 => by rw [decide_eq_true h1, h2]; rfl⟩
  | false =>
    have e2 : oneR (ll, bl, rl, false, t, lf, b, r, hb) = isTextD (ll, bl, rl, false, t, lf, b, r, hb) := rfl
    rw [e2]
    refine AW.of hΓ mixed [] _ _ _ rfl ?_
    simp only [go_sem]
    rw [Bool.eq_iff_iff, isText_iff]
    simp only [Bool.and_eq_true, decide_eq_true_eq, true_and]
def sRefRight : Spec := Spec.f1 (kL ePt) (fun l => l.length < 100000000 ∧ ∀ p ∈ l, (p.1.length ≤ 100000000 ∧ p.2.1.length ≤ 100000000 ∧ p.2.2.1.length ≤ 100000000) ∧ (txP p).length ≤ 100000000) (fun l => kB.enc (rightD l))
theorem okRefRight : SpecOK Tryz.prog 81 sRefRight := by
  refine SpecOK.f1 Tryz.func81 rfl (by decide) Tryz.results81 Tryz.ntmps81 (by decide) fun l ⟨hl, hp⟩ => ?_
  have hΓ : GOK Tryz.prog (gam [(127, sRefOne), (56, sRefPlain), (128, sRefEnds)]) := (.cons okRefOne (.cons okRefPlain (.cons okRefEnds .nil)))
  rw [right_ref]
  refine AW.of hΓ mixed [] _ _ _ rfl ?_
  simp only [go_sem, sRefOne, sRefPlain, sRefEnds]
  refine AW.round (α := { x : Nat × Nat × Nat // x.1 ≤ l.length ∧ ∀ k, k < x.1 → okRef l k = true })
    (fun x => ⟨[(0, sL ePt l), (3, .val (.int .i64 x.1.1))], [], 57, 0, x.1.2.1, []⟩) (fun x => l.length - x.1.1) ⟨(0, 0, 0), Nat.zero_le _, fun k hk => absurd hk (Nat.not_lt_zero _)⟩ ?_ ?_
  · simp only [go_sem, sRefOne, sRefPlain, sRefEnds]
  · rintro ⟨⟨i, nx, tp⟩, hi, hk⟩
    simp only at hi hk
    refine AW.of hΓ mixed [4, 99999] _ _ _ rfl ?_
    simp only [go_sem, sRefOne, sRefPlain, sRefEnds]
    refine ⟨fun hlt => ⟨by omega, ?_⟩, fun hge => ?_⟩
    · have hlt' : i < l.length := by omega
      have hpi : (((l.getD i ePt.dflt).1.length ≤ 100000000 ∧ (l.getD i ePt.dflt).2.1.length ≤ 100000000 ∧ (l.getD i ePt.dflt).2.2.1.length ≤ 100000000) ∧ (txP (l.getD i ePt.dflt)).length ≤ 100000000) := by
        rw [gd_lt l _ hlt']
        exact hp _ (List.getElem_mem _)
      have hok : okRef l i = ((oneR (l.getD i ePt.dflt) && plainD (l.getD i ePt.dflt)) && (hkP (l.getD i ePt.dflt) || !(decide (txP (l.getD i ePt.dflt) = []) || (decide (0 < i) && !hkP (l.getD (i - 1) ePt.dflt)) || (decide (i + 1 < l.length) && !endsL (txP (l.getD i ePt.dflt)))))) := rfl
      have e1 : ((i : Int) - 1).toNat = i - 1 := by omega
      have e2 : ((i : Int) + 1 < (l.length : Nat)) = (i + 1 < l.length) := propext (by omega)
      have e3 : (0 < (i : Int)) = (0 < i) := propext (by omega)
      generalize hpe : l.getD i ePt.dflt = p at *
      refine AW.cut ⟨[(0, sL ePt l), (3, .val (.int .i64 i)), (4, .pt 0 nx 0)], [(0, .box nx 44 9 (ePt.enc p))], 57, 1, nx + 1, []⟩ ?_ ?_
      · simp only [go_sem, sRefOne, sRefPlain, sRefEnds]
        exact RowLe.box fun j hj => AVle.of_eq (stC_in (Nat.zero_le _) (by omega))
      refine AW.still 4 0 nx 44 9 _ rfl rfl (fun j hj => match j, hj with | 0, _ => rfl | 1, _ => rfl | 2, _ => rfl | 3, _ => rfl | 4, _ => rfl | 5, _ => rfl | 6, _ => rfl | 7, _ => rfl | 8, _ => rfl) ?_
      refine AW.of hΓ mixed [99999] _ _ _ rfl ?_
      simp only [go_sem, sRefOne, sRefPlain, sRefEnds, pt_eta, e1, e2, e3]
      have hp2 := hpi.2
      have hp1 := hpi.1
      have hok : okRef l i = ((oneR p && plainD p) && (p.2.2.2.1 || !(decide (p.2.2.2.2.1 = []) || (decide (0 < i) && !(l.getD (i - 1) ePt.dflt).2.2.2.1) || (decide (i + 1 < l.length) && !endsL p.2.2.2.2.1)))) := hok
      generalize endsL p.2.2.2.2.1 = en at *
      generalize (l.getD (i - 1) ePt.dflt).2.2.2.1 = q at *
      generalize oneR p = o at *
      generalize plainD p = pl at *
      have hp2 : p.2.2.2.2.1.length ≤ 100000000 := hp2
      generalize ht0 : decide (p.2.2.2.2.1 = []) = t0 at *
      generalize p.2.2.2.1 = h at *
      refine ⟨fun _ => hp1, fun g => by rw [g]; rfl, fun g hh => ?_, fun g => ⟨fun _ => by omega, fun g => by omega, fun ⟨g1, g2⟩ g3 => by rw [g1, g2, decide_eq_true g3]; rfl, fun g1 g2 => by rw [g1, ← ht0, decide_eq_false g2]; rfl, fun _ => by omega, fun _ => by omega, fun ⟨g1, g2⟩ g3 => by rw [g1, g2, decide_eq_true g3]; rfl, fun g1 g2 => by rw [g1, g2]; rfl, fun ⟨g1, g2⟩ hh => ?_, fun g2 => ⟨by omega, ⟨(i + 1, nx + 1, 0), by dsimp only; omega, fun k hk' => ?_⟩, ⟨Nat.le_refl _, by dsimp only; omega⟩, by dsimp only; omega⟩⟩⟩
      · have := hh i hlt'
        rw [hok] at this
        cases o <;> cases pl <;> simp_all
      · have := hh i hlt'
        rw [hok, g2] at this
        have g1 : h = false := by simpa using g1
        rw [g1] at this
        simp at this
      · dsimp only at hk'
        rcases Nat.lt_or_ge k i with h' | h'
        · exact hk k h'
        · obtain rfl : k = i := by omega
          rw [hok]
          simp only [Bool.or_eq_false_iff, Bool.not_eq_false'] at g
          rw [g.1, g.2]
          cases h with
          | true => rfl
          | false => rw [g2 rfl]; rfl
    · exact fun k hk' => hk k (by omega)
end Go.Proofs.YtjfmigpahglajaaGreatDoor
set_option linter.unusedSimpArgs false
set_option linter.unusedVariables false
namespace Go.Proofs.YtjfmigpahglajaaGreatDoor
open Go
section
variable {P : Program} {Γ : Gam} {ops : Array Oper} {st : AS} {K : AS → Prop}
def xOpsO (P : Program) (Γ : Gam) (ops : Array Oper) : List Bool → List Oper → AS → (AS → Prop) → Prop
  | _, [], st, K => K st
  | true :: W, o :: r, st, K => o.guard = none ∧ OpW P o st fun st' => xOpsO P Γ ops W r st' K
  | false :: W, o :: r, st, K => match gop P Γ ops st o with
    | some (pre, z, row) => (dstOK st.sz o.dst ∧ pre) ∧ xOpsO P Γ ops W r (st.put o.dst z row) K
    | none => o.guard = none ∧ bop P Γ st o fun st' => xOpsO P Γ ops W r st' K
  | [], l, st, K => xOps P Γ ops l st K
theorem xOpsO_seq (hΓ : GOK P Γ) {ops : Array Oper} {Q : Exit → Act → World → Prop} : ∀ (W : List Bool) (l : List Oper) (c : Ctx) (st : AS) (K : AS → Prop) (η : Env) (a : Act) (w : World), SR c st η a w → xOpsO P Γ ops W l st K →
    (∀ st' η' a' w', SR c st' η' a' w' → K st' → Q .normal a' w') → wpList P ops Q l a w
  | [], [], _, _, _, η, a, w, hsr, h, hQ => hQ _ η a w hsr h
  | _ :: _, [], _, _, _, η, a, w, hsr, h, hQ => hQ _ η a w hsr (by unfold xOpsO at h; exact h)
  | [], o :: r, c, st, K, η, a, w, hsr, h, hQ => xOps_seq hΓ (o :: r) c st K η a w hsr h hQ
  | true :: W, o :: r, c, st, K, η, a, w, hsr, h, hQ => by
    unfold xOpsO at h
    refine wpList_step fun KK hKK => ?_
    rw [if_pos (wanted_none h.1)]
    exact h.2 c η a w KK Q hsr fun st' η' a' w' hsr' hx => hKK _ _ (xOpsO_seq hΓ W r c st' K η' a' w' hsr' hx hQ)
  | false :: W, o :: r, c, st, K, η, a, w, hsr, h, hQ => by
    unfold xOpsO at h
    split at h
    · rename_i pre z row hg
      refine wpList_step fun KK hKK => gop_wp hΓ hsr hg h.1.2 h.1.1 fun η' a' w' hsr' => hKK _ _ (xOpsO_seq hΓ W r c _ K η' a' w' hsr' h.2 hQ)
    · refine wpList_step fun KK hKK => ?_
      rw [if_pos (wanted_none h.1)]
      exact bop_wp hΓ h.2 c η a w KK Q hsr fun st' η' a' w' hsr' hx => hKK _ _ (xOpsO_seq hΓ W r c st' K η' a' w' hsr' hx hQ)
def contO (P : Program) (Γ : Gam) (ops : Array Oper) (W : List Bool) (r : List Oper) (K : AS → Prop) : AS → Prop := fun st => xOpsO P Γ ops W r st K
theorem contO_app {W : List Bool} {r : List Oper} : contO P Γ ops W r K st = xOpsO P Γ ops W r st K := rflN rfl
def goO (P : Program) (Γ : Gam) (ops : Array Oper) (W : List Bool) (o : Oper) (r : List Oper) (K : AS → Prop) (st : AS) : AOut → Prop
  | some (pre, z, row) => (dstOK st.sz o.dst ∧ pre) ∧ xOpsO P Γ ops W r (st.put o.dst z row) K
  | none => o.guard = none ∧ bop P Γ st o (contO P Γ ops W r K)
theorem goO_some {W : List Bool} {o : Oper} {r : List Oper} {pre : Prop} {z : AV} {row : Row} : goO P Γ ops W o r K st (some (pre, z, row)) = ((dstOK st.sz o.dst ∧ pre) ∧ xOpsO P Γ ops W r (st.put o.dst z row) K) := rflN rfl
theorem goO_none {W : List Bool} {o : Oper} {r : List Oper} : goO P Γ ops W o r K st none = (o.guard = none ∧ bop P Γ st o (contO P Γ ops W r K)) := rflN rfl
theorem xOpsO_nil {W : List Bool} : xOpsO P Γ ops W [] st K = K st := rflN (by cases W with
  | nil => rfl
  | cons b W => cases b <;> rfl)
theorem xOpsO_out {o : Oper} {r : List Oper} : xOpsO P Γ ops [] (o :: r) st K = xOps P Γ ops (o :: r) st K := rflN rfl
theorem xOpsO_f {W : List Bool} {o : Oper} {r : List Oper} : xOpsO P Γ ops (false :: W) (o :: r) st K = goO P Γ ops W o r K st (gop P Γ ops st o) := rflN rfl
theorem xOpsO_t {W : List Bool} {o : Oper} {r : List Oper} : xOpsO P Γ ops (true :: W) (o :: r) st K = (o.guard = none ∧ OpW P o st (contO P Γ ops W r K)) := rflN rfl
theorem AW.regionO (hΓ : GOK P Γ) {Q : Exit → AS → Prop} {id : Nat} {l : List Oper} (W : List Bool) (h : xOpsO P Γ l.toArray W l st (Q .normal)) : AW P (.region id l.toArray false) Q st := by
  intro c η a w hsr
  exact wp_region_lit (xOpsO_seq hΓ W l c st _ η a w hsr h fun st' η' a' w' hsr' hq => ⟨st', η', hq, hsr'⟩)
end
attribute [go_sem high] xOpsO_f xOpsO_t
attribute [go_sem] contO_app goO_some goO_none xOpsO_nil xOpsO_out
section
variable {w : World}
theorem run_append_empty {P : Program} {t t' e ty : TypeId} (ht : P.underlying t = some (.slice e)) (hu : P.underlying t' = some .string) {k : Nat} (hk : P.cellsOf e = k) (h0 : 0 < k) {a : Option Addr} {n cap : Nat} (hn : n ≤ cap) :
    (Builtin.append_ #[t, t'] ty #[.slice a n cap, .string ⟨#[]⟩]).run P w = .ok (.slice a n cap) w := by
  have e0 : ByteArray.size ⟨#[]⟩ = 0 := rfl
  have hf := Lib.run_firstCells_string (P := P) w k ⟨#[]⟩
  rw [e0] at hf
  have e1 : Lib.strCells ⟨#[]⟩ = [] := rfl
  rw [e1] at hf
  cases a <;> simp [Builtin.append_, run_underlying ht, run_underlying hu, run_sizeOf' (P := P) (w := w) hk h0, Builtin.lenOf, e0, hn, hf, storeCells]
def byteC (s : List UInt8) : Nat → Nat → AV := fun i _ => .val (.int .u8 (s.getD i 0).toNat)
theorem strCells_at (s : List UInt8) {η : Env} {L : Nat → Prop} (i : Nat) (hi : i < s.length) (j : Nat) (hj : j < 1) :
    ∃ u, (Lib.strCells ⟨s.toArray⟩)[i * 1 + j]? = some u ∧ u.oneCell' = true ∧ Rep w η L (byteC s i j) u := by
  obtain rfl : j = 0 := by omega
  refine ⟨.int .u8 (s.getD i 0).toNat, ?_, rfl, rfl⟩
  simp [Lib.strCells, List.getD, hi]
theorem strCells_len (s : List UInt8) : (Lib.strCells ⟨s.toArray⟩).length = s.length := by
  rw [Lib.strCells_length]
  simp [ByteArray.size]
theorem appS_wp {P : Program} {st : AS} {o : Oper} {t t' e : TypeId} {x y : Operand} {K : AS → Prop} {p v n : Nat} {cc : Nat → Nat → AV} {s : List UInt8} (ho : o.op = .call ⟨.builtin .append, ⟨[x, y]⟩, ⟨[t, t']⟩⟩) (hu : P.underlying t = some (.slice e)) (hu' : P.underlying t' = some .string)
    (hxe : st.ev x = .ow p v n) (hye : st.ev y = .st s) (hrow : st.hp p = .sl v e 1 n cc) (hd : dstOK st.sz o.dst) (hok : appOK P e 1 (n + s.length))
    (hK : K ⟨updO st.fr o.dst (.ow p st.nx (n + s.length)), updR st.hp p (.sl st.nx e 1 (n + s.length) (apC n cc (byteC s))), st.sz, st.top, st.nx + 1, st.df⟩) : OpW P o st K := by
  intro c η a w next Q hsr hnext
  have hev : ∀ x, Rep w η (Lset c η st.hp) (st.ev x) (a.eval x) := rep_ev hsr.slots
  have fin : ∀ v w', (Builtin.append_ #[t, t'] o.type #[a.eval x, a.eval y]).run P w = .ok v w' → next (a.put o.dst v) w' → o.wp P a w next Q := fun v w' hr hn => by
    unfold Oper.wp
    have : (execOp a.eval o).run P w = .ok (.value v) w' := by
      unfold execOp
      rw [ho]
      simp [resolve, invoke, builtin, hr]
    rw [this]
    exact hn
  have hx := hev x
  have hyv : a.eval y = .string ⟨s.toArray⟩ := by
    have hy := hev y
    rw [hye] at hy
    exact hy
  rw [hxe] at hx
  obtain ⟨hsz, h0, hb0, hbytes, zl, hz, hzl⟩ := hok
  obtain ⟨i, zv, hi, hiz, hzc, his, hib⟩ := info_of hz
  have hisz : i.size = 1 := by rw [his, hsz]
  have hss : (⟨s.toArray⟩ : ByteArray).size = s.length := by simp [ByteArray.size]
  obtain ⟨g, cap, hη, hv⟩ := hx
  have hr := hsr.hs.rows p
  rw [hrow] at hr
  have hr := hr g cap hη
  have hdead : ∀ q row, st.top ≤ q → updR st.hp p row q = .dead ∨ q = p := fun q row hq => by
    by_cases e : q = p
    · exact .inr e
    · rw [updR_ne _ _ e]; exact .inl (hsr.dead q hq)
  have hpt : p < st.top := by
    rcases Nat.lt_or_ge p st.top with h | h
    · exact h
    · rw [hsr.dead p h] at hrow; cases hrow
  have finish : ∀ (v' : Value) (w' : World) (r : Option Nat × Nat) (O : Nat → Prop), (Builtin.append_ #[t, t'] o.type #[a.eval x, a.eval y]).run P w = .ok v' w' → Fr O w w' →
      (∀ k, k < w.heap.size → O k → (st.hp p).blk η = some k) → (∀ g, r.1 = some g → (st.hp p).blk η = some g ∨ (w.heap.size ≤ g ∧ g < w'.heap.size)) →
      ((∀ x u, Rep w η (Lset c η st.hp) x u → Rep w' (layAt η st.nx r) (Lset c (layAt η st.nx r) (updR st.hp p (.sl st.nx e 1 (n + s.length) (apC n cc (byteC s))))) x u) →
        RowOK w' (layAt η st.nx r) (Lset c (layAt η st.nx r) (updR st.hp p (.sl st.nx e 1 (n + s.length) (apC n cc (byteC s))))) (.sl st.nx e 1 (n + s.length) (apC n cc (byteC s)))) →
      (match r.1 with | none => n + s.length = 0 ∧ ∃ a, v' = .slice a 0 0 | some g => v' = .slice (some ⟨g, 0, none⟩) (n + s.length) r.2 ∧ n + s.length ≤ r.2) → o.wp P a w next Q := by
    intro v' w' r O hrun hf hO hrb hrok hval
    obtain ⟨hs', hkeep⟩ := hsr.hs.swap (p := p) (row := .sl st.nx e 1 (n + s.length) (apC n cc (byteC s))) (r := r) rfl hf hO hrb hrok
    refine fin v' w' hrun (hnext _ (layAt η st.nx r) _ _ (hsr.put hd hs' (fun q hq => (hdead q _ hq).resolve_right (by omega)) hkeep ?_) hK)
    exact ⟨r.1, r.2, layAt_at _ _ _, hval⟩
  have hmb : (n + s.length) * 1 ≤ (n + s.length) * P.bytesOf e := Nat.mul_le_mul_left _ hb0
  by_cases hk0 : s.length = 0
  · -- nothing is added
    obtain rfl := List.length_eq_zero_iff.1 hk0
    have hcapn : ∃ av nn cp, a.eval x = .slice av nn cp ∧ nn ≤ cp := by
      cases g with
      | none => obtain ⟨_, av, e⟩ := hv; exact ⟨av, 0, 0, e, Nat.le_refl _⟩
      | some g => obtain ⟨e, hc⟩ := hv; exact ⟨_, _, _, e, hc⟩
    obtain ⟨av, nn, cp, hxv, hcp⟩ := hcapn
    refine finish (a.eval x) w (g, cap) (fun _ => False) (by rw [hxv, hyv]; exact run_append_empty hu hu' hsz h0 hcp) (Fr.refl _ _) (fun _ _ h => h.elim) (fun g' hg' => .inl ?_) (fun hkeep => ?_) ?_
    · simp only at hg'
      rw [hrow]; simp [Row.blk, Row.ver, hη, hg']
    · intro g' cap' he
      rw [layAt_at] at he
      simp only [Option.some.injEq, Prod.mk.injEq] at he
      obtain ⟨rfl, rfl⟩ := he
      cases g with
      | none => simpa using hr
      | some g =>
        obtain ⟨cur, hh, hcs, hnc, hcm, hc⟩ := hr
        refine ⟨cur, hh, hcs, by simp; omega, hcm, fun i hi j hj => ?_⟩
        have hi : i < n := by simpa using hi
        obtain ⟨u, hu', h1, hrep⟩ := hc i hi j hj
        exact ⟨u, hu', h1, by unfold apC; rw [if_pos hi]; exact hkeep _ _ hrep⟩
    · cases g with
      | none => simpa using hv
      | some g => simpa using hv
  · have hnl := strCells_len s
    have hmx : n + s.length ≤ maxLen := by simp only [maxLen]; omega
    cases g with
    | none =>
      obtain ⟨rfl, av, hxv⟩ := hv
      have hgrow : ∃ cap', (Builtin.append_ #[t, t'] o.type #[a.eval x, a.eval y]).run P w = .ok (.slice (some ⟨w.heap.size, 0, none⟩) s.length cap')
          (w.drew.alloc (.cells ((Lib.strCells ⟨s.toArray⟩).toArray ++ Builtin.zeroCells zv.cells (cap' - s.length)) e)) ∧ s.length ≤ cap' ∧ cap' ≤ maxLen := by
        refine ⟨grownCap w s.length 0 e, ?_, grownCap_ge _ _ _ _, grownCap_le_maxLen _ _ _ _ (by omega)⟩
        rw [hxv, hyv]
        cases av with
        | none =>
          have hr := run_append_nil_string (P := P) w t t' o.type e i zv hu hu' hi hiz ⟨s.toArray⟩ (by rw [hss]; omega) (by rw [hss]; omega) (by rw [hss, hib]; simp only [Nat.zero_add] at hbytes; omega)
          have e1 : ((⟨s.toArray⟩ : ByteArray).data.map fun b => Value.int .u8 b.toNat) = (Lib.strCells ⟨s.toArray⟩).toArray := by
            apply Array.ext'
            simp [Lib.strCells]
          rw [hss] at hr
          rw [← e1]
          exact hr
        | some ad =>
          have := Lib.run_append_grow_string (P := P) w t t' o.type e i zv hu hu' hi hiz ad 0 0 [] (by simp) (by simp) ⟨s.toArray⟩ (by rw [hss]; omega) (by rw [hss]; omega) (growslice_fits (by rw [hss]; omega) (by rw [hss, hib]; exact hbytes))
          rw [hss] at this
          simpa using this
      obtain ⟨cap', hrun, hge, hle⟩ := hgrow
      have hf : Fr (fun _ => False) w (w.drew.alloc (.cells ((Lib.strCells ⟨s.toArray⟩).toArray ++ Builtin.zeroCells zv.cells (cap' - s.length)) e)) := (Fr.refl _ w).drew.trans (Fr.alloc _ _ _)
      refine finish _ _ (some w.heap.size, cap') (fun _ => False) hrun hf (fun _ _ h => h.elim) (fun g' hg' => .inr ?_) (fun hkeep => ?_) ⟨by rw [Nat.zero_add], by omega⟩
      · simp only [Option.some.injEq] at hg'
        subst hg'
        simp
      · intro g' cap'' he
        rw [layAt_at] at he
        simp only [Option.some.injEq, Prod.mk.injEq] at he
        obtain ⟨rfl, rfl⟩ := he
        refine ⟨_, heap_alloc_new w.drew _, ?_, by omega, hle, ?_⟩
        · simp only [Array.size_append, List.size_toArray, size_zeroCells, hzc, hzl, hnl]
          omega
        · refine apC_cells (olds := []) (news := Lib.strCells ⟨s.toArray⟩) (by simp) (fun q hq => ?_) (fun i hi => absurd hi (by omega)) (fun i hi j hj => strCells_at s i hi j hj)
          rw [Nat.zero_add] at hq
          rw [List.nil_append, Array.getElem?_append_left (by simp only [List.size_toArray]; omega), List.getElem?_toArray]
    | some g =>
      obtain ⟨hxv, hcap⟩ := hv
      obtain ⟨cur, hh, hcs, hncap, hcm, hc⟩ := hr
      have hblk : (st.hp p).blk η = some g := by rw [hrow]; simp [Row.blk, Row.ver, hη]
      have hold : (cur.toList.take (n * 1)).length = n * 1 := by
        simp; omega
      have holdr : ∀ (w' : World) (η' : Env) (L' : Nat → Prop), (∀ x u, Rep w η (Lset c η st.hp) x u → Rep w' η' L' x u) → ∀ i, i < n → ∀ j, j < 1 → ∃ u, (cur.toList.take (n * 1))[i * 1 + j]? = some u ∧ u.oneCell' = true ∧ Rep w' η' L' (cc i j) u := by
        intro w' η' L' hkeep i hi j hj
        obtain ⟨u, hu', h1, hrep⟩ := hc i hi j hj
        exact ⟨u, by rw [List.getElem?_take, if_pos (by omega), Array.getElem?_toList]; exact hu', h1, hkeep _ _ hrep⟩
      by_cases hroom : n + s.length ≤ cap
      · have hrun := Lib.run_append_room_string (P := P) w t t' o.type e i hu hu' hi hisz g n cap cur hh ⟨s.toArray⟩ (by rw [hss]; exact hroom) (by rw [hss]; omega)
        rw [hss] at hrun
        refine finish _ _ (some g, cap) (fun b => b = g) (by rw [hxv, hyv]; exact hrun) (fr_setRow w g _) (fun k _ e => by rw [e]; exact hblk) (fun g' hg' => .inl (by simp only [Option.some.injEq] at hg'; rw [← hg']; exact hblk)) (fun hkeep => ?_) ⟨rfl, hroom⟩
        intro g' cap'' he
        rw [layAt_at] at he
        simp only [Option.some.injEq, Prod.mk.injEq] at he
        obtain ⟨rfl, rfl⟩ := he
        refine ⟨_, setRow_heap w g cur _ e (0, 0) hh, ?_, hroom, hcm, ?_⟩
        · simp only [List.size_toArray, List.length_append, List.length_take, List.length_drop, Array.length_toList, hnl]
          omega
        · refine apC_cells (olds := cur.toList.take (n * 1)) (news := Lib.strCells ⟨s.toArray⟩) hold (fun q hq => ?_) (holdr _ _ _ hkeep) (fun i hi j hj => strCells_at s i hi j hj)
          rw [List.getElem?_toArray]
          have e1 : cur.toList.take n = cur.toList.take (n * 1) := by rw [Nat.mul_one]
          rw [e1, List.getElem?_append_left (by rw [List.length_append, hold, hnl]; omega)]
      · have hrun := Lib.run_append_grow_string (P := P) w t t' o.type e i zv hu hu' hi hiz ⟨g, 0, none⟩ n cap (cur.toList.take (n * 1)) (by rw [hisz]; exact hold) (fun j v hj => by
            rw [add_off, Nat.zero_add, cell_heap hh, ← Array.getElem?_toList]
            rw [List.getElem?_take] at hj
            split at hj
            · exact hj
            · cases hj) ⟨s.toArray⟩ (by rw [hss]; omega) (by rw [hss]; omega) (growslice_fits (by rw [hss]; omega) (by rw [hss, hib]; exact hbytes))
        rw [hss] at hrun
        have hge := grownCap_ge w (n + s.length) cap e
        have hle := grownCap_le_maxLen w (n + s.length) cap e hmx
        generalize grownCap w (n + s.length) cap e = cap' at hrun hge hle
        have hf : Fr (fun _ => False) w (w.drew.alloc (.cells ((cur.toList.take (n * 1)).toArray ++ (Lib.strCells ⟨s.toArray⟩).toArray ++ Builtin.zeroCells zv.cells (cap' - (n + s.length))) e)) := (Fr.refl _ w).drew.trans (Fr.alloc _ _ _)
        refine finish _ _ (some w.heap.size, cap') (fun _ => False) (by rw [hxv, hyv]; exact hrun) hf (fun _ _ h => h.elim) (fun g' hg' => .inr ?_) (fun hkeep => ?_) ⟨rfl, hge⟩
        · simp only [Option.some.injEq] at hg'
          subst hg'
          simp
        · intro g' cap'' he
          rw [layAt_at] at he
          simp only [Option.some.injEq, Prod.mk.injEq] at he
          obtain ⟨rfl, rfl⟩ := he
          refine ⟨_, heap_alloc_new w.drew _, ?_, hge, hle, ?_⟩
          · simp only [Array.size_append, List.size_toArray, size_zeroCells, hzc, hzl, hnl, hold]
            omega
          · refine apC_cells (olds := cur.toList.take (n * 1)) (news := Lib.strCells ⟨s.toArray⟩) hold (fun q hq => ?_) (holdr _ _ _ hkeep) (fun i hi j hj => strCells_at s i hi j hj)
            rw [Array.getElem?_append_left (by simp only [Array.size_append, List.size_toArray, hold, hnl]; omega)]
            simp only [List.append_toArray, List.getElem?_toArray]
end
section
variable {c : Ctx} {hp : Nat → Row} {nx : Nat} {η : Env} {w w' : World}
theorem HS.sink (h : HS c hp nx η w) {p g : Nat} (hb : (hp p).blk η = some g) (hf : Fr (fun b => b = g) w w') :
    HS c (updR hp p .dead) nx η w' ∧ ∀ x u, Rep w η (Lset c η hp) x u → Rep w' η (Lset c η (updR hp p .dead)) x u := by
  have hbk : ∀ q b, (updR hp p .dead q).blk η = some b → q ≠ p ∧ (hp q).blk η = some b := fun q b hq => by
    by_cases e : q = p
    · subst e; rw [updR_at] at hq; cases hq
    · rw [updR_ne _ _ e] at hq; exact ⟨e, hq⟩
  have hver : ∀ q v, (updR hp p .dead q).ver = some v → (hp q).ver = some v := fun q v hq => by
    by_cases e : q = p
    · subst e; rw [updR_at] at hq; cases hq
    · rw [updR_ne _ _ e] at hq; exact hq
  have hL : ∀ b, Lset c η (updR hp p .dead) b → Lset c η hp b := by
    rintro b (hl | ⟨q, hq⟩)
    · exact .inl hl
    · exact .inr ⟨q, (hbk q b hq).2⟩
  have hO : ∀ k, k < w.heap.size → k = g → Lset c η hp k := fun k _ e => .inr ⟨p, by rw [e]; exact hb⟩
  refine ⟨⟨h.fr.trans' hf ?_, h.lx, fun q => ?_, fun q r v hq hr => h.vers q r v (hver q v hq) (hver r v hr), fun q v hq => h.bnd q v (hver q v hq), fun q r b hq hr => h.disj q r b (hbk q b hq).2 (hbk r b hr).2, fun q b hq => ?_, h.fresh, h.env⟩,
    fun x u hx => Rep.keep hf hO (fun k _ hl => hL k hl) x η η u (Env.le_refl _) hx⟩
  · intro k hk e
    subst e
    exact (h.own p k hb).1.resolve_right (by omega)
  · by_cases e : q = p
    · subst e; rw [updR_at]; trivial
    · rw [updR_ne _ _ e]
      exact RowOK.keep hf (Env.le_refl _) hO (fun k _ hl => hL k hl) (fun _ _ => rfl) (fun b hq => by
        refine hf.block b (h.own q b hq).2.2 fun e' => e ?_
        subst e'
        exact h.disj q p b hq hb) (h.rows q)
  · have := h.own q b (hbk q b hq).2
    exact ⟨this.1, this.2.1, Nat.lt_of_lt_of_le this.2.2 hf.size⟩
end
end Go.Proofs.YtjfmigpahglajaaGreatDoor
set_option linter.unusedSimpArgs false
namespace Go.Proofs.YtjfmigpahglajaaGreatDoor
open Go Go.ChangeShapes Go.WideShapes Go.ChangeAt Go.RowKit

def reachW {H : Type} (P : Program) (t : TypeId) (d : DataW H) : Prop := ∀ n ∈ d.weights P t, n ≤ reachBytes
structure Opens (P : Program) (t : TypeId) {α : Type} (E : El α) (good : α → Prop) : Prop where
  size : P.cellsOf t = E.sz
  read : ∀ (H : Type) (enc : TypeId × Value → H) (w : World) (base : Nat) (spare : Nat → Bool) (held : Bool) (fuel : Nat) (cs : List Value) (x : DataW H × List MemPlace),
    DataW.trod enc P w base spare held fuel t cs = some x → reachW P t x.1 → ∃ a, good a ∧ ∀ j, j < E.sz → ∃ u, cs[j]? = some u ∧ u.oneCell' = true ∧ Rep w noEnv (fun _ => False) (E.enc a j) u
def gI (n : Int) : Prop := -9223372036854775808 ≤ n ∧ n ≤ 9223372036854775807
def gB (_ : Bool) : Prop := True
def gS (l : List UInt8) : Prop := l.length ≤ 140737488351232
def gLs {α : Type} (g : α → Prop) (l : List α) : Prop := l.length ≤ 140737488351232 ∧ ∀ a ∈ l, g a
def gP {α β : Type} (g : α → Prop) (h : β → Prop) (p : α × β) : Prop := g p.1 ∧ h p.2

section
variable {P : Program} {t e : TypeId}
theorem one_cell {w : World} {α : Type} {E : El α} {a : α} {v : Value} (hs : E.sz = 1) (h1 : v.oneCell' = true) (hr : Rep w noEnv (fun _ => False) (E.enc a 0) v) :
    ∀ j, j < E.sz → ∃ u, [v][j]? = some u ∧ u.oneCell' = true ∧ Rep w noEnv (fun _ => False) (E.enc a j) u := fun j hj => by
  obtain rfl : j = 0 := by omega
  exact ⟨v, rfl, h1, hr⟩
theorem opens_int (ht : P.underlying t = some (.int .i64)) (hs : P.cellsOf t = 1) : Opens P t eI gI := by
  refine ⟨hs, fun H enc w base spare held fuel cs x h hz => ?_⟩
  cases fuel with
  | zero => simp [DataW.trod] at h
  | succ n =>
    unfold DataW.trod at h
    rw [ht] at h
    split at h <;> simp only [reduceCtorEq, Option.some.injEq, TypeDesc.int.injEq] at *
    rename_i m heq
    subst heq
    split at h
    · rename_i hw
      obtain ⟨rfl, hw⟩ := hw
      refine ⟨m, ?_, one_cell rfl rfl rfl⟩
      simp only [Lit.wf, IntKind.min, IntKind.max, IntKind.signed, IntKind.bits, Bool.and_eq_true, decide_eq_true_eq] at hw
      unfold gI
      simp at hw
      omega
    · cases h
theorem opens_string (ht : P.underlying t = some .string) (hs : P.cellsOf t = 1) : Opens P t eS gS := by
  refine ⟨hs, fun H enc w base spare held fuel cs x h hz => ?_⟩
  cases fuel with
  | zero => simp [DataW.trod] at h
  | succ n =>
    unfold DataW.trod at h
    rw [ht] at h
    split at h <;> simp only [reduceCtorEq, Option.some.injEq] at *
    rename_i s _
    split at h
    · rename_i hm
      refine ⟨s.data.toList, ?_, one_cell rfl rfl rfl⟩
      simp only [Option.some.injEq] at h
      subst h
      have h2 := hz s.data.toList.length (by simp [DataW.weights])
      unfold reachBytes at h2
      exact h2
    · cases h

theorem weights_all {H : Type} {d : DataW H} : ∀ {l : List (DataW H)}, d ∈ l → ∀ n ∈ d.weights P e, n ∈ DataW.weightsAll P e l
  | x :: l, h, n, hn => by
    simp only [DataW.weightsAll, List.mem_append]
    rcases List.mem_cons.1 h with rfl | h
    · exact .inl hn
    · exact .inr (weights_all h n hn)
theorem add_block (a : Addr) (k : Nat) : (a.add k).block = a.block := by unfold Addr.add; split <;> rfl
theorem choose_list {α : Type} (d : α) (Q : Nat → α → Prop) : ∀ n, (∀ i, i < n → ∃ a, Q i a) → ∃ l : List α, l.length = n ∧ ∀ i, i < n → Q i (l.getD i d)
  | 0, _ => ⟨[], rfl, fun i hi => absurd hi (Nat.not_lt_zero _)⟩
  | n + 1, h => by
    obtain ⟨l, hl, hq⟩ := choose_list d Q n fun i hi => h i (by omega)
    obtain ⟨a, ha⟩ := h n (by omega)
    refine ⟨l ++ [a], by simp [hl], fun i hi => ?_⟩
    rcases Nat.lt_or_ge i n with h1 | h1
    · have := hq i h1
      simpa [List.getD, List.getElem?_append_left (show i < l.length by omega)] using this
    · obtain rfl : i = n := by omega
      simpa [List.getD, List.getElem?_append_right (show l.length ≤ i by omega), hl] using ha
theorem mem_getD {α : Type} (d : α) {l : List α} {x : α} (h : x ∈ l) : ∃ i, i < l.length ∧ l.getD i d = x := by
  obtain ⟨i, hi, rfl⟩ := List.getElem_of_mem h
  exact ⟨i, hi, by simp [List.getD, hi]⟩
theorem opens_slice {α : Type} {E : El α} {g : α → Prop} (ht : P.underlying t = some (.slice e)) (hs : P.cellsOf t = 1) (he : Opens P e E g) (h0 : 0 < E.sz) (hby : 0 < P.bytesOf e) : Opens P t (eL E) (gLs g) := by
  refine ⟨hs, fun H enc w base spare held fuel cs x h hz => ?_⟩
  rcases DataW.trod_slice ht h with ⟨rfl, _⟩ | ⟨a, len, cap, elems, rest, n, _, rfl, hx, hb, hl, hm, hlen, hel, _, _⟩
  · refine ⟨[], ⟨Nat.zero_le _, fun _ h => by cases h⟩, one_cell rfl rfl ?_⟩
    exact em_sL E w noEnv _ _ ⟨_, rfl⟩
  · subst hx
    have hw : ∀ m ∈ (elems.map (·.1)).length.add (rest.map (·.1)).length * P.bytesOf e :: (DataW.weightsAll P e (elems.map (·.1)) ++ DataW.weightsAll P e (rest.map (·.1))), m ≤ reachBytes := fun m hm => hz m (by
      simp only [DataW.weights, ht]
      exact hm)
    have hlr : len ≤ 140737488351232 := by
      have h1 := hw _ (List.mem_cons_self ..)
      have h2 : (elems.map (·.1)).length.add (rest.map (·.1)).length ≤ (elems.map (·.1)).length.add (rest.map (·.1)).length * P.bytesOf e := Nat.le_mul_of_pos_right _ hby
      have h3 : (elems.map (·.1)).length.add (rest.map (·.1)).length = len + rest.length := by simp [hlen]
      unfold reachBytes at h1
      omega
    have each : ∀ i, i < len → ∃ y, g y ∧ ∀ j, j < E.sz → ∃ u, w.cell? ((a.add (i * E.sz)).add j) = some u ∧ u.oneCell' = true ∧ Rep w noEnv (fun _ => False) (E.enc y j) u := by
      intro i hi
      have h1 := hel i hi
      rw [List.getElem?_eq_getElem (by omega)] at h1
      obtain ⟨cs, hcs, htr⟩ := Option.bind_eq_some_iff.1 h1
      obtain ⟨y, hy, hj⟩ := he.read H enc w base spare held n cs _ htr fun m hm => hw m (List.mem_cons_of_mem _ (List.mem_append_left _ (weights_all (List.mem_map_of_mem (List.getElem_mem _)) m hm)))
      refine ⟨y, hy, fun j hjs => ?_⟩
      obtain ⟨u, hu, r⟩ := hj j hjs
      refine ⟨u, ?_, r⟩
      unfold World.cells? at hcs
      rw [if_pos (by rw [add_block]; exact hb)] at hcs
      have := mapM_some_get hcs j j (by simp [he.size, hjs])
      rw [he.size] at this
      rw [this, hu]
    obtain ⟨l, hl1, hl2⟩ := choose_list E.dflt _ len each
    refine ⟨l, ⟨by omega, fun x hx => ?_⟩, one_cell rfl rfl ?_⟩
    · obtain ⟨i, hi, rfl⟩ := mem_getD E.dflt hx
      exact (hl2 i (by omega)).1
    · show Rep w noEnv (fun _ => False) (sL E l) _
      refine ⟨some a, cap, by rw [hl1], by omega, fun hp _ => ?_⟩
      obtain ⟨b, off, spot⟩ := a
      obtain ⟨u, hu, _⟩ := (hl2 0 (by omega)).2 0 h0
      have hspot : spot = none := by simpa [Addr.add] using World.cell?_spot hu
      subst hspot
      refine ⟨b, off, rfl, not_false, fun i hi j hj => ?_⟩
      obtain ⟨u, hu, r⟩ := (hl2 i (by omega)).2 j hj
      refine ⟨u, ?_, r⟩
      rwa [add_off, add_off, Nat.add_assoc] at hu

def OpensL (P : Program) (l : List (Nat × TypeId)) (off : Nat) {α : Type} (E : El α) (good : α → Prop) : Prop :=
  ∀ (H : Type) (enc : TypeId × Value → H) (w : World) (base : Nat) (spare : Nat → Bool) (held : Bool) (fuel : Nat) (cs : List Value),
    (∀ (i : Nat) (x : Nat × TypeId), l[i]? = some x → ∃ y, DataW.trod enc P w base spare held fuel x.2 ((cs.drop x.1).take (P.cellsOf x.2)) = some y ∧ reachW P x.2 y.1) →
    ∃ a, good a ∧ ∀ j, j < E.sz → ∃ u, cs[off + j]? = some u ∧ u.oneCell' = true ∧ Rep w noEnv (fun _ => False) (E.enc a j) u
theorem opensL_one {α : Type} {E : El α} {g : α → Prop} {off : Nat} (h : Opens P t E g) : OpensL P [(off, t)] off E g := by
  intro H enc w base spare held fuel cs hx
  obtain ⟨y, hy, hz⟩ := hx 0 _ rfl
  obtain ⟨a, ha, hj⟩ := h.read H enc w base spare held fuel _ y hy hz
  refine ⟨a, ha, fun j hjs => ?_⟩
  obtain ⟨u, hu, r⟩ := hj j hjs
  refine ⟨u, ?_, r⟩
  rw [List.getElem?_take] at hu
  split at hu
  · simpa using hu
  · cases hu
theorem opensL_cons {α β : Type} {A : El α} {B : El β} {g : α → Prop} {k : β → Prop} {off : Nat} {l : List (Nat × TypeId)} (h : Opens P t A g) (hl : OpensL P l (off + A.sz) B k) : OpensL P ((off, t) :: l) off (eP A B) (gP g k) := by
  intro H enc w base spare held fuel cs hx
  obtain ⟨a, ha, h1⟩ := opensL_one h H enc w base spare held fuel cs fun i x hi => hx 0 x (by
    cases i with
    | zero => simpa using hi
    | succ i => simp at hi)
  obtain ⟨b, hb, h2⟩ := hl H enc w base spare held fuel cs fun i x hi => hx (i + 1) x (by simpa using hi)
  refine ⟨(a, b), ⟨ha, hb⟩, fun j hj => ?_⟩
  show ∃ u, _ ∧ _ ∧ Rep w noEnv (fun _ => False) (if j < A.sz then A.enc a j else B.enc b (j - A.sz)) u
  split
  · rename_i hjA
    exact h1 j hjA
  · rename_i hjA
    have hj' : j < A.sz + B.sz := hj
    obtain ⟨u, hu, r⟩ := h2 (j - A.sz) (by omega)
    exact ⟨u, by rw [← hu]; congr 1; omega, r⟩
theorem opens_struct {α : Type} {E : El α} {g : α → Prop} {fs : Array Field} (ht : P.underlying t = some (.struct fs)) (hs : P.cellsOf t = E.sz) {l : List (Nat × TypeId)} (hl : fs.toList.map (fun f => (f.offset, f.type)) = l) (h : OpensL P l 0 E g) : Opens P t E g := by
  refine ⟨hs, fun H enc w base spare held fuel cs x hx hz => ?_⟩
  obtain ⟨xs, n, _, rfl, hlen, hxs, hf⟩ := DataW.trod_struct ht hx
  obtain ⟨a, ha, hj⟩ := h H enc w base spare held n cs fun i y hi => by
    subst hl
    rw [List.getElem?_map] at hi
    cases hfi : fs.toList[i]? with
    | none => rw [hfi] at hi; cases hi
    | some f =>
      rw [hfi] at hi
      simp only [Option.map_some, Option.some.injEq] at hi
      subst hi
      have hi : i < fs.size := by simpa using (List.getElem?_eq_some_iff.1 hfi).1
      have := hf i f (by simpa using hfi)
      rw [List.getElem?_eq_getElem (by omega)] at this
      refine ⟨_, this, fun m hm => hz m ?_⟩
      simp only [DataW.weights, ht]
      exact DataW.weights_mem_each (j := i) (by simp [hfi]) (by simp [show i < xs.length by omega]) m hm
  exact ⟨a, ha, fun j hjs => by simpa using hj j hjs⟩
theorem opens_array {α : Type} {E : El α} {g : α → Prop} {n : Nat} (ht : P.underlying t = some (.array n e)) (hs : P.cellsOf t = E.sz) {l : List (Nat × TypeId)} (hl : (List.range n).map (fun i => (i * P.cellsOf e, e)) = l) (h : OpensL P l 0 E g) : Opens P t E g := by
  refine ⟨hs, fun H enc w base spare held fuel cs x hx hz => ?_⟩
  obtain ⟨xs, m, _, rfl, hlen, hxs, hf⟩ := DataW.trod_array ht hx
  obtain ⟨a, ha, hj⟩ := h H enc w base spare held m cs fun i y hi => by
    subst hl
    rw [List.getElem?_map] at hi
    cases hfi : (List.range n)[i]? with
    | none => rw [hfi] at hi; cases hi
    | some k =>
      rw [hfi] at hi
      simp only [Option.map_some, Option.some.injEq] at hi
      subst hi
      have hi : i < n := by simpa using (List.getElem?_eq_some_iff.1 hfi).1
      obtain rfl : i = k := by
        have := (List.getElem?_eq_some_iff.1 hfi).2
        simpa using this
      have := hf i hi
      rw [List.getElem?_eq_getElem (by omega)] at this
      refine ⟨_, this, fun m hm => hz m ?_⟩
      simp only [DataW.weights, ht]
      exact weights_all (List.mem_map_of_mem (List.getElem_mem _)) m hm
  exact ⟨a, ha, fun j hjs => by simpa using hj j hjs⟩
end
end Go.Proofs.YtjfmigpahglajaaGreatDoor
